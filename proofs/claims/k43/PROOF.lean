import PyProof.Rows.All
import Wide.All
import OpenK.AllK
import Wide.FinOn
import PyProof.EqAt
import PyProof.EqKinds
import PyProof.TupleCall
import PyProof.AttrMiss
import PyProof.IsiH_list
import PyProof.Rows.SetFrom
import KE.KDictOf
import KE.KTab
import PyProof.AutoListH
import KE.KSortTup
import KE.KItemsList
import KE.KEqDict
import KE.KIntText
import Lean
import PyProof.RulesRaise
import PyProof.RulesTry
import KE.KTryDeep
import KE.KTryMore
import KE.KTryOn
import KE.TryInHelper
import KE.TryLedger
import PyProof.ExcArgsOwn
import PyProof.ExcAttrAll.ValueError
import KE.KIsAll
import PyProof.ExcBaseAll.ValueError
import PyProof.InstStoreFacts
import PyProof.ExcInit
import PyProof.SeqI3
import PyProof.ConsumeWalk
import PySem.Challenge.RW_callboard_k43_calls_made
set_option Elab.async false
set_option linter.all false
set_option maxRecDepth 100000
set_option maxHeartbeats 4000000
open List renaming length_map->cT,length_append->cV,getElem?_eq_getElem->cW,getElem?_eq_some_iff->cX,mem_cons->df,mem_singleton->dq,size_toArray->dv,getElem?_map->dA,mem_map->dB,not_mem_nil->dC,mem_cons_of_mem->dD,map_append->dF,length_nil->dM,mem_cons_self->dN,length_singleton->dP,nodup_cons->dQ,map_cons->dS,mem_append->dX,nil_append->dY,length_cons->dZ,map_map->d6,getElem?_append_right->eB,length_range->eC,mem_append_right->eF,replicate_succ->eG,nodup_nil->eI,getElem?_set_self->eK,lookup_cons->eL,all_eq_true->eM,getElem?_append_left->eO,getElem?_set_ne->eR,append_nil->eS,append_assoc->eW,all_cons->fk,length_take->fm,length_pos_iff->fu,exists_cons_of_ne_nil->fA,mem_append_left->fB,take_length->fD,mem_filter->fF,find?_cons->fG,cons_ne_nil->fK,flatten_cons->fM,mem_of_find?_eq_some->fN,mem_of_getElem?->fO,nodup_append->fQ,foldl_cons->fS,filterMap_cons->fT,filter_sublist->fU,any_cons->fX,length_drop->fY,length_modify->gc,getLast?_eq_none_iff->gf,take_add_one->gj,length_eq_zero_iff->gm,mem_range->gq,any_eq_true->gv,getElem?_eq_none->gz,length_filter_le->gA,getD_eq_getElem?_getD->gB,drop_eq_getElem_cons->gI,getLast?_eq_getElem?->gJ,findIdx?_eq_some_iff_getElem->gK,filter_cons->gM,getElem_of_mem->gO,map_congr_left->gP,filter_cons_of_neg->gQ,filter_map->gW,find?_eq_none->gX,take_of_length_le->gY,findIdx?_map->hJ,getElem_mem->ib,length_set->ii,filter_nil->ij,getLastD_eq_getLast?->ik,contains_cons->ir,filter_append->iw,filter_cons_of_pos->iz,getElem?_cons_zero->iA,length_replicate->iE,getElem?_toArray->iF,set_append_right->iG,map_nil->iL,set_set->iP,mem_of_mem_take->iQ,mem_of_mem_drop->iR,mem_of_getLast?->iS,dropLast_subset->iT,getElem?_modify->iU,getElem?_range->iW,drop_zero->jb,map_id->jd,sublist_append_right->jt,pairwise_iff_getElem->ju,findIdx?_eq_none_iff->jv,getElem?_take_of_lt->jy,drop_length->jD,any_map->jI,eq_of_mem_replicate->jJ,getElem?_replicate->jK,of_mem_zip->jM,forIn_cons->jN,any_append->jR,range_succ->jS,find?_some->jU,length_pos_of_mem->j4,forIn_nil->j6,map_drop->kC,filter_eq_self->kI,modify_eq_self->kK,map_eq_nil_iff->kM,mem_filterMap->kS,getElem_range->lj,set_cons_succ->ls,any_eq_false->lA,foldl_append->lD,filter_congr->lJ,getElem_inj->lO,zipIdx_cons->lY,getElem_map->l8,zipIdx_nil->mh,take_zero->mi,map_take->mq,all_map->my,map_set->mB
open PySem renaming wpAny_bind->cU,wpAny_pure->de,sizeLine_eq->dO,wpAny_mono->d9,wpAny_holding->eD,wpAny_field->fg,wpAny_truthy_bool->fh,wpAny_callSpecial?_slot->fJ,wpAny_newObj_type->fP,wpAny_call_entry->fZ,wpAny_Call_Name_kw->gb,codeAny_mono->gh,wpAny_seqItems->gu,wpAny_setField_rec->gx,wpAny_passesOwn->gy,wpAny_pyIter_list->gF,mem_of_lookup->gN,wpAny_standAt->gR,wpAny_execs_nil->gS,codeAny_builtin->gT,wpAny_loadPart_at->hG,wpAny_setField->hW,wpAny_call->hZ,codeAny_call_builtin->ia,wpAny_pyIter_tuple->iq,wpAny_onRaise->iC,plainObj_wpAny_Assign_Attribute->iH,call_meets->iK,wpAny_specialOf->iM,wpAny_updateSeq_pair->iN,isSubtype_type->ja,tupleKind_room_in1->jf,slot_dict_contains->jh,wpAny_sequenceKey->jm,wpAny_execs_cons->jw,wpAny_typeOf->jA,wpAny_comprehension_free->jC,codeAny_of_tree->jP,wpAny_pyNext_list_item->jW,wpAny_Call_method_late->jZ,wpAny_pyNext_list_end->j5,builtinLookup_eq_fast->j7,weight_type_call_type->j8,getitemInPython_of_ne->j9,wpAny_rule->ko,wpAny_letTemporaryGo->kt,plainId_quiet->kA,wpAny_attempt->kB,wpAny_isSubtype_exc->kG,concat_meets->kU,seqIndex_neg->kX,wpAny_assign_Name->ly,wpAny_Assign_Name->lz,slot_list_getitem->lC,slot_dict_getitem->lF,wpAny_pyIter_enum->lG,seqIndex_of->lL,wpAny_letGo->lM,wpAny_pyHash_str->lN,wpAny_lookBehind->lP,pastItsLine_dict->lQ,noFill_tuple_add->lT,check_set_init_1->lX,wpAny_pyIter_zip->l0,wpAny_Name->ma,typeIs_int->me
def cY:=@if_neg
def c9:=@if_pos
def dR:=@decide_eq_true
def eh:=@decide_eq_true_eq
def eP:=@congrArg
def eQ:=@decide_eq_false
def eX:=@or_false
def eY:=@beq_self_eq_true
def fi:=@beq_iff_eq
def fv:=@of_decide_eq_true
def fH:=@not_or
def gp:=@beq_eq_false_iff_ne
def iZ:=@if_true
def kl:=@if_false
open PySem.Heap renaming get?_push_of_some->cZ,lt_size->dz,get?_push_size->dE,size_push->fj,get?_update_self->fE,get?_update_other->fV,get?_none_of_le->gH,get?_update_ne->kF
open Nat renaming le_refl->dg,ne_of_lt->dH,lt_of_lt_of_le->dI,le_trans->dW,zero_le->eE,lt_irrefl->eZ,lt_succ_self->fC,sub_self->fW,le_succ->gg,ne_of_gt->gL,lt_succ_of_lt->g9,succ_le_succ->ic,lt_of_le_of_lt->iy,le_add_right->iD,le_succ_of_le->jp,lt_trans->jB,min_eq_left->jT,mul_le_mul->kc,le_of_lt->kQ,sub_zero->kZ,succ_pos->lu,le_of_eq->mw,succ_mul->mx,zero_add->mz
open Option.some renaming inj->dh,injEq->jo
open Bool renaming false_ne_true->dw,eq_false_iff->dG,and_eq_true->dU,true_and->eJ,false_and->eV,false_or->fL,eq_iff_iff->gi,not_eq_true'->gG,or_eq_true->gU,true_or->hU,not_eq_false->jq,or_false->kz,or_true->lb,false_eq_true->lh,beq_comm->mo
open Ne renaming symm->dJ
open Int renaming eq_ofNat_of_zero_le->eA,emod_lt_of_pos->eN,emod_nonneg->eU,toNat_natCast->gZ,mul_le_mul_of_nonneg_left->iV,emod_add_mul_ediv->kg,zero_add->lw
open PySem.PassesOwn renaming never->e9
open PySem.F renaming called_set->ft,slot_tuple_iterator_next->gC,slot_list_getattribute->il,slot_zip_next->iO,args_tuple_iterator_next_1->jc,entry_tuple_iterator_next->ji,slot_dict_getitem->jr,args_tuple_add_2->jz,store_ValueError->jF,entry_tuple_add->jL,slot_tuple_add->jX,attrBase_ValueError->ke,excBase_ValueError->ku,entry_type_call->lE,args_zip_next_1->lH,typeCall_set_1->lV,entry_set_init->lW,entry_zip_next->lZ,slot_int_rmul->mf
open PyProof.Rows renaming slot_tuple_getitem->fz,callWith_type1->fR,SetOf_congr->io,callWith_builtin1->iJ,setObjOf_fresh->jg,subscriptTail_builtinR->jY,entry_tuple_getitem->kD,args_tuple_getitem->kW
open PySem.W renaming kia_one->gk,callWith_K->iI,looks_findIn->iY,methodCall_KW->jQ,plainGet_of->kx,looks_clsIn->ky,kitx_list->lK,cellsFrom_some->lR
open PyProof.Rows.F renaming plain_set_update_loop->gw,entry_set_update_loop->im
open List.cons renaming inj->gD
open PySem.Around renaming under_plainId->h9,under_plain->kY
open Array renaming getElem?_setIfInBounds_self_of_lt->ie,length_toList->ig,toList_append->iX,getElem?_eq_getElem->js,size_setIfInBounds->jE,mem_toList_iff->kh,append_assoc->kP,find?_toList->kT
open PySem.Code renaming quiet_builtin->ip
open List.Nodup renaming sublist->iu
open Option renaming map_eq_some_iff->iB,isSome_map->jn,isSome_iff_exists->jx,bind_some->jG,map_some->jO,getD_none->lU
open PySem.Calls renaming spliced_cons->je,Name_function_global->jk,spliced_nil->jl,callWith_builtin->j3,evalArgs_plain->km
open PySem.Paired renaming length->jj,snoc->mD
open Sum.inr renaming inj->jV
open PySem.Walks renaming list->kr
open PySem.Heap.SameBut renaming update->kE
open Std.Legacy.Range renaming forIn_eq_forIn_range'->kH
open PySem.SeqAt.EqAt renaming int_str->kN,str_int->kO
open PySem.Obj renaming data_mapFields->k9
open PySem.Heap.Ns1 renaming of_empty->lB
open Eq renaming symm->mj
open PySem.W.Looks renaming here->mv
open PySem.Heap.FunFrames renaming of_keeps->mC
open PySem.Moved renaming trans->mE
open PySem.Heap.IsSliceOf renaming new->mF
abbrev ql:=PySem.W.Frag
local macro_rules | `(tactic| walk_at "l") => `(tactic| (intro _ _ _ h; repeat (first | (obtain ⟨e, _⟩ := h; subst e; rfl; done) | (cases h; rename_i h))))
local macro_rules | `(tactic| walk_at "m") => `(tactic| (intro _ _ _ _ h; repeat (first | (obtain ⟨e, _⟩ := h; subst e; rfl; done) | (cases h; rename_i h))))
abbrev Vl:=PySem.Value
abbrev Sd:=PySem.Shared
abbrev Pg:=PySem.Program
abbrev Ar:=PySem.Around
abbrev Wo:=PySem.World
abbrev QQQ:=List PySem.Str
abbrev QQX:=PySem.Value->PySem.Shared->Prop
abbrev QQY:=List (PySem.Addr×PySem.Obj)
abbrev QQZ:=PySem.Str->Option PySem.Value
abbrev QXQ:=List PySem.Addr
section
open PySem PySem.Spec PyProof.Rows
namespace L2
def x5{α:Sort u}{β:Sort v}{p q r:α->β->Prop}{C:Prop}(h:∃a b,p a b/\q a b/\r a b)(f:∀a b,p a b->q a b->r a b->C):C:=by obtain⟨a,b,h1,h2,h3⟩:=h;exact f a b h1 h2 h3
abbrev rf:=Sum Int Str
def DT:rf->Vl->Bool
 | .inl k,v=>Value.isInt k v
 | .inr x,v=>Value.isStrOf x v
def UI(w:Wo):rf->Int
 | .inl k=>hashInt k
 | .inr x=>hashStr w x
def sd:∀{k:rf} {v:Vl},DT k v=true->(∃i t,k=Sum.inl i/\v=Value.int i t)\/(∃x t,k=Sum.inr x/\v=Value.str x t)
 | .inl i,v,h=>by obtain⟨t,e⟩:=Value.isInt_shape (k:=i) (v:=v) h;exact .inl ⟨i,t,rfl,e⟩
 | .inr x,v,h=>by obtain⟨t,e⟩:=Value.isStrOf_shape (x:=x) (v:=v) h;exact .inr ⟨x,t,rfl,e⟩
def J'(i:Int)(t:Tok):DT (.inl i) (.int i t)=true:=by simp[DT,Value.isInt]
def Kg(x:Str)(t:Tok):DT (.inr x) (.str x t)=true:=by simp[DT,Value.isStrOf]
def R8(a b:Int):decide ((Sum.inl a:rf)=Sum.inl b)=(a==b):=by
 by_cases e:a=b
 .subst e;simp
 .have h:¬(Sum.inl a:rf)=Sum.inl b:=λq=>e (Sum.inl.inj q);rw[eQ h];exact(gp.mpr e).symm
def Sa(a b:Str):decide ((Sum.inr a:rf)=Sum.inr b)=decide (a=b):=by
 by_cases e:a=b
 .subst e;simp
 .have h:¬(Sum.inr a:rf)=Sum.inr b:=λq=>e (jV q);rw[eQ h,eQ e]
def Q6(a:Int)(b:Str):decide ((Sum.inl a:rf)=Sum.inr b)=false:=eQ (λq=>nomatch q)
def Rz(a:Str)(b:Int):decide ((Sum.inr a:rf)=Sum.inl b)=false:=eQ (λq=>nomatch q)
def rB(prog:Pg)(w:Wo):PySem.KeyKind prog w rf where
 is:=DT
 hash:=UI w
 inj:=λv a b ha hb=>by
  rcases sd ha with⟨i,t,rfl,rfl⟩|⟨x,t,rfl,rfl⟩
  .rcases sd hb with⟨j,u,rfl,e⟩|⟨y,u,rfl,e⟩
   .injection e with e1 _;rw[e1]
   .exact nomatch e
  .rcases sd hb with⟨j,u,rfl,e⟩|⟨y,u,rfl,e⟩
   .exact nomatch e
   .injection e with e1 _;rw[e1]
 byValue:=λk v h=>by rcases sd h with⟨i,t,rfl,rfl⟩|⟨x,t,rfl,rfl⟩<;>rfl
 pyHash:=λhv h=>by
  rcases sd hv with⟨i,t,rfl,rfl⟩|⟨x,t,rfl,rfl⟩
  .exact wpAny_pyHash_int h
  .exact lN h
 eqBool:=λhu hv h=>by
  rcases sd hu with⟨i,t,rfl,rfl⟩|⟨x,t,rfl,rfl⟩
  .rcases sd hv with⟨j,u,rfl,rfl⟩|⟨y,u,rfl,rfl⟩
   .rw[R8]at h;exact wpAny_eqBool_int h
   .rw[Q6]at h;exact kN i t y u _ _ _ _ h
  .rcases sd hv with⟨j,u,rfl,rfl⟩|⟨y,u,rfl,rfl⟩
   .rw[Rz]at h;exact kO x t j u _ _ _ _ h
   .rw[Sa]at h;exact wpAny_eqBool_str h
 «strs»:=λk x t v h=>by
  rcases sd h with⟨i,u,rfl,e⟩|⟨y,u,rfl,e⟩
  .exact nomatch e
  .injection e with e1 _
   subst e1;cases v<;>rfl
def Ga(prog:Pg)(w:Wo)(i:Int)(t:Tok):(rB prog w).is (.inl i) (.int i t)=true:=J' i t
def Ai(prog:Pg)(w:Wo)(x:Str)(t:Tok):(rB prog w).is (.inr x) (.str x t)=true:=Kg x t
inductive V where
 | mM|bl (b:Bool)|int (i:Int)|str (x:Str)|byt (b:Array UInt8)|flt (b:UInt64)|ref (a:Addr)|ty (n:String)
 deriving DecidableEq
def qG:V->Vl->Prop
 | .mM,u=>u=Value.none
 | .bl b,u=>u=Value.bool b
 | .int i,u=>∃t,u=Value.int i t
 | .str x,u=>∃t,u=Value.str x t
 | .byt b,u=>∃t,u=Value.bytes b t
 | .flt b,u=>∃t,u=Value.float b t
 | .ref a,u=>u=Value.ref a
 | .ty n,u=>u=Value.type n
abbrev qA:List V->List Vl->Prop:=Paired qG
def qA.length{xs:List V}{us:List Vl}(r:qA xs us):xs.length=us.length:=jj r
theorem qA.get:∀{xs:List V} {us:List Vl} {i:Nat} {x:V},qA xs us->xs[i]?=some x->∃u,us[i]?=some u/\qG x u
 | _,_,_,_,.nil,e=>by simp at e
 | _,_,0,_,.cons r _,e=>by simp at e;subst e;exact⟨_,rfl,r⟩
 | _,_,i+1,x,.cons _ t,e=>by obtain⟨u,h1,h2⟩:=qA.get (i:=i) (x:=x) t (by simpa using e);exact⟨u,by simpa using h1,h2⟩
theorem qA.set{x:V}{u:Vl}(r:qG x u):∀{xs:List V} {us:List Vl} (i:Nat),qA xs us->qA (xs.set i x) (us.set i u)
 | _,_,_,.nil=>.nil
 | _,_,0,.cons _ t=>.cons r t
 | _,_,i+1,.cons q t=>.cons q (qA.set r i t)
theorem qA.append:∀{xs ys:List V} {us ws:List Vl},qA xs us->qA ys ws->qA (xs++ys) (us++ws)
 | _,_,_,_,.nil,s=>s
 | _,_,_,_,.cons r t,s=>.cons r (qA.append t s)
theorem qA.take:∀{xs:List V} {us:List Vl} (n:Nat),qA xs us->qA (xs.take n) (us.take n)
 | _,_,0,_=>.nil
 | _,_,_+1,.nil=>.nil
 | _,_,n+1,.cons r t=>.cons r (qA.take n t)
theorem qA.drop:∀{xs:List V} {us:List Vl} (n:Nat),qA xs us->qA (xs.drop n) (us.drop n)
 | _,_,0,r=>r
 | _,_,_+1,.nil=>.nil
 | _,_,n+1,.cons _ t=>qA.drop n t
def yf:Option V->Option Vl->Prop
 | some v,some u=>qG v u
 | none,none=>True
 | _,_=>False
def KV{κ:Type}:List (κ×V)->List (κ×Vl)->Prop:=Paired λ(p:κ×V) (q:κ×Vl)=>p.1=q.1/\qG p.2 q.2
def kV:rf->V
 | .inl i=>.int i
 | .inr x=>.str x
inductive HO where
 | lst (xs:List V)
 | tup (xs:List V)
 | dK (kvs:List (rf×V))|dT (kvs:List (List rf×V))
 | set (S:Int->Bool) (n:Nat)
 | ins (C dx:Addr) (fs:List (Str×V))
 | own (x:Addr)
 | xd (fs:List (Str×V))
 | met (f x:Addr)
 | rng (lo hi:Int)
 | frz (o:Obj) (u:HO)
 | tbl (ps:Array Vl)
 | ext (φ:Heap->Prop)
abbrev Hp:=Addr->Option HO
def upd(H:Hp)(a:Addr)(o:HO):Hp:=λb=>if b=a then some o else H b
def pZ{H:Hp}{a:Addr}{o:HO}:upd H a o a=some o:=by unfold upd;rw[c9 rfl]
def pV{H:Hp}{a b:Addr}{o:HO}(h:b≠a):upd H a o b=H b:=by unfold upd;rw[cY h]
def Nt{H:Hp}{a:Addr}{o u:HO}:upd (upd H a o) a u=upd H a u:=by funext b;unfold upd;split<;>rfl
def Tc{H:Hp}{a b:Addr}{o u:HO}(h:H a=some o)(h':H b=some u)(d:o≠u):a≠b:=by intro e;subst e;rw[h]at h';exact d (dh h')
def qN{H:Hp}{a b:Addr}{o:HO}(h:H a=some o)(h':H b=none):a≠b:=by intro e;subst e;rw[h]at h';cases h'
section
variable (P:Pg)(w:Wo)
def CL(h:Heap)(a:Addr)(its:Array Vl):Prop:=∃o,h.get? a=some o/\o.cls=.type "tuple"/\(∃n,o.data=.seq its n)/\o.dict=none
def sf(H:Hp)(h:Heap)(a:Addr):HO->Prop
 | .lst xs=>xs.length<=sizeLine/\∃(its:List Vl) (n:Nat),qA xs its/\h.get? a=some {cls:=.type "list",data:=.seq its.toArray n}
 | .tup xs=>xs.length<=sizeLine/\∃its:List Vl,qA xs its/\CL h a its.toArray
 | .dK kvs=>kvs.length<=sizeLine/\(a==sysModules)=false/\∃vs,KV kvs vs/\h.DictOf (rB P w) a vs
 | .dT kvs=>kvs.length<=sizeLine/\(a==sysModules)=false/\∃xs:List (List rf×Addr×Vl),Paired (λ(p:List rf×V) (q:List rf×Addr×Vl)=>p.1=q.1/\H q.2.1=some (.tup (p.1.map kV))/\qG p.2 q.2.2) kvs xs/\
   ∃o es ep,h.get? a=some o/\o.ExactDict/\o.data=.dict es ep/\es.toList=xs.map (entryOfKey (tupleKind (rB P w)))/\(xs.map (·.1)).Nodup
 | .set S n=>h.SetOf (intKind P w) a S n
 | .ins C dx fs=>H dx=some (.own a)/\fs.length<=1000/\dx≠a/\h.get? a=some (W.instObj C dx)/\
   ∃mA,h.Ns1 dx mA/\(∀f,yf (fs.lookup f) (mA f))/\PySem.Within mA (fs.map (·.1))
 | .own _=>∃o,h.get? a=some o
 | .xd fs=>∃mA,h.Ns1 a mA/\∀f,yf (fs.lookup f) (mA f)
 | .rng lo hi=>∃t u v,h.get? a=some {cls:=.type "range",data:=.fields #[.int lo t,.int hi u,.int 1 v]}
 | .frz o u=>h.get? a=some o/\sf H h a u
 | .tbl ps=>h.get? a=some {cls:=.none,data:=.fields ps}
 | .met f x=>h.get? a=some (W.methodObj (.ref f) (.ref x))
 | .ext φ=>φ h/\(∃o,h.get? a=some o)/\∀h1 h2:Heap,φ h1->(∀o,h1.get? a=some o->h2.get? a=some o)->φ h2
def ye(H:Hp)(h:Heap):Prop:=∀a o,H a=some o->sf P w H h a o
end
variable {H H':Hp}{h h':Heap}
section
variable {P:Pg}{w:Wo}{a:Addr}{o:HO}
def CL.is{its:Array Vl}(x:CL h a its):IsTup h a its:=let⟨o,e,c,d,_⟩:=x;⟨o,e,c,d⟩
def CL.new(h:Heap)(Wq:Array Vl):CL (h.push {cls:=.type "tuple",data:=.seq Wq}) h.objs.size Wq:=⟨_,dE _ rfl,rfl,⟨_,rfl⟩,rfl⟩
def sf.lt(x:sf P w H h a o):a<h.objs.size:=by
 cases o with
 | lst xs=>obtain⟨_,_,_,_,e⟩:=x;exact dz e
 | tup xs=>obtain⟨_,_,_,_,e,_⟩:=x;exact dz e
 | dK kvs=>obtain⟨_,_,_,_,o,_,_,e,_⟩:=x;exact dz e
 | dT kvs=>obtain⟨_,_,_,_,o,_,_,e,_⟩:=x;exact dz e
 | set S n=>obtain⟨o,_,_,_,e,_⟩:=x;exact dz e
 | ins C dx fs=>obtain⟨_,_,_,e,_⟩:=x;exact dz e
 | own y=>obtain⟨_,e⟩:=x;exact dz e
 | xd fs=>obtain⟨_,⟨_,_,_,e,_⟩,_⟩:=x;exact dz e
 | rng lo hi=>obtain⟨_,_,_,e⟩:=x;exact dz e
 | frz ob u=>obtain⟨e,_⟩:=x;exact dz e
 | tbl ps=>exact dz (show h.get? a=some _ from x)
 | met f y=>exact dz (show h.get? a=some _ from x)
 | ext φ=>obtain⟨_,⟨_,e⟩,_⟩:=x;exact dz e
theorem Paired.ow{α β:Type}{F G:α->β->Prop}:∀{l₁:List α} {l₂:List β},Paired F l₁ l₂->(∀a b,F a b->G a b)->Paired G l₁ l₂
 | _,_,.nil,_=>.nil
 | _,_,.cons r t,f=>.cons (f _ _ r) (Paired.ow t f)
def sf.nk(x:sf P w H h a o)(k:∀b u,(b=a\/H b=some (.own a))->h.get? b=some u->h'.get? b=some u) (ho:∀b,H b=some (.own a)->H' b=some (.own a)) (ht:∀b xs,H b=some (.tup xs)->H' b=some (.tup xs)):sf P w H' h' a o:=by
 induction o with
 | lst xs=>obtain⟨z,its,n,r,e⟩:=x;exact⟨z,its,n,r,k _ _ (.inl rfl) e⟩
 | tup xs=>obtain⟨z,its,r,ob,e,c⟩:=x;exact⟨z,its,r,ob,k _ _ (.inl rfl) e,c⟩
 | dK kvs=>obtain⟨z,y,vs,r,ob,es,ep,e,c⟩:=x;exact⟨z,y,vs,r,ob,es,ep,k _ _ (.inl rfl) e,c⟩
 | dT kvs=>obtain⟨z,y,xs,r,ob,es,ep,e,c⟩:=x;exact⟨z,y,xs,Paired.ow r λp q z=>⟨z.1,ht _ _ z.2.1,z.2.2⟩,ob,es,ep,k _ _ (.inl rfl) e,c⟩
 | set S n=>obtain⟨ob,es,ep,t,e,c⟩:=x;exact⟨ob,es,ep,t,k _ _ (.inl rfl) e,c⟩
 | ins C dx fs=>obtain⟨d,z,ne,e,mA,⟨od,es,ep,e2,c⟩,r⟩:=x;exact⟨ho _ d,z,ne,k _ _ (.inl rfl) e,mA,⟨od,es,ep,k _ _ (.inr d) e2,c⟩,r⟩
 | own y=>obtain⟨ob,e⟩:=x;exact⟨ob,k _ _ (.inl rfl) e⟩
 | xd fs=>obtain⟨mA,⟨od,es,ep,e,c⟩,r⟩:=x;exact⟨mA,⟨od,es,ep,k _ _ (.inl rfl) e,c⟩,r⟩
 | rng lo hi=>obtain⟨t,u,v,e⟩:=x;exact⟨t,u,v,k _ _ (.inl rfl) e⟩
 | frz ob u ih=>obtain⟨e,q⟩:=x;exact⟨k _ _ (.inl rfl) e,ih q⟩
 | tbl ps=>have e:h.get? a=some {cls:=.none,data:=.fields ps}:=x;show h'.get? a=some {cls:=.none,data:=.fields ps};exact k a _ (.inl rfl) e
 | met f y=>have e:h.get? a=some (W.methodObj (.ref f) (.ref y)):=x;show h'.get? a=some (W.methodObj (.ref f) (.ref y));exact k a _ (.inl rfl) e
 | ext φ=>obtain⟨p,⟨o,e⟩,st⟩:=x;exact⟨st _ _ p λo q=>k _ _ (.inl rfl) q,⟨o,k _ _ (.inl rfl) e⟩,st⟩
def ye.lt(x:ye P w H h)(e:H a=some o):a<h.objs.size:=(x a o e).lt
def ye.fresh(x:ye P w H h)(e:h.objs.size<=a):H a=none:=by
 cases q:H a with
 | none=>rfl
 | some u=>exact absurd (dI (x.lt q) e) (eZ _)
def ye.kept(x:ye P w H h)(k:∀b u,h.get? b=some u->h'.get? b=some u):ye P w H h':=λa o e=>(x a o e).nk (λb u _ q=>k b u q) (λ_ q=>q) λ_ _ q=>q
def ye.laid(x:ye P w H h)(k:∀b u,h.get? b=some u->h'.get? b=some u)(hp:h.objs.size<=a)(new:sf P w (upd H a o) h' a o):ye P w (upd H a o) h':=λb u e=>by
 have hn:=x.fresh hp;by_cases hb:b=a
 .subst hb;rw[pZ]at e;cases e;exact new
 .rw[pV hb]at e;exact(x b u e).nk (λc v _ q=>k c v q) (λc q=>by rw[pV (qN q hn)];exact q) λc xs q=>by rw[pV (qN q hn)];exact q
end
def Rd(H:Hp)(a:Addr)(u:HO):Prop:=H a=some u\/∃o,H a=some (.frz o u)
def Rd.ok{P:Pg}{w:Wo}{H:Hp}{h:Heap}{a:Addr}{u:HO}(r:Rd H a u)(x:ye P w H h):sf P w H h a u:=by
 rcases r with r|⟨o,r⟩
 .exact x a u r
 .obtain⟨_,q⟩:=x a _ r;exact q
def Td:Option HO->Prop
 | some (.lst _)=>True
 | some (.dK _)=>True
 | some (.dT _)=>True
 | some (.set _ _)=>True
 | some (.ins _ _ _)=>True
 | some (.ext _)=>True
 | _=>False
variable {o':HO}
section
variable {P:Pg}{w:Wo}{x e:Addr}
def ye.write(ok:ye P w H h)(mu:Td (H x))(he:e=x\/H e=some (.own x))(k:∀b u,b≠e->h.get? b=some u->h'.get? b=some u)(heo:∃u,h'.get? e=some u) (new:sf P w (upd H x o') h' x o'):ye P w (upd H x o') h':=λb u q=>by
 have nown:∀c y,H c=some (.own y)->c≠x:=λc y r z=>by subst z;rw[r]at mu;exact mu
 have ntup:∀c xs,H c=some (.tup xs)->c≠x:=λc xs r z=>by subst z;rw[r]at mu;exact mu
 by_cases hb:b=x
 .subst hb;rw[pZ]at q;cases q;exact new
 .rw[pV hb]at q;by_cases hbe:b=e
  .have q':H b=some (.own x):=by
    rcases he with z|z
    .exact absurd (hbe.trans z) hb
    .rw[hbe];exact z
   rw[q]at q';cases q';obtain⟨v,hv⟩:=heo;exact⟨v,by rw[hbe];exact hv⟩
  .refine(ok b u q).nk (λc v hc r=>k c v ?_ r) (λc r=>by rw[pV (nown c b r)];exact r) λc xs r=>by rw[pV (ntup c xs r)];exact r
   rcases hc with rfl|hc
   .exact hbe
   .rintro rfl
    rcases he with z|z
    .exact nown c b hc z
    .rw[hc]at z;cases z;exact hb rfl
end
structure Un(fs ex:QXQ)(H H':Hp)(h h':Heap):Prop where
 keep:∀b o,h.get? b=some o->H b=none->b∉fs->b∉ex->h'.get? b=some o
 slot:∀b o,h.get? b=some o->H b=none->b∈fs->b∉ex->∃sl,h'.get? b=some {o with slots:=sl}
 free:∀b o,h.get? b=some o->H b=none->b∉ex->H' b=none
 there:∀b o,h.get? b=some o->b∉ex->∃o',h'.get? b=some o'
 ny:∀b xs,H b=some (.tup xs)->H' b=some (.tup xs)
 nu:∀b o u,H b=some (.frz o u)->H' b=some (.frz o u)
 nG:∀b ps,H b=some (.tbl ps)->∃more,H' b=some (.tbl (ps++more))
variable {ex ex':QXQ}{H1 H2:Hp}{h1 h2:Heap}
section
variable {fs fs':QXQ}{a x e:Addr}{o:HO}
def Un.any(u:Un fs ex H H1 h h1){b:Addr}{ob:Obj}(q:h.get? b=some ob)(n:H b=none)(hx:b∉ex):∃sl,h1.get? b=some {ob with slots:=sl}:=by
 by_cases hb:b∈fs
 .exact u.slot b ob q n hb hx
 .exact⟨ob.slots,u.keep b ob q n hb hx⟩
def Un.trans(a:Un fs ex H H1 h h1)(b:Un fs ex H1 H2 h1 h2):Un fs ex H H2 h h2 where
 keep:=λc ob q n hc hx=>b.keep c ob (a.keep c ob q n hc hx) (a.free c ob q n hx) hc hx
 slot:=λc ob q n hc hx=>by obtain⟨sl,e1⟩:=a.slot c ob q n hc hx;obtain⟨XQ,e2⟩:=b.slot c _ e1 (a.free c ob q n hx) hc hx;exact⟨XQ,e2⟩
 free:=λc ob q n hx=>by obtain⟨o',e1⟩:=a.there c ob q hx;exact b.free c o' e1 (a.free c ob q n hx) hx
 there:=λc ob q hx=>by obtain⟨o',e1⟩:=a.there c ob q hx;exact b.there c o' e1 hx
 ny:=λc xs q=>b.ny c xs (a.ny c xs q)
 nu:=λc ob xs q=>b.nu c ob xs (a.nu c ob xs q)
 nG:=λc ps q=>by obtain⟨m1,e1⟩:=a.nG c ps q;obtain⟨m2,e2⟩:=b.nG c _ e1;exact⟨m1++m2,by rw[e2,kP]⟩
def Un.kept(k:∀b u,h.get? b=some u->h'.get? b=some u):Un fs ex H H h h':=
 ⟨λb ob q _ _ _=>k b ob q,λb ob q _ _ _=>⟨ob.slots,k b ob q⟩,λ_ _ _ n _=>n,λb ob q _=>⟨ob,k b ob q⟩,λ_ _ q=>q,λ_ _ _ q=>q,λ_ ps q=>⟨#[],by rw[q];simp⟩⟩
def Un.refl:Un fs ex H H h h:=Un.kept λ_ _ q=>q
def Un.laid(k:∀b u,h.get? b=some u->h'.get? b=some u)(hp:h.objs.size<=a)(hn:H a=none):Un fs ex H (upd H a o) h h' where
 keep:=λb u q _ _ _=>k b u q
 slot:=λb u q _ _ _=>⟨u.slots,k b u q⟩
 free:=λb u q n _=>by rw[pV (dH (dI (dz q) hp))];exact n
 there:=λb u q _=>⟨u,k b u q⟩
 ny:=λb xs q=>by rw[pV (qN q hn)];exact q
 nu:=λb u xs q=>by rw[pV (qN q hn)];exact q
 nG:=λb ps q=>⟨#[],by rw[pV (qN q hn),q];simp⟩
def Un.write(mu:Td (H x))(he:e=x\/H e=some (.own x))(k:∀b u,b≠e->h.get? b=some u->h'.get? b=some u)(heo:∃u,h'.get? e=some u):Un fs ex H (upd H x o) h h':=by
 have hx:∀b,H b=none->b≠x:=λb n z=>by subst z;rw[n]at mu;exact mu
 have hb:∀b,H b=none->b≠e:=λb n z=>by
  subst z;rcases he with r|r
  .exact hx b n r
  .rw[n]at r;cases r
 have hm:∀b u,H b=some u->¬Td (some u)->b≠x:=λb u q nm z=>by subst z;rw[q]at mu;exact nm mu
 refine⟨λb u q n _ _=>k b u (hb b n) q,λb u q n _ _=>⟨u.slots,k b u (hb b n) q⟩,λb u q n _=>by rw[pV (hx b n)];exact n,λb u q _=>?_,λb xs q=>by rw[pV (hm b _ q λz=>z)];exact q,λb u xs q=>by rw[pV (hm b _ q λz=>z)];exact q,λb ps q=>⟨#[],by rw[pV (hm b _ q λz=>z),q];simp⟩⟩
 by_cases hbe:b=e
 .subst hbe;exact heo
 .exact⟨u,k b u hbe q⟩
end
def UB(h:Heap)(H:Hp):QXQ:=(List.range h.objs.size).filter λa=>(H a).isSome
def Fm(h:Heap)(H:Hp):Heap:=W.hideAll h (UB h H)
def JO(h:Heap)(H:Hp):(Fm h H).objs.size=h.objs.size:=W.hideAll_size _ _
def MH{h:Heap}{H:Hp}{b:Addr}{o:Obj}(e:h.get? b=some o)(n:H b=none):(Fm h H).get? b=some o:=
 W.hideAll_get _ e λhm=>by have q:(H b).isSome=true:=(fF.mp hm).2;rw[n]at q;simp at q
def OG{h:Heap}{H:Hp}{b:Addr}{o:Obj}(e:(Fm h H).get? b=some o):h.get? b=some o/\H b=none:=by
 have e':h.get? b=some o:=W.of_hideAll (UB h H) e;refine⟨e',?_⟩;cases q:H b with
 | none=>rfl
 | some x=>have hm:b∈UB h H:=fF.mpr ⟨gq.mpr (dz e'),by simp[q]⟩;have z:(Fm h H).get? b=none:=W.hideAll_none (UB h H) hm;rw[z]at e;cases e
structure Mod(K:ql)(mg:QQZ)(base:Heap):Prop where
 ou:K.In base
 glob:base.Ns mainGlobals mg
 blt:∃mb,base.Ns builtinsNs mb/\∀x:Str,x≠"__name__"->mb x=bootBuiltins x
 nolimit:base.NoLimit
structure Cx where
 prog:Pg
 w:Wo
 K:ql
 mg:QQZ
 base:Heap
 A:Ar
 N:QQQ
 s₀:Sd
 H₀:Hp
 env:Env
 outer:List Env
 stack:List Env
 ex:QXQ
 fn:Str->Bool
 calm:Bool
 pn:QQY
 xe:QQX
abbrev AL(X:Cx)(e:Expr)(es:List Expr):Prop:=starEach (e::es) X.env=(false,eval e X.env)::starEach es X.env
abbrev Cr(X:Cx)(p:Pos)(es:List Expr):Prop:=(backTo p (starEach es X.env)).any (·.1)=false
abbrev yP(x:Str):Prop:=(x==("__debug__":Str))=false
abbrev Kk(X:Cx)(x:Str):Prop:=X.fn x=true\/X.env.scope.names.lookup x=some .local
def vZ(l:List Env):QXQ:=l.filterMap (·.frame)
abbrev Cx.fs(X:Cx):QXQ:=vZ X.outer
def RI(sc:Scope)(x:Str):Prop:=sc.names.lookup x=some .local\/sc.names.lookup x=some .cell\/sc.names.lookup x=some .free
def Ki(sc:Scope)(x:Str):Prop:=sc.names.lookup x=some .local\/sc.names.lookup x=some .cell
def Tr(env:Env)(h:Heap)(m:QQZ)(x:Str)(u:Vl):Prop:=
 (env.kindOf x=some .local/\m x=some u)\/((env.kindOf x=some .cell\/env.kindOf x=some .free)/\∃c,env.cells.lookup x=some c/\h.IsCell c (some u))
structure Cx.Ok(X:Cx):Prop where
 mod:Mod X.K X.mg X.base
 kind:X.env.scope.kind=.function
 glob:X.env.globals=mainGlobals
 blt:X.env.builtins=builtinsNs
 above:X.s₀.heap.objs.size<=X.env.locals
 inj:∀x y c,X.env.cells.lookup x=some c->X.env.cells.lookup y=some c->x=y
 has:∀x,(X.env.kindOf x=some .cell\/X.env.kindOf x=some .free)->∃c,X.env.cells.lookup x=some c
 oC:∀x c,X.fn x=true->X.env.cells.lookup x=some c->X.s₀.heap.objs.size<=c
 hd:X.calm=true->X.A.handled=none
 frames:X.A.frames=some X.stack
 oH:X.stack=X.outer\/(X.stack=X.env::X.outer/\X.env.frame=some X.env.locals)
 oX:∀b∈X.ex,b≠X.env.locals/\∀x c,X.env.cells.lookup x=some c->c≠b
 bs:∀b o,X.base.get? b=some o->X.s₀.heap.get? b=some o/\X.H₀ b=none
 nY:X.base.objs.size<=X.s₀.heap.objs.size
 nQ:∀b o,X.base.get? b=some o->b∉X.ex
 nX:∀b∈X.ex,b∉X.fs
 nA:X.s₀.heap.FunFrames X.base X.outer
 oi:∀b∈X.fs,X.H₀ b=none
structure Inv(X:Cx)(Wp:QQY)(σ:List (Option V))(H:Hp)(s:Sd):Prop where
 ok:X.Ok
 os:s.os=X.s₀.os
 bare:AllBare s.gens
 base:Un X.fs X.ex X.H₀ H X.s₀.heap s.heap
 loc:∃m,s.heap.Ns X.env.locals m/\∀(i:Nat) (x:Str) (v:V),X.N[i]?=some x->σ[i]?=some (some v)->RI X.env.scope x->∃u,qG v u/\Tr X.env s.heap m x u
 cell:∀x c,X.env.cells.lookup x=some c->∃v,s.heap.IsCell c v
 free:H X.env.locals=none
 mX:∀x c,X.env.cells.lookup x=some c->H c=none
 pin:∀p∈X.pn++Wp,s.heap.get? p.1=some p.2/\H p.1=none/\p.1≠X.env.locals/\p.1∉X.fs/\∀v,p.2.data≠.cell v
 mR:ye X.prog X.w H s.heap
 len:σ.length=X.N.length
variable {X:Cx}{Wp:List (Addr × Obj)}{s:Sd}
section
variable {σ:List (Option V)}
def Cx.Ok.nofr(ok:X.Ok){b:Addr}{o:Obj}(e:X.base.get? b=some o):b∉X.fs:=λhb=>by have:=(ok.nA.mem hb).1;rw[e]at this;cases this
def Inv.bs(I:Inv X Wp σ H s):∀b o,X.base.get? b=some o->s.heap.get? b=some o/\H b=none:=λb o e=>⟨I.base.keep b o (I.ok.bs b o e).1 (I.ok.bs b o e).2 (I.ok.nofr e) (I.ok.nQ b o e),I.base.free b o (I.ok.bs b o e).1 (I.ok.bs b o e).2 (I.ok.nQ b o e)⟩
def Inv.bk(I:Inv X Wp σ H s):∀b o,X.base.get? b=some o->s.heap.get? b=some o:=λb o e=>(I.bs b o e).1
def Inv.mod(I:Inv X Wp σ H s):Mod X.K X.mg X.base:=I.ok.mod
def Inv.m7(I:Inv X Wp σ H s):X.K.In s.heap:=I.ok.mod.ou.keeps I.bk
def Inv.lt(I:Inv X Wp σ H s):X.env.locals<s.heap.objs.size:=let⟨_,hn,_⟩:=I.loc;hn.lt
def Inv.sz(I:Inv X Wp σ H s):X.s₀.heap.objs.size<=s.heap.objs.size:=dW I.ok.above (kQ I.lt)
def Inv.oJ(I:Inv X Wp σ H s){a:Addr}(h:s.heap.objs.size<=a):a∉X.fs:=λhb=>by obtain⟨_,o,ho,_⟩:=I.ok.nA.mem hb;exact absurd (dI (dz ho) (dW I.sz h)) (eZ _)
def Inv.oW(I:Inv X Wp σ H s):∀x c,X.env.cells.lookup x=some c->c≠X.env.locals:=λx c e z=>by obtain⟨v,o,ho,hd⟩:=I.cell x c e;obtain⟨m,⟨o',es,ep,W5,hd',_⟩,_⟩:=I.loc;rw[z,W5]at ho;cases ho;rw[hd']at hd;cases hd
def Inv.nA(I:Inv X Wp σ H s):s.heap.FunFrames X.base X.outer:=by
 have all:∀(l:List Env),(∀b∈vZ l,b∈X.fs)->X.s₀.heap.FunFrames X.base l->s.heap.FunFrames X.base l:=by
  intro l;induction l with
  | nil=>intro _ _;trivial
  | cons env r ih=>intro hs hl;obtain⟨hk,⟨L,o,hf,hn,ho,hd⟩,hr⟩:=hl;have hL:L∈X.fs:=hs L (by unfold vZ;rw[fT,hf];exact dN);obtain⟨sl,e⟩:=I.base.slot L o ho (I.ok.oi L hL) hL λz=>I.ok.nX L z hL;exact⟨hk,⟨L,_,hf,hn,e,hd⟩,ih (λb hb=>hs b (by unfold vZ;rw[fT,hf];exact dD _ hb)) hr⟩
 exact all X.outer (λ_ hb=>hb) I.ok.nA
def Inv.stack(I:Inv X Wp σ H s):s.heap.FunFrames X.base X.stack:=by
 rcases I.ok.oH with e|⟨e,hf⟩
 .rw[e];exact I.nA
 .rw[e];obtain⟨m,hn,_⟩:=I.loc;refine .cons (by rw[I.ok.kind];decide) hf hn ?_ I.nA;exact gH (dW I.ok.nY I.ok.above)
def Inv.nB(I:Inv X Wp σ H s):∀b∈vZ X.stack,b∈X.env.locals::X.fs:=λb hb=>by
 rcases I.ok.oH with e|⟨e,hf⟩
 .rw[e]at hb;exact dD _ hb
 .rw[e]at hb;unfold vZ at hb;rw[fT,hf]at hb;exact hb
def Inv.nH(I:Inv X Wp σ H s):∀b∈vZ X.stack,H b=none:=λb hb=>by
 rcases df.mp (I.nB b hb)with e|hb
 .rw[e];exact I.free
 .obtain⟨_,o,ho,_⟩:=I.ok.nA.mem hb;exact I.base.free b o ho (I.ok.oi b hb) λz=>I.ok.nX b z hb
def Inv.step{g':Array GenState}{t':Nat}{d':Drawn}{ch:QXQ}(I:Inv X Wp σ H s) (Xn:∀b∈ch,(b∈X.ex\/X.s₀.heap.objs.size<=b)/\b≠X.env.locals/\(∀x c,X.env.cells.lookup x=some c->c≠b)/\∀p∈X.pn++Wp,p.1≠b) (keep:∀b o,b≠X.env.locals->b∉X.fs->b∉ch->s.heap.get? b=some o->H b=none->h'.get? b=some o) (slot:∀b o,b≠X.env.locals->b∈X.fs->b∉ch->s.heap.get? b=some o->H b=none->∃sl,h'.get? b=some {o with slots:=sl}) (free:∀b o,b∉ch->s.heap.get? b=some o->H b=none->H' b=none)
  (there:∀b o,b∉ch->s.heap.get? b=some o->∃o',h'.get? b=some o')
  (ny:∀b xs,H b=some (.tup xs)->H' b=some (.tup xs)) (nu:∀b o u,H b=some (.frz o u)->H' b=some (.frz o u)) (nG:∀b ps,H b=some (.tbl ps)->∃more,H' b=some (.tbl (ps++more)))
  (ns:∀m,s.heap.Ns X.env.locals m->h'.Ns X.env.locals m) (mR:ye X.prog X.w H' h') (hg:AllBare g'):
  Inv X Wp σ H' {s with heap:=h',gens:=g',drawn:=d',toks:=t'}:=by
 have neL:∀b o,X.s₀.heap.get? b=some o->b≠X.env.locals:=λb o e=>dH (dI (dz e) I.ok.above);have neC:∀b o,X.s₀.heap.get? b=some o->b∉X.ex->b∉ch:=λb o e hx hb=>by
  rcases(Xn b hb).1 with z|z
  .exact hx z
  .exact absurd (dI (dz e) z) (eZ _)
 have YR:∀x c,X.env.cells.lookup x=some c->∀v,s.heap.IsCell c v->h'.IsCell c v:=λx c e v ⟨o,ho,hd⟩=>by
  have nch:c∉ch:=λz=>(Xn c z).2.2.1 x c e rfl;by_cases hc:c∈X.fs
  .obtain⟨sl,q⟩:=slot c o (I.oW x c e) hc nch ho (I.mX x c e);exact⟨_,q,hd⟩
  .exact⟨o,keep c o (I.oW x c e) hc nch ho (I.mX x c e),hd⟩
 refine⟨I.ok,I.os,hg,⟨λb o e n hb hx=>?_,λb o e n hb hx=>?_,λb o e n hx=>?_,λb o e hx=>?_,λb xs e=>ny b xs (I.base.ny b xs e),λb o xs e=>nu b o xs (I.base.nu b o xs e),λb ps e=>?_⟩,?_,λx c e=>?_,?_,λx c e=>?_,λp hp=>?_,mR,I.len⟩
 .exact keep b o (neL b o e) hb (neC b o e hx) (I.base.keep b o e n hb hx) (I.base.free b o e n hx)
 .obtain⟨sl,e1⟩:=I.base.slot b o e n hb hx;obtain⟨XQ,e2⟩:=slot b _ (neL b o e) hb (neC b o e hx) e1 (I.base.free b o e n hx);exact⟨XQ,e2⟩
 .obtain⟨o',e1⟩:=I.base.there b o e hx;exact free b o' (neC b o e hx) e1 (I.base.free b o e n hx)
 .obtain⟨o',e1⟩:=I.base.there b o e hx;exact there b o' (neC b o e hx) e1
 .obtain⟨m1,e1⟩:=I.base.nG b ps e;obtain⟨m2,e2⟩:=nG b _ e1;exact⟨m1++m2,by rw[e2,kP]⟩
 .obtain⟨m,hn,hl⟩:=I.loc;refine⟨m,ns m hn,λi x v e1 e2 e3=>?_⟩;obtain⟨u,r,l⟩:=hl i x v e1 e2 e3;refine⟨u,r,?_⟩;rcases l with l|⟨k,c,e,z⟩
  .exact .inl l
  .exact .inr ⟨k,c,e,YR x c e _ z⟩
 .obtain⟨v,z⟩:=I.cell x c e;exact⟨v,YR x c e v z⟩
 .obtain⟨m,⟨o,_,_,ho,_⟩,_⟩:=I.loc;exact free _ o (λz=>(Xn _ z).2.1 rfl) ho I.free
 .obtain⟨v,o,ho,hd⟩:=I.cell x c e;exact free c o (λz=>(Xn c z).2.2.1 x c e rfl) ho (I.mX x c e)
 .obtain⟨e,n,ne,nf,d⟩:=I.pin p hp;have nch:p.1∉ch:=λz=>(Xn p.1 z).2.2.2 p hp rfl;exact⟨keep p.1 p.2 ne nf nch e n,free p.1 p.2 nch e n,ne,nf,d⟩
def Inv.un{t':Nat}(I:Inv X Wp σ H s)(u:Un X.fs [] H H' s.heap h')(mR:ye X.prog X.w H' h'):Inv X Wp σ H' {s with heap:=h',toks:=t'}:=by
 obtain⟨m,⟨o,es,ep,ho,r⟩,_⟩:=id I.loc;obtain⟨sl,hL⟩:=u.any ho I.free (by simp);exact I.step (g':=s.gens) (d':=s.drawn) (ch:=[]) (λ_ z=>nomatch z) (λb o _ hb _ e n=>u.keep b o e n hb (by simp)) (λb o _ hb _ e n=>u.slot b o e n hb (by simp)) (λb o _ e n=>u.free b o e n (by simp)) (λb o _ e=>u.there b o e (by simp)) u.ny u.nu u.nG (λm' hm=>by
  obtain⟨o',es',ep',W5,r'⟩:=hm;rw[ho]at W5;cases W5;exact⟨_,es',ep',hL,r'⟩) mR I.bare
def Inv.call{g':Array GenState}{t':Nat}{d':Drawn}{ch:QXQ}(I:Inv X Wp σ H s)(u:Un (vZ X.stack) ch H H' s.heap h')(mR:ye X.prog X.w H' h')(hg:AllBare g') (Xn:∀b∈ch,(b∈X.ex\/X.s₀.heap.objs.size<=b)/\b≠X.env.locals/\(∀x c,X.env.cells.lookup x=some c->c≠b)/\∀p∈X.pn++Wp,p.1≠b):
  Inv X Wp σ H' {s with heap:=h',gens:=g',drawn:=d',toks:=t'}:=by
 obtain⟨m,⟨o,es,ep,ho,r⟩,_⟩:=id I.loc;obtain⟨sl,hL⟩:=u.any ho I.free λz=>(Xn _ z).2.1 rfl;exact I.step (ch:=ch) Xn (λb o hL hb hc e n=>u.keep b o e n (λz=>(df.mp (I.nB b z)).elim hL hb) hc) (λb o _ _ hc e n=>u.any e n hc) (λb o hc e n=>u.free b o e n hc) (λb o hc e=>u.there b o e hc) u.ny u.nu u.nG (λm' hm=>by
  obtain⟨o',es',ep',W5,r'⟩:=hm;rw[ho]at W5;cases W5;exact⟨_,es',ep',hL,r'⟩) mR hg
def Inv.turned{t':Nat}{it:Addr}(I:Inv X Wp σ H s)(k:∀b o,b≠it->s.heap.get? b=some o->h'.get? b=some o)(hn:H it=none)(hL:it≠X.env.locals) (h1:it∈X.ex\/X.s₀.heap.objs.size<=it) (h2:∀x c,X.env.cells.lookup x=some c->c≠it) (h3:∀p∈X.pn++Wp,p.1≠it):Inv X Wp σ H {s with heap:=h',toks:=t'}:=by
 have nit:∀b u,H b=some u->b≠it:=λb u e z=>by rw[z,hn]at e;cases e
 refine I.step (g':=s.gens) (d':=s.drawn) (ch:=[it]) (λb hb=>?_) (λb o _ _ hc e _=>k b o (λz=>hc (by simp[z])) e) (λb o _ _ hc e _=>⟨o.slots,k b o (λz=>hc (by simp[z])) e⟩) (λ_ _ _ _ n=>n)
  (λb o hc e=>⟨o,k b o (λz=>hc (by simp[z])) e⟩) (λ_ _ e=>e) (λ_ _ _ e=>e) (λb ps e=>⟨#[],by rw[e];simp⟩) (λm hm=>?_) (λb u e=>?_) I.bare
 .have e:b=it:=by simpa using hb
  subst e;exact⟨h1,hL,h2,h3⟩
 .obtain⟨o,es,ep,ho,r⟩:=hm;exact⟨o,es,ep,k _ o (dJ hL) ho,r⟩
 .refine(I.mR b u e).nk (λc v hc q=>k c v ?_ q) (λ_ q=>q) λ_ _ q=>q;rcases hc with z|z
  .rw[z];exact nit b u e
  .exact nit c _ z
def Inv.tok(I:Inv X Wp σ H s)(t:Nat):Inv X Wp σ H {s with toks:=t}:=I.un (h':=s.heap) (t':=t) Un.refl I.mR
def Inv.kept{t':Nat}(I:Inv X Wp σ H s)(k:∀b u,s.heap.get? b=some u->h'.get? b=some u):Inv X Wp σ H {s with heap:=h',toks:=t'}:=I.un (Un.kept k) (I.mR.kept k)
def Inv.laid{a:Addr}{o:HO}{t':Nat}(I:Inv X Wp σ H s)(k:∀b u,s.heap.get? b=some u->h'.get? b=some u)(hp:s.heap.objs.size<=a)(new:sf X.prog X.w (upd H a o) h' a o):
  Inv X Wp σ (upd H a o) {s with heap:=h',toks:=t'}:=I.un (Un.laid k hp (I.mR.fresh hp)) (I.mR.laid k hp new)
def Inv.write{x e:Addr}{o:HO}{t':Nat}(I:Inv X Wp σ H s)(mu:Td (H x))(he:e=x\/H e=some (.own x))(k:∀b u,b≠e->s.heap.get? b=some u->h'.get? b=some u)(heo:∃u,h'.get? e=some u) (new:sf X.prog X.w (upd H x o) h' x o):Inv X Wp σ (upd H x o) {s with heap:=h',toks:=t'}:=I.un (Un.write mu he k heo) (I.mR.write mu he k heo new)
def Inv.nL{Xo:QQY}(I:Inv X Wp σ H s)(h:∀p∈Xo,s.heap.get? p.1=some p.2/\H p.1=none/\p.1≠X.env.locals/\p.1∉X.fs/\∀v,p.2.data≠.cell v):Inv X Xo σ H s:=
 ⟨I.ok,I.os,I.bare,I.base,I.loc,I.cell,I.free,I.mX,λp hp=>(dX.mp hp).elim (λz=>I.pin p (fB _ z)) (h p),I.mR,I.len⟩
def BH{N:QQQ}(hN:N.Nodup){i j:Nat}{x:Str}(a:N[i]?=some x)(b:N[j]?=some x):i=j:=by obtain⟨h1,e1⟩:=cX.mp a;obtain⟨h2,e2⟩:=cX.mp b;exact(lO hN).mp (e1.trans e2.symm)
def Dn{M:Model}{A:Ar}{E:QQX}{i:Nat}{x:Str}{v:V}{u:Vl}{Q:Unit->Sd->Prop}(I:Inv X Wp σ H s)(hN:X.N.Nodup)(hi:X.N[i]?=some x)(hx:Ki X.env.scope x)(r:qG v u) (h:∀s',Inv X Wp (σ.set i (some v)) H s'->(∃a,Heap.SameBut a s.heap s'.heap/\(a=X.env.locals\/X.env.cells.lookup x=some a))->Q () s') (hf:Kk X x:=by first|exact .inl rfl|exact .inr rfl|assumption):wpAny M A (storeName X.env x u) Q E s:=by
 obtain⟨m,hn,hl⟩:=id I.loc;have Zb:(X.env.scope.kind==.class||(X.env.scope.kind==.module&&X.env.locals != X.env.globals))=false:=by rw[I.ok.kind];rfl
 have hiσ:i<σ.length:=by rw[I.len];exact(cX.mp hi).1
 have oW:=I.oW;have WG:∀{a:Addr} {h':Heap},(∃o,s.heap.get? a=some o/\H a=none)->Heap.SameBut a s.heap h'->ye X.prog X.w H h':=λ{a h'} ha hs b ob e=>by
  obtain⟨_,_,Xb⟩:=ha;refine(I.mR b ob e).nk (λc w' hc q=>(hs.2 c ?_).trans q) (λ_ q=>q) λ_ _ q=>q
  rintro rfl
  rcases hc with rfl|hc
  .rw[Xb]at e;cases e
  .rw[Xb]at hc;cases hc
 rcases hx with hk|hk
 .refine wpAny_storeName_local hk hn (λh' XZ hs=>?_) Zb;obtain⟨oL,_,_,hoL,_⟩:=id hn;refine h _ ⟨I.ok,I.os,I.bare,⟨λb o e n hb hx=>?_,λb o e n hb hx=>?_,I.base.free,λb o e hx=>?_,I.base.ny,I.base.nu,I.base.nG⟩,⟨_,XZ,λj y v' e1 e2 e3=>?_⟩,λy c e=>?_,I.free,I.mX,λp hp=>?_,WG ⟨oL,hoL,I.free⟩ hs,by simpa using I.len⟩ ⟨_,hs,.inl rfl⟩
  .exact(hs.2 b (dH (dI (dz e) I.ok.above))).trans (I.base.keep b o e n hb hx)
  .obtain⟨sl,e1⟩:=I.base.slot b o e n hb hx;exact⟨sl,(hs.2 b (dH (dI (dz e) I.ok.above))).trans e1⟩
  .obtain⟨o',e1⟩:=I.base.there b o e hx;exact⟨o',(hs.2 b (dH (dI (dz e) I.ok.above))).trans e1⟩
  .by_cases hj:j=i
   .subst hj;rw[hi]at e1;cases e1;rw[eK hiσ]at e2;cases e2;exact⟨u,r,.inl ⟨hk,by simp⟩⟩
   .rw[eR (dJ hj)]at e2;obtain⟨u',r',q⟩:=hl j y v' e1 e2 e3;refine⟨u',r',?_⟩;rcases q with⟨k,e⟩|⟨k,c,e,z⟩
    .refine .inl ⟨k,?_⟩;have:y≠x:=λe=>hj (BH hN e1 (e ▸ hi));simp[this,e]
    .exact .inr ⟨k,c,e,z.sameBut hs (oW y c e)⟩
  .obtain⟨w',z⟩:=I.cell y c e;exact⟨w',z.sameBut hs (oW y c e)⟩
  .obtain⟨e,n,ne,nf,d⟩:=I.pin p hp;exact⟨(hs.2 p.1 ne).trans e,n,ne,nf,d⟩
 .have hfn:X.fn x=true:=by
   rcases hf with z|z
   .exact z
   .rw[z]at hk;cases hk
  obtain⟨c,hc⟩:=I.ok.has x (.inl hk);obtain⟨w',z⟩:=I.cell x c hc;refine wpAny_storeName_cell I.ok.kind hk hc z (λh' hc' hs=>?_);obtain⟨oc,hoc,hocd⟩:=id z;refine h {s with heap:=h'} ⟨I.ok,I.os,I.bare,⟨λb o e n hb hx=>?_,λb o e n hb hx=>?_,I.base.free,λb o e hx=>?_,I.base.ny,I.base.nu,I.base.nG⟩,⟨m,hn.sameBut hs (dJ (oW x c hc)),λj y v' e1 e2 e3=>?_⟩,λy c' e=>?_,I.free,I.mX,λp hp=>?_,WG ⟨oc,hoc,I.mX x c hc⟩ hs,by simpa using I.len⟩ ⟨c,hs,.inr hc⟩
  .exact(hs.2 b (dH (dI (dz e) (I.ok.oC x c hfn hc)))).trans (I.base.keep b o e n hb hx)
  .obtain⟨sl,e1⟩:=I.base.slot b o e n hb hx;exact⟨sl,(hs.2 b (dH (dI (dz e) (I.ok.oC x c hfn hc)))).trans e1⟩
  .obtain⟨o',e1⟩:=I.base.there b o e hx;exact⟨o',(hs.2 b (dH (dI (dz e) (I.ok.oC x c hfn hc)))).trans e1⟩
  .by_cases hj:j=i
   .subst hj;rw[hi]at e1;cases e1;rw[eK hiσ]at e2;cases e2;exact⟨u,r,.inr ⟨.inl hk,c,hc,hc'⟩⟩
   .rw[eR (dJ hj)]at e2;obtain⟨u',r',q⟩:=hl j y v' e1 e2 e3;refine⟨u',r',?_⟩;rcases q with q|⟨k,c',e,z'⟩
    .exact .inl q
    .refine .inr ⟨k,c',e,z'.sameBut hs ?_⟩
     rintro rfl
     exact hj (BH hN e1 (I.ok.inj _ _ _ e hc ▸ hi))
  .by_cases YS:c'=c
   .subst YS;exact⟨_,hc'⟩
   .obtain⟨w2,z2⟩:=I.cell y c' e;exact⟨w2,z2.sameBut hs YS⟩
  .obtain⟨e,n,ne,nf,d⟩:=I.pin p hp;refine⟨(hs.2 p.1 ?_).trans e,n,ne,nf,d⟩;intro q;rw[q,hoc]at e;have q':oc=p.2:=dh e;exact d w' (by rw[<-q'];exact hocd)
def xj{M:Model}{A:Ar}{E:QQX}{i:Nat}{x:Str}{v:V}{u:Vl}{Q:Unit->Sd->Prop}(I:Inv X Wp σ H s)(hN:X.N.Nodup)(hi:X.N[i]?=some x)(hx:Ki X.env.scope x)(r:qG v u) (h:∀s',Inv X Wp (σ.set i (some v)) H s'->Q () s') (hf:Kk X x:=by first|exact .inl rfl|exact .inr rfl|assumption):wpAny M A (storeName X.env x u) Q E s:=
 Dn I hN hi hx r (λs' I' _=>h s' I') hf
def Inv.oK{s':Sd}{ch:QXQ}(I:Inv X Wp σ H s)(ho:s'.os=s.os)(u:Un (vZ X.stack) ch H H' s.heap s'.heap)(mR:ye X.prog X.w H' s'.heap)(hg:AllBare s'.gens) (Xn:∀b∈ch,(b∈X.ex\/X.s₀.heap.objs.size<=b)/\b≠X.env.locals/\(∀x c,X.env.cells.lookup x=some c->c≠b)/\∀p∈X.pn++Wp,p.1≠b):Inv X Wp σ H' s':=by
 obtain⟨h',g',d',t',o'⟩:=s';have e:o'=s.os:=ho;subst e;exact I.call (g':=g') (t':=t') (d':=d') u mR hg Xn
end
abbrev XK:=Vl->Option Addr->Hp->Prop
abbrev St:=List (Option V)
abbrev VK:=V->Hp->Prop
abbrev TE:=St->Hp->VK->Prop
abbrev TT:=St->Hp->(Bool->Hp->Prop)->Prop
abbrev TA:=St->Hp->(List V->Hp->Prop)->Prop
structure Ea where
 nx:St->Hp->Prop
 rt:VK
 bk:St->Hp->Prop:=λ_ _=>False
 ct:St->Hp->Prop:=λ_ _=>False
abbrev TS:=Ea->St->Hp->Prop
def EP(X:Cx)(Wp:QQY)(σ:St)(Q:VK)(u:Vl)(s':Sd):Prop:=∃v H',Inv X Wp σ H' s'/\qG v u/\Q v H'
def TP(X:Cx)(Wp:QQY)(σ:St)(Q:Bool->Hp->Prop)(b:Bool)(s':Sd):Prop:=∃H',Inv X Wp σ H' s'/\Q b H'
def AP(X:Cx)(Wp:QQY)(σ:St)(Q:List V->Hp->Prop)(us:List Vl)(s':Sd):Prop:=∃vs H',Inv X Wp σ H' s'/\qA vs us/\Q vs H'
def SP(X:Cx)(Wp:QQY)(D:Ea)(f:Flow)(s':Sd):Prop:=
 match f with
 | .next=>∃σ' H',Inv X Wp σ' H' s'/\D.nx σ' H'
 | .brk=>∃σ' H',Inv X Wp σ' H' s'/\D.bk σ' H'
 | .cont=>∃σ' H',Inv X Wp σ' H' s'/\D.ct σ' H'
 | .ret u=>∃v σ' H',Inv X Wp σ' H' s'/\qG v u/\D.rt v H'
def PE(X:Cx)(e:Expr)(t:TE):Prop:=
 ∀(Wp:QQY) (s:Sd) (σ:St) (H:Hp) (Q:VK),Inv X Wp σ H s->t σ H Q->wpAny (model X.prog X.w) X.A (eval e X.env) (EP X Wp σ Q) X.xe s
def PT(X:Cx)(e:Expr)(t:TT):Prop:=
 ∀(Wp:QQY) (s:Sd) (σ:St) (H:Hp) (Q:Bool->Hp->Prop),Inv X Wp σ H s->t σ H Q->wpAny (model X.prog X.w) X.A (isTrue e X.env (eval e X.env)) (TP X Wp σ Q) X.xe s
def PW(X:Cx)(e:Expr)(t:TT):Prop:=
 ∀(WX:Sem Vl) (Wp:QQY) (s:Sd) (σ:St) (H:Hp) (Q:Bool->Hp->Prop),Inv X Wp σ H s->t σ H Q->wpAny (model X.prog X.w) X.A (isTrue e X.env WX) (TP X Wp σ Q) X.xe s
def PW.pt{X:Cx}{e:Expr}{t:TT}(h:PW X e t):PT X e t:=h _
def PA(X:Cx)(es:List Expr)(t:TA):Prop:=
 ∀(pos:Pos) (Wp:QQY) (s:Sd) (σ:St) (H:Hp) (Q:List V->Hp->Prop),Inv X Wp σ H s->t σ H Q->wpAny (model X.prog X.w) X.A (spliced (backTo pos (starEach es X.env))) (AP X Wp σ Q) X.xe s
def PS(X:Cx)(st:Stmt)(t:TS):Prop:=
 ∀(Wp:QQY) (s:Sd) (σ:St) (H:Hp) (D:Ea),Inv X Wp σ H s->t D σ H->wpAny (model X.prog X.w) X.A (exec st X.env) (SP X Wp D) X.xe s
def Cj(X:Cx)(st:List Stmt)(t:TS):Prop:=
 ∀(Wp:QQY) (s:Sd) (σ:St) (H:Hp) (D:Ea),Inv X Wp σ H s->t D σ H->wpAny (model X.prog X.w) X.A (execs st X.env) (SP X Wp D) X.xe s
def sr{α:Type}{t:Sem α}{Q Q':α->Sd->Prop}{M:Model}{A:Ar}{E:QQX}{s:Sd}(h:wpAny M A t Q E s)(hQ:∀a s,Q a s->Q' a s):wpAny M A t Q' E s:=d9 h hQ λ_ _ x=>x
variable {tA tB':TT}{ta tb:TE}{pos:Pos}
section
def EZ(i:Nat):TE:=λσ H Q=>∃v,σ[i]?=some (some v)/\Q v H
def tC(v:V):TE:=λ_ H Q=>Q v H
def Mv{i:Nat}{x:Str}{pos:Pos}(hN:X.N[i]?=some x)(hv:RI X.env.scope x)(hd:yP x:=by decide)(Xp:(x==("__classdict__":Str))=false:=by decide):PE X (.Name x pos) (EZ i):=by
 intro Wp s σ H Q I h;obtain⟨v,e,h⟩:=h;obtain⟨m,hn,hl⟩:=I.loc;obtain⟨u,r,l⟩:=hl i x v hN e hv;have Wt:EP X Wp σ Q u s:=⟨v,H,I,r,h⟩;rcases l with⟨hk,hm⟩|⟨hk,c,hc,hcell⟩
 .exact ma (wpAny_loadName_local I.ok.kind hk hn hm Wt) hd
 .rcases hk with hk|hk
  .exact ma (wpAny_loadName_cell I.ok.kind hk hc hcell Wt) hd
  .exact ma (wpAny_loadName_free I.ok.kind hk hc hcell Wt Xp) hd
def Sf{i j pos}:PE X (.Constant (.int i) j pos) (tC (.int i)):=λ_ _ _ H _ I h=>wpAny_Constant_int ⟨.int i,H,I.tok _,⟨_,rfl⟩,h⟩
def S'{b j pos}:PE X (.Constant (.bool b) j pos) (tC (.bl b)):=λ_ _ _ H _ I h=>Constant_bool ⟨.bl b,H,I,rfl,h⟩
def RW{j pos}:PE X (.Constant .none j pos) (tC .mM):=λ_ _ _ H _ I h=>Constant_none ⟨.mM,H,I,rfl,h⟩
def RJ{x j pos}:PE X (.Constant (.str x) j pos) (tC (.str x)):=λ_ _ _ H _ I h=>Calls.Constant_str ⟨.str x,H,I.tok _,⟨_,rfl⟩,h⟩
def Gl(X:Cx)(x:Str):Prop:=X.env.kindOf x=some .globalImplicit
def wG{E:QQX}{Wp:QQY}{s:Sd}{σ:St}{H:Hp}{x:Str}{u:Vl}{pos:Pos}{Q:QQX}(I:Inv X Wp σ H s)(hg:Gl X x)(hm:X.mg x=some u)(h:Q u s) (hd:yP x:=by decide):wpAny (model X.prog X.w) X.A (eval (.Name x pos) X.env) Q E s:=
 jk I.ok.kind hg (Calls.loadGlobal_global (by rw[I.ok.glob];exact I.mod.glob.keeps I.bk) hm h) hd
def xE{E:QQX}{Wp:QQY}{s:Sd}{σ:St}{H:Hp}{x:Str}{u:Vl}{pos:Pos}{Q:QQX}(I:Inv X Wp σ H s)(hg:Gl X x)(hm:X.mg x=none)(hv:bootBuiltins x=some u)(h:Q u s) (hn:x≠"__name__":=by decide) (hd:yP x:=by decide):wpAny (model X.prog X.w) X.A (eval (.Name x pos) X.env) Q E s:=by
 obtain⟨mb,h1,h2⟩:=I.mod.blt;exact jk I.ok.kind hg (Calls.loadGlobal_builtin (by rw[I.ok.glob];exact I.mod.glob.keeps I.bk) hm (by rw[I.ok.blt];exact h1.keeps I.bk) ((h2 x hn).trans hv) h) hd
def DZ{x:Str}{v:V}{u:Vl}{pos:Pos}(hg:Gl X x)(hm:X.mg x=some u)(r:qG v u)(hd:yP x:=by decide):PE X (.Name x pos) (tC v):=
 λ_ _ _ H _ I h=>wG I hg hm ⟨v,H,I,r,h⟩ hd
def Pf{x:Str}{v:V}{u:Vl}{pos:Pos}(hg:Gl X x)(hm:X.mg x=none)(hv:bootBuiltins x=some u)(r:qG v u)(hn:x≠"__name__":=by decide)(hd:yP x:=by decide):PE X (.Name x pos) (tC v):=
 λ_ _ _ H _ I h=>xE I hg hm hv ⟨v,H,I,r,h⟩ hn hd
variable {a b:Expr}
def tB(t:TE):TT:=λσ H Q=>t σ H λx H1=>∃c,x=.bl c/\Q c H1
def Se{e:Expr}{t:TE}(h:PE X e t)(he:∀WX,isTrue e X.env WX=(do let v<-WX;standAt e.pos;holding [v] (truthy v)):=by intro _;rfl):PT X e (tB t):=by intro Wp s σ H Q I hw;refine isTrue_plain (sr (h Wp s σ H _ I hw) λv s1 zz=>x5 zz λx H1 I1 r1 q1=>?_) (he _);obtain⟨d,rfl,q⟩:=q1;cases r1;exact fh ⟨H1,I1,q⟩
variable {rest:List Expr}
def U'(t u:TT):TT:=λσ H Q=>t σ H λc H1=>if c=true then u σ H1 Q else Q false H1
def Wa(t u:TT):TT:=λσ H Q=>t σ H λc H1=>if c=true then Q true H1 else u σ H1 Q
def Vq(t:TT):TT:=λσ H Q=>t σ H λc H1=>Q (!c) H1
def Od(ha:PT X a tA):PW X (.BoolOp .And [a] pos) tA:=by
 intro wh Wp s σ H Q I h;refine isTrue_and (sr (ha Wp s σ H Q I h) λc s1 e=>?_);cases c with
 | true=>exact isTrue_and_nil e
 | false=>exact e
def RY(ha:PT X a tA):PW X (.BoolOp .Or [a] pos) tA:=by
 intro wh Wp s σ H Q I h;refine isTrue_or (sr (ha Wp s σ H Q I h) λc s1 e=>?_);cases c with
 | false=>exact isTrue_or_nil e
 | true=>exact e
def Ri(ha:PT X a tA)(hb:PW X (.BoolOp .And (b::rest) pos) tB'):PW X (.BoolOp .And (a::b::rest) pos) (U' tA tB'):=by
 intro wh Wp s σ H Q I h;refine isTrue_and (sr (ha Wp s σ H _ I h) λc s1 ⟨H1,I1,q1⟩=>?_);cases c with
 | true=>exact hb wh Wp s1 σ H1 Q I1 q1
 | false=>exact⟨H1,I1,q1⟩
def Tb(ha:PT X a tA)(hb:PW X (.BoolOp .Or (b::rest) pos) tB'):PW X (.BoolOp .Or (a::b::rest) pos) (Wa tA tB'):=by
 intro wh Wp s σ H Q I h;refine isTrue_or (sr (ha Wp s σ H _ I h) λc s1 ⟨H1,I1,q1⟩=>?_);cases c with
 | true=>exact⟨H1,I1,q1⟩
 | false=>exact hb wh Wp s1 σ H1 Q I1 q1
def QO(ha:PT X a tA):PT X (.UnaryOp .Not a pos) (Vq tA):=by intro Wp s σ H Q I h;exact isTrue_not (ha Wp s σ H (λc H1=>Q (!c) H1) I h)
def TX(ta tb:TE):TE:=λσ H Q=>ta σ H λx H1=>∃c,x=.bl c/\if c=true then tb σ H1 Q else Q (.bl false) H1
def VE(ta tb:TE):TE:=λσ H Q=>ta σ H λx H1=>∃c,x=.bl c/\if c=true then Q (.bl true) H1 else tb σ H1 Q
def T7(ta:TE):TE:=λσ H Q=>ta σ H λx H1=>∃c,x=.bl c/\Q (.bl (!c)) H1
def Sm{op}{t:TE}(h:PE X a t):PE X (.BoolOp op [a] pos) t:=λWp s σ H Q I hw=>BoolOp_one (h Wp s σ H Q I hw)
def Rg(ha:PE X a ta)(hb:PE X (.BoolOp .And (b::rest) pos) tb):PE X (.BoolOp .And (a::b::rest) pos) (TX ta tb):=by
 intro Wp s σ H Q I h;refine BoolOp_and (sr (ha Wp s σ H _ I h) λv s1 zz=>x5 zz λx H1 I1 r1 q1=>?_);obtain⟨c,rfl,q1⟩:=q1;cases r1;refine fh ?_;cases c with
 | true=>exact hb Wp s1 σ H1 Q I1 q1
 | false=>exact⟨.bl false,H1,I1,rfl,q1⟩
def TQ(ha:PE X a ta)(hb:PE X (.BoolOp .Or (b::rest) pos) tb):PE X (.BoolOp .Or (a::b::rest) pos) (VE ta tb):=by
 intro Wp s σ H Q I h;refine BoolOp_or (sr (ha Wp s σ H _ I h) λv s1 zz=>x5 zz λx H1 I1 r1 q1=>?_);obtain⟨c,rfl,q1⟩:=q1;cases r1;refine fh ?_;cases c with
 | false=>exact hb Wp s1 σ H1 Q I1 q1
 | true=>exact⟨.bl true,H1,I1,rfl,q1⟩
def Q1(ha:PE X a ta):PE X (.UnaryOp .Not a pos) (T7 ta):=by intro Wp s σ H Q I h;refine UnaryOp_ (sr (ha Wp s σ H _ I h) λv s1 zz=>x5 zz λx H1 I1 r1 q1=>?_);obtain⟨c,rfl,q1⟩:=q1;cases r1;exact not_of (fh ⟨.bl (!c),H1,I1,rfl,q1⟩)
def Wl(t:TT)(ta tb:TE):TE:=λσ H Q=>t σ H λc H1=>if c=true then ta σ H1 Q else tb σ H1 Q
def Mz{c:Expr}(hc:PT X c tA)(ha:PE X a ta)(hb:PE X b tb):PE X (.IfExp c a b pos) (Wl tA ta tb):=by
 intro Wp s σ H Q I h;refine wpAny_IfExp (sr (hc Wp s σ H _ I h) λd s1 ⟨H1,I1,q1⟩=>?_);cases d with
 | true=>exact ha Wp s1 σ H1 Q I1 q1
 | false=>exact hb Wp s1 σ H1 Q I1 q1
end
def yS(K:ql)(H:Hp)(a:Addr)(xs:List V):Prop:=
 Rd H a (.lst xs)\/
  ∃(o:Obj) (its:Array Vl) (n:Nat),K.lookup a=some o/\o.cls=.type "list"/\o.dict=none/\o.data=.seq its n/\its.size<=sizeLine/\qA xs its.toList
def uQ(K:ql)(H:Hp)(a:Addr)(xs:List V):Prop:=
 Rd H a (.tup xs)\/
  ∃(o:Obj) (its:Array Vl) (n:Nat),K.lookup a=some o/\o.cls=.type "tuple"/\o.dict=none/\o.data=.seq its n/\its.size<=sizeLine/\qA xs its.toList
def US:Vl->Option V
 | .none=>some .mM
 | .bool b=>some (.bl b)
 | .int i _=>some (.int i)
 | .str x _=>some (.str x)
 | .bytes b _=>some (.byt b)
 | .float b _=>some (.flt b)
 | .ref a=>some (.ref a)
 | .type n=>some (.ty n)
 | _=>none
def qG.abs{x:V}{u:Vl}(r:qG x u):US u=some x:=by
 cases x with
 | mM=>cases r;rfl
 | bl _=>cases r;rfl
 | int _=>obtain⟨t,rfl⟩:=r;rfl
 | str _=>obtain⟨t,rfl⟩:=r;rfl
 | byt _=>obtain⟨t,rfl⟩:=r;rfl
 | flt _=>obtain⟨t,rfl⟩:=r;rfl
 | ref _=>cases r;rfl
 | ty _=>cases r;rfl
def qG.inj{x y:V}{u:Vl}(r:qG x u)(q:qG y u):x=y:=dh (r.abs.symm.trans q.abs)
theorem qA.inj:∀{xs ys:List V} {us:List Vl},qA xs us->qA ys us->xs=ys
 | _,_,_,.nil,.nil=>rfl
 | _,_,_,.cons r t,.cons r' t'=>by rw[r.inj r',qA.inj t t']
variable {xs ys:List V}
section
variable {σ:St}{a:Addr}
def uQ.of{K:ql}(h:H a=some (.tup xs)):uQ K H a xs:=.inl (.inl h)
def Inv.list(I:Inv X Wp σ H s)(h:yS X.K H a xs):∃its:List Vl,qA xs its/\PlainL s.heap a its.toArray/\xs.length<=sizeLine:=by
 rcases h with h|⟨o,its,n,hk,hc,hd,hs,hz,r⟩
 .obtain⟨z,its,n,r,e⟩:=h.ok I.mR;exact⟨its,r,⟨_,n,e,rfl,rfl,rfl⟩,z⟩
 .refine⟨its.toList,r,⟨o,n,I.m7 a o hk,hc,hd,by simpa using hs⟩,?_⟩;have e:=r.length;simp only[ig]at e;omega
def Inv.oy(I:Inv X Wp σ H s)(h:uQ X.K H a xs):∃its:List Vl,qA xs its/\CL s.heap a its.toArray/\xs.length<=sizeLine:=by
 rcases h with h|⟨o,its,n,hk,hc,hd,hs,hz,r⟩
 .obtain⟨z,its,r,p⟩:=h.ok I.mR;exact⟨its,r,p,z⟩
 .refine⟨its.toList,r,⟨o,I.m7 a o hk,hc,⟨n,by simpa using hs⟩,hd⟩,?_⟩;have e:=r.length;simp only[ig]at e;omega
def Inv.tuple(I:Inv X Wp σ H s)(h:uQ X.K H a xs):∃its:List Vl,qA xs its/\IsTup s.heap a its.toArray/\xs.length<=sizeLine:=by
 rcases h with h|⟨o,its,n,hk,hc,hd,hs,hz,r⟩
 .obtain⟨z,its,r,p⟩:=h.ok I.mR;exact⟨its,r,p.is,z⟩
 .refine⟨its.toList,r,⟨o,I.m7 a o hk,hc,n,by simpa using hs⟩,?_⟩;have e:=r.length;simp only[ig]at e;omega
def Inv.nP(I:Inv X Wp σ H s)(h:yS X.K H a xs)(h':yS X.K H a ys):xs=ys:=by
 obtain⟨its,r,⟨o,n,e,_,_,d⟩,_⟩:=I.list h;obtain⟨its',r',⟨o',n',e',_,_,d'⟩,_⟩:=I.list h';rw[e]at e';cases e';rw[d]at d';injection d' with d1 _
 have:its=its':=by simpa using eP Array.toList d1
 subst this;exact r.inj r'
def Inv.ni(I:Inv X Wp σ H s)(h:uQ X.K H a xs)(h':uQ X.K H a ys):xs=ys:=by
 obtain⟨its,r,⟨o,e,_,n,d⟩,_⟩:=I.tuple h;obtain⟨its',r',⟨o',e',_,n',d'⟩,_⟩:=I.tuple h';rw[e]at e';cases e';rw[d]at d';injection d' with d1 _
 have:its=its':=by simpa using eP Array.toList d1
 subst this;exact r.inj r'
end
abbrev Cx.nK(X:Cx)(E:QQX):Cx:={X with xe:=E}
abbrev Cx.oq(X:Cx):Cx:=X.nK λ_ _=>False
def Cx.Ok.nK{X:Cx}(ok:X.Ok)(E:QQX):(X.nK E).Ok:=
 ⟨ok.mod,ok.kind,ok.glob,ok.blt,ok.above,ok.inj,ok.has,ok.oC,ok.hd,ok.frames,ok.oH,ok.oX,ok.bs,ok.nY,ok.nQ,ok.nX,ok.nA,ok.oi⟩
def Cx.Ok.ng{X:Cx}{E:QQX}(ok:(X.nK E).Ok):X.Ok:=
 ⟨ok.mod,ok.kind,ok.glob,ok.blt,ok.above,ok.inj,ok.has,ok.oC,ok.hd,ok.frames,ok.oH,ok.oX,ok.bs,ok.nY,ok.nQ,ok.nX,ok.nA,ok.oi⟩
section
variable {σ:St}{E:QQX}
def Inv.nK(I:Inv X Wp σ H s)(E:QQX):Inv (X.nK E) Wp σ H s:=⟨I.ok.nK E,I.os,I.bare,I.base,I.loc,I.cell,I.free,I.mX,I.pin,I.mR,I.len⟩
def Inv.ng(I:Inv (X.nK E) Wp σ H s):Inv X Wp σ H s:=⟨I.ok.ng,I.os,I.bare,I.base,I.loc,I.cell,I.free,I.mX,I.pin,I.mR,I.len⟩
def SP.ng{D:Ea}{f:Flow}{s':Sd}(h:SP (X.nK E) Wp D f s'):SP X Wp D f s':=by
 cases f with
 | next=>obtain⟨σ',H',I,q⟩:=h;exact⟨σ',H',I.ng,q⟩
 | brk=>obtain⟨σ',H',I,q⟩:=h;exact⟨σ',H',I.ng,q⟩
 | cont=>obtain⟨σ',H',I,q⟩:=h;exact⟨σ',H',I.ng,q⟩
 | ret u=>obtain⟨v,σ',H',I,r,q⟩:=h;exact⟨v,σ',H',I.ng,r,q⟩
def Cj.oq{st:List Stmt}{t:TS}(h:Cj X.oq st t):Cj X st t:=λWp s σ H D I hw=>d9 (h Wp s σ H D (I.nK _) hw) (λ_ _ q=>q.ng) λ_ _ z=>False.elim z
end
variable {st:Stmt}{u:TS}{te:TE}
section
variable {rest:List Stmt}{t:TS}{e:Expr}
def TY:TS:=λD σ H=>D.nx σ H
def Vk(t u:TS):TS:=λD σ H=>t {D with nx:=u D} σ H
def O6:Cj X [] TY:=λ_ _ σ H _ I h=>gS ⟨σ,H,I,h⟩
def Kw(h1:PS X st t)(h2:Cj X rest u):Cj X (st::rest) (Vk t u):=by
 intro Wp s σ H D I h;refine jw (sr (h1 Wp s σ H {D with nx:=u D} I h) λf s1 q=>?_);cases f with
 | next=>obtain⟨σ',H',I',q⟩:=q;exact h2 Wp s1 σ' H' D I' q
 | ret v=>exact q
 | brk=>exact q
 | cont=>exact q
def Ei(h1:PS X st t):Cj X [st] t:=by
 intro Wp s σ H D I h;refine jw (sr (h1 Wp s σ H D I h) λf s1 q=>?_);cases f with
 | next=>exact gS q
 | ret v=>exact q
 | brk=>exact q
 | cont=>exact q
def Inv.quiet{Wp:QQY}{σ:St}{H:Hp}{s:Sd}(I:Inv X Wp σ H s):interactive X.env=false:=by simp[interactive,I.ok.kind]
def Tv(te:TE):TS:=λD σ H=>te σ H λ_ H1=>D.nx σ H1
def Pa(he:PE X e te)(hs:swapsWith e none pos.line X.env=pure false:=by rfl):PS X (.Expr e pos) (Tv te):=by intro Wp s σ H D I h;exact wpAny_Expr_any (sr (he Wp s σ H _ I h) λv s1 zz=>x5 zz λx H1 I1 r1 q1=>⟨σ,H1,I1,q1⟩) I.quiet hs
def Va(te:TE):TS:=λD σ H=>te σ H D.rt
def Rr(he:PE X e te):PS X (.Return (some e) pos) (Va te):=by intro Wp s σ H D I h;exact wpAny_Return_some (sr (he Wp s σ H _ I h) λv s1 zz=>x5 zz λx H1 I1 r1 q1=>⟨x,σ,H1,I1,r1,q1⟩)
def Vm(c:TT)(t u:TS):TS:=λD σ H=>c σ H λb H1=>if b=true then t D σ H1 else u D σ H1
def TN{c:Expr}{a b:List Stmt}{tc:TT}(hc:PT X c tc)(ha:Cj X a t)(hb:Cj X b u):PS X (.If c a b pos) (Vm tc t u):=by
 intro Wp s σ H D I h;refine wpAny_If (sr (hc Wp s σ H _ I h) λd s1 ⟨H1,I1,q1⟩=>?_);cases d with
 | true=>exact ha Wp s1 σ H1 D I1 q1
 | false=>exact hb Wp s1 σ H1 D I1 q1
def Q7:TS:=λ_ _ _=>False
def KU:PS X st Q7:=λ_ _ _ _ _ _ h=>h.elim
end
abbrev TG:=V->St->Hp->(St->Hp->Prop)->Prop
abbrev Oz:=List V->St->Hp->(St->Hp->Prop)->Prop
def PG(X:Cx)(WT:Expr)(t:TG):Prop:=
 ∀(Wp:QQY) (s:Sd) (σ:St) (H:Hp) (v:V) (u:Vl) (Q:St->Hp->Prop),Inv X Wp σ H s->qG v u->t v σ H Q->
  wpAny (model X.prog X.w) X.A (assign WT X.env u) (λ_ s'=>∃σ' H',Inv X Wp σ' H' s'/\Q σ' H') X.xe s
def Ni(X:Cx)(ts:List Expr)(t:Oz):Prop:=
 ∀(Wp:QQY) (s:Sd) (σ:St) (H:Hp) (vs:List V) (us:List Vl) (Q:St->Hp->Prop),Inv X Wp σ H s->qA vs us->t vs σ H Q->
  wpAny (model X.prog X.w) X.A (assignInOrder ((assignEach ts X.env).map (·.2)) us) (λ_ s'=>∃σ' H',Inv X Wp σ' H' s'/\Q σ' H') X.xe s
abbrev Rj:=V->V->V->Hp->(Hp->Prop)->Prop
def SU(X:Cx)(t:Rj):Prop:=
 ∀(Wp:QQY) (s:Sd) (σ:St) (H:Hp) (o i v:V) (ov iv u:Vl) (Q:Hp->Prop),Inv X Wp σ H s->qG o ov->qG i iv->qG v u->t o i v H Q->
  wpAny (model X.prog X.w) X.A (setItem ov iv u) (λ_ s'=>∃H',Inv X Wp σ H' s'/\Q H') X.xe s
def HJ(i:Nat):TG:=λv σ H Q=>Q (σ.set i (some v)) H
def Ol{i:Nat}{x:Str}(hN:X.N.Nodup)(hi:X.N[i]?=some x)(hx:Ki X.env.scope x)(hf:Kk X x:=by first|exact .inl rfl|exact .inr rfl|assumption):PG X (.Name x pos) (HJ i):=by intro Wp s σ H v u Q I r h;exact ly (xj I hN hi hx r (λs' I'=>⟨_,H,I',h⟩) hf)
def UJ:Oz:=λvs σ H Q=>vs=[]/\Q σ H
def Tq(t:TG)(u:Oz):Oz:=λvs σ H Q=>∃v r,vs=v::r/\t v σ H λσ' H'=>u r σ' H' Q
def Pm:Ni X [] UJ:=by intro Wp s σ H vs us Q I r h;obtain⟨e,h⟩:=h;subst e;cases r;exact assignInOrder_nil ⟨σ,H,I,h⟩
def Lx{e:Expr}{es:List Expr}{t:TG}{u:Oz}(h1:PG X e t)(h2:Ni X es u) (hs:(assignEach (e::es) X.env).map (·.2)=assign e X.env::(assignEach es X.env).map (·.2):=by rfl):Ni X (e::es) (Tq t u):=by
 intro Wp s σ H vs us Q I r h;obtain⟨v,vr,e1,h⟩:=h;subst e1;cases r with
 | cons r rr=>rw[hs];refine assignInOrder_cons (sr (h1 Wp s σ H _ _ _ I r h) λ_ s1 ⟨σ1,H1,I1,q1⟩=>?_);exact h2 Wp s1 σ1 H1 _ _ Q I1 rr q1
def UN(K:ql)(n:Nat)(t:Oz):TG:=λv σ H Q=>∃a xs,v=.ref a/\uQ K H a xs/\xs.length=n/\t xs σ H Q
def Qx{es:List Expr}{k:Nat}{t:Oz}{n:Nat}(hc:X.calm=true)(h:Ni X es t) (hn:(assignEach es X.env).length=n:=by rfl) (WJ:(assignEach es X.env).findIdx? (·.1)=none:=by rfl):PG X (.Tuple es k pos) (UN X.K n t):=by
 intro Wp s σ H v u Q I r hw;obtain⟨a,xs,e1,hq,hl,hw⟩:=hw;subst e1;cases r;obtain⟨its,rv,ht,hz⟩:=I.tuple hq;refine assign_Tuple_tuple (I.ok.hd hc) ht (by simp[hn,<-hl,rv.length]) WJ λh' hx=>?_;have I1:Inv X Wp σ H {s with heap:=h'}:=I.kept (t':=s.toks) λb o e=>hx b o (dH (dz e)) e;exact h Wp _ σ H xs _ Q I1 (by simpa using rv) hw
def Vh(to ti:TE)(t:Rj):TG:=λv σ H Q=>to σ H λo H1=>ti σ H1 λi H2=>t o i v H2 λH3=>Q σ H3
def Q8{o i:Expr}{to ti:TE}{t:Rj}(ho:PE X o to)(hi:PE X i ti)(hs:SU X t) (ha:∀v,assign (.Subscript o i pos) X.env v=(do
   let ov<-holding [v] (eval o X.env);let iv<-holding [v,ov] (eval i X.env)
   standAt pos
   holding [v,ov,iv] (setItem ov iv v)
   release [v,ov,iv] []):=by intro _;rfl):PG X (.Subscript o i pos) (Vh to ti t):=by
 intro Wp s σ H v u Q I r h;rw[ha];refine cU (eD (sr (ho Wp s σ H _ I h) λov s1 zz=>x5 zz λx H1 I1 r1 q1=>?_));refine cU (eD (sr (hi Wp s1 σ H1 _ I1 q1) λiv s2 zz=>x5 zz λy H2 I2 r2 q2=>?_));refine cU (gR (cU (eD (sr (hs Wp s2 σ H2 x y v ov iv u _ I2 r1 r2 r q2) λ_ s3 ⟨H3,I3,q3⟩=>?_))));exact wpAny_release ⟨σ,H3,I3,q3⟩
def OF(te:TE)(g:TG):TS:=λD σ H=>te σ H λx H1=>g x σ H1 D.nx
def QN{tg e:Expr}{te:TE}{g:TG}(he:PE X e te)(hg:PG X tg g)(hs:swapsWithSole [tg] e pos.line X.env=pure false:=by rfl)(hw:swappedStores [tg] e X.env=pure none:=by rfl)
  (h1:(assignEach [tg] X.env).map (·.2)=[assign tg X.env]:=by rfl):PS X (.Assign [tg] e pos) (OF te g):=by
 intro Wp s σ H D I h;refine wpAny_Assign_stores (sr (he Wp s σ H _ I h) λv s1 zz=>x5 zz λx H1 I1 r1 q1=>?_) hs hw;rw[h1];exact sr (hg Wp s1 σ H1 x v _ I1 r1 q1) λ_ s2 q=>q
def MT{i:Nat}{x:Str}{e:Expr}{te:TE}{Wy:Pos}(hN:X.N.Nodup)(hi:X.N[i]?=some x)(hx:Ki X.env.scope x)(he:PE X e te)(hs:swapsWith e (some (.Name x Wy)) pos.line X.env=pure false:=by rfl)(hf:Kk X x:=by first|exact .inl rfl|exact .inr rfl|assumption):
  PS X (.Assign [.Name x Wy] e pos) (OF te (HJ i)):=by
 intro Wp s σ H D I h;refine lz (sr (he Wp s σ H _ I h) λv s1 zz=>x5 zz λy H1 I1 r1 q1=>?_) hs;exact xj I1 hN hi hx r1 (λs2 I2=>⟨_,H1,I2,q1⟩) hf
def QB(c:TT)(tb:TS):TS:=λD σ H=>∃W:Nat->St->Hp->Prop,(∃m,W m σ H)/\∀m σ H,W m σ H->
 c σ H λb H1=>if b=true then ∃N:St->Hp->Prop,(∀σ' H',N σ' H'->∃m',m'<m/\W m' σ' H')/\tb {D with nx:=N,ct:=N,bk:=D.nx} σ H1 else D.nx σ H1
def Ly{c:Expr}{body:List Stmt}{tc:TT}{tb:TS}(hp:PassesOwn (model X.prog X.w) X.A X.env X.xe)(hc:PT X c tc)(hb:Cj X body tb):PS X (.While c body [] pos) (QB tc tb):=by
 intro Wp s σ H D I h;obtain⟨W,⟨m0,w0⟩,turn⟩:=h;refine wpAny_While (codeAny_whileLoop (λn s'=>∃σ' H',Inv X Wp σ' H' s'/\W n σ' H') ?_ m0 ⟨σ,H,I,w0⟩)
 rintro n s1 ⟨σ1,H1,I1,w1⟩
 refine gy hp (sr (hc Wp s1 σ1 H1 _ I1 (turn n σ1 H1 w1)) λb s2 ⟨H2,I2,q2⟩=>?_);cases b with
 | true=>
  obtain⟨N,hN,q2⟩:=q2;rw[c9 rfl];refine gy hp (sr (hb Wp s2 σ1 H2 _ I2 q2) λf s3 q3=>?_);cases f with
  | next=>obtain⟨σ3,H3,I3,n3⟩:=q3;obtain⟨m',hm,w3⟩:=hN σ3 H3 n3;exact⟨m',hm,σ3,H3,I3,w3⟩
  | cont=>obtain⟨σ3,H3,I3,n3⟩:=q3;obtain⟨m',hm,w3⟩:=hN σ3 H3 n3;exact⟨m',hm,σ3,H3,I3,w3⟩
  | brk=>exact q3
  | ret v=>exact q3
 | false=>rw[cY dw];exact gS ⟨σ1,H2,I2,q2⟩
structure It where
 go:Nat->Hp->Prop
 oM:Nat->Hp->V->Hp->Prop
 stop:Nat->Hp->Prop
def AA(X:Cx)(Wp:QQY)(H:Hp)(b:Addr):Prop:=
 H b=none/\b≠X.env.locals/\b∉X.fs/\(b∈X.ex\/X.s₀.heap.objs.size<=b)/\(∀x c,X.env.cells.lookup x=some c->c≠b)/\∀p∈X.pn++Wp,p.1≠b
def Inv.nV{X:Cx}{Wp:QQY}{σ:St}{H H':Hp}{s:Sd}{b:Addr}(I:Inv X Wp σ H s)(hb:s.heap.objs.size<=b)(hn:H' b=none):AA X Wp H' b:=by
 refine⟨hn,gL (dI I.lt hb),I.oJ hb,.inr (dW I.sz hb),λx c e z=>?_,λp hp z=>?_⟩
 .obtain⟨v,q⟩:=I.cell x c e;exact absurd (dI q.lt (by rw[z];exact hb)) (eZ _)
 .exact absurd (dI (dz (I.pin p hp).1) (by rw[z];exact hb)) (eZ _)
structure FD(P:Pg)(w:Wo)(K:ql)(tg:Expr)(J:It)(fp:QXQ)(it:Addr)(tn:Nat->Heap->Prop):Prop where
 mem:it∈fp
 obj:∀i h,tn i h->∀b∈fp,∃o,h.get? b=some o/\∀v,o.data≠.cell v
 keep:∀i h h',tn i h->(∀b∈fp,∀o,h.get? b=some o->h'.get? b=some o)->tn i h'
 item:∀(X:Cx),X.prog=P->X.w=w->X.K=K->X.calm=true->∀(i:Nat) (Wp:QQY) (s:Sd) (σ:St) (H:Hp) (E:QQX),Inv X Wp σ H s->(∀b∈fp,AA X Wp H b)->tn i s.heap->J.go i H->
  wpAny (model P w) X.A (pyNext (.ref it)) (λr s1=>∃u,r=some u/\
   wpAny (model P w) X.A (letOwnedTupleGo tg (.ref it) u) (λ_ s2=>∃x H',Inv X Wp σ H' s2/\qG x u/\J.oM i H x H'/\tn (i+1) s2.heap/\∀b∈fp,H' b=none) E s1) E s
 done:∀(X:Cx),X.prog=P->X.w=w->X.K=K->X.calm=true->∀(i:Nat) (Wp:QQY) (s:Sd) (σ:St) (H:Hp) (E:QQX),Inv X Wp σ H s->(∀b∈fp,AA X Wp H b)->tn i s.heap->J.stop i H->
  wpAny (model P w) X.A (pyNext (.ref it)) (λr s1=>r=none/\Inv X Wp σ H s1) E s
 self:∀(A:Ar) (i:Nat) (s:Sd) (Q:QQX) (E:QQX),tn i s.heap->Q (.ref it) s->wpAny (model P w) A (pyIter (.ref it)) Q E s
abbrev TI:=St->Hp->(It->Hp->Prop)->Prop
def VW(X:Cx)(Wp:QQY)(σ:St)(tg:Expr)(R:It->Hp->Prop)(itv:Vl)(s2:Sd):Prop:=
 ∃(it:Addr) (fp:QXQ) (tn:Nat->Heap->Prop) (J:It) (H':Hp),itv=.ref it/\Inv X Wp σ H' s2/\FD X.prog X.w X.K tg J fp it tn/\tn 0 s2.heap/\(∀b∈fp,AA X Wp H' b)/\R J H'
def PI(X:Cx)(tg iter:Expr)(wi:TI):Prop:=
 ∀(Wp:QQY) (s:Sd) (σ:St) (H:Hp) (R:It->Hp->Prop),Inv X Wp σ H s->wi σ H R->
  wpAny (model X.prog X.w) X.A (eval iter X.env) (λv s1=>wpAny (model X.prog X.w) X.A (pyIter v) (VW X Wp σ tg R) X.xe s1) X.xe s
def Iw{M:Model}{A:Ar}{E:QQX}{s:Sd}{tg:Expr}{it:Addr}{u:Vl}{o:Obj}{n:String}{vs:Array Vl}{Q:Unit->Sd->Prop}(ho:s.heap.get? it=some o)(hc:o.cls=.type n)(hd:o.data=.fields vs) (hn:["enumerate","zip","dict_itemiterator","dict_reverseitemiterator","odict_iterator","itertools.zip_longest","itertools.pairwise"].contains n=false) (hQ:Q () s):wpAny M A (letOwnedTupleGo tg (.ref it) u) Q E s:=by
  unfold letOwnedTupleGo;cases tg<;>first
    | exact de hQ
    | (cases u<;>first
        | exact de hQ
        | (refine cU (wpAny_load ho ?_)
           rw[hc,hd];show wpAny M A (if (["enumerate","zip","dict_itemiterator","dict_reverseitemiterator","odict_iterator","itertools.zip_longest","itertools.pairwise"].contains n&&vs[0]?==some (rawInt _))=true then _ else _) Q E s;rw[cY (by intro h;rw[hn,eV]at h;cases h)];exact de hQ))
def UD(K:ql)(a:Addr):It:=
 ⟨λi H=>∃xs x,yS K H a xs/\xs[i]?=some x,λi H x H'=>H'=H/\∀xs,yS K H a xs->xs[i]?=some x,λi H=>∃xs,yS K H a xs/\xs.length<=i⟩
def VH(K:ql)(a:Addr):It:=
 ⟨λi H=>∃xs x,uQ K H a xs/\xs[i]?=some x,λi H x H'=>H'=H/\∀xs,uQ K H a xs->xs[i]?=some x,λi H=>∃xs,uQ K H a xs/\xs.length<=i⟩
def Uy(lo:Int)(n:Nat):It:=⟨λi _=>i<n,λi H x H'=>H'=H/\x=.int (lo+i),λi _=>n<=i⟩
def Jd{P:Pg}{w:Wo}{K:ql}{tg:Expr}(a it:Addr):FD P w K tg (UD K a) [it] it (λi h=>h.IsListIter it a i) where
 mem:=by simp
 obj:=λi h st b hb=>by
  have e:b=it:=by simpa using hb
  subst e;obtain⟨o,e,c,d⟩:=st;exact⟨o,e,λv z=>by rw[d]at z;cases z⟩
 keep:=λi h h' st k=>st.at λo e=>k it (by simp) o e
 item:=by intro X hP hw hK hc i Wp s σ H E I hf st hg;subst hP hw hK;obtain⟨xs,x,hq,hx⟩:=hg;obtain⟨its,rv,p,hz⟩:=I.list hq;obtain⟨u,hu,ru⟩:=rv.get hx;obtain⟨f0,f1,f2,f3,f4,f5⟩:=hf it (by simp);refine jW st p.isList (x:=u) (by simpa using hu) λh' XG sb=>?_;have I1:Inv X Wp σ H {s with heap:=h'}:=I.turned (t':=s.toks) (λb o hb e=>(sb.2 b hb).trans e) f0 f1 f3 f4 f5;obtain⟨o,e,c,d⟩:=id XG;exact⟨u,rfl,Iw (s:={s with heap:=h'}) e c d (by decide) ⟨x,H,I1,ru,⟨rfl,λys hy=>by rw[I.nP hy hq];exact hx⟩,XG,λb hb=>(hf b hb).1⟩⟩
 done:=by intro X hP hw hK hc i Wp s σ H E I hf st hg;subst hP hw hK;obtain⟨xs,hq,hx⟩:=hg;obtain⟨its,rv,p,hz⟩:=I.list hq;obtain⟨f0,f1,f2,f3,f4,f5⟩:=hf it (by simp);have hl:=rv.length;exact j5 (I.ok.hd hc) st p.isList (by simp;omega) λh' eb=>⟨rfl,I.turned (t':=s.toks) (λb o hb e=>eb b o hb e) f0 f1 f3 f4 f5⟩
 self:=λ_ _ _ _ _ st h=>wpAny_pyIter_listiter st h
def GY{P:Pg}{w:Wo}{K:ql}{tg:Expr}(a it:Addr):FD P w K tg (VH K a) [it] it (λi h=>h.IsTupleIter it a i) where
 mem:=by simp
 obj:=λi h st b hb=>by
  have e:b=it:=by simpa using hb
  subst e;obtain⟨o,e,c,d⟩:=st;exact⟨o,e,λv z=>by rw[d]at z;cases z⟩
 keep:=λi h h' st k=>st.at λo e=>k it (by simp) o e
 item:=by intro X hP hw hK hc i Wp s σ H E I hf st hg;subst hP hw hK;obtain⟨xs,x,hq,hx⟩:=hg;obtain⟨its,rv,p,hz⟩:=I.tuple hq;obtain⟨u,hu,ru⟩:=rv.get hx;obtain⟨f0,f1,f2,f3,f4,f5⟩:=hf it (by simp);refine wpAny_pyNext_tuple_item st (show s.heap.IsTuple a its.toArray from p) (x:=u) (by simpa using hu) λh' XG sb=>?_;have I1:Inv X Wp σ H {s with heap:=h'}:=I.turned (t':=s.toks) (λb o hb e=>(sb.2 b hb).trans e) f0 f1 f3 f4 f5;obtain⟨o,e,c,d⟩:=id XG;exact⟨u,rfl,Iw (s:={s with heap:=h'}) e c d (by decide) ⟨x,H,I1,ru,⟨rfl,λys hy=>by rw[I.ni hy hq];exact hx⟩,XG,λb hb=>(hf b hb).1⟩⟩
 done:=by intro X hP hw hK hc i Wp s σ H E I hf st hg;subst hP hw hK;obtain⟨xs,hq,hx⟩:=hg;obtain⟨its,rv,p,hz⟩:=I.tuple hq;obtain⟨f0,f1,f2,f3,f4,f5⟩:=hf it (by simp);have hl:=rv.length;exact wpAny_pyNext_tuple_end (I.ok.hd hc) st (show s.heap.IsTuple a its.toArray from p) (by simp;omega) λh' eb=>⟨rfl,I.turned (t':=s.toks) (λb o hb e=>eb b o hb e) f0 f1 f3 f4 f5⟩
 self:=λ_ _ _ _ _ st h=>wpAny_pyIter_tupleiter st h
def GL{P:Pg}{w:Wo}{K:ql}{tg:Expr}(it:Addr)(lo:Int)(n:Nat):FD P w K tg (Uy lo n) [it] it (λi h=>IsRangeIter h it (lo+(i:Nat)*1) ((n:Int) - (i:Nat)) 1) where
 mem:=by simp
 obj:=λi h st b hb=>by
  have e:b=it:=by simpa using hb
  subst e;exact⟨_,st,λv z=>by
   have z':Data.fields _=Data.cell v:=z;cases z'⟩
 keep:=λi h h' st k=>k it (by simp) _ st
 item:=by intro X hP hw hK hc i Wp s σ H E I hf st hg;subst hP hw hK;obtain⟨f0,f1,f2,f3,f4,f5⟩:=hf it (by simp);have W:=Walks.range (prog:=X.prog) (w:=X.w) (I.ok.hd hc) it lo 1 n;refine W.item i s _ _ hg st λv h' tk hv XG kk=>?_;obtain⟨t,rfl⟩:=hv;have I1:Inv X Wp σ H {s with heap:=h',toks:=tk}:=I.turned (λb o hb e=>kk b o (by simpa using hb) e) f0 f1 f3 f4 f5;refine⟨_,rfl,Iw (s:={s with heap:=h',toks:=tk}) (n:="range_iterator") XG rfl rfl (by decide) ⟨.int (lo+i),H,I1,⟨t,?_⟩,⟨rfl,rfl⟩,XG,λb hb=>(hf b hb).1⟩⟩;rw[Int.mul_one]
 done:=by intro X hP hw hK hc i Wp s σ H E I hf st hg;subst hP hw hK;obtain⟨f0,f1,f2,f3,f4,f5⟩:=hf it (by simp);exact wpAny_pyNext_range_end (I.ok.hd hc) st (by have:n<=i:=hg;omega) λh' eb=>⟨rfl,I.turned (t':=s.toks) (λb o hb e=>eb b o hb e) f0 f1 f3 f4 f5⟩
 self:=λ_ _ _ _ _ st h=>wpAny_pyIter_rangeiter st h
variable {tg:Expr}
def LK{Wp:QQY}{σ:St}{H:Hp}{s:Sd}{R:It->Hp->Prop}{E:QQX}{lo hi:Int}{t u v:Tok}{tk:Nat}(I:Inv X Wp σ H s)(h1:-(2 ^ 62)<=lo)(h2:lo<2 ^ 62)(h3:-(2 ^ 62)<=hi)(h4:hi<2 ^ 62) (q:R (Uy lo (hi - lo).toNat) H):wpAny (model X.prog X.w) X.A (pyIter (.ref s.heap.objs.size)) (VW X Wp σ tg R) E {s with heap:=s.heap.push {cls:=.type "range",data:=.fields #[.int lo t,.int hi u,.int 1 v]},toks:=tk}:=by
 refine wpAny_pyIter_range (IsRange.new ..) (small_one h1 h2 h3 h4) ?_;have I1:Inv X Wp σ H {s with heap:=s.heap.push {cls:=.type "range",data:=.fields #[.int lo t,.int hi u,.int 1 v]},toks:=tk}:=I.kept λb o e=>cZ _ e;refine⟨(s.heap.push {cls:=.type "range",data:=.fields #[.int lo t,.int hi u,.int 1 v]}).objs.size,[(s.heap.push {cls:=.type "range",data:=.fields #[.int lo t,.int hi u,.int 1 v]}).objs.size],_,_,H,rfl,I1.kept (t':=tk) λb o e=>cZ _ e,GL _ lo (hi - lo).toNat,?_,λb hb=>?_,q⟩
 .have e1:lo+((0:Nat):Int)*1=lo:=by simp
  have e2:(((hi - lo).toNat:Nat):Int) - ((0:Nat):Int)=Builtin.Range.rangeSize lo hi 1:=by rw[rangeSize_one];split<;>omega
  show IsRangeIter _ _ (lo+((0:Nat):Int)*1) ((((hi - lo).toNat:Nat):Int) - ((0:Nat):Int)) 1;rw[e1,e2];exact dE _ rfl
 .have e:b=(s.heap.push {cls:=.type "range",data:=.fields #[.int lo t,.int hi u,.int 1 v]}).objs.size:=by simpa using hb
  subst e;exact I1.nV (dg _) (I1.mR.fresh (dg _))
def Ui(ta:TA):TI:=λσ H R=>ta σ H λvs H1=>∃j:Int,vs=[.int j]/\-(2 ^ 62)<=j/\j<2 ^ 62/\R (Uy 0 j.toNat) H1
def JL{a:Expr}{ta:TA}{p pos:Pos}(hg:Gl X "range")(hm:X.mg "range"=none)(ha:PA X [a] ta)(hs:starEach [a] X.env=[(false,eval a X.env)]:=by rfl):PI X tg (.Call (.Name "range" p) [a] [] pos) (Ui ta):=by
 intro Wp s σ H R I h;refine Call_ (xE I hg hm boot_range (fR (sr (ha pos Wp s σ H _ I h) λus s1 zz=>x5 zz λvs H1 I1 r1 q1=>?_) hs rfl));obtain⟨j,e,q1,q2,q⟩:=q1;subst e;cases r1 with
 | cons r rr=>cases rr;obtain⟨t,rfl⟩:=r;exact call_range_1 (LK I1 (by omega) (by omega) q1 q2 (by simpa using q))
def VF(wi:TI)(g:TG)(tb:TS):TS:=λD σ H=>wi σ H λJ H1=>∃W:Nat->Nat->St->Hp->Prop,(∃m,W 0 m σ H1)/\∀i m σ H,W i m σ H->
 (J.stop i H/\D.nx σ H)\/(J.go i H/\∃N:St->Hp->Prop,(∀σ' H',N σ' H'->∃m',m'<m/\W (i+1) m' σ' H')/\∀x H',J.oM i H x H'->g x σ H' λσ2 H2=>tb {D with nx:=N,ct:=N,bk:=D.nx} σ2 H2)
def Bm(fp:QXQ)(h:Heap):QQY:=fp.filterMap λb=>(h.get? b).map λo=>(b,o)
def ve{fp:QXQ}{h:Heap}{b:Addr}{o:Obj}(hb:b∈fp)(e:h.get? b=some o):(b,o)∈Bm fp h:=kS.mpr ⟨b,hb,by rw[e];rfl⟩
def Kb{fp:QXQ}{h:Heap}{p:Addr×Obj}(hp:p∈Bm fp h):p.1∈fp/\h.get? p.1=some p.2:=by
 obtain⟨b,hb,e⟩:=kS.mp hp;cases q:h.get? b with
 | none=>rw[q]at e;cases e
 | some o=>rw[q]at e;have e':(b,o)=p:=dh e;subst e';exact⟨hb,q⟩
def Inv.pinned{Wp:QQY}{σ:St}{H:Hp}{s:Sd}{fp:QXQ}(I:Inv X Wp σ H s)(hf:∀b∈fp,AA X Wp H b)(ho:∀b∈fp,∃o,s.heap.get? b=some o/\∀v,o.data≠.cell v):Inv X (Wp++Bm fp s.heap) σ H s:=
 I.nL λp hp=>(dX.mp hp).elim (λz=>I.pin p (eF _ z)) λz=>by obtain⟨hb,e⟩:=Kb z;obtain⟨f0,f1,f2,_⟩:=hf p.1 hb;obtain⟨o,e',d⟩:=ho p.1 hb;rw[e]at e';cases e';exact⟨e,f0,f1,f2,d⟩
def Inv.mY{Wp pl:QQY}{σ:St}{H:Hp}{s:Sd}(I:Inv X (Wp++pl) σ H s):Inv X Wp σ H s:=I.nL λp hp=>I.pin p (eF _ (fB _ hp))
def QV{iter:Expr}{body:List Stmt}{wi:TI}{g:TG}{tb:TS}{pos:Pos}(hp:PassesOwn (model X.prog X.w) X.A X.env X.xe)(hc:X.calm=true)(hi:PI X tg iter wi)(hg:PG X tg g)(hb:Cj X body tb) (hs:∀x,foldedSetIterable iter X.env x=pure x:=by intro _;rfl):PS X (.For tg iter body [] pos) (VF wi g tb):=by
 intro Wp s σ H D I h;refine wpAny_For (sr (hi Wp s σ H _ I h) λv s1 h1=>sr h1 λitv s2 h2=>?_) hs;obtain⟨it,fp,tn,J,H2,e,I2,T,WP,f2,W,⟨m0,w0⟩,turn⟩:=h2;subst e;have XA:∀{H':Hp},(∀b∈fp,H' b=none)->∀b∈fp,AA X Wp H' b:=λhn b hb=>⟨hn b hb,(f2 b hb).2⟩;refine codeAny_forLoop_any (λn s'=>∃i σ' H',Inv X Wp σ' H' s'/\tn i s'.heap/\(∀b∈fp,H' b=none)/\W i n σ' H') ?_ m0 ⟨0,σ,H2,I2,WP,λb hb=>(f2 b hb).1,w0⟩
 rintro n s3 ⟨i,σ3,H3,I3,Xj,fr3,w3⟩
 rcases turn i n σ3 H3 w3 with⟨stop,qn⟩|⟨go,N,hN,step⟩
 .refine gy hp (sr (T.done X rfl rfl rfl hc i Wp s3 σ3 H3 X.xe I3 (XA fr3) Xj stop) λr s4 ⟨hr,I4⟩=>?_);subst hr;exact gS ⟨σ3,H3,I4,qn⟩
 .refine gy hp (sr (T.item X rfl rfl rfl hc i Wp s3 σ3 H3 X.xe I3 (XA fr3) Xj go) λr s4 ⟨u,hr,h4⟩=>?_);subst hr;refine gy hp (sr h4 λ_ s5 zz=>?_);obtain⟨x,H5,I5,r5,y5,YT,fr5⟩:=zz;have I5':=I5.pinned (XA fr5) (T.obj _ _ YT);refine gy hp (sr (hg _ s5 σ3 H5 x u _ I5' r5 (step x H5 y5)) λ_ s6 ⟨σ6,H6,I6,q6⟩=>?_);refine gy hp (sr (hb _ s6 σ6 H6 _ I6 q6) λf s7 q7=>?_);have again:∀{σ7:St} {H7:Hp},Inv X (Wp++Bm fp s5.heap) σ7 H7 s7->N σ7 H7->∃m,m<n/\∃i σ' H',Inv X Wp σ' H' s7/\tn i s7.heap/\(∀b∈fp,H' b=none)/\W i m σ' H':=λ{σ7 H7} I7 n7=>by obtain⟨m',hm,w7⟩:=hN σ7 H7 n7;refine⟨m',hm,i+1,σ7,H7,I7.mY,T.keep _ _ _ YT λb hb o e=>(I7.pin (b,o) (eF _ (eF _ (ve hb e)))).1,λb hb=>?_,w7⟩;obtain⟨o,e,d⟩:=T.obj _ _ YT b hb;exact(I7.pin (b,o) (eF _ (eF _ (ve hb e)))).2.1
  cases f with
  | next=>obtain⟨σ7,H7,I7,n7⟩:=q7;exact again I7 n7
  | cont=>obtain⟨σ7,H7,I7,n7⟩:=q7;exact again I7 n7
  | brk=>obtain⟨σ7,H7,I7,q7⟩:=q7;exact⟨σ7,H7,I7.mY,q7⟩
  | ret v=>obtain⟨x7,σ7,H7,I7,r7,q7⟩:=q7;exact⟨x7,σ7,H7,I7.mY,r7,q7⟩
abbrev R2:=V->V->Hp->VK->Prop
def xO(X:Cx)(f:Vl->Vl->Sem Vl)(r:R2):Prop:=
 ∀(Wp:QQY) (s:Sd) (σ:St) (H:Hp) (x y:V) (v u:Vl) (Q:VK),Inv X Wp σ H s->qG x v->qG y u->r x y H Q->
  wpAny (model X.prog X.w) X.A (f v u) (EP X Wp σ Q) X.xe s
def VG(X:Cx)(f:Vl->Sem Vl)(r:V->Hp->VK->Prop):Prop:=
 ∀(Wp:QQY) (s:Sd) (σ:St) (H:Hp) (x:V) (v:Vl) (Q:VK),Inv X Wp σ H s->qG x v->r x H Q->
  wpAny (model X.prog X.w) X.A (f v) (EP X Wp σ Q) X.xe s
def zF(X:Cx)(f:Vl)(r:List V->Hp->VK->Prop):Prop:=
 ∀(Wp:QQY) (s:Sd) (σ:St) (H:Hp) (xs:List V) (us:List Vl) (Q:VK),Inv X Wp σ H s->qA xs us->r xs H Q->
  wpAny (model X.prog X.w) X.A (call f us) (EP X Wp σ Q) X.xe s
def SM(r:R2)(ta tb:TE):TE:=λσ H Q=>ta σ H λx H1=>tb σ H1 λy H2=>r x y H2 Q
def V8(r:V->Hp->VK->Prop)(ta:TE):TE:=λσ H Q=>ta σ H λx H1=>r x H1 Q
def rI(C:Int->Int->Prop)(g:Int->Int->V):R2:=λx y H Q=>∃i j,x=.int i/\y=.int j/\C i j/\Q (g i j) H
def Qp(g:Int->Int->V):R2:=λx y H Q=>∃i j,x=.int i/\y=.int j/\Q (g i j) H
def rU(g:Int->V):V->Hp->VK->Prop:=λx H Q=>∃i,x=.int i/\Q (g i) H
variable {tc:TE}
section
variable {a b c:Expr}
def RZ(ha:PE X a ta)(hb:PE X b tb){Wp:QQY}{s:Sd}{σ:St}{H:Hp}{R:V->V->Hp->Prop}(I:Inv X Wp σ H s) (h:ta σ H λx H1=>tb σ H1 λy H2=>R x y H2) {Q:QQX} {f:Vl->Vl->Sem Vl} (hf:∀v u s2 x y H2,Inv X Wp σ H2 s2->qG x v->qG y u->R x y H2->wpAny (model X.prog X.w) X.A (f v u) Q X.xe s2):
  wpAny (model X.prog X.w) X.A (eval a X.env) (λv s₁=>wpAny (model X.prog X.w) X.A (eval b X.env) (λu s₂=>wpAny (model X.prog X.w) X.A (f v u) Q X.xe s₂) X.xe s₁) X.xe s:=by
 refine sr (ha Wp s σ H _ I h) λv s1 zz=>x5 zz λx H1 I1 r1 q1=>?_;refine sr (hb Wp s1 σ H1 _ I1 q1) λu s2 zz=>x5 zz λy H2 I2 r2 q2=>?_;exact hf v u s2 x y H2 I2 r1 r2 q2
def Qa{op:Operator}{r:R2}(ho:xO X (binaryOp op) r)(ha:PE X a ta)(hb:PE X b tb):PE X (.BinOp a op b pos) (SM r ta tb):=by intro Wp s σ H Q I h;exact wpAny_BinOp (RZ ha hb I h λv u s2 x y H2 I2 rx ry q=>ho Wp s2 σ H2 x y v u Q I2 rx ry q)
def Us{op:UnaryOp}{r:V->Hp->VK->Prop}(ho:VG X (unaryOp op) r)(ha:PE X a ta):PE X (.UnaryOp op a pos) (V8 r ta):=by intro Wp s σ H Q I h;exact UnaryOp_ (sr (ha Wp s σ H _ I h) λv s1 zz=>x5 zz λx H1 I1 r1 q1=>ho Wp s1 σ H1 x v Q I1 r1 q1)
def UX{f:Vl->Vl->Sem Vl}{C:Int->Int->Prop}{g:Int->Int->Int} (rule:∀(i j:Int) (t u:Tok) (s:Sd) (Q:QQX) (E:QQX),C i j->Q (.int (g i j) s.toks) {s with toks:=s.toks+1}->wpAny (model X.prog X.w) X.A (f (.int i t) (.int j u)) Q E s):
  xO X f (rI C λi j=>.int (g i j)):=by
 intro Wp s σ H x y v u Q I rx ry h;obtain⟨i,j,rfl,rfl,hc,q⟩:=h;obtain⟨t,rfl⟩:=rx;obtain⟨t',rfl⟩:=ry;exact rule i j t t' s _ _ hc ⟨.int (g i j),H,I.tok _,⟨_,rfl⟩,q⟩
def Th{f:Vl->Vl->Sem Vl}{g:Int->Int->Int} (rule:∀(i j:Int) (t u:Tok) (s:Sd) (Q:QQX) (E:QQX),Q (.int (g i j) s.toks) {s with toks:=s.toks+1}->wpAny (model X.prog X.w) X.A (f (.int i t) (.int j u)) Q E s):
  xO X f (Qp λi j=>.int (g i j)):=by
 intro Wp s σ H x y v u Q I rx ry h;obtain⟨i,j,rfl,rfl,q⟩:=h;obtain⟨t,rfl⟩:=rx;obtain⟨t',rfl⟩:=ry;exact rule i j t t' s _ _ ⟨.int (g i j),H,I.tok _,⟨_,rfl⟩,q⟩
def OU{f:Vl->Vl->Sem Vl}{g:Int->Int->Bool} (rule:∀(i j:Int) (t u:Tok) (s:Sd) (Q:QQX) (E:QQX),Q (.bool (g i j)) s->wpAny (model X.prog X.w) X.A (f (.int i t) (.int j u)) Q E s):
  xO X f (Qp λi j=>.bl (g i j)):=by
 intro Wp s σ H x y v u Q I rx ry h;obtain⟨i,j,rfl,rfl,q⟩:=h;obtain⟨t,rfl⟩:=rx;obtain⟨t',rfl⟩:=ry;exact rule i j t t' s _ _ ⟨.bl (g i j),H,I,rfl,q⟩
def Uw(i j:Int):Prop:=0<j/\j<1073741824
def CT(i j:Int):Prop:=(-(2 ^ 64)<i/\i<2 ^ 64)\/(-(2 ^ 64)<j/\j<2 ^ 64)
def CT.ok{i j:Int}(h:CT i j):IntMulOk i j:=by
 rcases h with⟨h1,h2⟩|⟨h1,h2⟩
 .exact .of_left (intBits_le_64 h1 h2)
 .exact .of_right (intBits_le_64 h1 h2)
def Q3:xO X (binaryOp .Add) (Qp λi j=>.int (i+j)):=Th λ_ _ _ _ _ _ _ q=>add_int q
def So:xO X (binaryOp .Sub) (Qp λi j=>.int (i - j)):=Th λ_ _ _ _ _ _ _ q=>sub_int q
def Ry:xO X (binaryOp .Mult) (rI CT λi j=>.int (i*j)):=UX λ_ _ _ _ _ _ _ hc q=>mul_int q hc.ok
def Ox:xO X (binaryOp .FloorDiv) (rI Uw λi j=>.int (i / j)):=UX λi j _ _ _ _ _ hc q=>by have h1:(0:Int)<j:=hc.1;have h2:j<1073741824:=hc.2;exact floordiv_int (by omega) (by rw[Int.fdiv_eq_ediv_of_nonneg i (by omega)];exact q) (.inl (PyProof.noPylong_small (by omega)))
def QG:xO X (binaryOp .Mod) (rI (λ_ j=>0<j) λi j=>.int (i % j)):=UX λi j _ _ _ _ _ hc q=>by have h1:(0:Int)<j:=hc;exact mod_int' (by omega) (by rw[Int.fmod_eq_emod_of_nonneg i (by omega)];exact q)
def Wg{f:Vl->Sem Vl}{g:Int->Int} (rule:∀(i:Int) (t:Tok) (s:Sd) (Q:QQX) (E:QQX),Q (.int (g i) s.toks) {s with toks:=s.toks+1}->wpAny (model X.prog X.w) X.A (f (.int i t)) Q E s):
  VG X f (rU λi=>.int (g i)):=by
 intro Wp s σ H x v Q I rx h;obtain⟨i,rfl,q⟩:=h;obtain⟨t,rfl⟩:=rx;exact rule i t s _ _ ⟨.int (g i),H,I.tok _,⟨_,rfl⟩,q⟩
def QZ:VG X (unaryOp .USub) (rU λi=>.int (-i)):=Wg λ_ _ _ _ _ q=>neg_int q
end
section
variable {a b c:Expr}
def Hr{Wp:QQY}{σ:St}{H:Hp}{s:Sd}{Q:VK}{k k':Bool}(I:Inv X Wp σ H s)(q:Q (.bl k) H)(e:k=k'):EP X Wp σ Q (.bool k') s:=by subst e;exact⟨.bl k,H,I,rfl,q⟩
def SX:xO X (compareOp .Lt) (Qp λi j=>.bl (decide (i<j))):=OU λ_ _ _ _ _ _ _ q=>lt_int q
def TH:xO X (compareOp .LtE) (Qp λi j=>.bl (decide (i<=j))):=OU λ_ _ _ _ _ _ _ q=>le_int q
def S9:xO X (compareOp .Gt) (Qp λi j=>.bl (decide (j<i))):=OU λ_ _ _ _ _ _ _ q=>gt_int q
def Ur:xO X (compareOp .GtE) (Qp λi j=>.bl (decide (j<=i))):=OU λ_ _ _ _ _ _ _ q=>ge_int q
def Jm:xO X (compareOp .In) (λx y H Q=>∃i j,x=.str i/\y=.str j/\Q (.bl (!(Builtin.Str.occurrences j i 0 j.length 1).isEmpty)) H):=by intro Wp s σ H x y v u Q I rx ry h;obtain⟨i,j,rfl,rfl,q⟩:=h;obtain⟨t,rfl⟩:=rx;obtain⟨t',rfl⟩:=ry;exact in_str (Hr I q rfl)
def Sg:xO X (compareOp .Is) (λx y H Q=>y=.mM/\Q (.bl (decide (x=.mM))) H):=by
 intro Wp s σ H x y v u Q I rx ry h;obtain⟨rfl,q⟩:=h;cases ry;refine is_none_gen (Hr I q ?_);cases x<;>first
  | (cases rx;rfl)
  | (obtain⟨t,rfl⟩:=rx;rfl)
def O4:xO X (compareOp .IsNot) (λx y H Q=>y=.mM/\Q (.bl (!decide (x=.mM))) H):=by
 intro Wp s σ H x y v u Q I rx ry h;obtain⟨rfl,q⟩:=h;cases ry;refine isnot_none_gen (Hr I q ?_);cases x<;>first
  | (cases rx;rfl)
  | (obtain⟨t,rfl⟩:=rx;rfl)
def G4(b:Expr){op:CmpOp}(h:op≠.In:=by decide)(h2:op≠.NotIn:=by decide):behindInMarks op b=false:=by
 have e1:(op==CmpOp.In)=false:=by cases op<;>first|rfl|exact absurd rfl h
 have e2:(op==CmpOp.NotIn)=false:=by cases op<;>first|rfl|exact absurd rfl h2
 cases b<;>simp[behindInMarks,e1,e2]
def IT{op:CmpOp}{r:R2}(ho:xO X (compareOp op) r)(ha:PE X a ta)(hb:PE X b tb)(hm:behindInMarks op b=false):PE X (.Compare a [op] [b] pos) (SM r ta tb):=by intro Wp s σ H Q I h;exact wpAny_Compare1 (RZ ha hb I h λv u s2 x y H2 I2 rx ry q=>ho Wp s2 σ H2 x y v u Q I2 rx ry q) hm
def Qk(t:TE):TT:=λσ H Q=>t σ H λx H'=>∃k,x=.bl k/\Q k H'
def HP{op:CmpOp}{r:R2}(ho:xO X (compareOp op) r)(ha:PE X a ta)(hb:PE X b tb)(hm:behindInMarks op b=false):PT X (.Compare a [op] [b] pos) (Qk (SM r ta tb)):=by
 intro Wp s σ H Q I h;refine wpAny_isTrue_Compare1 (sr (ha Wp s σ H _ I h) λv s1 zz=>x5 zz λx H1 I1 r1 q1=>sr (hb Wp s1 σ H1 _ I1 q1) λu s2 zz=>x5 zz λy H2 I2 r2 q2=>
  sr (ho Wp s2 σ H2 x y v u _ I2 r1 r2 q2) λc s3 zz=>?_) hm
 obtain⟨z,H3,I3,r3,k,e,q3⟩:=zz;subst e;cases r3;exact fh ⟨H3,I3,q3⟩
def KO(r r':R2)(ta tb tc:TE):TE:=λσ H Q=>ta σ H λx H1=>tb σ H1 λy H2=>r x y H2 λz H3=>∃k,z=.bl k/\
 (if k=true then tc σ H3 λw' H4=>r' y w' H4 Q else Q (.bl false) H3)
def K9{op Xg:CmpOp}{r r':R2}(ho:xO X (compareOp op) r)(W5:xO X (compareOp Xg) r')(ha:PE X a ta)(hb:PE X b tb)(hc:PE X c tc) (hm:lastMarks [op,Xg] [b,c]=false:=by with_unfolding_all rfl):PE X (.Compare a [op,Xg] [b,c] pos) (KO r r' ta tb tc):=by
 intro Wp s σ H Q I h;refine Compare_chain (sr (ha Wp s σ H _ I h) λv s1 zz=>x5 zz λx H1 I1 r1 q1=>chain_link (sr (hb Wp s1 σ H1 _ I1 q1) λu s2 zz=>x5 zz λy H2 I2 r2 q2=>
  sr (ho Wp s2 σ H2 x y v u _ I2 r1 r2 q2) λd s3 zz=>?_)) hm
 obtain⟨z,H3,I3,r3,k,e,q3⟩:=zz;subst e;cases r3;refine fh ?_;cases k with
 | false=>exact ite_ff ⟨.bl false,H3,I3,rfl,q3⟩
 | true=>exact ite_tt (chain_last (sr (hc Wp s3 σ H3 _ I3 q3) λw' s4 zz=>x5 zz λz' H4 I4 r4 q4=>W5 Wp s4 σ H4 y z' u w' Q I4 r2 r4 q4))
def Ld{op Xg:CmpOp}{r r':R2}(ho:xO X (compareOp op) r)(W5:xO X (compareOp Xg) r')(ha:PE X a ta)(hb:PE X b tb)(hc:PE X c tc) (hm:lastMarks [op,Xg] [b,c]=false:=by with_unfolding_all rfl):PT X (.Compare a [op,Xg] [b,c] pos) (Qk (KO r r' ta tb tc)):=by
 intro Wp s σ H Q I h;refine isTrue_chain (sr (ha Wp s σ H _ I h) λv s1 zz=>x5 zz λx H1 I1 r1 q1=>test_link (sr (hb Wp s1 σ H1 _ I1 q1) λu s2 zz=>x5 zz λy H2 I2 r2 q2=>
  sr (ho Wp s2 σ H2 x y v u _ I2 r1 r2 q2) λd s3 zz=>?_)) hm
 obtain⟨z,H3,I3,r3,k,e,q3⟩:=zz;subst e;cases r3;refine fh ?_;cases k with
 | false=>obtain⟨k',e',q'⟩:=q3;cases e';exact ite_ff ⟨H3,I3,q'⟩
 | true=>refine ite_tt (test_last (sr (hc Wp s3 σ H3 _ I3 q3) λw' s4 zz=>x5 zz λz' H4 I4 r4 q4=>sr (W5 Wp s4 σ H4 y z' u w' _ I4 r2 r4 q4) λd' s5 zz=>?_));obtain⟨z2,H5,I5,r5,k2,e2,q5⟩:=zz;subst e2;cases r5;exact fh ⟨H5,I5,q5⟩
def yI:(sizeLine:Nat)<2 ^ 63:=by rw[dO];decide
def GI:xO X (binaryOp .Add) (λx y H Q=>∃i j,x=.str i/\y=.str j/\i.length+j.length<=sizeLine/\Q (.str (i++j)) H):=by intro Wp s σ H x y v u Q I rx ry h;obtain⟨i,j,rfl,rfl,hz,q⟩:=h;obtain⟨t,rfl⟩:=rx;obtain⟨t',rfl⟩:=ry;exact add_str (λt' tk=>⟨.str (i++j),H,I.tok _,⟨_,rfl⟩,q⟩) hz
def xN{x:V}{us:List Vl}(r:qA [x] us):∃u,us=[u]/\qG x u:=by
 cases r with
 | cons r1 r2=>cases r2;exact⟨_,rfl,r1⟩
def Mt{x y:V}{us:List Vl}(r:qA [x,y] us):∃u w',us=[u,w']/\qG x u/\qG y w':=by
 cases r with
 | cons r1 r2=>
  cases r2 with
  | cons r3 r4=>cases r4;exact⟨_,_,rfl,r1,r3⟩
def JU(hc:X.calm=true):zF X (.builtin "min") (λxs H Q=>∃i j,xs=[.int i,.int j]/\Q (.int (if j<i then j else i)) H):=by
 intro Wp s σ H xs us Q I r h;obtain⟨i,j,rfl,q⟩:=h;obtain⟨u,w',rfl,⟨t,rfl⟩,⟨t',rfl⟩⟩:=Mt r;refine min_two_ints (I.ok.hd hc) λh' tk k=>⟨_,H,I.kept k,?_,q⟩;by_cases hj:j<i
 .rw[c9 hj,c9 hj];exact⟨_,rfl⟩
 .rw[cY hj,cY hj];exact⟨_,rfl⟩
end
structure G2(h:Heap)(x dx C:Addr)(mA:QQZ):Prop where
 obj:h.get? x=some (W.instObj C dx)
 ns:h.Ns1 dx mA
 ne:dx≠x
def JW{h:Heap}{dx:Addr}{mA:QQZ}(n:h.Ns1 dx mA):∃od,h.get? dx=some od/\∀name,W.lookIn name od=some (mA name):=by
 obtain⟨o,es,ep,ho,hd,hk,_,hm⟩:=n;refine⟨o,ho,λname=>?_⟩;have e:=hm name;unfold nsFind findBy at e;rw[<-kT]at e;unfold W.lookIn;rw[hd];dsimp only;split
 .rename_i y q;rw[q]at e;exact eP some e
 .rename_i q;rw[q]at e;have a:es.toList.any (·.refKey)=false:=by rw[lA];intro y hy;obtain⟨z,t,hkey⟩:=hk y (kh.mp hy);simp[DictEntry.refKey,hkey]
  have a':¬es.toList.any (·.refKey)=true:=by rw[a];exact dw
  rw[cY a'];exact eP some e
def G2.look{h:Heap}{x dx C:Addr}{mA:QQZ}(I:G2 h x dx C mA):∃od,W.InstAt h x (W.instObj C dx) C (some od)/\∀name,W.lookIn name od=some (mA name):=
 let⟨od,ho,hl⟩:=JW I.ns
 ⟨od,⟨I.obj,rfl,rfl,ho⟩,hl⟩
variable {prog:Pg}{A:Ar}{K:ql}{dx C:Addr}{mA:QQZ}{name:Str}
section
variable {w:Wo}{E:QQX}{x f:Addr}{v:Vl}
def OQ{Zc:Bool}{Q:QQX}(X:K.In s.heap)(I:G2 s.heap x dx C mA)(hg:W.plainGet K C name=true)(hh:W.hasDictIn K C=true) (ha:W.findIn K (.ref C) name=some none) (hv:mA name=some v) (hv':W.handedIn v=true) (h:Q v {s with toks:=s.toks+1}):
  wpAny (model prog w) A (getAttr (.ref x) name Zc) Q E s:=by
 obtain⟨od,J,hl⟩:=I.look;exact W.get_value X J (kx hg).1 (W.findObj_own hh ha rfl (by rw[hl,hv])) hv' h
def KH{pl:Sem Bool}{Q:Vl×List Vl->Sd->Prop}(X:K.In s.heap)(I:G2 s.heap x dx C mA)(hg:W.plainGet K C name=true) (hf:W.findIn K (.ref C) name=some (some (.ref f))) (ht:W.isFn K (.ref f)=true) (hv:mA name=none) (h:Q (.ref f,[.ref x]) s):
  wpAny (model prog w) A (getMethod (.ref x) name pl) Q E s:=by
 obtain⟨od,J,hl⟩:=I.look;exact W.method_fn X J (kx hg).1 (kx hg).2 hf (fi.mp ht) (by show(W.lookIn name od).map (·.isSome)=some false;rw[hl,hv];rfl) h
def NT{ns:QQQ}{Q:Unit->Sd->Prop}(X:K.In s.heap)(I:G2 s.heap x dx C mA) (hs:W.findIn K (.ref C) "__setattr__"=some (some (.builtin "object.__setattr__"))) (hp:W.plainOver K C=true) (ht:W.takerIn K C name=some none) (hh:W.hasDictIn K C=true) (hw:PySem.Within mA ns) (hsz:ns.length<=sizeLine) (h:∀h',G2 h' x dx C (λy=>if y=name then some v else mA y)->Heap.SameBut dx s.heap h'->Q () {s with heap:=h',toks:=s.toks+2}):
  wpAny (model prog w) A (setAttr (.ref x) name v) Q E s:=by
 obtain⟨od,J,hl⟩:=I.look;refine W.set_plain X J hs (W.osa_open (s:={s with toks:=s.toks+1}) (r:=none) X J hp ht λb=>?_);obtain⟨cd,hc,hd'⟩:=W.any_some hh;have hx:s.heap.get? x=some ⟨.ref C,some dx,.plain,#[]⟩:=I.obj;refine cU (de (cU (cU (wpAny_loadPart hx (cU (mv (s:={s with toks:=s.toks+1}) (ky X hc) ?_))))));rw[hd'];refine de (a:=some dx) (cU (de (cU ?_)));refine wpAny_nsSet1 (s:={s with toks:=s.toks+1}) I.ns λh' Zd X4=>?_;obtain⟨oD,esD,epD,hoD,F6,hcD⟩:=Zd.count (PySem.Within.cons name v hw);refine cU (lP hoD (by rw[F6];exact lQ (dW hcD (by rw[dZ];omega))) ?_);exact de (h _ ⟨(X4.2 _ (dJ I.ne)).trans I.obj,Zd,I.ne⟩ X4)
def L7{R:Result->Sd->Prop}{vs:List Vl}{kw:List (Str×Vl)}(X:K.In s.heap)(hm:W.makesIn K C=true) (hi:W.findIn K (.ref C) "__init__"=some (some (.ref f))) (hf:W.typeIn K (.ref f)=some (.type "function")) (h:codeAny (model prog w) (A.under (.builtin "type.__call__" ⟨.ref C::vs,kw⟩)) (.call (.ref f) ⟨.ref (s.heap.objs.size+1)::vs,kw⟩) (W.InitBack (s.heap.objs.size+1) R) {s with heap:=(s.heap.push W.emptyDict).push (W.instObj C s.heap.objs.size)}):
  codeAny (model prog w) A (.call (.ref C) ⟨vs,kw⟩) R s:=by
 obtain⟨hh,g,d,t,os⟩:=s;exact W.make_core (W.makes_of X hm) (iY X hi) (λself=>W.bind_fn X self hf) (.inl rfl) h
end
def vB(f:Str)(v:V):List (Str×V)->List (Str×V)
 | []=>[(f,v)]
 | (g,x)::r=>if g=f then(g,v)::r else(g,x)::vB f v r
theorem Aj(f g:Str)(v:V):∀fs:List (Str×V),(vB f v fs).lookup g=if g=f then some v else fs.lookup g
 | []=>by
  show List.lookup g [(f,v)]=_;by_cases h:g=f
  .have hb:(g==f)=true:=fi.mpr h;simp only[List.lookup,hb,c9 h]
  .have hb:(g==f)=false:=gp.mpr h;simp only[List.lookup,hb,cY h]
 | (k,x)::r=>by
  have ih:=Aj f g v r;rw[show vB f v ((k,x)::r)=(if k=f then(k,v)::r else(k,x)::vB f v r)from rfl];by_cases hk:k=f
  .rw[c9 hk];by_cases h:g=k
   .have hb:(g==k)=true:=fi.mpr h;simp only[List.lookup,hb,c9 (h.trans hk)]
   .have hb:(g==k)=false:=gp.mpr h;simp only[List.lookup,hb,cY (λe:g=f=>h (e.trans hk.symm))]
  .rw[cY hk];by_cases h:g=k
   .have hb:(g==k)=true:=fi.mpr h;simp only[List.lookup,hb,cY (λe:g=f=>hk (h.symm.trans e))]
   .have hb:(g==k)=false:=gp.mpr h;simp only[List.lookup,hb];exact ih
theorem zV(f:Str)(v:V):∀fs:List (Str×V),f∈(vB f v fs).map (·.1)/\∀g,g∈fs.map (·.1)->g∈(vB f v fs).map (·.1)
 | []=>⟨by simp[vB],λg h=>by simp at h⟩
 | (k,x)::r=>by
  obtain⟨i1,i2⟩:=zV f v r;rw[show vB f v ((k,x)::r)=(if k=f then(k,v)::r else(k,x)::vB f v r)from rfl];by_cases hk:k=f
  .rw[c9 hk];subst hk;exact⟨by simp,λg h=>by simpa using h⟩
  .rw[cY hk];refine⟨?_,λg h=>?_⟩
   .rw[dS];exact dD _ i1
   .rw[dS]at h ⊢;rcases df.mp h with e|e
    .exact df.mpr (.inl e)
    .exact dD _ (i2 g e)
theorem Aq(f:Str)(v:V):∀fs:List (Str×V),(vB f v fs).length<=fs.length+1
 | []=>by simp[vB]
 | (k,x)::r=>by
  have ih:=Aq f v r;rw[show vB f v ((k,x)::r)=(if k=f then(k,v)::r else(k,x)::vB f v r)from rfl];by_cases hk:k=f
  .rw[c9 hk,dZ,dZ];omega
  .rw[cY hk,dZ,dZ];omega
def yf.some_of{v:V}{o:Option Vl}(r:yf (some v) o):∃u,o=some u/\qG v u:=by
 cases o with
 | none=>exact(show False from r).elim
 | some u=>exact⟨u,rfl,r⟩
def yf.none_of{o:Option Vl}(r:yf none o):o=none:=by
 cases o with
 | none=>rfl
 | some u=>exact(show False from r).elim
def J0{v:V}{u:Vl}(r:qG v u):W.handedIn u=true:=by
 cases v with
 | mM=>cases(show u=Value.none from r);rfl
 | bl b=>cases(show u=Value.bool b from r);rfl
 | int i=>obtain⟨t,e⟩:=(show ∃t,u=Value.int i t from r);cases e;rfl
 | str x=>obtain⟨t,e⟩:=(show ∃t,u=Value.str x t from r);cases e;rfl
 | byt b=>obtain⟨t,e⟩:=(show ∃t,u=Value.bytes b t from r);cases e;rfl
 | flt b=>obtain⟨t,e⟩:=(show ∃t,u=Value.float b t from r);cases e;rfl
 | ref a=>cases(show u=Value.ref a from r);rfl
 | ty n=>cases(show u=Value.type n from r);rfl
section
variable {P:Pg}{w:Wo}{a:Addr}{fs fs':List (Str × V)}
def A8(mR:ye P w H h)(e:H a=some (.ins C dx fs)):∃mA,G2 h a dx C mA/\(∀f,yf (fs.lookup f) (mA f))/\PySem.Within mA (fs.map (·.1))/\fs.length<=1000/\H dx=some (.own a):=by obtain⟨d,z,ne,ob,mA,n,r,q⟩:=(show sf P w H h a (.ins C dx fs)from mR a _ e);exact⟨mA,⟨ob,n,ne⟩,r,q,z,d⟩
end
structure Cls(K:ql)(C:Addr):Prop where
 pg:W.plainGet K C Str.empty=true
 hd:W.hasDictIn K C=true
 po:W.plainOver K C=true
 sa:W.findIn K (.ref C) "__setattr__"=some (some (.builtin "object.__setattr__"))
def Cls.get{K:ql}{C:Addr}(c:Cls K C)(f:Str):W.plainGet K C f=true:=c.pg
def tX(K:ql)(C:Addr)(f:Str):Prop:=W.findIn K (.ref C) f=some none
def tX.oN{K:ql}{C:Addr}{f:Str}(n:tX K C f):W.takerIn K C f=some none:=by unfold W.takerIn;rw[show W.findIn K (.ref C) f=some none from n];rfl
structure Wn(K:ql)(C:Addr)(f:Str)(v:V)(u:Vl):Prop where
 at_:W.findIn K (.ref C) f=some (some u)
 rel:qG v u
 get:W.specialIn K u "__get__"=some none
 cp:W.copiedNames.contains f=false
structure vA(K:ql)(C:Addr)(m:Str)(f:Addr):Prop where
 at_:W.findIn K (.ref C) m=some (some (.ref f))
 fn:W.isFn K (.ref f)=true
 kp:W.keepIn K (.ref f)=true
section
variable {σ:St}{a:Addr}{fs:List (Str × V)}{f:Str}{v:V}{E:QQX}
def Bj{b:Bool}{Q:QQX}(I:Inv X Wp σ H s)(e:H a=some (.ins C dx fs))(c:Cls X.K C)(n:tX X.K C f)(l:fs.lookup f=some v) (h:∀u s',Inv X Wp σ H s'->qG v u->Q u s'):wpAny (model X.prog X.w) A (getAttr (.ref a) f b) Q E s:=by
 obtain⟨mA,O,r,_,_,_⟩:=A8 I.mR e;obtain⟨u,hu,ru⟩:=yf.some_of (v:=v) (o:=mA f) (by rw[<-l];exact r f);exact OQ I.m7 O (c.get f) c.hd n hu (J0 ru) (h u _ (I.tok _) ru)
def Bt{m:Str}{g:Addr}{pl:Sem Bool}{Q:Vl×List Vl->Sd->Prop}(I:Inv X Wp σ H s)(e:H a=some (.ins C dx fs))(c:Cls X.K C)(k:vA X.K C m g)(l:fs.lookup m=none) (h:Q (.ref g,[.ref a]) s):wpAny (model X.prog X.w) A (getMethod (.ref a) m pl) Q E s:=by
 obtain⟨mA,O,r,_,_,_⟩:=A8 I.mR e;have hn:mA m=none:=yf.none_of (by rw[<-l];exact r m);exact KH I.m7 O (c.get m) k.at_ k.fn hn h
def BR{y:V}{u:Vl}{Q:Unit->Sd->Prop}(I:Inv X Wp σ H s)(e:H a=some (.ins C dx fs))(c:Cls X.K C)(n:tX X.K C f)(hl:fs.length<1000)(ry:qG y u) (h:∀s',Inv X Wp σ (upd H a (.ins C dx (vB f y fs))) s'->Q () s'):wpAny (model X.prog X.w) A (setAttr (.ref a) f u) Q E s:=by
 obtain⟨mA,O,r,wi,_,ho⟩:=A8 I.mR e;have hz:(fs.map (·.1)).length<=sizeLine:=by rw[cT,dO];omega
 refine NT I.m7 O c.sa c.po n.oN c.hd wi hz λh' O' sb=>h _ ?_;have hd:∃o,h'.get? dx=some o:=let⟨o,_,_,e',_⟩:=O'.ns;⟨o,e'⟩;refine I.write (x:=a) (e:=dx) (by rw[e];exact True.intro) (.inr ho) (λb q hb z=>(sb.2 b hb).trans z) hd ?_;refine⟨by rw[pV O.ne];exact ho,?_,O.ne,O'.obj,_,O'.ns,λg=>?_,λg hg=>?_⟩
 .have:=Aq f y fs;omega
 .show yf ((vB f y fs).lookup g) (if g=f then some u else mA g);rw[Aj];by_cases q:g=f
  .rw[c9 q,c9 q];exact ry
  .rw[cY q,cY q];exact r g
 .by_cases q:g=f
  .rw[q];exact(zV f y fs).1
  .refine(zV f y fs).2 g (wi g λz=>hg ?_);show(if g=f then some u else mA g)=none;rw[cY q];exact z
def Inv.made(I:Inv X Wp σ H s):Inv X Wp σ (upd (upd H s.heap.objs.size (.own (s.heap.objs.size+1))) (s.heap.objs.size+1) (.ins C s.heap.objs.size [])) {s with heap:=(s.heap.push W.emptyDict).push (W.instObj C s.heap.objs.size)}:=by
 have e1:(s.heap.push W.emptyDict).get? s.heap.objs.size=some W.emptyDict:=dE s.heap rfl;have e2:((s.heap.push W.emptyDict).push (W.instObj C s.heap.objs.size)).get? (s.heap.objs.size+1)=some (W.instObj C s.heap.objs.size):=by
  have:=dE (s.heap.push W.emptyDict) (o:=W.instObj C s.heap.objs.size) rfl
  rwa [fj]at this
 have e3:(s.heap.push W.emptyDict).Ns s.heap.objs.size (λ_=>none):=⟨W.emptyDict,#[],_,e1,rfl,(λe he=>absurd he (by simp)),λ_=>rfl⟩;have I1:=I.laid (a:=s.heap.objs.size) (o:=.own (s.heap.objs.size+1)) (h':=s.heap.push W.emptyDict) (t':=s.toks) (λb u q=>cZ _ q) (dg _) ⟨_,e1⟩;refine I1.laid (a:=s.heap.objs.size+1) (o:=.ins C s.heap.objs.size []) (t':=s.toks) (λb u q=>cZ _ q) (mw (fj _ _)) ?_;have ne:s.heap.objs.size≠s.heap.objs.size+1:=dH (fC _);refine⟨by rw[pV ne,pZ],eE _,ne,e2,λ_=>none,(lB e3).at λo q=>cZ _ q,λ_=>True.intro,λy hy=>absurd rfl hy⟩
def Ik{prog:Pg}{w:Wo}{env:Env}{e:Expr}{f:Str}{pos:Pos}{s:Sd}{Q:QQX}(hb:attributeBase e f env (eval e env)=eval e env) (h:wpAny (model prog w) A (eval e env) (λo s₁=>wpAny (model prog w) A (getAttr o f true) Q E s₁) E s):wpAny (model prog w) A (eval (.Attribute e f pos) env) Q E s:=
 Attribute_any_ h (by rw[arm_eval_Attribute,hb])
end
def UZ(K:ql)(ta:TE)(f:Str):TE:=λσ H Q=>ta σ H λx H1=>∃a C dx fs v,x=.ref a/\H1 a=some (.ins C dx fs)/\Cls K C/\tX K C f/\fs.lookup f=some v/\Q v H1
def Vd(K:ql)(ta tv:TE)(f:Str):TS:=λD σ H=>tv σ H λy H1=>ta σ H1 λx H2=>∃a C dx fs,x=.ref a/\H2 a=some (.ins C dx fs)/\Cls K C/\tX K C f/\fs.length<1000/\
 D.nx σ (upd H2 a (.ins C dx (vB f y fs)))
def OZ(X:Cx)(op:Operator)(rd:V->V->Hp->VK->Prop):Prop:=
 ∀(Wp:QQY) (s:Sd) (σ:St) (H:Hp) (x y:V) (u v:Vl) (Q:VK),Inv X Wp σ H s->qG x u->qG y v->rd x y H Q->wpAny (model X.prog X.w) X.A (inplaceOp op u v) (EP X Wp σ Q) X.xe s
def NF(K:ql)(ta tv:TE)(rd:V->V->Hp->VK->Prop)(f:Str):TS:=λD σ H=>ta σ H λx H1=>∃a C dx fs v,x=.ref a/\H1 a=some (.ins C dx fs)/\Cls K C/\tX K C f/\fs.lookup f=some v/\
 tv σ H1 λy H2=>rd v y H2 λz H3=>∃Ze fs',H3 a=some (.ins C Ze fs')/\fs'.length<1000/\D.nx σ (upd H3 a (.ins C Ze (vB f z fs')))
variable {value:Expr}{Wy Yv:Pos}{tv:TE}
section
variable {o e:Expr}{f:Str}
def RP(he:PE X e ta)(hb:attributeBase e f X.env (eval e X.env)=eval e X.env):PE X (.Attribute e f pos) (UZ X.K ta f):=by intro Wp s σ H Q I h;refine Ik hb (sr (he Wp s σ H _ I h) λu s1 zz=>?_);obtain⟨x,H1,I1,rx,a,C,dx,fs,v,ex,ea,c,n,l,q⟩:=zz;subst ex;obtain rfl:u=Value.ref a:=rx;exact Bj I1 ea c n l λu' s2 I2 ru=>⟨v,H1,I2,ru,q⟩
def QJ(ha:PE X o ta)(hv:PE X value tv)(hs:swapsWith value (some (.Attribute o f Wy)) pos.line X.env=pure false):PS X (.Assign [.Attribute o f Wy] value pos) (Vd X.K ta tv f):=by intro Wp s σ H D I h;refine iH (sr (hv Wp s σ H _ I h) λu s1 zz=>x5 zz λy H1 I1 ry q=>sr (ha Wp s1 σ H1 _ I1 q) λov s2 zz=>?_) hs;obtain⟨x,H2,I2,rx,a,C,dx,fs,ex,ea,c,n,l,q2⟩:=zz;subst ex;obtain rfl:ov=Value.ref a:=rx;exact BR I2 ea c n l ry λs3 I3=>⟨σ,_,I3,q2⟩
def JN{op:Operator}{rd:V->V->Hp->VK->Prop}(ha:PE X o ta)(hv:PE X value tv)(hop:OZ X op rd):PS X (.AugAssign (.Attribute o f Yv) op value pos) (NF X.K ta tv rd f):=by intro Wp s σ H D I h;refine wpAny_AugAssign_AttributeAny (sr (ha Wp s σ H _ I h) λov s1 zz=>?_);obtain⟨x,H1,I1,rx,a,C,dx,fs,v,ex,ea,c,n,l,q⟩:=zz;subst ex;obtain rfl:ov=Value.ref a:=rx;refine Bj I1 ea c n l λu s2 I2 ru=>sr (hv Wp s2 σ H1 _ I2 q) λw3 s3 zz=>x5 zz λy H2 I3 ry q3=>sr (hop Wp s3 σ H2 v y u w3 _ I3 ru ry q3) λw4 s4 zz=>?_;obtain⟨z,H3,I4,rz,Ze,fs',ea',l',q4⟩:=zz;exact BR I4 ea' c n l' rz λs5 I5=>⟨σ,_,I5,q4⟩
def U7:V->V->Hp->VK->Prop:=λx y H Q=>∃i j,x=.int i/\y=.int j/\Q (.int (i+j)) H
def Vg:V->V->Hp->VK->Prop:=λx y H Q=>∃i j,x=.int i/\y=.int j/\Q (.int (i - j)) H
def R9:OZ X .Add U7:=by
 rintro Wp s σ H x y u v Q I rx ry ⟨i,j,rfl,rfl,q⟩
 obtain⟨t,rfl⟩:=(show ∃t,u=Value.int i t from rx);obtain⟨t',rfl⟩:=(show ∃t',v=Value.int j t' from ry);exact PyProof.Rows.iadd_int ⟨.int (i+j),H,I.tok _,⟨_,rfl⟩,q⟩
def Rb:OZ X .Sub Vg:=by
 rintro Wp s σ H x y u v Q I rx ry ⟨i,j,rfl,rfl,q⟩
 obtain⟨t,rfl⟩:=(show ∃t,u=Value.int i t from rx);obtain⟨t',rfl⟩:=(show ∃t',v=Value.int j t' from ry);exact PyProof.Rows.isub_int ⟨.int (i - j),H,I.tok _,⟨_,rfl⟩,q⟩
end
variable {Q:QQX}
section
variable {σ:St}{E:QQX}{c:Vl}{b:Bool}
inductive Av(K:ql)(H:Hp):V->Vl->Prop where
 | mM:Av K H .mM (.type "NoneType")
 | bl (x:Bool):Av K H (.bl x) (.type "bool")
 | int (i:Int):Av K H (.int i) (.type "int")
 | str (x:Str):Av K H (.str x) (.type "str")
 | flt (x:UInt64):Av K H (.flt x) (.type "float")
 | lst {a:Addr} {xs:List V} (e:H a=some (.lst xs)):Av K H (.ref a) (.type "list")
 | frz {a:Addr} {o:Obj} {xs:List V} (e:H a=some (.frz o (.lst xs))):Av K H (.ref a) (.type "list")
 | tup {a:Addr} {xs:List V} (e:H a=some (.tup xs)):Av K H (.ref a) (.type "tuple")
 | dK {a:Addr} {kvs:List (rf×V)} (e:H a=some (.dK kvs)):Av K H (.ref a) (.type "dict")
 | dT {a:Addr} {kvs:List (List rf×V)} (e:H a=some (.dT kvs)):Av K H (.ref a) (.type "dict")
 | ins {a C dx:Addr} {fs:List (Str×V)} (e:H a=some (.ins C dx fs)) (cl:Cls K C) (ha:W.findIn K (.ref C) "__class__"=some (some (.builtin "object.__class__")))
   (hn:W.specialIn K (.builtin "object.__class__") "__get__"=some (some (.builtin "getset_descriptor.__get__"))) (htk:W.takesIn K (.builtin "object.__class__")=some true)
   (hm:W.mroIn K C (.type "object")=some true):Av K H (.ref a) (.ref C)
def uD{x:V}{u t:Vl}(I:Inv X Wp σ H s)(rx:qG x u)(ty:Av X.K H x t)(e:W.kitOne X.K t c=some b)(h:∀tk,Q (.bool b) {s with toks:=tk}):
  wpAny (model X.prog X.w) A (call (.builtin "isinstance") [u,c]) Q E s:=by
 cases ty with
 | mM=>cases(show u=Value.none from rx);exact gk W.kitx_none I.m7 True.intro e (λz=>nomatch z) h
 | bl y=>cases(show u=Value.bool y from rx);exact gk W.kitx_bool I.m7 True.intro e (λz=>nomatch z) h
 | int i=>obtain⟨t,q⟩:=(show ∃t,u=Value.int i t from rx);cases q;exact gk W.kitx_int I.m7 True.intro e (λz=>nomatch z) h
 | str y=>obtain⟨t,q⟩:=(show ∃t,u=Value.str y t from rx);cases q;exact gk W.kitx_str I.m7 True.intro e (λz=>nomatch z) h
 | flt y=>obtain⟨t,q⟩:=(show ∃t,u=Value.float y t from rx);cases q;exact gk W.kitx_float I.m7 True.intro e (λz=>nomatch z) h
 | @lst a xs ea=>cases(show u=Value.ref a from rx);obtain⟨_,_,n,_,h1⟩:=(show sf X.prog X.w H s.heap a (.lst xs)from I.mR a _ ea);exact gk lK I.m7 ⟨_,h1,rfl⟩ e (λz=>nomatch z) h
 | @frz a ob xs ea=>cases(show u=Value.ref a from rx);obtain⟨_,_,_,n,_,h1⟩:=(show sf X.prog X.w H s.heap a (.frz ob (.lst xs))from I.mR a _ ea);exact gk lK I.m7 ⟨_,h1,rfl⟩ e (λz=>nomatch z) h
 | @tup a xs ea=>cases(show u=Value.ref a from rx);obtain⟨_,_,_,p⟩:=(show sf X.prog X.w H s.heap a (.tup xs)from I.mR a _ ea);obtain⟨o,h1,h2,_⟩:=p;exact gk W.kitx_tuple I.m7 ⟨o,h1,h2⟩ e (λz=>nomatch z) h
 | @dK a kvs ea=>cases(show u=Value.ref a from rx);obtain⟨_,_,vs,_,p⟩:=(show sf X.prog X.w H s.heap a (.dK kvs)from I.mR a _ ea);obtain⟨o,es,ep,h1,h2,_⟩:=p;exact gk W.kitx_dict I.m7 ⟨o,h1,h2.1⟩ e (λz=>nomatch z) h
 | @dT a kvs ea=>cases(show u=Value.ref a from rx);obtain⟨_,_,xs,_,o,es,ep,h1,h2,_⟩:=(show sf X.prog X.w H s.heap a (.dT kvs)from I.mR a _ ea);exact gk W.kitx_dict I.m7 ⟨o,h1,h2.1⟩ e (λz=>nomatch z) h
 | @ins a C dx fs ea cl ha hn htk hm=>cases(show u=Value.ref a from rx);obtain⟨mA,O,_⟩:=A8 I.mR ea;obtain⟨od,J,_⟩:=O.look;exact gk (W.kitx_own (cl.get _) cl.hd ha hn htk hm) I.m7 J e (λz=>nomatch z) h
end
structure rR(k:Nat)(A:Ar):Prop where
 hd:A.handled=none
 dp:A.depth+3*k+5<recursionLimit
 un:A.units+16*k+200<cLine
def rR.mono{j k:Nat}{A:Ar}(r:rR k A)(h:j<=k):rR j A:=⟨r.hd,by have:=r.dp;omega,by have:=r.un;omega⟩
def rR.deeper{k:Nat}{A:Ar}(r:rR (k+1) A)(env:Env):rR k (A.deeper env):=
 ⟨r.hd,by have:=r.dp;show A.depth+1+3*k+5<_;omega,by have:=r.un;show A.units+3+16*k+200<_;omega⟩
def GO{A:Ar}{C:Addr}{us:List Vl}{kw:List (Str×Vl)}:(A.under (.builtin "type.__call__" ⟨.ref C::us,kw⟩)).depth=A.depth+1:=by first|rfl|simp[Around.under,Code.weight,Code.isCreation,Code.isGuard,Code.isCaller,Code.frames,Code.isFrame,guardIds]
def GS{A:Ar}{C:Addr}{us:List Vl}{kw:List (Str×Vl)}:(A.under (.builtin "type.__call__" ⟨.ref C::us,kw⟩)).units=A.units+1:=by first|rfl|simp[Around.under,Code.cUnits,Code.frames,Code.isFrame]
def rR.make{k:Nat}{A:Ar}(r:rR (k+1) A)(C:Addr)(us:List Vl)(kw:List (Str×Vl)):rR k (A.under (.builtin "type.__call__" ⟨.ref C::us,kw⟩)):=
 ⟨r.hd,by have:=r.dp;rw[GO];omega,by have:=r.un;rw[GS];omega⟩
def rR.depth{k:Nat}{A:Ar}(r:rR k A):A.depth<recursionLimit:=by have:=r.dp;omega
def rR.units{k:Nat}{A:Ar}(r:rR k A):A.units+64<cLine:=by have:=r.un;omega
def Tg:TA:=λ_ H Q=>Q [] H
def Uq(ta:TE)(tr:TA):TA:=λσ H Q=>ta σ H λx H1=>tr σ H1 λxs H2=>Q (x::xs) H2
variable {es:List Expr}
section
variable {e:Expr}{t:TA}
def RG:PA X [] Tg:=λ_ _ _ _ H Q I h=>jl ⟨[],H,I,.nil,h⟩
def PJ(ha:PE X e te)(hr:PA X es t)(hs:AL X e es:=by rfl):PA X (e::es) (Uq te t):=by intro pos Wp s σ H Q I h;rw[hs];show wpAny _ _ (spliced ((false,eval e X.env)::backTo pos (starEach es X.env))) _ _ s;refine je (sr (ha Wp s σ H _ I h) λu s1 zz=>x5 zz λx H1 I1 r1 q1=>?_);exact sr (hr pos Wp s1 σ H1 _ I1 q1) λus s2 zz=>x5 zz λxs H2 I2 r2 q2=>⟨x::xs,H2,I2,.cons r1 r2,q2⟩
def Vv(t:TA):TE:=λσ H Q=>t σ H λxs H1=>xs.length<=sizeLine/\∀p,H1 p=none->Q (.ref p) (upd H1 p (.tup xs))
def Vo(t:TA):TE:=λσ H Q=>t σ H λxs H1=>xs.length<=sizeLine/\∀p,H1 p=none->Q (.ref p) (upd H1 p (.lst xs))
def Qv{x1}(h:PA X es t):PE X (.Tuple es x1 pos) (Vv t):=by intro Wp s σ H Q I hq;refine wpAny_Tuple_spliced (sr (h pos Wp s σ H _ I hq) λus s1 ⟨xs,H1,I1,r,z,q⟩=>⟨by rw[<-r.length];exact z,?_⟩);have hf:H1 s1.heap.objs.size=none:=I1.mR.fresh (dg _);refine⟨.ref s1.heap.objs.size,upd H1 s1.heap.objs.size (.tup xs),I1.laid (t':=s1.toks) (λb u e=>cZ _ e) (dg _) ?_,rfl,q _ hf⟩;exact⟨z,us,r,⟨_,dE _ rfl,rfl,⟨_,rfl⟩,rfl⟩⟩
def R7(h:PA X es t):PE X (.List es pos) (Vo t):=by intro Wp s σ H Q I hq;refine wpAny_List_spliced (sr (h pos Wp s σ H _ I hq) λus s1 ⟨xs,H1,I1,r,z,q⟩=>⟨by rw[<-r.length];exact z,?_⟩);have hf:H1 s1.heap.objs.size=none:=I1.mR.fresh (dg _);refine⟨.ref s1.heap.objs.size,upd H1 s1.heap.objs.size (.lst xs),I1.laid (t':=s1.toks) (λb u e=>cZ _ e) (dg _) ?_,rfl,q _ hf⟩;exact⟨z,us,0,r,dE _ rfl⟩
end
abbrev Sp:=List V->Hp->VK->XK->Prop
abbrev Kl:=List Env->Hp->Sd->XK->Vl->Sd->Prop
structure Hl(P:Pg)(w:Wo)(K:ql)(mg:QQZ)(base:Heap)(A:Ar)(outer:List Env)(s:Sd)(H:Hp):Prop where
 frames:A.frames=some outer
 mod:Mod K mg base
 bs:∀b o,base.get? b=some o->s.heap.get? b=some o/\H b=none
 nY:base.objs.size<=s.heap.objs.size
 nA:s.heap.FunFrames base outer
 oi:∀b∈vZ outer,H b=none
 mR:ye P w H s.heap
 bare:AllBare s.gens
def CE(outer:List Env)(P:Pg)(w:Wo)(H:Hp)(s:Sd)(Q:VK)(u:Vl)(s':Sd):Prop:=
 ∃v H',s'.os=s.os/\AllBare s'.gens/\Un (vZ outer) [] H H' s.heap s'.heap/\ye P w H' s'.heap/\qG v u/\Q v H'
def CR(CX:Kl)(outer:List Env)(P:Pg)(w:Wo)(H:Hp)(s:Sd)(Q:VK)(E:XK)(r:Result)(s':Sd):Prop:=
 match r with
 | .ok (.ret u)=>CE outer P w H s Q u s'
 | .ok _=>False
 | .error e=>CX outer H s E e s'
structure xh(P:Pg)(w:Wo)(K:ql)(mg:QQZ)(base:Heap)(CX:Kl)(k:Nat)(f:Addr)(fd:FuncData)(ps:QQQ)(sp:Sp):Prop where
 len:∀vs H Q E,sp vs H Q E->vs.length=ps.length
 run:∀(A:Ar) (outer:List Env) (s:Sd) (H:Hp) (args:Args) (us:List Vl) (vs:List V) (Q:VK) (E:XK),rR k A->Hl P w K mg base A outer s H->BindsTo s fd args (ps.zip us)->qA vs us->sp vs H Q E->
  codeAny (model P w) A (.call (.ref f) args) (CR CX outer P w H s Q E) s
def Hl.make{P:Pg}{w:Wo}{K:ql}{mg:QQZ}{base:Heap}{A:Ar}{outer:List Env}{s:Sd}{H:Hp}(e:Hl P w K mg base A outer s H)(C:Addr)(us:List Vl)(kw:List (Str×Vl)):
  Hl P w K mg base (A.under (.builtin "type.__call__" ⟨.ref C::us,kw⟩)) outer s H:=⟨by first|exact e.frames|(simpa [Around.under,Code.envs,Code.isFrame,pushEnvs]using e.frames),e.mod,e.bs,e.nY,e.nA,e.oi,e.mR,e.bare⟩
variable {s':Sd}
section
variable {σ:St}
def Inv.og(I:Inv X Wp σ H s):Hl X.prog X.w X.K X.mg X.base X.A X.stack s H:=
 ⟨I.ok.frames,I.ok.mod,I.bs,dW I.ok.nY I.sz,I.stack,I.nH,I.mR,I.bare⟩
def Inv.after{Q:VK}{u:Vl}(I:Inv X Wp σ H s)(h:CE X.stack X.prog X.w H s Q u s'):EP X Wp σ Q u s':=by obtain⟨v,H',os,bare,un,mR,r,q⟩:=h;obtain⟨hh,g,d,t,Zf⟩:=s';obtain rfl:Zf=s.os:=os;exact⟨v,H',I.call (h':=hh) (g':=g) (d':=d) (t':=t) (ch:=[]) un mR bare (λb z=>absurd z (by simp)),r,q⟩
end
def S5(sp:Sp)(Xc:List V)(E:XK)(t:TA):TE:=λσ H Q=>t σ H λvs H1=>sp (vs++Xc) H1 Q E
def Ug(C:Addr)(sp:Sp)(Xc:List V)(E:XK)(t:TA):TE:=λσ H Q=>t σ H λvs H1=>∀x dx,H1 x=none->H1 dx=none->dx≠x->
 sp (.ref x::(vs++Xc)) (upd (upd H1 dx (.own x)) x (.ins C dx [])) (λv H2=>v=.mM/\Q (.ref x) H2) E
def uL(K:ql)(fd:FuncData)(ps:QQQ)(ds:List Vl):Prop:=
 ∀(s:Sd) (us:List Vl),K.In s.heap->(us++ds).length=ps.length->BindsTo s fd ⟨us,[]⟩ (ps.zip (us++ds))
def uL.all{K:ql}{fd:FuncData}{ps:QQQ}(h:∀us:List Vl,us.length=ps.length->bindArgs fd ⟨us,[]⟩=pure (ps.zip us)):uL K fd ps []:=λs us _ hl=>by rw[eS]at hl ⊢;exact .of_eq (h us hl)
def BG(CX:Kl)(X:Cx)(E:XK):Prop:=∀(Wp:QQY) (σ:St) (H:Hp) (s:Sd) (e:Vl) (s':Sd),Inv X Wp σ H s->CX X.stack H s E e s'->X.xe e s'
variable {CX:Kl}{k:Nat}{fd:FuncData}{ps:QQQ}{sp:Sp}{Xc:List V}{ds:List Vl}{m:Str}{p Ws:Pos}
section
variable {f:Addr}{E:XK}{x:Str}{e o:Expr}{t:TA}
def EC{Wp:QQY}{σ:St}{H:Hp}{s:Sd}{Q:VK}{us:List Vl}{vs:List V}(F:xh X.prog X.w X.K X.mg X.base CX k f fd ps sp)(hr:rR k X.A)(hb:uL X.K fd ps ds)(hd:qA Xc ds)(hx:BG CX X E) (I:Inv X Wp σ H s) (r:qA vs us) (h:sp (vs++Xc) H Q E):wpAny (model X.prog X.w) X.A (call (.ref f) us) (EP X Wp σ Q) X.xe s:=by
 have r2:qA (vs++Xc) (us++ds):=r.append hd;have hl:(us++ds).length=ps.length:=by rw[<-r2.length];exact F.len _ _ _ _ h
 refine hZ (gh (F.run X.A X.stack s H ⟨us,[]⟩ (us++ds) (vs++Xc) Q E hr I.og (hb s us I.m7 hl) r2 h) λr s' hq=>?_);cases r with
 | error e=>exact hx Wp σ H s e s' I hq
 | ok fl=>
  cases fl with
  | ret u=>exact I.after hq
  | next=>exact False.elim hq
  | brk=>exact False.elim hq
  | cont=>exact False.elim hq
def PK(F:xh X.prog X.w X.K X.mg X.base CX k f fd ps sp)(hr:rR k X.A)(hg:Gl X x)(hm:X.mg x=some (.ref f))(hk:W.keepIn X.K (.ref f)=true)(hb:uL X.K fd ps ds)(hd:qA Xc ds)(hx:BG CX X E) (ha:PA X (e::es) t) (WK:yP x:=by decide) (he:AL X e es:=by rfl) (WH:Cr X pos es:=by rfl):
  PE X (.Call (.Name x p) (e::es) [] pos) (S5 sp Xc E t):=by
 intro Wp s σ H Q I h;refine gb (wG I hg hm ?_ WK);refine iI (h₀:=X.base) I.ok.mod.ou hk (sr (ha pos Wp s σ H _ I h) λus s1 zz=>x5 zz λvs H1 I1 r q=>⟨I1.m7,?_⟩) he WH;exact EC F hr hb hd hx I1 r q
structure Mk(K:ql)(C f:Addr):Prop where
 makes:W.makesIn K C=true
 init:W.findIn K (.ref C) "__init__"=some (some (.ref f))
 fn:W.isFn K (.ref f)=true
 kp:W.keepIn K (.ref C)=true
def Na{Wp:QQY}{σ:St}{H:Hp}{s:Sd}{Q:VK}{us:List Vl}{vs:List V}(M:Mk X.K C f)(F:xh X.prog X.w X.K X.mg X.base CX k f fd ps sp)(hr:rR (k+1) X.A)(hb:uL X.K fd ps ds)(hd:qA Xc ds) (hx:BG CX X E) (I:Inv X Wp σ H s) (r:qA vs us) (h:∀x dx,H x=none->H dx=none->dx≠x->sp (.ref x::(vs++Xc)) (upd (upd H dx (.own x)) x (.ins C dx [])) (λv H2=>v=.mM/\Q (.ref x) H2) E):
  wpAny (model X.prog X.w) X.A (call (.ref C) us) (EP X Wp σ Q) X.xe s:=by
 have hq:=h (s.heap.objs.size+1) s.heap.objs.size (I.mR.fresh (gg _)) (I.mR.fresh (dg _)) (dH (fC _));have I2:=Inv.made (C:=C) I;have r2:qA (V.ref (s.heap.objs.size+1)::(vs++Xc)) (Value.ref (s.heap.objs.size+1)::(us++ds)):=.cons rfl (r.append hd);have hl:(Value.ref (s.heap.objs.size+1)::us++ds).length=ps.length:=by have e:=r2.length;rw[F.len _ _ _ _ hq]at e;exact e.symm
 refine hZ (L7 (f:=f) I.m7 M.makes M.init (fi.mp M.fn) (gh (F.run _ X.stack _ _ ⟨Value.ref (s.heap.objs.size+1)::us,[]⟩ (Value.ref (s.heap.objs.size+1)::(us++ds)) _ _ E (hr.make C us [])
  (I2.og.make C us []) (hb _ (Value.ref (s.heap.objs.size+1)::us) I2.m7 hl) r2 hq) λr s' X5=>?_))
 cases r with
 | error e=>exact hx Wp σ _ _ e s' I2 X5
 | ok fl=>
  cases fl with
  | ret u=>obtain⟨v,H',I3,rv,ev,q3⟩:=I2.after X5;subst ev;exact⟨rv,⟨V.ref (s.heap.objs.size+1),H',I3,rfl,q3⟩⟩
  | next=>exact False.elim X5
  | brk=>exact False.elim X5
  | cont=>exact False.elim X5
def Pv(M:Mk X.K C f)(F:xh X.prog X.w X.K X.mg X.base CX k f fd ps sp)(hr:rR (k+1) X.A)(hg:Gl X x)(hm:X.mg x=some (.ref C))(hb:uL X.K fd ps ds)(hd:qA Xc ds)(hx:BG CX X E) (ha:PA X (e::es) t) (WK:yP x:=by decide) (he:AL X e es:=by rfl) (WH:Cr X pos es:=by rfl):
  PE X (.Call (.Name x p) (e::es) [] pos) (Ug C sp Xc E t):=by
 intro Wp s σ H Q I h;refine gb (wG I hg hm ?_ WK);refine iI (h₀:=X.base) I.ok.mod.ou M.kp (sr (ha pos Wp s σ H _ I h) λus s1 zz=>x5 zz λvs H1 I1 r q=>⟨I1.m7,?_⟩) he WH;exact Na M F hr hb hd hx I1 r q
end
variable {g:List Vl→List Vl→List Vl}{gV:List V→List V→List V}{ks:QQQ}{kpos:Pos}{kws:List Keyword}{tk:TA}{nm:Option Str}
section
variable {f:Addr}{E:XK}{x:Str}{e o:Expr}{t:TA}
structure U0(K:ql)(fd:FuncData)(ps ks:QQQ)(g:List Vl->List Vl->List Vl)(gV:List V->List V->List V):Prop where
 to:∀(s:Sd) (us ws:List Vl),K.In s.heap->(g us ws).length=ps.length->BindsTo s fd ⟨us,ks.zip ws⟩ (ps.zip (g us ws))
 rel:∀{vs:List V} {us:List Vl} {zs:List V} {ws:List Vl},qA vs us->qA zs ws->qA (gV vs zs) (g us ws)
end
structure sR(N P:QQQ)(sc:Scope):Prop where
 kind:sc.kind=.function
 co:sc.isCoroutine=false
 gen:sc.isGenerator=false
 nd:N.Nodup
 pre:N.take P.length=P
 par:∀x∈P,sc.names.lookup x=some .local\/sc.names.lookup x=some .cell
 oY:∀y∈sc.names,y.2≠.free
theorem Di{kindOf:Str->Option NameKind}{x:Str}:∀{binds:List (Str×Vl)} {m:QQZ},(∀v,(x,v)∉binds)->bindL kindOf binds m x=m x
 | [],_,_=>rfl
 | (n,v)::r,m,h=>by
  unfold bindL;rw[Di λw hw=>h w (dD _ hw)];split
  .have:x≠n:=by rintro rfl;exact h v dN
   simp[this]
  .rfl
theorem DU{kindOf:Str->Option NameKind}{x:Str}:∀{binds:List (Str×Vl)} {m:QQZ},(∀v,(x,v)∉binds)->bindC kindOf binds m x=m x
 | [],_,_=>rfl
 | (n,v)::r,m,h=>by
  unfold bindC;rw[DU λw hw=>h w (dD _ hw)];split
  .rfl
  .have:x≠n:=by rintro rfl;exact h v dN
   simp[this]
theorem Dj{kindOf:Str->Option NameKind}{x:Str}{v:Vl}:∀{P:QQQ} {vs:List Vl} {i:Nat} {m:QQZ},P.Nodup->P[i]?=some x->vs[i]?=some v->kindOf x=some .local->
  bindL kindOf (P.zip vs) m x=some v
 | [],_,_,_,_,h,_,_=>by simp at h
 | _::_,[],_,_,_,_,h,_=>by simp at h
 | p::P,w::vs,0,m,nd,h1,h2,hk=>by simp at h1 h2;subst h1;subst h2;show bindL kindOf ((p,w)::P.zip vs) m p=_;unfold bindL;rw[Di λv hv=>(dQ.mp nd).1 (jM hv).1,c9 hk];simp
 | p::P,w::vs,i+1,m,nd,h1,h2,hk=>by show bindL kindOf ((p,w)::P.zip vs) m x=_;unfold bindL;exact Dj (i:=i) (dQ.mp nd).2 (by simpa using h1) (by simpa using h2) hk
theorem Dk{kindOf:Str->Option NameKind}{x:Str}{v:Vl}:∀{P:QQQ} {vs:List Vl} {i:Nat} {m:QQZ},P.Nodup->P[i]?=some x->vs[i]?=some v->kindOf x≠some .local->
  bindC kindOf (P.zip vs) m x=some v
 | [],_,_,_,_,h,_,_=>by simp at h
 | _::_,[],_,_,_,_,h,_=>by simp at h
 | p::P,w::vs,0,m,nd,h1,h2,hk=>by simp at h1 h2;subst h1;subst h2;show bindC kindOf ((p,w)::P.zip vs) m p=_;unfold bindC;rw[DU λv hv=>(dQ.mp nd).1 (jM hv).1,cY hk];simp
 | p::P,w::vs,i+1,m,nd,h1,h2,hk=>by show bindC kindOf ((p,w)::P.zip vs) m x=_;unfold bindC;exact Dk (i:=i) (dQ.mp nd).2 (by simpa using h1) (by simpa using h2) hk
def start(N:QQQ)(vs:List V):St:=vs.map some++List.replicate (N.length - vs.length) none
def vo(CX:Kl)(P:Pg)(w:Wo)(K:ql)(mg:QQZ)(base:Heap)(N:QQQ)(qual:Str)(scope:Scope)(f:Addr)(cd:Vl)(A:Ar)(outer:List Env)(s:Sd)(H:Hp)(E:XK):Cx where
 prog:=P
 w:=w
 K:=K
 mg:=mg
 base:=base
 A:=A.deeper (envOfC qual scope s.heap.objs.size f cd)
 N:=N
 s₀:=s
 H₀:=H
 env:=envOfC qual scope s.heap.objs.size f cd
 outer:=outer
 stack:=envOfC qual scope s.heap.objs.size f cd::outer
 ex:=[]
 calm:=true
 fn:=λ_=>true
 pn:=[]
 xe:=λe s'=>wpAny (model P w) (A.deeper (envOfC qual scope s.heap.objs.size f cd)) (leaving (envOfC qual scope s.heap.objs.size f cd) e) (λ_ Zg=>CX outer H s E e Zg) (λe' Zg=>CX outer H s E e' Zg) s'
def GB{sc:Scope}{n:Nat}{x:Str}(h:sc.names.lookup x=some .cell):∃c,(cellsFrom n sc.names []).lookup x=some c:=by have q:=lR sc.names n [] (.inl h);exact jx.mp q
def Ka{CX:Kl}{P:Pg}{w:Wo}{K:ql}{mg:QQZ}{base:Heap}{N ps:QQQ}{qual:Str}{scope:Scope}{f:Addr}{cd:Vl}{A:Ar}{outer:List Env}{s s1:Sd}{H:Hp}{E:XK}{us:List Vl}{vs:List V} (S:sR N ps scope) (hd:A.handled=none) (e0:Hl P w K mg base A outer s H) (hl:vs.length=ps.length) (r:qA vs us) (x:InCallC s s.heap.objs.size (bindL (envOfC qual scope s.heap.objs.size f cd).kindOf (ps.zip us) λ_=>none) (cellsFrom (s.heap.objs.size+1) scope.names []) (bindC (envOfC qual scope s.heap.objs.size f cd).kindOf (ps.zip us) λ_=>none) s1):
  Inv (vo CX P w K mg base N qual scope f cd A outer s H E) [] (start N vs) H s1:=by
 have WH:ps.length<=N.length:=by have:=eP List.length S.pre;rw[fm]at this;omega
 obtain⟨h1,tk,rfl,hk⟩:=x.done;have noA:∀b:Addr,b∉(vo CX P w K mg base N qual scope f cd A outer s H E).ex:=λb z=>absurd (show b∈([]:QXQ)from z) (by simp);refine⟨⟨e0.mod,S.kind,rfl,rfl,dg _,λy z c h1 h2=>?_,λy hy=>?_,λy c _ h=>?_,λ_=>hd,Around.frames_deeper e0.frames,.inr ⟨rfl,rfl⟩,λb z=>absurd z (noA b),e0.bs,e0.nY,λb _ _=>noA b,λb z=>absurd z (noA b),e0.nA,e0.oi⟩,rfl,e0.bare,Un.kept hk,⟨_,x.toInCall.ns,λi y v h1 h2 h3=>?_⟩,λy c h=>⟨_,x.cell y c h⟩,e0.mR.fresh (dg _),λy c h=>?_,λp hp=>absurd (show p∈([]:QQY)from hp) (by simp),e0.mR.kept hk,?_⟩
 .exact name_of_addr x.apart (gN h1) (gN h2)
 .have hy:scope.names.lookup y=some .cell\/scope.names.lookup y=some .free:=hy;rcases hy with hy|hy
  .exact GB hy
  .exact absurd rfl (S.oY _ (gN hy))
 .exact kQ (x.above y c (gN h))
 .have hi:i<vs.length:=by
   unfold start at h2;by_cases hi:i<vs.length
   .exact hi
   .rw[eB (by simpa using hi)]at h2;rw[jK]at h2;split at h2<;>cases h2
  have ha:vs[i]?=some v:=by
   unfold start at h2;rw[eO (by simpa using hi),dA]at h2;cases e:vs[i]? with
   | none=>rw[e]at h2;cases h2
   | some a=>rw[e]at h2;cases h2;rfl
  obtain⟨u,hu,rv⟩:=r.get ha;have hp:ps[i]?=some y:=by rw[<-S.pre,jy (by omega)];exact h1
  have ndP:ps.Nodup:=by rw[<-S.pre];exact S.nd.sublist (List.take_sublist _ _)
  refine⟨u,rv,?_⟩;rcases S.par y (fO hp)with k|k
  .exact .inl ⟨k,Dj ndP hp hu k⟩
  .obtain⟨c,e⟩:=GB (n:=s.heap.objs.size+1) k;refine .inr ⟨.inl k,c,e,?_⟩;have q:=x.cell y c e;rw[Dk ndP hp hu (by show scope.names.lookup y≠_;rw[k];decide)]at q;exact q
 .exact e0.mR.fresh (kQ (x.above y c (gN h)))
 .unfold start;show _=N.length;rw[cV,cT,iE];omega
def Mq{CX:Kl}{P:Pg}{w:Wo}{K:ql}{mg:QQZ}{base:Heap}{k:Nat}{f:Addr}{name qual:Str}{params:Arguments}{body:List Stmt}{scope:Scope}{dV kV W2 pm Wz ct oc:Vl}{an od:Option Addr} {Xd:Array (Option Vl)} {N ps:QQQ} {sp:Sp} (lk:K.lookup f=some ⟨oc,od,.func (W.fnOf name qual params body scope dV kV W2 pm an Wz ct),Xd⟩) (Xp:W.codeIn K Wz qual=true) (S:sR N ps scope) (len:∀vs H Q E,sp vs H Q E->vs.length=ps.length) (WN:∀(A:Ar) (outer:List Env) (s:Sd) (H:Hp) (vs:List V) (Q:VK) (E:XK),rR k (A.deeper (envOfC qual scope s.heap.objs.size f Wz))->sp vs H Q E->
   ∃t,Cj (vo CX P w K mg base N qual scope f Wz A outer s H E) body t/\t {nx:=λ_ H'=>Q .mM H',rt:=Q} (start N vs) H):
  xh P w K mg base CX (k+1) f (W.fnOf name qual params body scope dV kV W2 pm an Wz ct) ps sp:=by
 refine⟨len,λA outer s H args us vs Q E hr e0 hb r XS=>?_⟩;have hl:=len _ _ _ _ XS;have KX:K.In s.heap:=e0.mod.ou.keeps λb o e=>(e0.bs b o e).1;have lim:s.heap.NoLimit:=e0.mod.nolimit.keeps λb o e=>(e0.bs b o e).1;have hkind:∀y∈ps.zip us,scope.names.lookup y.1=some .local\/(scope.names.lookup y.1=some .cell/\((cellsFrom (s.heap.objs.size+1) scope.names []).lookup y.1).isSome=true):=λ⟨n,v⟩ hy=>by
  rcases S.par n (jM hy).1 with q|q
  .exact .inl q
  .exact .inr ⟨q,lR _ _ _ (.inl q)⟩
 refine codeAny_call_function hr.depth (KX _ _ lk) rfl S.co S.gen rfl (W.codeRec_of KX Xp) (hb _ _ _ _ ?_);refine wpAny_newFunctionEnv_cells S.kind hkind λenv he s1 x=>?_;subst he;refine⟨lim.keeps x.toInCall.keep,codeAny_func ?_⟩;obtain⟨t,ht,hq⟩:=WN A outer s H vs Q E (hr.deeper _) XS;have I:Inv (vo CX P w K mg base N qual scope f Wz A outer s H E) [] (start N vs) H s1:=Ka S hr.hd e0 hl r x;refine d9 (ht [] s1 (start N vs) H _ I hq) (λfl s' hs=>?_) λe s' hs=>hs;have Wt:∀{σ':St} {H':Hp} {v:V} {u:Vl},Inv (vo CX P w K mg base N qual scope f Wz A outer s H E) [] σ' H' s'->qG v u->Q v H'->CE outer P w H s Q u s':=
  λ{σ' H' v u} J rv q=>⟨v,H',J.os,J.bare,J.base,J.mR,rv,q⟩
 cases fl with
 | ret u=>obtain⟨v,σ',H',J,rv,q⟩:=hs;exact Wt J rv q
 | next=>obtain⟨σ',H',J,q⟩:=hs;exact Wt (v:=V.mM) (u:=Value.none) J rfl q
 | brk=>obtain⟨_,_,_,q⟩:=hs;exact False.elim q
 | cont=>obtain⟨_,_,_,q⟩:=hs;exact False.elim q
variable {id T:String}{r:List V→Hp→VK→Prop}
section
variable {x:Str}{e:Expr}{t:TA}
def VO(r:List V->Hp->VK->Prop)(t:TA):TE:=λσ H Q=>t σ H λvs H1=>r vs H1 Q
def M8(hc:zF X (.builtin id) r)(hg:Gl X x)(hm:X.mg x=none)(hv:bootBuiltins x=some (.builtin id))(ha:PA X (e::es) t)(hn:x≠"__name__":=by decide)(WK:yP x:=by decide)
  (he:AL X e es:=by rfl) (WH:Cr X pos es:=by rfl):PE X (.Call (.Name x p) (e::es) [] pos) (VO r t):=by
 intro Wp s σ H Q I h;refine gb (xE I hg hm hv ?_ hn WK);exact iJ (sr (ha pos Wp s σ H _ I h) λus s1 zz=>x5 zz λvs H1 I1 r1 q1=>hc Wp s1 σ H1 vs us Q I1 r1 q1) he WH
def J5(hc:zF X (.type T) r)(hg:Gl X x)(hm:X.mg x=none)(hv:bootBuiltins x=some (.type T))(ha:PA X (e::es) t)(hn:x≠"__name__":=by decide)(WK:yP x:=by decide)
  (he:AL X e es:=by rfl) (WH:Cr X pos es:=by rfl):PE X (.Call (.Name x p) (e::es) [] pos) (VO r t):=by
 intro Wp s σ H Q I h;refine gb (xE I hg hm hv ?_ hn WK);exact fR (sr (ha pos Wp s σ H _ I h) λus s1 zz=>x5 zz λvs H1 I1 r1 q1=>hc Wp s1 σ H1 vs us Q I1 r1 q1) he WH
end
end L2
namespace HT
open PySem PyProof.Rows
section
open PySem.SeqAt
open PySem.AutoSeq1 (wpAny_loadPart')
open PySem.MeetsSeq PySem.MeetsSeq2 PySem.MeetsSeq3
end
variable {prog:Pg}{w:Wo}{A:Ar}{E:QQX}{s:Sd}
def PH{t b:Addr}{vs ws:List Vl}{Q:QQX}(ht:IsTup s.heap t vs.toArray)(hb:IsTup s.heap b ws.toArray)(hv:vs≠[]) (h1:ws=[]->Q (.ref t) s) (h2:ws≠[]->Q (.ref s.heap.objs.size) {s with heap:=s.heap.push {cls:=.type "tuple",data:=.seq (vs++ws).toArray}})
  (hsz:vs.length+ws.length<=sizeLine):wpAny (model prog w) A (binaryOp .Add (.ref t) (.ref b)) Q E s:=by
 obtain⟨⟨cls,dd,data,sl⟩,ho,hc,n,hd⟩:=id ht;obtain⟨⟨cls2,dd2,data2,sl2⟩,ho2,hc2,n2,hd2⟩:=id hb;simp only at hc hd hc2 hd2;subst hc hd hc2 hd2;have e:vs.toArray++ws.toArray=(vs++ws).toArray:=by simp
 by_cases hw:ws=[]
 .exact kU ⟨_,ho,rfl⟩ ⟨_,ho2,rfl⟩ lT seq_tuple_add jX jL (jz _ _)
   (tuple_addW1 t b vs.toArray ws.toArray n n2 dd dd2 sl sl2 (by simpa using hv) (by simp[hw])) ⟨ho,ho2,h1 hw⟩
 .refine kU ⟨_,ho,rfl⟩ ⟨_,ho2,rfl⟩ lT seq_tuple_add jX jL (jz _ _)
   (tuple_addW2 t b vs.toArray ws.toArray n n2 dd dd2 sl sl2 (by simpa using hv) (by simpa using hw) (by rw[dv,dv];exact hsz)) ⟨ho,ho2,?_⟩
  rw[e];exact h2 hw
def sT(n d:Nat):Option Int->Nat
 | none=>d
 | some v=>if v<0 then(v+(n:Int)).toNat else min v.toNat n
def BN(n d:Nat):sT n d none=d:=rfl
def Iz(n d k:Nat):sT n d (some (k:Int))=min k n:=by show(if (k:Int)<0 then((k:Int)+(n:Int)).toNat else min (k:Int).toNat n)=min k n;rw[cY (by omega),gZ]
def Rt(n d:Nat)(hd:d<=n)(o:Option Int):sT n d o<=n:=by
 cases o with
 | none=>exact hd
 | some v=>
  show(if v<0 then(v+(n:Int)).toNat else min v.toNat n)<=n;by_cases hv:v<0
  .rw[c9 hv];omega
  .rw[cY hv];exact Nat.min_le_right _ _
def Ip(v:Int)(n d:Nat):(if v<0 then max (v+(n:Int)) 0 else min v (n:Int))=((sT n d (some v):Nat):Int):=by
 show(if v<0 then max (v+(n:Int)) 0 else min v (n:Int))=(((if v<0 then(v+(n:Int)).toNat else min v.toNat n):Nat):Int);by_cases hv:v<0
 .simp only[c9 hv];omega
 .simp only[cY hv];omega
def G'(lo hi:Option Int)(n:Nat):Builtin.Slice.sliceAdjust lo hi 1 (n:Int)=(((sT n 0 lo:Nat):Int),((sT n n hi:Nat):Int)):=by
 have h1:¬((1:Int)<0):=by omega
 unfold Builtin.Slice.sliceAdjust;simp only[h1,kl];refine Prod.ext ?_ ?_
 .cases lo with
  | none=>rfl
  | some v=>exact Ip v n 0
 .cases hi with
  | none=>rfl
  | some v=>exact Ip v n n
def Hh(i j:Nat):Builtin.Slice.slicePlaces (i:Int) (j:Int) 1=j - i:=by
 unfold Builtin.Slice.slicePlaces;have h1:(1:Int)>0:=by omega
 simp only[h1,iZ,Int.ediv_one];split<;>omega
def Ck{v:Vl}{o:Option Int}{Q:Option Int->Sd->Prop}(p:IsPart v o)(h:Q o s):wpAny (model prog w) A (Builtin.Slice.slicePartIndex v) Q E s:=by
 cases p with
 | none=>exact slicePart_none h
 | int i t=>exact slicePart_int h
def wk{sl:Addr}{vl vu:Vl}{lo hi:Option Int}{n:Nat}{Q:Int×Int×Nat->Sd->Prop}(hs:s.heap.IsSliceOf sl vl vu .none)(pl:IsPart vl lo)(pu:IsPart vu hi) (h:Q (((sT n 0 lo:Nat):Int),1,sT n n hi - sT n 0 lo) s):wpAny (model prog w) A (Builtin.Slice.sliceApplied (.ref sl) (pure (n:Int))) Q E s:=by
 obtain⟨os,Zh,YU,Xq⟩:=id hs;unfold Builtin.Slice.sliceApplied Builtin.Slice.sliceFields;refine cU (cU (fg Zh Xq (x:=vl) rfl (cU (fg Zh Xq (x:=vu) rfl (cU (fg Zh Xq (x:=.none) rfl (de ?_)))))));refine cU (slicePart_none ?_);show wpAny _ _ (if ((1:Int)==0)=true then _ else _) _ _ s;rw[cY (by decide)];refine cU (Ck pl (cU (Ck pu (cU (de ?_)))));show wpAny _ _ (match Builtin.Slice.sliceAdjust lo hi 1 (n:Int)with|(lo,hi)=>pure (lo,(1:Int),Builtin.Slice.slicePlaces lo hi 1)) _ _ s;rw[G' lo hi n];show wpAny _ _ (pure (((sT n 0 lo:Nat):Int),(1:Int),Builtin.Slice.slicePlaces ((sT n 0 lo:Nat):Int) ((sT n n hi:Nat):Int) 1)) _ _ s;rw[Hh];exact de h
def KG(xs:Array Vl)(i k:Nat):((List.range k).filterMap λ(m:Nat)=>xs[((i:Int)+(m:Int)*1).toNat]?).toArray=((xs.toList.drop i).take k).toArray:=by
 have e:(λ(m:Nat)=>xs[((i:Int)+(m:Int)*1).toNat]?)=λm=>xs[i+m]?:=by
  funext m;have:((i:Int)+(m:Int)*1).toNat=i+m:=by omega
  rw[this]
 rw[e];have:=pick_run xs i k;rw[List.filterMap_map]at this;have e2:((λx=>xs[x]?)∘λx=>i+x)=λm=>xs[i+m]?:=rfl;rw[e2]at this;rw[this]
def zx{t sl:Addr}{Wq:Array Vl}{vl vu:Vl}{lo hi:Option Int}{Q:QQX}(ht:IsTup s.heap t Wq)(hs:s.heap.IsSliceOf sl vl vu .none)(pl:IsPart vl lo)(pu:IsPart vu hi) (hw:¬(sT Wq.size 0 lo=0/\sT Wq.size Wq.size hi=Wq.size)) (h:Q (.ref s.heap.objs.size) {s with heap:=s.heap.push {cls:=.type "tuple",data:=.seq ((Wq.toList.drop (sT Wq.size 0 lo)).take (sT Wq.size Wq.size hi - sT Wq.size 0 lo)).toArray}})
  (hsz:Wq.size<=sizeLine):wpAny (model prog w) A (getItem (.ref t) (.ref sl)) Q E s:=by
 have XH:sizeOk (.seq ((Wq.toList.drop (sT Wq.size 0 lo)).take (sT Wq.size Wq.size hi - sT Wq.size 0 lo)).toArray):=by show((Wq.toList.drop (sT Wq.size 0 lo)).take (sT Wq.size Wq.size hi - sT Wq.size 0 lo)).toArray.size<=sizeLine;rw[dv,fm,fY,ig];omega
 have hj:sT Wq.size Wq.size hi<=Wq.size:=Rt _ _ (dg _) hi;obtain⟨os,Zh,YU,Xq⟩:=id hs;have hTs:s.TypeIs (.ref sl) "slice":=⟨os,Zh,YU⟩;unfold getItem
 try with_reducible refine eD ?_
 first|refine cU (de ?_)|skip
 refine cU (jm ht.typeIs (by decide) ?_);refine cU (fJ (name:=Str.ofString "__getitem__") ht.typeIs fz
  (fZ fz ht.typeIs kD ?_ (kW _ _)))
 show wpAny _ _ (Builtin.Tuple.tupleItemsOf (.ref t)>>=_) _ _ s;refine cU (tupleItemsOf_ ht ?_);refine cU (jA hTs ?_);rw[c9 (by decide)];refine cU (wk hs pl pu ?_);have hno:¬((((sT Wq.size 0 lo:Nat):Int)==0&&(1:Int)==1&&(sT Wq.size Wq.size hi - sT Wq.size 0 lo)==Wq.size)=true):=by intro q;rw[dU,dU]at q;have q1:((sT Wq.size 0 lo:Nat):Int)=0:=eq_of_beq q.1.1;have q2:sT Wq.size Wq.size hi - sT Wq.size 0 lo=Wq.size:=eq_of_beq q.2;exact hw ⟨by omega,by omega⟩
 show wpAny _ _ (if (((sT Wq.size 0 lo:Nat):Int)==0&&(1:Int)==1&&(sT Wq.size Wq.size hi - sT Wq.size 0 lo)==Wq.size)=true then _ else _) _ _ s;rw[cY hno,KG]
 first
  | exact cU (m:=Builtin.Tuple.tupleExact _) (fP (de ⟨_,rfl,de h⟩) XH)
  | exact cU (m:=Builtin.Tuple.tupleExact _) (fP (cU (de (de ⟨_,rfl,de h⟩))) XH)
  | exact cU (cU (m:=Builtin.Tuple.tupleExact _) (fP (de (de ⟨_,rfl,de h⟩)) XH))
  | exact cU (cU (m:=Builtin.Tuple.tupleExact _) (fP (de ⟨_,rfl,de h⟩) XH))
end HT
namespace L2
abbrev TO:=St->Hp->(Option Int->Hp->Prop)->Prop
def PO(X:Cx)(e:Option Expr)(t:TO):Prop:=
 ∀(Wp:QQY) (s:Sd) (σ:St) (H:Hp) (Q:Option Int->Hp->Prop),Inv X Wp σ H s->t σ H Q->
  wpAny (model X.prog X.w) X.A (evalPart e X.env) (λu s'=>∃o H',Inv X Wp σ H' s'/\IsPart u o/\Q o H') X.xe s
def OS:TO:=λ_ H Q=>Q none H
def Tj(t:TE):TO:=λσ H Q=>t σ H λx H1=>∃i,x=.int i/\Q (some i) H1
variable {X:Cx}{e:Expr}{te:TE}{lo hi:Option Expr}{tl th:TO}{pos p2:Pos}
def N0:PO X none OS:=by intro Wp s σ H Q I h;rw[evalPart_none];exact de ⟨none,H,I,.none,h⟩
def OH(h:PE X e te):PO X (some e) (Tj te):=by intro Wp s σ H Q I hw;rw[evalPart_some];refine sr (h Wp s σ H _ I hw) λu s1 zz=>x5 zz λx H1 I1 r1 q1=>?_;obtain⟨i,rfl,q⟩:=q1;obtain⟨t,rfl⟩:=r1;exact⟨some i,H1,I1,.int i t,q⟩
def TF(X:Cx)(r:V->Option Int->Option Int->Hp->VK->Prop):Prop:=
 ∀(Wp:QQY) (s:Sd) (σ:St) (H:Hp) (x:V) (v vl vu:Vl) (lo hi:Option Int) (sl:Addr) (Q:VK),Inv X Wp σ H s->qG x v->s.heap.IsSliceOf sl vl vu .none->IsPart vl lo->IsPart vu hi->r x lo hi H Q->
  ∃T id,typeLookup (.type T) "__getitem__"=pure (some (.builtin id))/\s.TypeIs v T/\wpAny (model X.prog X.w) X.A (getItem v (.ref sl)) (EP X Wp σ Q) X.xe s
def V9(r:V->Option Int->Option Int->Hp->VK->Prop)(te:TE)(tl th:TO):TE:=λσ H Q=>te σ H λx H1=>tl σ H1 λl H2=>th σ H2 λu H3=>r x l u H3 Q
def MF{r:V->Option Int->Option Int->Hp->VK->Prop}(hr:TF X r)(he:PE X e te)(hl:PO X lo tl)(hu:PO X hi th):PE X (.Subscript e (.Slice lo hi none p2) pos) (V9 r te tl th):=by intro Wp s σ H Q I h;refine Subscript_ (sr (he Wp s σ H _ I h) λv s1 zz=>x5 zz λx H1 I1 r1 q1=>?_);refine wpAny_Slice (sr (hl Wp s1 σ H1 _ I1 q1) λvl s2 zz=>x5 zz λl H2 I2 pl q2=>sr (hu Wp s2 σ H2 _ I2 q2) λvu s3 zz=>x5 zz λu H3 I3 pu q3=>?_);rw[evalPart_none];refine de ?_;have I4:Inv X Wp σ H3 {s3 with heap:=s3.heap.push {cls:=.type "slice",data:=.fields #[vl,vu,.none]}}:=I3.kept (t':=s3.toks) λb ob q=>cZ _ q;obtain⟨T,id,hT,ht,hg⟩:=hr Wp {s3 with heap:=s3.heap.push {cls:=.type "slice",data:=.fields #[vl,vu,.none]}} σ H3 x v vl vu l u s3.heap.objs.size Q I4 r1 (mF ..) pl pu q3;show wpAny (model X.prog X.w) X.A (subscriptTail e (.Slice lo hi none p2) v (.ref s3.heap.objs.size)) (EP X Wp σ Q) X.xe {s3 with heap:=s3.heap.push {cls:=.type "slice",data:=.fields #[vl,vu,.none]}};exact tail_any (ops:=[.ref s3.heap.objs.size,v]) ht hT hg (by with_unfolding_all rfl)
def Cb(xs:List V)(lo hi:Option Int):List V:=(xs.drop (HT.sT xs.length 0 lo)).take (HT.sT xs.length xs.length hi - HT.sT xs.length 0 lo)
def Al(xs:List V)(lo hi:Option Int):(Cb xs lo hi).length<=xs.length:=by unfold Cb;rw[fm,fY];omega
def UQ(K:ql):V->Option Int->Option Int->Hp->VK->Prop:=λx lo hi H Q=>∃a xs,x=.ref a/\uQ K H a xs/\
 ¬(HT.sT xs.length 0 lo=0/\HT.sT xs.length xs.length hi=xs.length)/\∀p,H p=none->Q (.ref p) (upd H p (.tup (Cb xs lo hi)))
def QP:TF X (UQ X.K):=by
 intro Wp s σ H x v vl vu lo hi sl Q I rx hs pl pu h;obtain⟨a,xs,rfl,hx,hw,q⟩:=h;cases rx;obtain⟨its,r,ht,hz⟩:=I.tuple hx;have Wv:its.toArray.size=xs.length:=by rw[dv];exact r.length.symm
 refine⟨"tuple",_,fz.lookup,ht.typeIs,?_⟩;refine HT.zx ht hs pl pu (by rw[Wv];exact hw) ?_ (by rw[Wv];exact hz);rw[Wv];refine⟨.ref s.heap.objs.size,_,I.laid (t':=s.toks) (o:=.tup (Cb xs lo hi)) (λb ob q=>cZ _ q) (dg _) ?_,rfl,q _ (I.mR.fresh (dg _))⟩;exact⟨dW (Al xs lo hi) hz,_,(r.drop (HT.sT xs.length 0 lo)).take (HT.sT xs.length xs.length hi - HT.sT xs.length 0 lo),CL.new _ _⟩
def Uv(K:ql):R2:=λx y H Q=>∃a b xs ys,x=.ref a/\y=.ref b/\uQ K H a xs/\uQ K H b ys/\xs≠[]/\xs.length+ys.length<=sizeLine/\
 (ys=[]->Q (.ref a) H)/\(ys≠[]->∀p,H p=none->Q (.ref p) (upd H p (.tup (xs++ys))))
def qA.nN{xs:List V}{us:List Vl}(r:qA xs us):us=[]↔xs=[]:=by
 cases r with
 | nil=>simp
 | cons _ _=>simp
def Ov:xO X (binaryOp .Add) (Uv X.K):=by intro Wp s σ H x y v u Q I rx ry h;obtain⟨a,b,xs,ys,rfl,rfl,ha,hb,hx,hz,q1,q2⟩:=h;cases rx;cases ry;obtain⟨its,r1,p1,_⟩:=I.tuple ha;obtain⟨its2,r2,p2,_⟩:=I.tuple hb;refine HT.PH p1 p2 (λz=>hx (r1.nN.mp z)) (λz=>⟨.ref a,H,I,rfl,q1 (r2.nN.mp z)⟩) (λz=>?_) (by rw[<-r1.length,<-r2.length];exact hz);refine⟨.ref s.heap.objs.size,_,I.laid (t':=s.toks) (o:=.tup (xs++ys)) (λb ob q=>cZ _ q) (dg _) ?_,rfl,q2 (λw=>z (r2.nN.mpr w)) _ (I.mR.fresh (dg _))⟩;exact⟨by rw[cV];exact hz,_,r1.append r2,CL.new _ _⟩
def EG(n:Nat)(i:Int):Option Nat:=if 0<=i then(if i<n then some i.toNat else none)else if -(n:Int)<=i then some (i+n).toNat else none
def vD{α:Type}(xs:List α)(i:Int):Option α:=(EG xs.length i).bind λj=>xs[j]?
def IW{n:Nat}{i:Int}{j:Nat}(h:EG n i=some j):seqIndex? i n=some j/\j<n/\-(n:Int)<=i/\i<n:=by
 unfold EG at h;by_cases h0:0<=i
 .rw[c9 h0]at h;by_cases h1:i<n
  .rw[c9 h1]at h;have e:i.toNat=j:=dh h;exact⟨by rw[lL h0 h1,e],by omega,by omega,h1⟩
  .rw[cY h1]at h;cases h
 .rw[cY h0]at h;by_cases h1:-(n:Int)<=i
  .rw[c9 h1]at h;have e:(i+n).toNat=j:=dh h;exact⟨by rw[kX (by omega) h1,e],by omega,h1,by omega⟩
  .rw[cY h1]at h;cases h
def EJ{α:Type}{xs:List α}{i:Int}{v:α}(h:vD xs i=some v):∃j,seqIndex? i xs.length=some j/\xs[j]?=some v/\j<xs.length/\-(xs.length:Int)<=i/\i<xs.length:=by
 unfold vD at h;cases e:EG xs.length i with
 | none=>rw[e]at h;cases h
 | some j=>rw[e]at h;obtain⟨h1,h2,h3,h4⟩:=IW e;exact⟨j,h1,h,h2,h3,h4⟩
def ur{α:Type}{xs:List α}{j:Nat}{v:α}(h:xs[j]?=some v):vD xs (j:Int)=some v:=by
 have hj:j<xs.length:=(cX.mp h).1;have e:EG xs.length (j:Int)=some j:=by unfold EG;rw[c9 (by omega),c9 (by omega)];simp
 unfold vD;rw[e];exact h
def AY(b:Expr):Prop:=∀o i,subscripted b false o i=operate [o,i] (getItem o i)
def SB(X:Cx)(r:R2):Prop:=
 ∀(value WC:Expr) (Wp:QQY) (s:Sd) (σ:St) (H:Hp) (x y:V) (v u:Vl) (Q:VK),Inv X Wp σ H s->qG x v->qG y u->r x y H Q->
  subscripted WC false v u=operate [v,u] (getItem v u)->wpAny (model X.prog X.w) X.A (subscriptTail value WC v u) (EP X Wp σ Q) X.xe s
def UV(X:Cx)(id:String)(r:V->List V->Hp->VK->Prop):Prop:=
 ∀(Wp:QQY) (s:Sd) (σ:St) (H:Hp) (x:V) (xs:List V) (v:Vl) (us:List Vl) (Q:VK),Inv X Wp σ H s->qG x v->qA xs us->r x xs H Q->
  wpAny (model X.prog X.w) X.A (call (.builtin id) (v::us)) (EP X Wp σ Q) X.xe s
variable {o:Expr}{es:List Expr}{to:TE}{t:TA}{name:Str}{Ws Ww:Pos}{T id:String}{r:V→List V→Hp→VK→Prop}{a:Expr}{ta tb:TE}
section
variable {b:Expr}
def LC{r:R2}(hr:SB X r)(ha:PE X a ta)(hb:PE X b tb)(hs:AY b):PE X (.Subscript a b pos) (SM r ta tb):=by intro Wp s σ H Q I h;exact Subscript_ (RZ ha hb I h λv u s2 x y H2 I2 rx ry q=>hr a b Wp s2 σ H2 x y v u Q I2 rx ry q (hs _ _))
def UP(K:ql):R2:=λx y H Q=>∃p xs i v,x=.ref p/\y=.int i/\yS K H p xs/\vD xs i=some v/\Q v H
def Vp(K:ql):R2:=λx y H Q=>∃p xs i v,x=.ref p/\y=.int i/\uQ K H p xs/\vD xs i=some v/\Q v H
def Vc:R2:=λx y H Q=>∃z i c,x=.str z/\y=.int i/\z.length<=sizeLine/\vD z.cps.toList i=some c/\Q (.str ⟨#[c]⟩) H
def HH:SB X (UP X.K):=by
 intro value WC Wp s σ H x y v u Q I rx ry h hs;obtain⟨p,xs,i,z,rfl,rfl,hq,he,q⟩:=h;cases rx;obtain⟨t,rfl⟩:=ry;obtain⟨its,r,pl,hz⟩:=I.list hq;obtain⟨j,h1,h2,h3,h4,h5⟩:=EJ he;obtain⟨w,ew,Yw⟩:=r.get h2;have hl:=r.length;have hn:=yI;have Wt:EP X Wp σ Q w s:=⟨z,H,I,Yw,q⟩;by_cases h0:0<=i
 .have hj:i.toNat=j:=by rw[lL h0 h5]at h1;exact dh h1
  exact item_listR pl.isList h0 (by omega) (by rw[hj];simpa using ew) Wt hs
 .have hj:(i+(its.toArray.size:Int)).toNat=j:=by rw[kX (by omega) h4]at h1;rw[dv,<-hl];exact dh h1
  exact jY (x:=w) pl.isList.typeIs lC.lookup
   (wpAny_getItem_list_neg (Q:=λr s'=>r=w/\EP X Wp σ Q r s') pl.isList (by omega) (by rw[dv]<;>omega) (by omega) (by rw[hj];simpa using ew) ⟨rfl,Wt⟩) hs
def Sq:SB X (Vp X.K):=by
 intro value WC Wp s σ H x y v u Q I rx ry h hs;obtain⟨p,xs,i,z,rfl,rfl,hq,he,q⟩:=h;cases rx;obtain⟨t,rfl⟩:=ry;obtain⟨its,r,pl,hz⟩:=I.tuple hq;obtain⟨j,h1,h2,h3,h4,h5⟩:=EJ he;obtain⟨w,ew,Yw⟩:=r.get h2;have hl:=r.length;have hn:=yI;have Wt:EP X Wp σ Q w s:=⟨z,H,I,Yw,q⟩;exact jY (x:=w) pl.typeIs slot_tuple_getitem.lookup
  (getItem_tuple (j:=j) (Q:=λr s'=>r=w/\EP X Wp σ Q r s') pl (by omega) (by omega) (by rw[dv,<-hl];exact h1) (by simpa using ew) ⟨rfl,Wt⟩) hs
def Ro:SB X Vc:=by
 intro value WC Wp s σ H x y v u Q I rx ry h hs;obtain⟨z,i,c,rfl,rfl,hz,he,q⟩:=h;obtain⟨t,rfl⟩:=rx;obtain⟨t',rfl⟩:=ry;obtain⟨j,h1,h2,h3,h4,h5⟩:=EJ he;have hl:z.cps.toList.length=z.length:=by simp[Str.length]
 rw[hl]at h1 h4 h5;have hn:=yI;exact tail_any (typeIs_str s z t) slot_str_getitem.lookup (getItem_str (c:=c) (by
  have e1:decide (i< -(2 ^ 63:Int))=false:=eQ (by omega);have e2:decide (i>=2 ^ 63)=false:=eQ (by omega);rw[e1,e2,kz]) (by rw[h1];simpa using h2) ⟨.str ⟨#[c]⟩,H,I.tok _,⟨_,rfl⟩,q⟩) hs
def G7(its:List Vl)(n j:Nat)(u:Vl):Obj.mapSeq (·.setIfInBounds j u) {cls:=.type "list",data:=.seq its.toArray n}={cls:=.type "list",data:=.seq (its.set j u).toArray n}:=by simp[Obj.mapSeq]
def Inv.lst{Wp:QQY}{σ:St}{H:Hp}{s:Sd}{p:Addr}{xs:List V}(I:Inv X Wp σ H s)(h:H p=some (.lst xs)):
  ∃(its:List Vl) (n:Nat),qA xs its/\s.heap.get? p=some {cls:=.type "list",data:=.seq its.toArray n}/\xs.length<=sizeLine:=by
 obtain⟨z,its,n,r,e⟩:=I.mR p _ h;exact⟨its,n,r,e,z⟩
def Inv.om{Wp:QQY}{σ:St}{H:Hp}{s:Sd}{p:Addr}{xs ys:List V}{its its':List Vl}{n n':Nat}{f:Obj->Obj}(I:Inv X Wp σ H s)(h:H p=some (.lst xs)) (ho:s.heap.get? p=some {cls:=.type "list",data:=.seq its.toArray n}) (hf:f {cls:=.type "list",data:=.seq its.toArray n}={cls:=.type "list",data:=.seq its'.toArray n'}) (r:qA ys its') (hz:ys.length<=sizeLine) (t:Nat):
  Inv X Wp σ (upd H p (.lst ys)) {s with heap:=s.heap.update p f,toks:=t}:=by
 have e:(s.heap.update p f).get? p=some {cls:=.type "list",data:=.seq its'.toArray n'}:=by rw[fE f ho (by rw[hf]<;>rfl),hf]
 refine I.write (x:=p) (e:=p) (by rw[h];trivial) (.inl rfl) (λb u hb q=>(fV _ _ (dJ hb)).trans q) ⟨_,e⟩ ?_;exact⟨hz,its',n',r,e⟩
def TR:V->V->V->Hp->(Hp->Prop)->Prop:=λo i v H Q=>∃p xs k j,o=.ref p/\i=.int k/\H p=some (.lst xs)/\EG xs.length k=some j/\Q (upd H p (.lst (xs.set j v)))
def K4:SU X TR:=by
 intro Wp s σ H o i v ov iv u Q I ro ri rv h;obtain⟨p,xs,k,j,rfl,rfl,hp,hj,q⟩:=h;cases ro;obtain⟨t,rfl⟩:=ri;obtain⟨its,n,r,ho,hz⟩:=I.lst hp;obtain⟨h1,h2,h3,h4⟩:=IW hj;have hl:=r.length;have hn:=yI;have I':Inv X Wp σ (upd H p (.lst (xs.set j v))) {s with heap:=s.heap.update p (Obj.mapSeq (·.setIfInBounds j u))}:=
  I.om hp ho (G7 its n j u) (r.set rv j) (by rw[ii];exact hz) s.toks
 by_cases h0:0<=k
 .have hk:k.toNat=j:=by rw[lL h0 h4]at h1;exact dh h1
  exact W.ki_setAt ho h0 (by omega) (by rw[dv,<-hl];exact h4) (by rw[hk];exact⟨_,I',q⟩)
 .have hk:(k+(its.toArray.size:Int)).toNat=j:=by rw[kX (by omega) h3]at h1;rw[dv,<-hl];exact dh h1
  exact W.ki_setBack ho (by omega) (by rw[dv,<-hl];exact h3) (by omega) (by rw[hk];exact⟨_,I',q⟩)
def E6(lo hi:Option Int)(n:Nat):(sliceBounds lo hi none n).1=((HT.sT n 0 lo:Nat):Int)/\(sliceBounds lo hi none n).2.1=((HT.sT n n hi:Nat):Int)/\(sliceBounds lo hi none n).2.2=1:=by
 refine⟨?_,?_,rfl⟩
 .cases lo with
  | none=>simp[sliceBounds,HT.sT]
  | some i=>
   simp only[sliceBounds,HT.sT,lU,show(1:Int)>0 by decide,iZ];by_cases h:i<0
   .simp only[h,iZ]<;>omega
   .simp only[h,kl]<;>omega
 .cases hi with
  | none=>simp[sliceBounds,HT.sT]
  | some i=>
   simp only[sliceBounds,HT.sT,lU,show(1:Int)>0 by decide,iZ];by_cases h:i<0
   .simp only[h,iZ]<;>omega
   .simp only[h,kl]<;>omega
def Cv(its:List Vl)(lo hi:Option Int):slicePick its.toArray lo hi none=((its.drop (HT.sT its.length 0 lo)).take (HT.sT its.length its.length hi - HT.sT its.length 0 lo)).toArray:=by obtain⟨h1,h2,h3⟩:=E6 lo hi its.toArray.size;unfold slicePick;rw[h1,h2,h3];simp only[sliceRange_one,pick_run,dv]<;>rfl
def VL(K:ql):V->Option Int->Option Int->Hp->VK->Prop:=λx lo hi H Q=>∃a xs,x=.ref a/\yS K H a xs/\∀p,H p=none->Q (.ref p) (upd H p (.lst (Cb xs lo hi)))
def HX:TF X (VL X.K):=by intro Wp s σ H x v vl vu lo hi sl Q I rx hs pl pu h;obtain⟨a,xs,rfl,hx,q⟩:=h;cases rx;obtain⟨its,r,ht,hz⟩:=I.list hx;have Wv:=r.length;refine⟨"list",_,lC.lookup,ht.isList.typeIs,?_⟩;refine wpAny_getItem_list_slice ht.isList hs pl pu .none (by simp) ?_ (by rw[dv]<;>omega);rw[Cv,<-Wv];refine⟨.ref s.heap.objs.size,_,I.laid (t':=s.toks) (o:=.lst (Cb xs lo hi)) (λb ob q=>cZ _ q) (dg _) ?_,rfl,q _ (I.mR.fresh (dg _))⟩;exact⟨dW (Al xs lo hi) hz,_,0,(r.drop (HT.sT xs.length 0 lo)).take (HT.sT xs.length xs.length hi - HT.sT xs.length 0 lo),dE _ rfl⟩
def yj:V->Bool
 | .mM=>true
 | .bl _=>true
 | .int _=>true
 | .str _=>true
 | _=>false
def Nh:V->V->Bool
 | .mM,.mM=>true
 | .bl a,.bl b=>a==b
 | .bl a,.int b=>(if a then 1 else 0)==b
 | .int a,.bl b=>a==(if b then 1 else 0)
 | .int a,.int b=>a==b
 | .str a,.str b=>a==b
 | _,_=>false
def QM{A:Ar}{s:Sd}{y x:V}{u v:Vl}(ry:qG y u)(rx:qG x v)(fy:yj y=true)(fx:yj x=true):SeqAt.EqAt A s u v (Nh y x):=by
 cases y with
 | mM=>
  cases ry;cases x with
  | mM=>cases rx;exact SeqAt.EqAt.same _
  | bl b=>cases rx;exact SeqAt.EqAt.none_bool b
  | int b=>obtain⟨t,rfl⟩:=rx;exact SeqAt.EqAt.none_int b t
  | str b=>obtain⟨t,rfl⟩:=rx;exact SeqAt.EqAt.none_str b t
  | _=>exact absurd (show false=true from fx) dw
 | bl a=>
  cases ry;cases x with
  | mM=>cases rx;exact SeqAt.EqAt.bool_none a
  | bl b=>cases rx;exact SeqAt.EqAt.bool_bool a b
  | int b=>obtain⟨t,rfl⟩:=rx;exact SeqAt.EqAt.bool_int a b t
  | str b=>obtain⟨t,rfl⟩:=rx;exact SeqAt.EqAt.bool_str a b t
  | _=>exact absurd (show false=true from fx) dw
 | int a=>
  obtain⟨t',rfl⟩:=ry;cases x with
  | mM=>cases rx;exact SeqAt.EqAt.int_none a t'
  | bl b=>cases rx;exact SeqAt.EqAt.int_bool a t' b
  | int b=>obtain⟨t,rfl⟩:=rx;exact SeqAt.EqAt.int_int a t' b t
  | str b=>obtain⟨t,rfl⟩:=rx;exact kN a t' b t
  | _=>exact absurd (show false=true from fx) dw
 | str a=>
  obtain⟨t',rfl⟩:=ry;cases x with
  | mM=>cases rx;exact SeqAt.EqAt.str_none a t'
  | bl b=>cases rx;exact SeqAt.EqAt.str_bool a t' b
  | int b=>obtain⟨t,rfl⟩:=rx;exact kO a t' b t
  | str b=>obtain⟨t,rfl⟩:=rx;exact SeqAt.EqAt.str_str a t' b t
  | _=>exact absurd (show false=true from fx) dw
 | _=>exact absurd (show false=true from fy) dw
def Dt(x:V)(u:Vl):Bool:=match u with
 | .none=>Nh .mM x
 | .bool b=>Nh (.bl b) x
 | .int i _=>Nh (.int i) x
 | .str z _=>Nh (.str z) x
 | _=>false
def Hk{x y:V}{u:Vl}(r:qG y u)(f:yj y=true):Dt x u=Nh y x:=by
 cases y with
 | mM=>cases r;rfl
 | bl b=>cases r;rfl
 | int i=>obtain⟨t,rfl⟩:=r;rfl
 | str z=>obtain⟨t,rfl⟩:=r;rfl
 | _=>exact absurd (show false=true from f) dw
theorem y9{x:V}:∀{xs:List V} {us:List Vl},qA xs us->xs.all yj=true->us.any (Dt x)=xs.any λy=>Nh y x
 | _,_,.nil,_=>rfl
 | y::xs,u::us,.cons r t,f=>by rw[fk,dU]at f;rw[fX,fX,Hk r f.1,y9 t f.2]
theorem vm{A:Ar}{s:Sd}{x:V}{v:Vl}(rx:qG x v)(fx:yj x=true):∀{xs:List V} {us:List Vl},qA xs us->xs.all yj=true->∀u∈us,SeqAt.EqAt A s u v (Dt x u)
 | _,_,.nil,_=>λu hu=>by cases hu
 | y::xs,u::us,.cons r t,f=>λu' hu=>by
  rw[fk,dU]at f;rcases df.mp hu with rfl|hu
  .rw[Hk r f.1];exact QM r rx f.1 fx
  .exact vm rx fx t f.2 u' hu
def inV(x:V)(xs:List V):Bool:=xs.any λy=>Nh y x
def Vs(K:ql)(X0:Bool):R2:=λx y H Q=>∃p xs,y=.ref p/\(yS K H p xs\/uQ K H p xs)/\yj x=true/\xs.all yj=true/\Q (.bl (if X0 then !inV x xs else inV x xs)) H
def Jj:xO X (compareOp .In) (Vs X.K false):=by
 intro Wp s σ H x y v u Q I rx ry h;obtain⟨p,xs,rfl,hq,fx,fs,q⟩:=h;cases ry;rcases hq with hq|hq
 .obtain⟨its,r,pl,hz⟩:=I.list hq;refine SeqAt.in_listAt (Dt x) pl.isList (λw hw=>vm rx fx r fs w (by simpa using hw)) ⟨.bl _,H,I,rfl,?_⟩;rw[show its.toArray.any (Dt x)=its.any (Dt x)by simp,y9 r fs];exact q
 .obtain⟨its,r,pl,hz⟩:=I.tuple hq;refine SeqAt.in_tupleAt (Dt x) pl (λw hw=>vm rx fx r fs w (by simpa using hw)) ⟨.bl _,H,I,rfl,?_⟩;rw[show its.toArray.any (Dt x)=its.any (Dt x)by simp,y9 r fs];exact q
def D6:xO X (compareOp .NotIn) (Vs X.K true):=by
 intro Wp s σ H x y v u Q I rx ry h;obtain⟨p,xs,rfl,hq,fx,fs,q⟩:=h;cases ry;rcases hq with hq|hq
 .obtain⟨its,r,pl,hz⟩:=I.list hq;refine SeqAt.notIn_listAt (Dt x) pl.isList (λw hw=>vm rx fx r fs w (by simpa using hw)) ⟨.bl _,H,I,rfl,?_⟩;rw[show its.toArray.any (Dt x)=its.any (Dt x)by simp,y9 r fs];exact q
 .obtain⟨its,r,pl,hz⟩:=I.tuple hq;refine SeqAt.notIn_tupleAt (Dt x) pl (λw hw=>vm rx fx r fs w (by simpa using hw)) ⟨.bl _,H,I,rfl,?_⟩;rw[show its.toArray.any (Dt x)=its.any (Dt x)by simp,y9 r fs];exact q
def Eg:xO X (compareOp .NotIn) (λx y H Q=>∃i j,x=.str i/\y=.str j/\Q (.bl (!(!(Builtin.Str.occurrences j i 0 j.length 1).isEmpty))) H):=by intro Wp s σ H x y v u Q I rx ry h;obtain⟨i,j,rfl,rfl,q⟩:=h;obtain⟨t,rfl⟩:=rx;obtain⟨t',rfl⟩:=ry;exact notIn_str ⟨.bl _,H,I,rfl,q⟩
def wH:zF X (.builtin "len") (λxs H Q=>∃p ys,xs=[.ref p]/\(yS X.K H p ys\/uQ X.K H p ys)/\Q (.int ys.length) H):=by
 intro Wp s σ H xs us Q I r h;obtain⟨p,ys,rfl,hq,q⟩:=h;obtain⟨u,rfl,rx⟩:=xN r;cases rx;have hn:=yI;rcases hq with hq|hq
 .obtain⟨its,r',pl,hz⟩:=I.list hq;have Wv:=r'.length;exact Calls.call_len_list pl.isList (by simp only[dv]<;>omega) ⟨.int ys.length,H,I.tok _,⟨s.toks+1,by rw[dv,Wv]⟩,q⟩
 .obtain⟨its,r',pl,hz⟩:=I.tuple hq;have Wv:=r'.length;exact len_tuple pl (by simp only[dv]<;>omega) ⟨.int ys.length,H,I.tok _,⟨s.toks+1,by rw[dv,Wv]⟩,q⟩
def Fk:zF X (.builtin "len") (λxs H Q=>∃z,xs=[.str z]/\z.length<=sizeLine/\Q (.int z.length) H):=by intro Wp s σ H xs us Q I r h;obtain⟨z,rfl,hz,q⟩:=h;obtain⟨u,rfl,t,rfl⟩:=xN r;have hn:=yI;exact len_str (by omega) ⟨.int z.length,H,I.tok _,⟨_,rfl⟩,q⟩
def ER:zF X (.type "list") (λxs H Q=>∃p ys,xs=[.ref p]/\(yS X.K H p ys\/uQ X.K H p ys)/\∀l,H l=none->Q (.ref l) (upd H l (.lst ys))):=by
 intro Wp s σ H xs us Q I r h;obtain⟨p,ys,rfl,hq,q⟩:=h;obtain⟨u,rfl,rx⟩:=xN r;cases rx;have Wt:∀(its:List Vl),qA ys its->ys.length<=sizeLine->∀(h':Heap) (c':Nat),(∀b o',s.heap.get? b=some o'->h'.get? b=some o')->
   h'.get? s.heap.objs.size=some {cls:=.type "list",dict:=none,data:=.seq its.toArray c',slots:=#[]}->EP X Wp σ Q (.ref s.heap.objs.size) {s with heap:=h'}:=λits r' hz h' c' kp e=>
  ⟨.ref s.heap.objs.size,_,I.laid (t':=s.toks) kp (dg _) (show sf X.prog X.w _ h' _ (.lst ys)from⟨hz,its,c',r',e⟩),rfl,q _ (I.mR.fresh (dg _))⟩
 rcases hq with hq|hq
 .obtain⟨its,r',pl,hz⟩:=I.list hq;have Wv:=r'.length;obtain⟨o,ho,hc,n,hd⟩:=pl.isList;exact call_list_seq p (.inl rfl) ho hc hd (λh' c' kp e=>Wt its r' hz h' c' kp e) (by simp only[dv]<;>omega)
 .obtain⟨its,r',pl,hz⟩:=I.tuple hq;have Wv:=r'.length;obtain⟨o,ho,hc,n,hd⟩:=pl;exact call_list_seq p (.inr rfl) ho hc hd (λh' c' kp e=>Wt its r' hz h' c' kp e) (by simp only[dv]<;>omega)
def vS:zF X (.type "tuple") (λxs H Q=>∃p ys,xs=[.ref p]/\((yS X.K H p ys/\∀l,H l=none->Q (.ref l) (upd H l (.tup ys)))\/(uQ X.K H p ys/\Q (.ref p) H))):=by
 intro Wp s σ H xs us Q I r h;obtain⟨p,ys,rfl,h⟩:=h;obtain⟨u,rfl,rx⟩:=xN r;cases rx;rcases h with⟨hq,q⟩|⟨hq,q⟩
 .obtain⟨its,r',pl,hz⟩:=I.list hq;have Wv:=r'.length;refine call_tuple_list pl.isList (λh' kp=>?_) (by simp only[dv]<;>omega);have I1:Inv X Wp σ H {s with heap:=h'}:=I.kept (t':=s.toks) kp;have I2:Inv X Wp σ (upd H h'.objs.size (.tup ys)) {s with heap:=h'.push {cls:=.type "tuple",data:=.seq its.toArray}}:=
   I1.laid (t':=s.toks) (λb o e=>cZ _ e) (dg _) (show sf X.prog X.w _ _ _ (.tup ys)from⟨hz,its,r',CL.new _ _⟩)
  exact⟨.ref h'.objs.size,_,I2,rfl,q _ (I1.mR.fresh (dg _))⟩
 .obtain⟨its,r',pl,hz⟩:=I.tuple hq;exact call_tuple_same pl ⟨.ref p,H,I,rfl,q⟩
def Vy(K:ql)(T:String)(x:V)(H:Hp):Prop:=match x with
 | .str _=>T="str"
 | .int _=>T="int"
 | .ref p=>(T="list"/\∃xs,yS K H p xs)\/(T="tuple"/\∃o,K.lookup p=some o/\o.cls=.type "tuple"/\o.dict=none)\/
   (T="dict"/\((∃kvs,H p=some (.dK kvs))\/∃kvs,H p=some (.dT kvs)))\/(T="set"/\∃S n,H p=some (.set S n))
 | _=>False
def RN{Wp:QQY}{σ:St}{H:Hp}{s:Sd}{T:String}{x:V}{v:Vl}(I:Inv X Wp σ H s)(r:qG x v)(ty:Vy X.K T x H):
  s.TypeIs v T/\∀a,v=.ref a->∃ob,s.heap.get? a=some ob/\ob.dict=none:=by
 cases x with
 | str z=>obtain⟨t,rfl⟩:=r;cases(show T="str" from ty);exact⟨typeIs_str s z t,λ_ e=>nomatch e⟩
 | int i=>obtain⟨t,rfl⟩:=r;cases(show T="int" from ty);exact⟨me s i t,λ_ e=>nomatch e⟩
 | ref p=>
  cases r;rcases ty with⟨rfl,xs,hq⟩|⟨rfl,o,hk,hc,hd⟩|⟨rfl,hk⟩|⟨rfl,S,n,hk⟩
  .obtain⟨its,_,pl,_⟩:=I.list hq;refine⟨pl.isList.typeIs,λa e=>?_⟩;cases e;obtain⟨o,n,e,c,hd,_⟩:=pl;exact⟨o,e,hd⟩
  .refine⟨⟨o,I.m7 p o hk,hc⟩,λa e=>?_⟩;cases e;exact⟨o,I.m7 _ o hk,hd⟩
  .have z:∃o,s.heap.get? p=some o/\o.ExactDict:=by
    rcases hk with⟨kvs,hk⟩|⟨kvs,hk⟩
    .obtain⟨_,_,_,_,o,_,_,e,ex,_⟩:=I.mR p _ hk;exact⟨o,e,ex⟩
    .obtain⟨_,_,_,_,o,_,_,e,ex,_⟩:=I.mR p _ hk;exact⟨o,e,ex⟩
   obtain⟨o,e,ex⟩:=z;refine⟨⟨o,e,ex.1⟩,λa e2=>?_⟩;cases e2;exact⟨o,e,ex.2.1⟩
  .obtain⟨o,_,_,_,e,ex,_⟩:=I.mR p _ hk;refine⟨⟨o,e,ex.1⟩,λa e2=>?_⟩;cases e2;exact⟨o,e,ex.2.1⟩
 | _=>exact False.elim ty
def Wj(K:ql)(T:String)(r:V->List V->Hp->VK->Prop)(to:TE)(t:TA):TE:=λσ H Q=>to σ H λx H1=>Vy K T x H1/\t σ H1 λxs H2=>r x xs H2 Q
def Uc(pa:PlainAttrs T)(slot:Slot T name id)(hty:typeOf (.builtin id)=pure (.type "method_descriptor"))(hm:UV X id r)(ho:PE X o to)(ha:PA X (e::es) t) (WE:attributeBase o name X.env (eval o X.env)=eval o X.env:=by rfl)
  (WY:((backTo Ww (starEach (e::es) X.env)).all (λx=>!x.1)&&(backToKw Ww (keywordEach [] X.env)).all (λx=>x.1.isSome)
   &&decide ((e::es).length+([]:List Keyword).length+(if ([]:List Keyword).isEmpty then 0 else 1)<30))=true:=by rfl)
  (WO:(Ws.endLine==Ww.line)=true:=by rfl) (hs:AL X e es:=by rfl) (Wx:Cr X Ww es:=by rfl):
  PE X (.Call (.Attribute o name Ws) (e::es) [] Ww) (Wj X.K T r to t):=by
 intro Wp s σ H Q I h;refine jZ WE WY WO rfl (sr (ho Wp s σ H _ I h) λv s1 zz=>?_);obtain⟨x,H1,I1,r1,ty,q1⟩:=zz;obtain⟨h1,h2⟩:=RN I1 r1 ty;refine⟨T,id,pa,slot,hty,h1,h2,?_⟩;have hA:=ha Ww Wp s1 σ H1 _ I1 q1;rw[hs]at hA ⊢;refine j3 (by show(false||(backTo Ww (starEach es X.env)).any (·.1))=false;rw[Wx]<;>rfl) (km ?_);exact sr hA λus s2 zz=>x5 zz λvs H2 I2 r2 q2=>hm Wp s2 σ H2 x vs v us Q I2 r1 r2 q2
end
def Wc(X:Cx)(id:String)(r:V->List V->Hp->VK->Prop):Prop:=
 ∀(Wp:QQY) (s:Sd) (σ:St) (H:Hp) (x:V) (xs:List V) (v:Vl) (us:List Vl) (Q:VK),Inv X Wp σ H s->qG x v->qA xs us->r x xs H Q->
  wpAny (model X.prog X.w) X.A (call (.builtin id) (v::us)) (EP X Wp σ Q) X.xe s
def qA.one:∀{x:V} {us:List Vl},qA [x] us->∃u,us=[u]/\qG x u
 | _,_,.cons r .nil=>⟨_,rfl,r⟩
theorem qA.rep{xs:List V}{us:List Vl}(h:qA xs us):∀k:Nat,qA (List.replicate k xs).flatten (List.replicate k us).flatten
 | 0=>.nil
 | k+1=>by rw[eG,eG,fM,fM];exact qA.append h (qA.rep h k)
theorem Dw(its:List Vl):∀(k:Nat) (acc:List Vl),List.foldl (λx1 x2=>x1++x2) acc.toArray (List.replicate k its.toArray)=(acc++(List.replicate k its).flatten).toArray
 | 0,acc=>by simp
 | k+1,acc=>by
  have e:acc.toArray++its.toArray=(acc++its).toArray:=by simp
  have e2:(acc++its)++(List.replicate k its).flatten=acc++(List.replicate (k+1) its).flatten:=by rw[eG,fM,eW]
  rw[<-e2,<-Dw its k (acc++its),<-e,eG,fS]
variable {Wp:List (Addr × Obj)}{σ:St}{H:Hp}{s:Sd}{l:Addr}{xs ys zs:List V}
section
variable {b:Addr}
def Inv.lset{its its':List Vl}{n:Nat}{f:Array Vl->Array Vl}{t':Nat}(I:Inv X Wp σ H s)(hH:H l=some (.lst xs)) (e:s.heap.get? l=some {cls:=.type "list",data:=.seq its.toArray n}) (hf:f its.toArray=its'.toArray) (hv:qA ys its') (hz:ys.length<=sizeLine):
  Inv X Wp σ (upd H l (.lst ys)) {s with heap:=s.heap.update l (Obj.mapSeq f),toks:=t'}:=by
 have q:=PySem.IsL.update e f;rw[hf]at q;refine I.write (x:=l) (e:=l) (by rw[hH];exact trivial) (.inl rfl) (λb' u hb hu=>(fV s.heap (Obj.mapSeq f) (dJ hb)).trans hu) ⟨_,q⟩ ?_;exact⟨hz,its',_,hv,q⟩
def Inv.oV{its:List Vl}{t':Nat}(I:Inv X Wp σ H s)(hv:qA ys its)(hz:ys.length<=sizeLine):
  Inv X Wp σ (upd H s.heap.objs.size (.lst ys)) {s with heap:=s.heap.push {cls:=.type "list",data:=.seq its.toArray},toks:=t'}:=
 I.laid (λ_ _ q=>cZ _ q) (dg _) ⟨hz,its,0,hv,dE _ rfl⟩
def Inv.fresh(I:Inv X Wp σ H s):H s.heap.objs.size=none:=I.mR.fresh (dg _)
def Inv.oR(I:Inv X Wp σ H s)(hH:H l=some (.lst xs)):xs.length<=sizeLine/\∃(its:List Vl) (n:Nat),qA xs its/\xs.length=its.length/\s.heap.get? l=some {cls:=.type "list",data:=.seq its.toArray n}:=by obtain⟨z,its,n,r,e⟩:=I.mR l _ hH;exact⟨z,its,n,r,r.length,e⟩
def LW{n:Nat}(h:n<=sizeLine):Builtin.List.listTooLong n=false:=by unfold Builtin.List.listTooLong;exact eQ (by omega)
end
def PZ:V->List V->Hp->VK->Prop:=λx vs H Q=>∃l xs y,x=.ref l/\vs=[y]/\H l=some (.lst xs)/\xs.length<sizeLine/\Q .mM (upd H l (.lst (xs++[y])))
def JI:Wc X "list.append" PZ:=by intro Wp s σ H x vs v us Q I rx rv h;obtain⟨l,xs,y,rfl,rfl,hH,hz,q⟩:=h;cases rx;obtain⟨u,rfl,ru⟩:=rv.one;obtain⟨z,its,n,r,hl,e⟩:=I.oR hH;refine iK F.slot_list_append ⟨_,e,rfl⟩ F.entry_list_append (F.args_list_append_2 _ _) (PySem.list_append l its.toArray n u (by rw[dv];omega)) ⟨e,?_⟩;refine⟨.mM,_,I.lset (its':=its++[u]) hH e (by simp) (r.append (.cons ru .nil)) ?_,rfl,q⟩;rw[cV,dP];omega
def Vu:R2:=λx y H Q=>∃l k xs,x=.ref l/\y=.int k/\H l=some (.lst xs)/\-(2 ^ 63)<=k/\k<2 ^ 63/\xs.length*k.toNat<=sizeLine/\
 ∀p,H p=none->Q (.ref p) (upd H p (.lst (List.replicate k.toNat xs).flatten))
def Oo{α:Type}(xs:List α)(k:Nat):(List.replicate k xs).flatten.length=k*xs.length:=by
 induction k with
 | zero=>simp
 | succ k ih=>rw[eG,fM,cV,ih,mx,Nat.add_comm]
def RV:xO X (binaryOp .Mult) Vu:=by
 intro Wp s σ H x y v u Q I rx ry h;obtain⟨l,k,xs,rfl,rfl,hH,h1,h2,hz,q⟩:=h;cases rx;obtain⟨t,rfl⟩:=ry;obtain⟨z,its,n,r,hl,e⟩:=I.oR hH;have Wv:its.toArray.size*k.toNat<=sizeLine:=by rw[dv,<-hl];exact hz
 have hcap:¬its.toArray.size*k.toNat>(2 ^ 63 - 1) / 8:=by
  have:(sizeLine:Nat)<=(2 ^ 63 - 1) / 8:=by decide
  omega
 have WZ:¬(!Builtin.List.listFitsIndex k)=true:=by rw[fitsIndex_both h1 h2];exact dw
 have hlong:¬Builtin.List.listTooLong (its.toArray.size*k.toNat)=true:=by rw[LW Wv];exact dw
 have X6:List.foldl (λx1 x2=>x1++x2) #[] (List.replicate (if its.toArray.isEmpty=true then 0 else k.toNat) its.toArray)=(List.replicate k.toNat its).flatten.toArray:=by
  have f0:∀m:Nat,List.foldl (λx1 x2=>x1++x2) #[] (List.replicate m its.toArray)=(List.replicate m its).flatten.toArray:=λm=>by have:=Dw its m [];rw[dY]at this;exact this
  rw[f0];cases its with
  | nil=>simp
  | cons a r'=>rw[cY (by simp)]
 refine wpAny_binaryOp_repeat_ref (T:="list") (U:="int") (by decide) ⟨_,e,rfl⟩ (λs'=>me s' k t) noFill_list_mul F.fills_int_mul mf repeat_list F.slot_int_index.lookup
  (iK mf (me s k t) F.entry_int_rmul (F.args_int_rmul_2 _ _) (int___rmul___int_list k t l its.toArray n)
   ⟨e,rfl,⟨_,e,rfl⟩,iK F.slot_list_mul ⟨_,e,rfl⟩ F.entry_list_mul (F.args_list_mul_2 _ _) (AutoListH.list___mul___list_int_3 l its.toArray n k t WZ hcap hlong) ⟨e,?_⟩⟩)
 rw[X6];exact⟨.ref _,_,I.oV (t':=s.toks) (r.rep k.toNat) (by rw[Oo,Nat.mul_comm];exact hz),rfl,q _ I.fresh⟩
variable {prog:Pg}{w:Wo}{A:Ar}{E:QQX}
end L2
namespace Att
open PySem PySem.W PySem.Calls PyProof.Rows
def AM{P:Params}{h:Heap}:∀(ns:List Int) (vs:List Vl),WellAll P h vs (ns.map WData.int)->IntsAre vs ns:=by
 intro ns;induction ns with
 | nil=>intro vs w;rw[iL]at w;cases w;exact .nil
 | cons n ns ih=>
  intro vs w;rw[dS]at w;cases w with
  | cons a b=>cases a;exact .cons _ _ (ih _ b)
def Kc{l:OpenLaw}{n:Nat}(hn:l.most=some n){P:Params}{h:Heap}{args:List WData}{Zi:List Vl} (Yx:l.row.toRowW.claim.pre args=true) (hwl:WellAll P h Zi args):
  ∃a vs ns,Zi=[Value.ref a]/\args=[WData.list (ns.map WData.int)]/\h.get? a=some {cls:=.type "list",data:=.seq vs.toArray}/\IntsAre vs ns/\ns.length<=n:=by
 have hsh:WShape.hasAll [] args [.list .int]=true:=(pre_splitW Yx).1;have hc:l.pre.holds [] {args:=args}=true:=(pre_splitW Yx).2;obtain⟨d,r,rfl,h1,h2⟩:=hasAllW_cons hsh;obtain rfl:=hasAllW_nil h2;obtain⟨xs,rfl,h3⟩:=hasW_list h1;obtain⟨ns,rfl⟩:=items_int h3;have Wv:ns.length<=n:=by
  unfold OpenLaw.pre at hc;have h4:(WTm.not (.lt (.lit (.int (n:Int))) (.len (.arg 0)))).holds [] {args:=[.list (ns.map .int)]}=true:=by have h4:=(holds_andW hc).1;rw[hn]at h4;exact h4
  have h5:=condW_of h4 (w_not (w_lt w_lit (w_len_list (w_arg rfl))));rw[cT]at h5;refine Nat.le_of_not_lt λq=>?_;have q':(n:Int)<((ns.length:Nat):Int):=by omega
  first
   | (rw[dR q']at h5;exact absurd h5 (by decide))
   | (simp at h5;omega)
 cases hwl with
 | cons w1 w2=>
  cases w2;cases w1 with
  | list ho W6=>exact⟨_,_,ns,rfl,rfl,ho,AM ns _ W6,Wv⟩
def J4(l:OpenLaw)(args:List WData):l.row.toRowW.claim.post args (.bool true) args=true:=
 postW_of (r:=l.row.toRowW) (X:=(true==true))
  (show WShape.has [] (.bool true) .bool=true by first|rfl|decide|simp[WShape.has,WShape.arms,WShape.armsAll])
  (show(WTm.eq .res (.lit (.bool true))).value [] {args:=args,res:=some (.bool true),after:=args}=some (.bool (true==true))from w_eq_bool (w_res rfl) w_lit) rfl
def attach_call{l:OpenLaw}{n:Nat}{q:Pg}{Xe:QQQ}{XP:(QQZ)->Heap->Prop}{YP:Wo->Heap->Prop}{d:DefRec} (hn:l.most=some n) (YV:d.params.defaults=[]) (call:∀(w:Wo) (s₀ s₁:Sd) (mg mb:QQZ) (fa:Addr) (o:Obj) (pm cd W2:Vl) (a:Addr) (vs:List Vl) (ns:List Int),Ground q Xe [] XP w s₀ mg mb s₁.heap->YP w s₁.heap->
   s₁.heap.get? fa=some o->o.data=.func (docDef d.name d.params d.body d.scope pm cd W2)->s₁.heap.CodeRec cd d.name->mg d.name=some (.ref fa)->
   s₁.heap.get? a=some {cls:=.type "list",data:=.seq vs.toArray}->IntsAre vs ns->ns.length<=n->s₁.gens=#[]->
   codeAny (model l.prog w) callerA (.call (.ref fa) ⟨[.ref a],[]⟩) (λr s'=>r=.ok (.ret (.bool true))/\OldK s₁.heap s'.heap/\s'.os=s₁.os/\AllBare s'.gens) s₁):
  WalkO q Xe XP YP l.row.toRowW d [] (λf vs=>PySem.call f vs):=by
 intro w s₀ s₁ mg mb G Y fa o pm cd W2 dV kV ho hd Xp hD hmg hg args Zi as Yx hlay hrd hwl hlo;obtain rfl:dV=.none:=Dflts.none hD YV;obtain rfl:kV=.none:=Dflts.noKw hD;obtain⟨a,vs,ns,rfl,rfl,Zj,X7,Wv⟩:=Kc hn Yx hwl;refine enter_call (gh (call w s₀ s₁ mg mb fa o pm cd W2 a vs ns G Y ho (fd_plain hd) Xp hmg Zj X7 Wv hg) λr s' hq=>?_);obtain⟨rfl,h2,h3,h4⟩:=hq;exact⟨.inl ⟨.bool true,.bool true,[],rfl,λ_=>rfl,.bool true,J4 l _,λ_=>⟨List.Pairwise.nil,λ_ hm=>(nomatch hm)⟩⟩,h2,h3,h4⟩
variable {prog:Pg}{w:Wo}{A:Ar}{E:QQX}{s:Sd}{K:Frag}
end Att
namespace L2
theorem DJ:∀{vs:List Vl} {ns:List Int},IntsAre vs ns->qA (ns.map V.int) vs
 | _,_,.nil=>.nil
 | _,_,.cons n t h=>.cons ⟨t,rfl⟩ (DJ h)
def LL(H:Hp):Prop:=∀b,H b=none\/∃o xs,H b=some (.frz o (.lst xs))
def MP{P:Pg}{w:Wo}{K:ql}{mg mb:QQZ}{CX:Kl}{k:Nat}{fa a:Addr}{fd:FuncData}{x:Str}{sp:Sp}{s₁:Sd}{vs:List Vl}{ns:List Int} (KX:K.In s₁.heap) (hns:s₁.heap.Ns mainGlobals mg) (hb:s₁.heap.Ns builtinsNs mb) (hbb:∀x:Str,x≠"__name__"->mb x=bootBuiltins x) (hlim:s₁.heap.NoLimit) (hg:s₁.gens=#[]) (ha:s₁.heap.get? a=some {cls:=.type "list",data:=.seq vs.toArray}) (hi:IntsAre vs ns) (hl:ns.length<=sizeLine) (hr:rR k callerA)
  (F:∀base:Heap,K.In base->base.Ns mainGlobals mg->xh P w K mg base CX k fa fd [x] sp) (hbind:∀(s:Sd) (u:Vl),BindsTo s fd ⟨[u],[]⟩ [(x,u)])
  (XS:∀H:Hp,LL H->yS K H a (ns.map V.int)->sp [.ref a] H (λv _=>v=.bl true) λ_ _ _=>False)
  (hCX:∀H e s',CX [] H s₁ (λ_ _ _=>False) e s'->False):
  codeAny (model P w) callerA (.call (.ref fa) ⟨[.ref a],[]⟩) (λr s'=>r=.ok (.ret (.bool true))/\OldK s₁.heap s'.heap/\s'.os=s₁.os/\AllBare s'.gens) s₁:=by
 have rv:=DJ hi;have lenV:=hi.length;have core:∀H:Hp,LL H->yS K H a (ns.map V.int)->ye P w H s₁.heap->(∀b,H b≠none->b=a)->(H a≠none->K.lookup a=none)->
   codeAny (model P w) callerA (.call (.ref fa) ⟨[.ref a],[]⟩) (λr s'=>r=.ok (.ret (.bool true))/\OldK s₁.heap s'.heap/\s'.os=s₁.os/\AllBare s'.gens) s₁:=by
  intro H hO hS mR hA hK;have XI:∀{b:Addr} {o:Obj},s₁.heap.get? b=some o->H b=none->(Fm s₁.heap H).get? b=some o:=λe n=>MH e n;have noA:∀{b:Addr} {o:Obj} {es:Array DictEntry} {ep:Nat},s₁.heap.get? b=some o->o.data=.dict es ep->H b=none:=λ{b o es ep} e d=>by
   cases q:H b with
   | none=>rfl
   | some u=>have e':b=a:=hA b (by rw[q];simp);subst e';rw[ha]at e;cases e;have d':Data.seq vs.toArray _=Data.dict es ep:=d;cases d'
  have nsK:∀{b:Addr} {m:QQZ},s₁.heap.Ns b m->(Fm s₁.heap H).Ns b m:=λ{b m} ⟨o,es,ep,e,d,r⟩=>⟨o,es,ep,XI e (noA e d),d,r⟩;have hKb:K.In (Fm s₁.heap H):=λb o e=>XI (KX b o e) (by
   cases q:H b with
   | none=>rfl
   | some u=>
    have e':b=a:=hA b (by rw[q];simp);subst e';rw[hK (by rw[q];simp)]at e;cases e)
  have hM:Mod K mg (Fm s₁.heap H):=⟨hKb,nsK hns,⟨mb,nsK hb,hbb⟩,let⟨mc,h1,h2⟩:=hlim;⟨mc,nsK h1,h2⟩⟩;have e0:Hl P w K mg (Fm s₁.heap H) callerA [] s₁ H:=⟨rfl,hM,λb o e=>OG e,mw (JO _ _),trivial,λb hb=>absurd (show b∈([]:QXQ)from hb) (by simp),mR,.of_eq hg⟩;refine gh ((F _ hKb (nsK hns)).run callerA [] s₁ H ⟨[.ref a],[]⟩ [.ref a] [.ref a] _ _ hr e0 (hbind s₁ (.ref a)) (.cons rfl .nil) (XS H hO hS)) λr s' h=>?_;cases r with
  | error e=>exact(hCX H e s' h).elim
  | ok fl=>
   cases fl with
   | next=>exact False.elim h
   | brk=>exact False.elim h
   | cont=>exact False.elim h
   | ret u=>
    obtain⟨v,H',os,bare,un,Zk,r',q⟩:=h;have q':v=.bl true:=q;subst q';obtain rfl:u=Value.bool true:=r';refine⟨rfl,OldK.of_keep λb o e=>?_,os,bare⟩;cases q:H b with
    | none=>exact un.keep b o e q (by intro z;exact absurd (show b∈([]:QXQ)from z) (by simp)) (by simp)
    | some u=>
     rcases hO b with z|⟨ob,xs,z⟩
     .rw[q]at z;cases z
     .have z2:=un.nu b ob _ z;obtain⟨e1,_⟩:=mR b _ z;obtain⟨e2,_⟩:=Zk b _ z2;rw[e]at e1;cases e1;exact e2
 cases hk:K.lookup a with
 | some o=>have e:=KX a o hk;rw[ha]at e;cases e;refine core (λ_=>none) (λ_=>.inl rfl) (.inr ⟨_,vs.toArray,_,hk,rfl,rfl,rfl,by rw[dv,lenV];exact hl,by simpa using rv⟩) (λb u z=>by have z':(none:Option HO)=some u:=z;cases z') (λb z=>absurd rfl z) λz=>absurd rfl z
 | none=>
  refine core (λb=>if b=a then some (.frz {cls:=.type "list",data:=.seq vs.toArray} (.lst (ns.map V.int)))else none) (λb=>?_) (.inl (.inr ⟨{cls:=.type "list",data:=.seq vs.toArray},c9 rfl⟩)) (λb u z=>?_) (λb z=>?_) λ_=>hk
  .by_cases hb:b=a
   .exact .inr ⟨_,_,c9 hb⟩
   .exact .inl (cY hb)
  .by_cases hb:b=a
   .have z':=(c9 hb).symm.trans z;cases z';subst hb;exact⟨ha,by rw[cT];exact hl,vs,_,rv,ha⟩
   .have z':=(cY hb).symm.trans z;cases z'
  .by_cases hb:b=a
   .exact hb
   .exact absurd (cY hb) z
def OR{l:W.OpenLaw}{n k:Nat}{q:Pg}{Xe:QQQ}{XP:(QQZ)->Heap->Prop}{YP:Wo->Heap->Prop}{d:DefRec}{K:Params->ql}{CX:Wo->Kl}{sp:Wo->Sp}{x:Str} (hn:l.most=some n) (Zd:n<=sizeLine) (YV:d.params.defaults=[]) (hr:rR k callerA) (hY:∀(w:Wo) (h:Heap),YP w h->(K w.params).In h) (F:∀(w:Wo) (mg:QQZ) (fa:Addr) (h:Heap),(K w.params).In h->h.Ns mainGlobals mg->mg d.name=some (.ref fa)->
   ∃fd:FuncData,(∀(s:Sd) (u:Vl),BindsTo s fd ⟨[u],[]⟩ [(x,u)])/\
    ∀base:Heap,(K w.params).In base->base.Ns mainGlobals mg->xh l.prog w (K w.params) mg base (CX w) k fa fd [x] (sp w))
  (XS:∀(w:Wo) (H:Hp) (a:Addr) (ns:List Int),ns.length<=n->LL H->yS (K w.params) H a (ns.map V.int)->sp w [.ref a] H (λv _=>v=.bl true) λ_ _ _=>False)
  (hCX:∀(w:Wo) (H:Hp) (s:Sd) (e:Vl) (s':Sd),CX w [] H s (λ_ _ _=>False) e s'->False):
  W.WalkO q Xe XP YP l.row.toRowW d [] (λf vs=>PySem.call f vs):=by
 refine Att.attach_call hn YV λw s₀ s₁ mg mb fa o pm cd W2 a vs ns G Y ho hd Xp hmg Zj X7 Wv hg=>?_;have KX:=hY w _ Y;obtain⟨fd,hb,hF⟩:=F w mg fa _ KX G.T.g hmg;exact MP KX G.T.g G.T.b G.T.builtins G.T.nolimit hg Zj X7 (dW Wv Zd) hr hF hb (λH hO hS=>XS w H a ns Wv hO hS) λH e s'=>hCX w H s₁ e s'
def PU(s:Stmt)(j:Nat):Stmt:=match s with
 | .ClassDef _ _ _ body _ _ _ _ _ _ _=>body.getD j (.Pass ⟨0,0,0,0⟩)
 | _=>.Pass ⟨0,0,0,0⟩
def uc(s:Stmt):Arguments:=match s with
 | .FunctionDef _ a _ _ _ _ _ _ _ _=>a
 | _=>{posonlyargs:=[],args:=[],vararg:=none,kwonlyargs:=[],kw_defaults:=[],kwarg:=none,defaults:=[]}
def rJ(s:Stmt):List Stmt:=match s with
 | .FunctionDef _ _ b _ _ _ _ _ _ _=>b
 | _=>[]
def pY(s:Stmt):Scope:=match s with
 | .FunctionDef _ _ _ _ _ _ sc _ _ _=>sc
 | _=>{kind:=.function,names:=[],isGenerator:=false,isCoroutine:=false}
abbrev Nk:Kl:=λ_ _ _ _ _ _=>False
abbrev E0:XK:=λ_ _ _=>False
def FV{X:Cx}:BG Nk X E0:=λ_ _ _ _ _ _ _ h=>h.elim
structure Of(K:ql)(x qual:Str)(st:Stmt)(f:Addr)(fd:FuncData):Prop where
 ex:∃(oc:Vl) (od:Option Addr) (kV W2 pm:Vl) (an:Option Addr) (Wz ct:Vl) (Xd:Array (Option Vl)),
  fd=W.fnOf x qual (uc st) (rJ st) (pY st) .none kV W2 pm an Wz ct/\K.lookup f=some ⟨oc,od,.func fd,Xd⟩/\W.codeIn K Wz qual=true
 kp:W.keepIn K (.ref f)=true
variable {P:Pg}{K:ql}{mg:QQZ}{base:Heap}
section
variable {w:Wo}
def Of.ok{x qual:Str}{st:Stmt}{f:Addr}{fd:FuncData}{N ps:QQQ}{k:Nat}{sp:Sp}(F:Of K x qual st f fd)(S:sR N ps (pY st))(len:∀vs H Q E,sp vs H Q E->vs.length=ps.length) (WN:∀(Wz:Vl) (A:Ar) (outer:List Env) (s:Sd) (H:Hp) (vs:List V) (Q:VK) (E:XK),rR k (A.deeper (envOfC qual (pY st) s.heap.objs.size f Wz))->sp vs H Q E->
   ∃t,Cj (vo Nk P w K mg base N qual (pY st) f Wz A outer s H E).oq (rJ st) t/\t {nx:=λ_ H'=>Q .mM H',rt:=Q} (start N vs) H):xh P w K mg base Nk (k+1) f fd ps sp:=by
 obtain⟨oc,od,kV,W2,pm,an,Wz,ct,Xd,rfl,lk,Xp⟩:=F.ex;refine Mq lk Xp S len λA outer s H vs Q E hr XS=>?_;obtain⟨t,h,q⟩:=WN Wz A outer s H vs Q E hr XS;exact⟨t,h.oq,q⟩
def Of.binds{x qual:Str}{st:Stmt}{f:Addr}{fd:FuncData}{ps:QQQ}(F:Of K x qual st f fd) (h:∀(kV W2 pm:Vl) (an:Option Addr) (Wz ct:Vl) (us:List Vl),us.length=ps.length->bindArgs (W.fnOf x qual (uc st) (rJ st) (pY st) .none kV W2 pm an Wz ct) ⟨us,[]⟩=pure (ps.zip us)):uL K fd ps []:=by
 obtain⟨oc,od,kV,W2,pm,an,Wz,ct,Xd,rfl,lk,Xp⟩:=F.ex;exact .all (h kV W2 pm an Wz ct)
def L1{x qual:Str}{st:Stmt}{f:Addr}{oc:Vl}{od an:Option Addr}{Xd:Array (Option Vl)}{kV W2 pm Wz ct:Vl}(l:K.lookup f=some ⟨oc,od,.func (W.fnOf x qual (uc st) (rJ st) (pY st) .none kV W2 pm an Wz ct),Xd⟩) (c:W.codeIn K Wz qual=true) (k:W.keepIn K (.ref f)=true):Of K x qual st f (W.fnOf x qual (uc st) (rJ st) (pY st) .none kV W2 pm an Wz ct):=⟨⟨oc,od,kV,W2,pm,an,Wz,ct,Xd,rfl,l,c⟩,k⟩
end
variable {X:Cx}
def pv(i:Nat){x:Str}{pos:Pos}(hN:X.N[i]?=some x:=by rfl)(hv:RI X.env.scope x:=by first|exact Or.inl rfl|exact Or.inr (Or.inl rfl)|exact Or.inr (Or.inr rfl))(hd:yP x:=by decide)
  (Xp:(x==("__classdict__":Str))=false:=by decide):PE X (.Name x pos) (EZ i):=Mv hN hv hd Xp
def NE{A B:Prop}(h:B):if false=true then A else B:=by rw[cY dw];exact h
def M9{A B:Prop}(h:A):if true=true then A else B:=by rw[c9 rfl];exact h
def qD{c A B:Prop}[Decidable c](h1:c->A)(h2:¬c->B):if c then A else B:=by
 by_cases h:c
 .rw[c9 h];exact h1 h
 .rw[cY h];exact h2 h
def Pj(H H':Hp):Prop:=∀b o,H b=some o->H' b=some o
def Pj.trans{H H1 H2:Hp}(a:Pj H H1)(b:Pj H1 H2):Pj H H2:=λc o h=>b c o (a c o h)
section
variable {κ:Type}[DecidableEq κ]
def wO(kvs:List (κ×V))(k:κ):Option V:=(kvs.find? λkv=>decide (kv.1=k)).map (·.2)
def yA(kvs:List (κ×V))(k:κ)(v:V):List (κ×V):=
 if (kvs.any λkv=>decide (kv.1=k))=true then kvs.map (λkv=>if kv.1=k then(kv.1,v)else kv)else kvs++[(k,v)]
def Bg{p:κ×V}{r:List (κ×V)}{k:κ}(e:p.1=k):wO (p::r) k=some p.2:=by simp[wO,fG,e]
def B0{p:κ×V}{r:List (κ×V)}{k:κ}(e:¬p.1=k):wO (p::r) k=wO r k:=by simp[wO,fG,e]
theorem Gm(k:κ):∀kvs:List (κ×V),(kvs.any λkv=>decide (kv.1=k))=(wO kvs k).isSome
 | []=>rfl
 | p::r=>by
  rw[fX];by_cases e:p.1=k
  .simp only[Bg e,dR e,hU,Option.isSome_some]
  .rw[B0 e,eQ e,fL];exact Gm k r
def Am(kvs:List (κ×V))(k:κ)(v:V):(yA kvs k v).length<=kvs.length+1:=by
 unfold yA;split
 .rw[cT];omega
 .rw[cV,dZ,dM];omega
def yf.nE{o:Option V}{u:Option Vl}(r:yf o u):o.isSome=u.isSome:=by
 cases o with
 | none=>cases u with
  | none=>rfl
  | some _=>exact(show False from r).elim
 | some _=>cases u with
  | none=>exact(show False from r).elim
  | some _=>rfl
def KV.val{kvs:List (κ×V)}{vs:List (κ×Vl)}(r:KV kvs vs)(k:κ):yf (wO kvs k) (valueAt vs k):=by
 unfold KV at r;induction r with
 | nil=>exact True.intro
 | @cons p q ps qs h t ih=>
  obtain⟨h1,h2⟩:=h;by_cases e:p.1=k
  .have e':q.1=k:=h1.symm.trans e;have b:valueAt (q::qs) k=some q.2:=by simp[valueAt,fG,e']
   rw[Bg e,b];exact h2
  .have e':¬q.1=k:=λz=>e (h1.trans z);have b:valueAt (q::qs) k=valueAt qs k:=by simp[valueAt,fG,e']
   rw[B0 e,b];exact ih
def KV.any{kvs:List (κ×V)}{vs:List (κ×Vl)}(r:KV kvs vs)(k:κ):(kvs.any λkv=>decide (kv.1=k))=vs.any λkv=>decide (kv.1=k):=by
 unfold KV at r;induction r with
 | nil=>rfl
 | cons h t ih=>rw[fX,fX,ih,h.1]
def KV.oA{kvs:List (κ×V)}{vs:List (κ×Vl)}(r:KV kvs vs)(k:κ){y:V}{u:Vl}(ry:qG y u):
  KV (kvs.map λkv=>if kv.1=k then(kv.1,y)else kv) (vs.map λkv=>if kv.1=k then(kv.1,u)else kv):=by
 unfold KV at r ⊢;induction r with
 | nil=>exact .nil
 | @cons p q ps qs h t ih=>
  rw[dS,dS];refine .cons ?_ ih;obtain⟨h1,h2⟩:=h;by_cases e:p.1=k
  .rw[c9 e,c9 (h1.symm.trans e)];exact⟨h1,ry⟩
  .rw[cY e,cY (λz=>e (h1.trans z))];exact⟨h1,h2⟩
def KV.put{kvs:List (κ×V)}{vs:List (κ×Vl)}(r:KV kvs vs)(k:κ){y:V}{u:Vl}(ry:qG y u):KV (yA kvs k y) (stored vs k u):=by
 unfold yA stored;rw[r.any k];by_cases e:(vs.any λkv=>decide (kv.1=k))=true
 .rw[c9 e,c9 e];exact r.oA k ry
 .rw[cY e,cY e];exact mD r ⟨rfl,ry⟩
def KV.length{kvs:List (κ×V)}{vs:List (κ×Vl)}(r:KV kvs vs):kvs.length=vs.length:=jj r
end
def GA{P:Pg}{w:Wo}{k:rf}{u:Vl}(r:qG (kV k) u):(rB P w).is k u=true:=by
 cases k with
 | inl i=>obtain⟨t,e⟩:=(show ∃t,u=Value.int i t from r);subst e;exact Ga P w i t
 | inr x=>obtain⟨t,e⟩:=(show ∃t,u=Value.str x t from r);subst e;exact Ai P w x t
theorem DA{P:Pg}{w:Wo}:∀{ks:List rf} {us:List Vl},qA (ks.map kV) us->ItemsAre (rB P w) ks us
 | [],_,r=>by rw[iL]at r;cases r;exact .nil
 | k::ks,_,r=>by
  rw[dS]at r;cases r with
  | cons h t=>exact .cons (GA h) (DA t)
abbrev KT(H:Hp):List (List rf×V)->List (List rf×Addr×Vl)->Prop:=Paired λp q=>p.1=q.1/\H q.2.1=some (.tup (p.1.map kV))/\qG p.2 q.2.2
def KT.val{H:Hp}{kvs:List (List rf×V)}{xs:List (List rf×Addr×Vl)}(r:KT H kvs xs)(k:List rf):yf (wO kvs k) ((atKey xs k).map (·.2)):=by
 induction r with
 | nil=>exact True.intro
 | @cons p q ps qs h t ih=>
  obtain⟨h1,_,h2⟩:=h;by_cases e:p.1=k
  .have e':q.1=k:=h1.symm.trans e;have b:atKey (q::qs) k=some q.2:=by simp[atKey,fG,e']
   rw[Bg e,b];exact h2
  .have e':¬q.1=k:=λz=>e (h1.trans z);have b:atKey (q::qs) k=atKey qs k:=by simp[atKey,fG,e']
   rw[B0 e,b];exact ih
def KT.oA{H:Hp}{kvs:List (List rf×V)}{xs:List (List rf×Addr×Vl)}(r:KT H kvs xs)(k:List rf){y:V}{u:Vl}(ry:qG y u):
  KT H (kvs.map λkv=>if kv.1=k then(kv.1,y)else kv) (xs.map (putAt k u)):=by
 induction r with
 | nil=>exact .nil
 | @cons p q ps qs h t ih=>
  rw[dS,dS];refine .cons ?_ ih;obtain⟨h1,h2,h3⟩:=h;unfold putAt;by_cases e:p.1=k
  .rw[c9 e,c9 (h1.symm.trans e)];exact⟨h1,h2,ry⟩
  .rw[cY e,cY (λz=>e (h1.trans z))];exact⟨h1,h2,h3⟩
def KT.put{H:Hp}{kvs:List (List rf×V)}{xs:List (List rf×Addr×Vl)}(r:KT H kvs xs)(k:List rf){b:Addr}{y:V}{u:Vl}(hb:H b=some (.tup (k.map kV)))(ry:qG y u):
  KT H (yA kvs k y) (storedH xs k b u):=by
 have e:(kvs.any λkv=>decide (kv.1=k))=(atKey xs k).isSome:=by rw[Gm,(r.val k).nE,jn]
 unfold yA storedH;rw[e];by_cases q:(atKey xs k).isSome=true
 .rw[c9 q,c9 q];exact r.oA k ry
 .rw[cY q,cY q];exact mD r ⟨rfl,hb,ry⟩
def KT.keeps{H H':Hp}{kvs:List (List rf×V)}{xs:List (List rf×Addr×Vl)}(r:KT H kvs xs)(ht:∀b ys,H b=some (.tup ys)->H' b=some (.tup ys)):KT H' kvs xs:=
 Paired.ow r λ_ _ z=>⟨z.1,ht _ _ z.2.1,z.2.2⟩
variable {H:Hp}{h:Heap}{a:Addr}
section
variable {w:Wo}
def P6{u:HO}(ok:ye P w H h)(e:Rd H a u):sf P w H h a u:=e.ok ok
def IQ{kvs:List (rf×V)}(ok:ye P w H h)(e:Rd H a (.dK kvs)):kvs.length<=sizeLine/\(a==sysModules)=false/\∃vs,KV kvs vs/\h.DictOf (rB P w) a vs:=
 show sf P w H h a (.dK kvs)from P6 ok e
def Ue{kvs:List (rf×V)}(ok:ye P w H h)(e:H a=some (.dK kvs)):kvs.length<=sizeLine/\(a==sysModules)=false/\∃vs,KV kvs vs/\h.DictOf (rB P w) a vs:=IQ ok (.inl e)
def DY{ks:List rf}(ok:ye P w H h)(e:H a=some (.tup (ks.map kV))):(tupleKind (rB P w)).is h ks a:=by obtain⟨_,its,r,o,h1,h2,⟨n,h3⟩,_⟩:=(show sf P w H h a (.tup (ks.map kV))from ok a _ e);exact⟨o,its.toArray,n,h1,h2,h3,by simpa using DA r⟩
def IJ{kvs:List (List rf×V)}(ok:ye P w H h)(e:Rd H a (.dT kvs)):kvs.length<=sizeLine/\(a==sysModules)=false/\
  ∃xs,KT H kvs xs/\h.DictOfH (tupleKind (rB P w)) a xs:=by
 obtain⟨z,y,xs,r,o,es,ep,h1,h2,h3,h4,h5⟩:=(show sf P w H h a (.dT kvs)from P6 ok e);refine⟨z,y,xs,r,o,es,ep,h1,h2,h3,h4,λx hx=>?_,h5⟩;have all:∀{l:List (List rf×V)} {m:List (List rf×Addr×Vl)},KT H l m->∀x∈m,(tupleKind (rB P w)).is h x.1 x.2.1:=by
  intro l m q;induction q with
  | nil=>intro x hx;exact nomatch hx
  | @cons p q ps qs hq t ih=>
   intro x hx;rcases df.mp hx with e|hx
   .subst e;exact DY ok (by rw[<-hq.1];exact hq.2.1)
   .exact ih x hx
 exact all r x hx
def TC{kvs:List (List rf×V)}(ok:ye P w H h)(e:H a=some (.dT kvs)):kvs.length<=sizeLine/\(a==sysModules)=false/\
  ∃xs,KT H kvs xs/\h.DictOfH (tupleKind (rB P w)) a xs:=IJ ok (.inl e)
end
def Ep(H:Hp)(a:Addr)(y:V)(r:Option V):Prop:=
 (∃kvs k,Rd H a (.dK kvs)/\y=kV k/\r=wO kvs k)\/∃kvs k b,Rd H a (.dT kvs)/\y=.ref b/\H b=some (.tup (k.map kV))/\r=wO kvs k
def MD(H:Hp)(a:Addr)(y v:V)(H':Hp):Prop:=
 (∃kvs k,H a=some (.dK kvs)/\y=kV k/\kvs.length<sizeLine/\H'=upd H a (.dK (yA kvs k v)))\/
 ∃kvs k b,H a=some (.dT kvs)/\y=.ref b/\H b=some (.tup (k.map kV))/\kvs.length<sizeLine/\H'=upd H a (.dT (yA kvs k v))
def Ep.k{H:Hp}{a:Addr}{kvs:List (rf×V)}{k:rf}(e:H a=some (.dK kvs)):Ep H a (kV k) (wO kvs k):=.inl ⟨kvs,k,.inl e,rfl,rfl⟩
def MD.k{H:Hp}{a:Addr}{kvs:List (rf×V)}{k:rf}{v:V}(e:H a=some (.dK kvs))(hl:kvs.length<sizeLine):MD H a (kV k) v (upd H a (.dK (yA kvs k v))):=.inl ⟨kvs,k,e,rfl,hl,rfl⟩
variable {Wp:List (Addr × Obj)}{σ:St}{y v:V}{u r:Vl}
section
variable {s:Sd}{o:Option V}{A:Ar}{E:QQX}
def Inv.big(I:Inv X Wp σ H s):sysModules<s.heap.objs.size:=by have h:mainGlobals<s.heap.objs.size:=(I.mod.glob.keeps I.bk).lt;exact jB (by decide) h
def Jp{Q:QQX}(hu:A.units+1<cLine)(I:Inv X Wp σ H s)(g:Ep H a y (some v))(ry:qG y u)(h:∀w' s',Inv X Wp σ H s'->qG v w'->Q w' s'):
  wpAny (model X.prog X.w) A (getItem (.ref a) u) Q E s:=by
 rcases g with⟨kvs,k,e,ey,l⟩|⟨kvs,k,b,e,ey,eb,l⟩
 .subst ey;obtain⟨z,hd,vs,rel,dd⟩:=IQ I.mR e;obtain⟨w',hw,Yw⟩:=yf.some_of (v:=v) (o:=valueAt vs k) (by rw[l];exact rel.val k);exact wpAny_getItem_of (GA ry) dd.mapOf hw (h w' _ (I.tok _) Yw)
 .subst ey;cases(show u=Value.ref b from ry);obtain⟨z,hd,xs,rel,dd⟩:=IJ I.mR e;obtain⟨w',hw,Yw⟩:=yf.some_of (v:=v) (o:=(atKey xs k).map (·.2)) (by rw[l];exact rel.val k);obtain⟨p,hp,WD⟩:=iB.mp hw;refine wpAny_getItem_heap (jf hu) (DY I.mR eb) dd hp ?_;rw[WD];exact h w' _ (I.tok _) Yw
def UR{Q:QQX}(hu:A.units+1<cLine)(I:Inv X Wp σ H s)(g:Ep H a y o)(ry:qG y u)(h:∀s',Inv X Wp σ H s'->Q (.bool o.isSome) s'):
  wpAny (model X.prog X.w) A (compareOp .In u (.ref a)) Q E s:=by
 rcases g with⟨kvs,k,e,ey,l⟩|⟨kvs,k,b,e,ey,eb,l⟩
 .subst ey;obtain⟨z,hd,vs,rel,dd⟩:=IQ I.mR e;refine wpAny_in_of (GA ry) hd dd.mapOf ?_;rw[<-(rel.val k).nE,<-l];exact h _ (I.tok _)
 .subst ey;cases(show u=Value.ref b from ry);obtain⟨z,hd,xs,rel,dd⟩:=IJ I.mR e;refine wpAny_in_heap (jf hu) (DY I.mR eb) hd dd ?_;have q:=(rel.val k).nE;rw[jn]at q;rw[<-q,<-l];exact h _ (I.tok _)
def IE{h':Heap}{t':Nat}{ob:HO}(I:Inv X Wp σ H s)(mu:Td (H a))(hs:Heap.SameBut a s.heap h')(he:∃q,h'.get? a=some q)(new:sf X.prog X.w (upd H a ob) h' a ob):
  Inv X Wp σ (upd H a ob) {s with heap:=h',toks:=t'}:=
 I.write (x:=a) (e:=a) mu (.inl rfl) (λb q hb z=>(hs.2 b hb).trans z) he new
def MV{P:Pg}{w:Wo}{H':Hp}{h':Heap}{kvs:List (rf×V)}{vs:List (rf×Vl)}(z:kvs.length<=sizeLine)(hd:(a==sysModules)=false)(rel:KV kvs vs)(dd:h'.DictOf (rB P w) a vs):
  sf P w H' h' a (.dK kvs):=⟨z,hd,vs,rel,dd⟩
def JA{H':Hp}{Q:Unit->Sd->Prop}(hu:A.units+1<cLine)(I:Inv X Wp σ H s)(g:MD H a y v H')(ry:qG y u)(rv:qG v r)(h:∀s',Inv X Wp σ H' s'->Q () s'):
  wpAny (model X.prog X.w) A (setItem (.ref a) u r) Q E s:=by
 rcases g with⟨kvs,k,e,ey,l,eH⟩|⟨kvs,k,b,e,ey,eb,l,eH⟩
 .subst ey eH;obtain⟨z,hd,vs,rel,dd⟩:=Ue I.mR e;have hz:vs.length<=sizeLine:=by rw[<-rel.length];exact z
  have hl:(yA kvs k v).length<=sizeLine:=by have:=Am kvs k v;omega
  refine wpAny_setItem_pairs (hsz:=hz) (GA ry) dd λh' dd' hs=>h _ ?_;have he:∃q,h'.get? a=some q:=let⟨q,_,_,hq,_⟩:=dd';⟨q,hq⟩;exact IE I (by rw[e];exact True.intro) hs he (MV hl hd (rel.put k rv) dd')
 .subst ey eH;cases(show u=Value.ref b from ry);obtain⟨z,hd,xs,rel,dd⟩:=TC I.mR e;have hz:xs.length<=sizeLine:=by rw[<-jj rel];exact z
  have hl:(yA kvs k v).length<=sizeLine:=by have:=Am kvs k v;omega
  refine wpAny_setItem_heap (hsz:=hz) (jf hu) (DY I.mR eb) dd λh' dd' hs=>h _ ?_;obtain⟨q,es,ep,hq,h2,h3,h4,_,h5⟩:=dd';refine IE I (by rw[e];exact True.intro) hs ⟨q,hq⟩ ⟨hl,hd,_,(rel.put k eb rv).keeps λc ys ec=>?_,q,es,ep,hq,h2,h3,h4,h5⟩;rw[pV (Tc ec e (λz=>nomatch z))];exact ec
end
variable {kvs:List (rf × V)}{k:rf}
section
variable {s:Sd}{A:Ar}{E:QQX}
end
def Gg{X:Cx}{Wp:QQY}{σ:St}{H:Hp}{s:Sd}{a:Addr}{y:V}{o:Option V}(I:Inv X Wp σ H s)(g:Ep H a y o):s.TypeIs (.ref a) "dict":=by
 rcases g with⟨kvs,k,e,_,_⟩|⟨kvs,k,b,e,_,_,_⟩
 .obtain⟨_,_,vs,_,dd⟩:=IQ I.mR e;exact dd.typeIs
 .obtain⟨_,_,xs,_,dd⟩:=IJ I.mR e;exact dd.typeIs
def Tt(td ty tv:TE):TS:=λD σ H=>tv σ H λv H1=>td σ H1 λx H2=>ty σ H2 λy H3=>∃a H4,x=.ref a/\MD H3 a y v H4/\D.nx σ H4
variable {i e value:Expr}{pos Wy Yv:Pos}{td ty tv:TE}
section
variable {o:Expr}
def OA(hu:X.A.units+1<cLine)(ho:PE X o td)(hi:PE X i ty)(hv:PE X value tv)(hs:swapsWith value (some (.Subscript o i Wy)) pos.line X.env=pure false):
  PS X (.Assign [.Subscript o i Wy] value pos) (Tt td ty tv):=by
 intro Wp s σ H D I h;refine wpAny_Assign_Subscript (sr (hv Wp s σ H _ I h) λr s1 zz=>x5 zz λv H1 I1 rv q1=>sr (ho Wp s1 σ H1 _ I1 q1) λu s2 zz=>x5 zz λx H2 I2 rx q2=>sr (hi Wp s2 σ H2 _ I2 q2) λiv s3 zz=>?_) hs;obtain⟨y,H3,I3,ry,a,H4,ex,g,q3⟩:=zz;subst ex;obtain rfl:u=Value.ref a:=rx;exact JA hu I3 g ry rv λs4 I4=>⟨σ,H4,I4,q3⟩
end
structure M1(X:Cx)(o:Expr)(m:Str)(Ws:Pos)(e:Expr)(Ww:Pos):Prop where
 base:attributeBase o m X.env (eval o X.env)=eval o X.env
 oZ:((backTo Ww (starEach [e] X.env)).all (λx=>!x.1)&&(backToKw Ww (keywordEach [] X.env)).all (λx=>x.1.isSome)
  &&decide (([e]:List Expr).length+([]:List Keyword).length+(if ([]:List Keyword).isEmpty then 0 else 1)<30))=true
 line:(Ws.endLine==Ww.line)=true
 trees:backTo Ww (starEach [e] X.env)=[(false,eval e X.env)]
structure M2(X:Cx)(o:Expr)(m:Str)(Ws:Pos)(e f:Expr)(Ww:Pos):Prop where
 base:attributeBase o m X.env (eval o X.env)=eval o X.env
 oZ:((backTo Ww (starEach [e,f] X.env)).all (λx=>!x.1)&&(backToKw Ww (keywordEach [] X.env)).all (λx=>x.1.isSome)
  &&decide (([e,f]:List Expr).length+([]:List Keyword).length+(if ([]:List Keyword).isEmpty then 0 else 1)<30))=true
 line:(Ws.endLine==Ww.line)=true
 trees:backTo Ww (starEach [e,f] X.env)=[(false,eval e X.env),(false,eval f X.env)]
variable {d:V}
section
variable {s:Sd}{o:Option V}{A:Ar}{E:QQX}
end
variable {f:Expr}{Ws Ww:Pos}{tx:TE}
section
variable {o:Expr}
end
section
variable {s:Sd}{A:Ar}{E:QQX}
end
section
variable {s:Sd}{A:Ar}{E:QQX}
end
section
variable {κ:Type}[DecidableEq κ]
end
def AB(env:Env):List (Str×NameKind)->List (Str×Addr)->List (Str×Addr)
 | [],acc=>acc
 | (n,k)::r,acc=>AB env r (if k==.free then(n,(env.cells.lookup n).getD 0)::acc else acc)
theorem F'{env:Env}{f:(Str×NameKind)->List (Str×Addr)->Sem (ForInStep (List (Str×Addr)))} (hf:∀x cs,(x.2=.free->∃c,env.cells.lookup x.1=some c)->f x cs=pure (.yield (if x.2==.free then(x.1,(env.cells.lookup x.1).getD 0)::cs else cs))):
  ∀(l:List (Str×NameKind)) (acc:List (Str×Addr)),(∀x∈l,x.2=.free->∃c,env.cells.lookup x.1=some c)->forIn l acc f=pure (AB env l acc)
 | [],acc,_=>by rw[j6];rfl
 | (n,k)::r,acc,h=>by rw[jN,hf (n,k) acc (h _ dN),pure_bind];exact F' hf r _ λx hx=>h x (dD _ hx)
def ym{scope:Scope}{env:Env}(h:∀x∈scope.names,x.2=.free->∃c,env.cells.lookup x.1=some c):closureFor scope env=pure (AB env scope.names []):=by
 unfold closureFor;have e:=F' (env:=env) (f:=λ(x:Str×NameKind) (cs:List (Str×Addr))=>(do
   if x.2==.free then
    let a<-cellOf env x.1
    pure (ForInStep.yield ((x.1,a)::cs))
   else pure (ForInStep.yield cs))) (λx cs hx=>by
  cases hk:x.2==NameKind.free with
  | false=>simp
  | true=>
   obtain⟨c,hc⟩:=hx (by simpa using hk);simp[cellOf,hc]) scope.names [] h
 first
  | exact(eP (·>>=pure) e).trans (by simp)
  | (simp only[bind_pure];exact e)
  | (rw[<-e];rfl)
theorem MN{env:Env}{x:Str}{c:Addr}:∀{l:List (Str×NameKind)} {acc:List (Str×Addr)},(∀x∈l,x.2=.free->∃c,env.cells.lookup x.1=some c)->(∀x c,acc.lookup x=some c->env.cells.lookup x=some c)->(AB env l acc).lookup x=some c->env.cells.lookup x=some c
 | [],acc,_,ha,h=>ha x c h
 | (n,k)::r,acc,hl,ha,h=>by
  refine MN (l:=r) (acc:=if k==.free then(n,(env.cells.lookup n).getD 0)::acc else acc) (λy hy=>hl y (dD _ hy)) (λy d hd=>?_) h;cases hk:k==NameKind.free with
  | false=>rw[hk]at hd;exact ha y d (by simpa using hd)
  | true=>
   rw[hk,c9 rfl]at hd;obtain⟨e,he⟩:=hl (n,k) dN (by simpa using hk);rw[eL]at hd;cases hy:y==n with
   | true=>
    rw[hy]at hd;have yn:y=n:=by simpa using hy
    subst yn;have he:env.cells.lookup y=some e:=he;rw[he]at hd ⊢;exact hd
   | false=>rw[hy]at hd;exact ha y d hd
theorem Mu{env:Env}{x:Str}:∀{l:List (Str×NameKind)} {acc:List (Str×Addr)},(∃c,acc.lookup x=some c)->∃c,(AB env l acc).lookup x=some c
 | [],_,h=>h
 | (n,k)::r,acc,h=>by
  refine Mu (l:=r) ?_;cases hk:k==NameKind.free with
  | false=>simpa using h
  | true=>
   rw[c9 rfl,eL];cases hy:x==n with
   | true=>exact⟨_,rfl⟩
   | false=>exact h
theorem G5{env:Env}{x:Str}:∀{l:List (Str×NameKind)} {acc:List (Str×Addr)},l.lookup x=some .free->∃c,(AB env l acc).lookup x=some c
 | [],_,h=>by simp at h
 | (n,k)::r,acc,h=>by
  rw[eL]at h;cases hy:x==n with
  | true=>rw[hy]at h;have hk:k=.free:=dh h;subst hk;refine Mu (l:=r) ⟨(env.cells.lookup n).getD 0,?_⟩;show List.lookup x (if NameKind.free==NameKind.free then(n,(env.cells.lookup n).getD 0)::acc else acc)=some ((env.cells.lookup n).getD 0);rw[c9 (by rfl),eL,hy]
  | false=>rw[hy]at h;exact G5 (l:=r) h
theorem ul{env:Env}{x:Str}:∀{l:List (Str×NameKind)},(l.map λ(n,k)=>if (k==NameKind.free&&env.scope.kind==.function&&env.kindOf n==some .cell)then(n,NameKind.cell)else(n,k)).lookup x
   = (l.lookup x).map λk=>if (k==NameKind.free&&env.scope.kind==.function&&env.kindOf x==some .cell)then NameKind.cell else k
 | []=>rfl
 | (n,k)::r=>by
  rw[dS];show List.lookup x ((if (k==NameKind.free&&env.scope.kind==.function&&env.kindOf n==some .cell)=true then(n,NameKind.cell)else(n,k))::_)=_;cases hy:x==n with
  | true=>
   have yn:x=n:=by simpa using hy
   subst yn;by_cases hc:(k==NameKind.free&&env.scope.kind==.function&&env.kindOf x==some .cell)=true
   .rw[c9 hc,eL,eL,hy];simp only[jO];rw[c9 hc]
   .rw[cY hc,eL,eL,hy];simp only[jO];rw[cY hc]
  | false=>
   by_cases hc:(k==NameKind.free&&env.scope.kind==.function&&env.kindOf n==some .cell)=true
   .rw[c9 hc,eL,eL,hy];exact ul
   .rw[cY hc,eL,eL,hy];exact ul
def ON(ix:List (Option Nat))(σ:St):St:=ix.map λo=>o.bind λi=>(σ[i]?).join
abbrev Cx.comp(X:Cx)(scope:Scope)(N':QQQ)(C:Addr)(s0:Sd)(H0:Hp)(ex:QXQ):Cx:=
 {X with N:=N',s₀:=s0,H₀:=H0,env:=compEnvC scope (AB X.env scope.names []) C X.env,outer:=X.stack,ex:=ex,fn:=λ_=>false,pn:=[],xe:=λ_ _=>False}
structure rZ(X:Cx)(scope:Scope)(ix:List (Option Nat))(N':QQQ):Prop where
 kind:scope.kind=.function
 oo:∀y∈scope.names,y.2≠.cell
 nam:∀y∈scope.names,y.2=.local->scope.names.lookup y.1=some .local
 fre:∀y∈scope.names,y.2=.free->X.env.scope.names.lookup y.1=some .cell\/X.env.scope.names.lookup y.1=some .free
 len:ix.length=N'.length
 at_:∀(j i:Nat) (x:Str),ix[j]?=some (some i)->N'[j]?=some x->X.N[i]?=some x/\scope.names.lookup x=some .free
variable {scope:Scope}{ix:List (Option Nat)}{N':QQQ}{fp:QXQ}
section
variable {s:Sd}
def rZ.cells(S:rZ X scope ix N')(ok:X.Ok):∀x∈scope.names,x.2=.free->∃c,X.env.cells.lookup x.1=some c:=λx hx hk=>ok.has x.1 (S.fre x hx hk)
def rZ.sub(S:rZ X scope ix N')(ok:X.Ok){x:Str}{c:Addr}(h:(AB X.env scope.names []).lookup x=some c):X.env.cells.lookup x=some c:=MN (S.cells ok) (λ_ _ z=>by simp at z) h
theorem vk{x:Str}{k:NameKind}:∀{l:List (Str×NameKind)},l.lookup x=some k->(x,k)∈l
 | [],h=>by simp at h
 | (n,j)::r,h=>by
  rw[eL]at h;cases hy:x==n with
  | true=>
   rw[hy]at h;have yn:x=n:=by simpa using hy
   subst yn;rw[dh h];exact dN
  | false=>rw[hy]at h;exact dD _ (vk h)
def Inv.comp{C:Addr}{h1:Heap}{tk:Nat}(I:Inv X Wp σ H s)(S:rZ X scope ix N')(hf:∀b∈fp,AA X Wp H b)(WA:∀b∈fp,b<s.heap.objs.size)(hC:s.heap.objs.size<=C) (k:∀b o,s.heap.get? b=some o->h1.get? b=some o) (hn:h1.Ns C (λ_=>none)):Inv (X.comp scope N' C s H fp) (X.pn++Wp) (ON ix σ) H {s with heap:=h1,toks:=tk}:=by
 have sub:∀{x:Str} {c:Addr},(AB X.env scope.names []).lookup x=some c->X.env.cells.lookup x=some c:=λh=>S.sub I.ok h;refine⟨⟨I.ok.mod,S.kind,I.ok.glob,I.ok.blt,hC,λx y c e1 e2=>I.ok.inj x y c (sub e1) (sub e2),λx hx=>?_,λ_ _ z=>(dw z).elim,I.ok.hd,I.ok.frames,.inl rfl,λb hb=>⟨dH (dI (WA b hb) hC),λx c e=>(hf b hb).2.2.2.2.1 x c (sub e)⟩,I.bs,dW I.ok.nY I.sz,λb o e hb=>?_,λb hb hfs=>?_,I.stack,I.nH⟩,rfl,I.bare,Un.kept k,⟨_,hn,λi x v e1 e2 e3=>?_⟩,λx c e=>?_,I.mR.fresh hC,λx c e=>I.mX x c (sub e),λp hp=>?_,I.mR.kept k,?_⟩
 .have hx:(relabel scope X.env).names.lookup x=some .cell\/(relabel scope X.env).names.lookup x=some .free:=hx;have e:(relabel scope X.env).names.lookup x=(scope.names.lookup x).map λk=>if (k==NameKind.free&&X.env.scope.kind==.function&&X.env.kindOf x==some .cell)then NameKind.cell else k:=ul
  rw[e]at hx;cases q:scope.names.lookup x with
  | none=>rw[q]at hx;rcases hx with hx|hx<;>simp at hx
  | some kd=>
   cases kd with
   | free=>exact G5 q
   | cell=>exact absurd rfl (S.oo _ (vk q))
   | _=>rw[q]at hx;rcases hx with hx|hx<;>simp at hx
 .rcases(hf b hb).2.2.2.1 with z|z
  .exact I.ok.nQ b o e z
  .exact absurd (dI (dz e) (dW I.ok.nY z)) (eZ _)
 .rcases df.mp (I.nB b hfs)with z|z
  .exact(hf b hb).2.1 z
  .exact(hf b hb).2.2.1 z
 .have Yy:(ix[i]?).map (λo=>o.bind λi=>(σ[i]?).join)=some (some v):=by have z:(ON ix σ)[i]?=some (some v):=e2;unfold ON at z;rw[dA]at z;exact z
  cases q:ix[i]? with
  | none=>rw[q]at Yy;cases Yy
  | some o=>
   rw[q]at Yy;cases o with
   | none=>cases Yy
   | some j=>
    have Yz:(σ[j]?).join=some v:=dh Yy;have e4:σ[j]?=some (some v):=by
     cases r:σ[j]? with
     | none=>rw[r]at Yz;cases Yz
     | some w=>rw[r]at Yz;exact eP some Yz
    obtain⟨n1,n2⟩:=S.at_ i j x q e1;obtain⟨m,hm,hl⟩:=I.loc;have hk:=S.fre _ (vk n2) rfl;have hv:RI X.env.scope x:=by
     rcases hk with z|z
     .exact .inr (.inl z)
     .exact .inr (.inr z)
    obtain⟨u,ru,lk⟩:=hl j x v n1 e4 hv;refine⟨u,ru,?_⟩;have Zl:X.env.kindOf x=some .cell\/X.env.kindOf x=some .free:=hk;rcases lk with⟨z,_⟩|⟨_,c,hc,hcell⟩
    .rcases Zl with y|y<;>(rw[y]at z;cases z)
    .obtain⟨c',hc'⟩:=G5 (env:=X.env) (acc:=[]) n2;have:=sub hc';rw[hc]at this;cases this;refine .inr ⟨?_,c,hc',hcell.keeps k⟩;show(relabel scope X.env).names.lookup x=some .cell\/(relabel scope X.env).names.lookup x=some .free;have e:(relabel scope X.env).names.lookup x=(scope.names.lookup x).map λk=>if (k==NameKind.free&&X.env.scope.kind==.function&&X.env.kindOf x==some .cell)then NameKind.cell else k:=ul
     rw[e,n2];simp only[jO];split
     .exact .inl rfl
     .exact .inr rfl
 .obtain⟨v,q⟩:=I.cell x c (sub e);exact⟨v,q.keeps k⟩
 .obtain⟨e,n,ne,nf,d⟩:=I.pin p (by simpa using hp);refine⟨k _ _ e,n,dH (dI (dz e) hC),λz=>?_,d⟩;rcases df.mp (I.nB p.1 z)with y|y
  .exact ne y
  .exact nf y
 .show(ON ix σ).length=N'.length;unfold ON;rw[cT];exact S.len
end
section
variable {prog:Pg}{w:Wo}{A:Ar}{R:Result→Sd→Prop}{s:Sd}
def xx{Xh WT iter:Expr}{W0:List Expr}{scope:Scope}{pos:Pos}{it acc:Vl}{env:Env}(I:Nat->Sd->Prop){EX:QQX}(hEX:∀e s',EX e s'->notedBy (model prog w) A env (λx s'=>R (.error x) s') e s') (turn:∀n s,I n s->wpAny (model prog w) A (pyNext it) (λr s₁=>match r with
   | none=>R (.ok .next) s₁
   | some v=>wpAny (model prog w) A (letOwnedTupleGo WT it v) (λ_ s₁=>wpAny (model prog w) A (assign WT env v) (λ_ s₂=>
     wpAny (model prog w) A (forIn W0 true λc r=>if r=true then do let ok<-isTrue c env (eval c env);pure (ForInStep.yield ok)else pure (ForInStep.yield r)) (λok s₃=>
      if ok=true then wpAny (model prog w) A (eval Xh env) (λx s₄=>
       wpAny (model prog w) A (call (.builtin "list.append") [acc,x]) (λ_ s₅=>∃m,m<n/\I m s₅) (λ_ _=>False) s₄) EX s₃
      else ∃m,m<n/\I m s₃) (λ_ _=>False) s₂) (λ_ _=>False) s₁) (λ_ _=>False) s₁) (λ_ _=>False) s)
  (n:Nat) (h:I n s):
  codeAny (model prog w) A (.compLoop (.ListComp Xh [⟨WT,iter,W0,0⟩] scope pos) 0 it acc env) R s:=by
 refine codeAny_loop rfl I (λn s hI=>?_) n h;show wpAny _ A ((compTurn (.ListComp Xh [⟨WT,iter,W0,0⟩] scope pos) 0 it acc env).onRaise (λx=>do noteFrame x env;theTreesLotGoes x)) _ _ s;refine wpAny_noted ?_;rw[compTurn_list];refine cU (gR (cU (d9 (turn n s hI) (λr s₁ h₁=>?_) λ_ _ h'=>h'.elim)));cases r with
 | none=>exact de h₁
 | some v=>
  refine cU (d9 h₁ (λ_ s₁' h₁'=>?_) λ_ _ h'=>h'.elim);refine cU (d9 h₁' (λ_ s₂ h₂=>cU (d9 h₂ (λok s₃ h₃=>?_) λ_ _ h'=>h'.elim)) λ_ _ h'=>h'.elim);cases ok with
  | false=>exact de ⟨rfl,h₃⟩
  | true=>exact cU (cU (d9 h₃ (λx s₄ h₄=>cU (d9 h₄ (λ_ s₅ h₅=>de (de ⟨rfl,h₅⟩)) λ_ _ h'=>h'.elim)) hEX))
end
def PF(X:Cx)(W0:List Expr)(t:TT):Prop:=
 ∀(Wp:QQY) (s:Sd) (σ:St) (H:Hp) (Q:Bool->Hp->Prop),Inv X Wp σ H s->t σ H Q->
  wpAny (model X.prog X.w) X.A (forIn W0 true λc r=>if r=true then do let ok<-isTrue c X.env (eval c X.env);pure (ForInStep.yield ok)else pure (ForInStep.yield r)) (TP X Wp σ Q) X.xe s
def Ux:TT:=λ_ H Q=>Q true H
def Qu{X:Cx}:PF X [] Ux:=λ_ _ _ H _ I h=>wpAny_tests_nil ⟨H,I,h⟩
def QE{X:Cx}{c:Expr}{t:TT}(h:PT X c t):PF X [c] t:=λWp s σ H Q I q=>wpAny_tests_one (h Wp s σ H Q I q)
def P9(ix:List (Option Nat))(g:TG)(tt:TT)(te:TE)(σ:St)(J:It)(Q:VK)(H:Hp):Prop:=
 ∃W:Nat->Nat->List V->St->Hp->Prop,(∃m,W 0 m [] (ON ix σ) H)/\∀i m ys σ' H,W i m ys σ' H->
  (J.stop i H/\ys.length<=sizeLine/\∀D,H D=none->Q (.ref D) (upd H D (.lst ys)))\/
  (J.go i H/\ys.length<sizeLine/\∀x H',J.oM i H x H'->g x σ' H' λσ2 H2=>tt σ2 H2 λb H3=>if b=true then te σ2 H3 λy H4=>∃m',m'<m/\W (i+1) m' (ys++[y]) σ2 H4 else ∃m',m'<m/\W (i+1) m' ys σ2 H3)
def LV(ix:List (Option Nat))(wi:TI)(g:TG)(tt:TT)(te:TE):TE:=λσ H Q=>wi σ H λJ H1=>P9 ix g tt te σ J Q H1
variable {tg iter Xh:Expr}{W0:List Expr}{g:TG}{tt:TT}{te:TE}{J:It}{it:Addr}{tn:Nat→Heap→Prop}{Q:VK}
section
variable {s:Sd}
def Be{XP:Addr->Sd->Hp->QXQ->QQY->St->Vl->Sd->Prop}{RR:Vl->Addr->Result->Sd->Prop}{E:QQX}(hc:X.calm=true)(S:rZ X scope ix N')(I:Inv X Wp σ H s)(T:FD X.prog X.w X.K tg J fp it tn)(st:tn 0 s.heap)(hf:∀b∈fp,AA X Wp H b) (hg:∀C s0 H0 ex,PG (X.comp scope N' C s0 H0 ex) tg g) (ht:∀C s0 H0 ex,PF (X.comp scope N' C s0 H0 ex) W0 tt) (he:∀C s0 H0 ex Wp s σ H Q,Inv (X.comp scope N' C s0 H0 ex) Wp σ H s->te σ H Q->wpAny (model X.prog X.w) X.A (eval Xh (X.comp scope N' C s0 H0 ex).env) (EP (X.comp scope N' C s0 H0 ex) Wp σ Q) (XP C s0 H0 ex Wp σ) s) (hx:∀C D e s',s.heap.objs.size<=C->(∃Xo σ',(∀b∈fp,∃o,(b,o)∈Xo)/\XP C s H fp Xo σ' e s')->notedBy (model X.prog X.w) X.A (compEnvC scope (AB X.env scope.names []) C X.env) (λx s'=>RR D C (.error x) s') e s') (hw:P9 ix g tt te σ J Q H) (Wt:∀D C s' H' m,s.heap.objs.size<=C->H' C=none->s'.heap.Ns C m->Inv X Wp σ H' s'->Q (.ref D) H'->RR (.ref D) C (.ok .next) s'):
  wpAny (model X.prog X.w) X.A (newList []) (λacc s₃=>wpAny (model X.prog X.w) X.A (newFunctionEnv scope X.env.globals (AB X.env scope.names []) [] X.env.qual none .none (some X.env)) (λW7 s₄=>
   codeAny (model X.prog X.w) X.A (.compStart (.ListComp Xh [⟨tg,iter,W0,0⟩] scope pos) 0 (.ref it) acc {W7 with scope:=relabel scope X.env}) (RR acc W7.locals) s₄) E s₃) E s:=by
 obtain⟨W,⟨m0,w0⟩,turn⟩:=hw;have WA:∀b∈fp,b<s.heap.objs.size:=λb hb=>by obtain⟨o,e,_⟩:=T.obj _ _ st b hb;exact dz e
 refine fP (wpAny_newFunctionEnv S.oo (by intro y hy;simp at hy) (λh₁ X8 YA=>?_) S.kind);dsimp only at X8 YA ⊢;generalize hH2:s.heap.push {cls:=.type "list",dict:=none,data:=.seq ([]:List Vl).toArray}=H2 at X8 YA ⊢;have hC:H2.objs.size=s.heap.objs.size+1:=by rw[<-hH2,fj]
 have hDC:s.heap.objs.size≠H2.objs.size:=by rw[hC];exact dH (fC _)
 have YB:s.heap.objs.size<=H2.objs.size:=by rw[hC];exact gg _
 have YW:∀b,b<s.heap.objs.size->b≠H2.objs.size/\b≠s.heap.objs.size:=λb hb=>⟨by rw[hC];exact dH (g9 hb),dH hb⟩;have W8:∀b o,s.heap.get? b=some o->h₁.get? b=some o:=λb o e=>YA.extBut b o (YW b (dz e)).1 (cZ _ (hH2 ▸ cZ _ e));have hacc:h₁.get? s.heap.objs.size=some {cls:=.type "list",data:=.seq ([]:List Vl).toArray 0}:=YA.extBut _ _ hDC (cZ _ (hH2 ▸ dE _ rfl));have X8:h₁.Ns H2.objs.size (λ_=>none):=X8;have XA:∀{H':Hp} {pl:QQY},(∀b∈fp,H' b=none)->(∀p∈pl,p.1∉fp)->∀b∈fp,AA (X.comp scope N' H2.objs.size s H fp) (X.pn++Wp++pl) H' b:=λ{H' pl} hn WH b hb=>by
  refine⟨hn b hb,dH (dI (WA b hb) YB),λz=>?_,.inl hb,λx c e=>(hf b hb).2.2.2.2.1 x c (S.sub I.ok e),λp hp=>?_⟩
  .rcases df.mp (I.nB b z)with y|y
   .exact(hf b hb).2.1 y
   .exact(hf b hb).2.2.1 y
  .rcases dX.mp (show p∈X.pn++Wp++pl by simpa using hp)with z|z
   .exact(hf b hb).2.2.2.2.2 p z
   .intro q;exact WH p z (q ▸ hb)
 have loop:∀s₃:Sd,s₃={s with heap:=h₁,toks:=s.toks+([]:List (Str×Vl)).length}->
   codeAny (model X.prog X.w) X.A (.compLoop (.ListComp Xh [⟨tg,iter,W0,0⟩] scope pos) 0 (.ref it) (.ref s.heap.objs.size) (compEnvC scope (AB X.env scope.names []) H2.objs.size X.env))
    (RR (.ref s.heap.objs.size) H2.objs.size) s₃:=by
  rintro s₃ rfl
  refine xx (hEX:=λe s' z=>hx _ _ e s' YB z) (λn s'=>∃(i:Nat) (ys:List V) (us:List Vl) (k:Nat) (σ':St) (H':Hp),Inv (X.comp scope N' H2.objs.size s H fp) (X.pn++Wp) σ' H' s'/\tn i s'.heap/\(∀b∈fp,H' b=none)/\H' s.heap.objs.size=none/\
   s'.heap.get? s.heap.objs.size=some {cls:=.type "list",data:=.seq us.toArray k}/\qA ys us/\ys.length<=sizeLine/\W i n ys σ' H') ?_ m0
   ⟨0,[],[],0,ON ix σ,H,I.comp S hf WA YB W8 X8,T.keep _ _ _ st λb _ o e=>W8 b o e,λb hb=>(hf b hb).1,I.mR.fresh (dg _),hacc,.nil,eE _,w0⟩
  rintro n s' ⟨i,ys,us,k,σ',H',I',XG,fr',hD',W5,rv',YX,w'⟩
  have cellD:∀x c,(X.comp scope N' H2.objs.size s H fp).env.cells.lookup x=some c->c≠s.heap.objs.size:=λx c e=>by obtain⟨v,q⟩:=I.cell x c (S.sub I.ok e);exact dH q.lt
  have pinD:∀p∈X.pn++Wp,p.1≠s.heap.objs.size:=λp hp=>dH (dz (I.pin p hp).1);have dfs:s.heap.objs.size∉(X.comp scope N' H2.objs.size s H fp).fs:=λz=>by
   rcases df.mp (I.nB _ z)with y|y
   .exact absurd I.lt (by rw[<-y];exact eZ _)
   .exact I.oJ (dg _) y
  have dfp:s.heap.objs.size∉fp:=λz=>absurd (WA _ z) (eZ _);have IpD:Inv (X.comp scope N' H2.objs.size s H fp) (X.pn++Wp++[(s.heap.objs.size,{cls:=.type "list",data:=.seq us.toArray k})]) σ' H' s':=I'.nL λp hp=>by
   rcases dX.mp hp with z|z
   .exact I'.pin p (eF _ z)
   .have e:p=(s.heap.objs.size,{cls:=.type "list",data:=.seq us.toArray k}):=by simpa using z
    subst e;exact⟨W5,hD',hDC,dfs,λv z=>by cases z⟩
  have pfp:∀p∈[((s.heap.objs.size,{cls:=.type "list",data:=.seq us.toArray k}):Addr×Obj)],p.1∉fp:=λp hp=>by
   have e:p=(s.heap.objs.size,{cls:=.type "list",data:=.seq us.toArray k}):=by simpa using hp
   subst e;exact dfp
  rcases turn i n ys σ' H' w' with⟨stop,hz,q⟩|⟨go,hz,step⟩
  .refine d9 (T.done (X.comp scope N' H2.objs.size s H fp) rfl rfl rfl hc i _ s' σ' H' (λ_ _=>False) IpD (XA fr' pfp) XG stop) (λr s1 ⟨hr,I1⟩=>?_) λ_ _ z=>z;subst hr;show RR _ _ _ _;have ho1:s1.heap.get? s.heap.objs.size=some {cls:=.type "list",data:=.seq us.toArray k}:=(I1.pin (s.heap.objs.size,{cls:=.type "list",data:=.seq us.toArray k}) (by simp)).1;obtain⟨m,hnC,_⟩:=id I1.loc;refine Wt _ _ s1 (upd H' s.heap.objs.size (.lst ys)) m YB (by rw[pV (dJ hDC)];exact I1.free) hnC ?_ (q _ hD');have nD:∀b o,s.heap.get? b=some o->b≠s.heap.objs.size:=λb o e=>(YW b (dz e)).2;have hD0:H s.heap.objs.size=none:=I.mR.fresh (dg _);refine I.oK (s':=s1) (ch:=fp) I1.os ⟨λb o e n1 n2 n3=>?_,λb o e n1 n2 n3=>?_,λb o e n1 n2=>?_,λb o e n1=>?_,λb xs e=>?_,λb o u e=>?_,λb ps e=>?_⟩ (λb u e=>?_) I1.bare λb hb=>⟨(hf b hb).2.2.2.1,(hf b hb).2.1,(hf b hb).2.2.2.2.1,(hf b hb).2.2.2.2.2⟩
   .exact I1.base.keep b o e n1 n2 n3
   .exact I1.base.slot b o e n1 n2 n3
   .rw[pV (nD b o e)];exact I1.base.free b o e n1 n2
   .exact I1.base.there b o e n1
   .rw[pV (qN e hD0)];exact I1.base.ny b xs e
   .rw[pV (qN e hD0)];exact I1.base.nu b o u e
   .obtain⟨more,z⟩:=I1.base.nG b ps e;exact⟨more,by rw[pV (qN e hD0)];exact z⟩
   .by_cases hb:b=s.heap.objs.size
    .subst hb;rw[pZ]at e;cases e;exact⟨hz,us,k,rv',ho1⟩
    .rw[pV hb]at e;exact(I1.mR b u e).nk (λc v _ z=>z) (λc z=>by rw[pV (qN z hD')];exact z) (λc xs z=>by rw[pV (qN z hD')];exact z)
  .refine d9 (T.item (X.comp scope N' H2.objs.size s H fp) rfl rfl rfl hc i _ s' σ' H' (λ_ _=>False) IpD (XA fr' pfp) XG go) (λr s1 ⟨v,hr,h4⟩=>?_) λ_ _ z=>z;subst hr;show wpAny _ _ (letOwnedTupleGo tg (.ref it) v) _ _ s1;refine d9 h4 (λ_ s2 zz=>?_) λ_ _ z=>z;obtain⟨x,H5,I5,r5,y5,YT,fr5⟩:=zz;have I5':=I5.pinned (XA fr5 pfp) (T.obj _ _ YT);refine d9 (hg H2.objs.size s H fp _ s2 σ' H5 x v _ I5' r5 (step x H5 y5)) (λ_ s3 ⟨σ6,H6,I6,q6⟩=>?_) λ_ _ z=>z;refine d9 (ht H2.objs.size s H fp _ s3 σ6 H6 _ I6 q6) (λok s4 ⟨H7,I7,q7⟩=>?_) λ_ _ z=>z;have YY:∀{σ7:St} {H7:Hp} {s7:Sd},Inv (X.comp scope N' H2.objs.size s H fp) (X.pn++Wp++[(s.heap.objs.size,{cls:=.type "list",data:=.seq us.toArray k})]++Bm fp s2.heap) σ7 H7 s7->
     tn (i+1) s7.heap/\(∀b∈fp,H7 b=none)/\H7 s.heap.objs.size=none/\s7.heap.get? s.heap.objs.size=some {cls:=.type "list",data:=.seq us.toArray k}:=λ{σ7 H7 s7} K7=>by
    have pd:=K7.pin (s.heap.objs.size,{cls:=.type "list",data:=.seq us.toArray k}) (by simp);refine⟨T.keep _ _ _ YT λb hb o e=>(K7.pin (b,o) (eF _ (eF _ (ve hb e)))).1,λb hb=>?_,pd.2.1,pd.1⟩;obtain⟨o,e,d⟩:=T.obj _ _ YT b hb;exact(K7.pin (b,o) (eF _ (eF _ (ve hb e)))).2.1
   cases ok with
   | false=>rw[cY dw]at q7 ⊢;obtain⟨m',hm,w7⟩:=q7;obtain⟨t7,f7,d7,o7⟩:=YY I7;exact⟨m',hm,i+1,ys,us,k,σ6,H7,I7.mY.mY,t7,f7,d7,o7,rv',YX,w7⟩
   | true=>
    rw[c9 rfl]at q7 ⊢;refine d9 (he H2.objs.size s H fp _ s4 σ6 H7 _ I7 q7) (λyv s5 ⟨y,H8,I8,r8,m',hm,w8⟩=>?_) λ_ _ z=>⟨_,_,λb hb=>(by
     obtain⟨o,e,_⟩:=T.obj _ _ YT b hb;exact⟨o,eF _ (ve hb e)⟩),z⟩
    obtain⟨t8,f8,d8,o8⟩:=YY I8;have hsz:us.toArray.size<=sizeLine:=by rw[dv,<-rv'.length];exact YX
    refine append_at (hsz:=hsz) o8 λh' sb od=>?_;refine⟨m',hm,i+1,ys++[y],us++[yv],k+1,σ6,H8,?_,T.keep _ _ _ t8 λb hb o e=>(sb.2 b λq=>dfp (q ▸ hb)).trans e,f8,d8,?_,rv'.append (.cons r8 .nil),?_,w8⟩
    .exact I8.mY.mY.turned (it:=s.heap.objs.size) (t':=s5.toks) (λb o hb e=>(sb.2 b hb).trans e) d8 hDC (.inr (dg _)) cellD (by simpa using pinD)
    .rw[od,List.push_toArray]
    .rw[cV,dP];exact hz
 exact codeAny_compStart_list (loop _ rfl) (T.self _ 0 _ _ _ (T.keep _ _ _ st λb _ o e=>W8 b o e) (loop _ rfl))
def Inv.letGo{C:Addr}{s':Sd}{H':Hp}{σ':St}{h':Heap}(I:Inv X Wp σ H s)(I':Inv X Wp σ' H' s')(hC:s.heap.objs.size<=C)(hn:H' C=none)(hs:Heap.SameBut C s'.heap h'):Inv X Wp σ' H' {s' with heap:=h'}:=
 I'.turned (t':=s'.toks) (it:=C) (λb o hb e=>(hs.2 b hb).trans e) hn (λz=>absurd (dI I.lt hC) (by rw[z];exact eZ _)) (.inr (dW I.sz hC))
  (λx c e z=>by
   obtain⟨v,r⟩:=I.cell x c e;exact absurd (dI r.lt hC) (by rw[z];exact eZ _))
  (λp hp z=>absurd (dI (dz (I.pin p hp).1) hC) (by rw[z];exact eZ _))
def PR{wi:TI}(hc:X.calm=true)(S:rZ X scope ix N')(hi:PI X tg iter wi)(hg:∀C s0 H0 ex,PG (X.comp scope N' C s0 H0 ex) tg g)(ht:∀C s0 H0 ex,PF (X.comp scope N' C s0 H0 ex) W0 tt)(he:∀C s0 H0 ex,PE (X.comp scope N' C s0 H0 ex) Xh te) (hs:∀x,foldedSetIterable iter X.env x=pure x:=by intro _;rfl):PE X (.ListComp Xh [⟨tg,iter,W0,0⟩] scope pos) (LV ix wi g tt te):=by
 intro Wp s σ H Q I h;rw[eval_ListComp];refine jC (use:=none) rfl hs (ym (S.cells I.ok)) S.kind S.nam (d9 (hi Wp s σ H _ I h) (λxv s₁ h₁=>d9 h₁ (λitv s₂ h₂=>?_) λ_ _ e=>e) λ_ _ e=>e);obtain⟨it,fp,tn,J,H2,e,I2,T,WP,f2,hw⟩:=h₂;subst e;refine Be (RR:=λacc C=>compPost (model X.prog X.w) X.A X.xe none (EP X Wp σ Q) acc C) hc S I2 T WP f2 hg ht (XP:=λ_ _ _ _ _ _ _ _=>False) he (λ_ _ _ _ _ z=>by obtain⟨_,_,_,z⟩:=z;exact z.elim) hw λD C s' H' m hCs hCn hn I3 q=>?_;exact⟨m,hn,λh' YZ=>⟨.ref D,_,I2.letGo I3 hCs hCn YZ,rfl,q⟩⟩
def Hs{wi:TI}{i:Nat}{x:Str}{px X9:Pos}(hN:X.N.Nodup)(YC:X.N[i]?=some x)(hx:Ki X.env.scope x)(hc:X.calm=true)(S:rZ X scope ix N')(hi:PI X tg iter wi)(hg:∀C s0 H0 ex,PG (X.comp scope N' C s0 H0 ex) tg g)(ht:∀C s0 H0 ex,PF (X.comp scope N' C s0 H0 ex) W0 tt) (he:∀C s0 H0 ex,PE (X.comp scope N' C s0 H0 ex) Xh te) (XT:swapsWith (.ListComp Xh [⟨tg,iter,W0,0⟩] scope pos) (some (.Name x px)) X9.line X.env=pure true) (hf:Kk X x:=by first|exact .inl rfl|exact .inr rfl|assumption) (hs:∀x,foldedSetIterable iter X.env x=pure x:=by intro _;rfl):
  PS X (.Assign [.Name x px] (.ListComp Xh [⟨tg,iter,W0,0⟩] scope pos) X9) (OF (LV ix wi g tt te) (HJ i)):=by
 intro Wp s σ H D I h;rw[exec_Assign_Name_used _ _ _ _ XT];refine cU (gR (cU ?_));show wpAny _ X.A (do let _<-comprehension (.ListComp Xh [⟨tg,iter,W0,0⟩] scope pos) scope X.env _ (newList []) false (eval iter X.env) (some (assign (.Name x px) X.env))) _ _ s;refine cU (d9 (jC (use:=some (assign (.Name x px) X.env)) (Q:=λ_ s'=>SP X Wp D .next s') rfl hs (ym (S.cells I.ok)) S.kind S.nam
  (d9 (hi Wp s σ H _ I h) (λxv s₁ h₁=>d9 h₁ (λitv s₂ h₂=>?_) λ_ _ e=>e) λ_ _ e=>e)) (λ_ s' hq=>de (de hq)) λ_ _ e=>e)
 obtain⟨it,fp,tn,J,H2,e,I2,T,WP,f2,hw⟩:=h₂;subst e;refine Be (RR:=λacc C=>compPost (model X.prog X.w) X.A X.xe (some (assign (.Name x px) X.env)) (λ_ s'=>SP X Wp D .next s') acc C) hc S I2 T WP f2 hg ht (XP:=λ_ _ _ _ _ _ _ _=>False) he (λ_ _ _ _ _ z=>by obtain⟨_,_,_,z⟩:=z;exact z.elim) hw λDa C s' H' m hCs hCn hn I3 q=>?_;show wpAny _ X.A (assign (.Name x px) X.env (.ref Da)) _ _ _;refine ly (Dn I3 hN YC hx (v:=.ref Da) rfl (λs4 I4 ⟨a,sb,ha⟩=>?_) hf);have ca:C≠a:=λz=>by
  rcases ha with y|y
  .exact absurd (dI I2.lt hCs) (by rw[z,y];exact eZ _)
  .obtain⟨v,r⟩:=I2.cell x a y;exact absurd (dI r.lt hCs) (by rw[z];exact eZ _)
 exact⟨m,hn.sameBut sb ca,λh' YZ=>⟨_,H',I2.letGo I4 hCs hCn YZ,q⟩⟩
end
def AD:typeLookup (.type "list") "__getattr__"=pure none:=by rw[typeLookup_type,j7];kernel_rfl
def Fv:typeLookup (.type "list") "keys"=pure none:=by rw[typeLookup_type,j7];kernel_rfl
section
variable {prog:Pg}{w:Wo}{A:Ar}{E:QQX}
def Kn(a:Addr)(u:Tok)(its:Array Vl)(n:Nat)(sl:Array (Option Vl)):
  Meets (Builtin.«object.__getattribute__» ⟨[.ref a,.str "keys" u],[]⟩) λA R s=>s.heap.get? a=some ⟨.type "list",none,.seq its n,sl⟩/\A.handled=none/\∀h' tk e,Heap.NewAttrErr s.heap h' e (.ref a) "keys"->R (.error (.ref e)) {s with heap:=h',toks:=tk}:=
 Meets.of_wp λprog w A R s hs=>by
  obtain⟨hp,g,d,tk,os⟩:=s;obtain⟨h1,h2,h3⟩:=hs;have hT:(⟨hp,g,d,tk,os⟩:Sd).TypeIs (.ref a) "list":=⟨_,h1,rfl⟩;have f1:=Fv;unfold Builtin.«object.__getattribute__»
  repeat (any_goals(first|assumption|wp_step))
  exact wpAny_raiseAttrError h2 h3 (attrMsg_fits (by decide+kernel) (by decide))
def EK{s:Sd}{a:Addr}{its:Array Vl}{n:Nat}{sl:Array (Option Vl)}{Q:Option Vl->Sd->Prop}(ha:s.heap.get? a=some ⟨.type "list",none,.seq its n,sl⟩)(hA:A.handled=none) (h:∀h' tk,(∀b o,s.heap.get? b=some o->h'.get? b=some o)->Q none {s with heap:=h',toks:=tk}):wpAny (model prog w) A (getAttr? (.ref a) "keys") Q E s:=by
 obtain⟨hp,g,d,tk,os⟩:=s;have hT:(⟨hp,g,d,tk,os⟩:Sd).TypeIs (.ref a) "list":=⟨_,ha,rfl⟩;have f1:=sub_AttributeError;have f3:=il.lookup;have f4:=il.bind (.ref a);have f5:=AD;unfold getAttr? getAttrBy? getAttrBy
 repeat (any_goals(first|assumption|((with_reducible show wpAny _ _ (call (Value.builtin "list.__getattribute__") _ _) _ _ _);refine iK il hT F.entry_list_ga (F.args_list_getattribute_2 _ _) (Kn a _ its n sl) ⟨ha,hA,λh' tk' e hx=>?_⟩)|wp_step))
 obtain⟨t',u',he⟩:=hx.there;show wpAny _ _ (getattributeRaised _ _ _ _ _ _ _) _ _ _;unfold getattributeRaised
 repeat (any_goals(first|assumption|wp_step))
 all_goals first|exact h _ _ hx.keeps|skip
end
def Ao:entryFor table "dict.update.loop"=some Builtin.«dict.update.loop»:=entryFor_of_tree (by kernel_rfl)
def vG:plainId "dict.update.loop"=true:=by decide+kernel
section
variable {prog:Pg}{w:Wo}{A:Ar}{E:QQX}{R:Result→Sd→Prop}{κ:Type}[DecidableEq κ]{knd:PySem.KeyKind prog w κ}
 {I:Addr} {fp wr:QXQ} {G:Array GenState->Array GenState->Prop} {P:Nat->Vl->Prop} {St:Nat->Sd->Prop}
def Pp{s:Sd}{t:Addr}{x y:Vl}{Q:List Vl->Sd->Prop}(h:s.heap.IsTuple t #[x,y])(q:Q [x,y] s):wpAny (model prog w) A (Builtin.Dict.pairItems (.ref t)) Q E s:=by
 obtain⟨⟨oc,od,oda,Xd⟩,h1,h2,n,h3⟩:=h;simp only at h2 h3;subst h2 h3;have hT:s.TypeIs (.ref t) "tuple":=⟨_,h1,rfl⟩;obtain⟨hp,g,d,tk,os⟩:=s;unfold Builtin.Dict.pairItems
 repeat (any_goals(first|assumption|wp_step))
def JV{all:List (κ×Vl)}(W:WalksS prog w A.in1 I fp wr G all.length P St)(d:Addr)(YV:d∉fp)(kv:Nat->Vl)(tp:Nat->Addr)(hP:∀i v,P i v->v=.ref (tp i))(hw:∀j,j<all.length->tp j∉wr/\tp j≠d) (hk:∀j p,all[j]?=some p->knd.is p.1 (kv j)=true) (hz:all.length<=sizeLine):
  ∀(k i:Nat) (z:Int) (s:Sd),all.length - i=k->i<=all.length->St i s->(∀j p,all[j]?=some p->s.heap.IsTuple (tp j) #[kv j,p.2])->s.heap.DictOf knd d (merged [] (all.take i))->
   (∀s',Moved (d::wr) G s s'->s'.heap.DictOf knd d (merged [] all)->R (.ok (.ret .none)) s')->codeAny (model prog w) A (.builtin "dict.update.loop" ⟨[.ref d,.ref I,.int z 0,.none],[]⟩) R s:=by
 have hdw:d∉wr:=λh=>YV (W.sub _ h);have Ya:∀b∈wr,b∈d::wr:=λb hb=>dD _ hb;intro k;induction k with
 | zero=>
  intro i z s hk0 hi WJ hT hD hR;have Yk:i=all.length:=by omega
  subst Yk;refine gT Ao ?_;rw[h9 vG _];show wpAny _ A.in1 (pyNext (.ref I)>>=_) _ _ s;refine cU (W.done s _ _ WJ λs' hm=>?_);show wpAny _ A.in1 (Builtin.Dict.addKeywords d []>>=_) _ _ s';refine cU (de (de (hR s' (hm.mono Ya) ?_)));rw[fD]at hD;obtain⟨o,es,ep,ho,rest⟩:=hD;exact⟨o,es,ep,hm.heap d _ hdw ho,rest⟩
 | succ k ih=>
  intro i z s hk0 hi WJ hT hD hR;have WA:i<all.length:=by omega
  have XB:all[i]?=some all[i]:=cW WA;refine gT Ao ?_;rw[h9 vG _];show wpAny _ A.in1 (pyNext (.ref I)>>=_) _ _ s;refine cU (W.item i s _ _ WA WJ λv s' hPv Zm hm=>?_);obtain rfl:=hP i v hPv;have hT':∀j p,all[j]?=some p->s'.heap.IsTuple (tp j) #[kv j,p.2]:=λj p e=>by obtain⟨o,h1,h2⟩:=hT j p e;exact⟨o,hm.heap _ _ (hw j (cX.mp e).1).1 h1,h2⟩
  have hD':s'.heap.DictOf knd d (merged [] (all.take i)):=by obtain⟨o,es,ep,ho,rest⟩:=hD;exact⟨o,es,ep,hm.heap d _ hdw ho,rest⟩
  show wpAny _ A.in1 (holding [Value.ref (tp i)] _>>=_) _ _ s';refine cU (eD (cU (wpAny_tryCatch (Pp (hT' i _ XB) ?_))));show wpAny _ A.in1 (holding [kv i,all[i].2] (dictSet d (kv i) all[i].2)) _ _ s';refine eD ?_;unfold dictSet;refine eD (cU (knd.pyHash (hk i _ XB) ?_));have hl:(merged [] (all.take i)).length<=sizeLine:=by have:=merged_length_le [] (all.take i);rw[fm]at this;simp only[dM]at this;omega
  refine wpAny_dictSetHashed_pairs (hsz:=hl) (hk i _ XB) hD' λh' dd hs=>?_;rw[<-merged_take_succ [] all i _ XB]at dd;refine de ⟨kA vG _,ih (i+1) _ _ (by omega) WA (W.frame _ s' _ _ Zm (gg _) λb hb o e=>?_) (λj p e=>?_) dd λZg Zn hD''=>?_⟩
  .rw[hs.2 b (λz:b=d=>YV (z ▸ hb))];exact e
  .obtain⟨o,h1,h2⟩:=hT' j p e;refine⟨o,?_,h2⟩;show h'.get? (tp j)=some o;rw[hs.2 _ (hw j (cX.mp e).1).2];exact h1
  .refine hR Zg (mE W.gtrans ((hm.mono Ya).then_heap (gg _) λb o hb e=>?_) Zn) hD'';rw[hs.2 b (λz:b=d=>hb (by rw[z];exact dN))];exact e
end
section
variable {prog:Pg}{w:Wo}{A:Ar}{E:QQX}{κ:Type}[DecidableEq κ]{knd:PySem.KeyKind prog w κ}{s:Sd}
def AS{l:Addr}{its:Array Vl}{n:Nat}{sl:Array (Option Vl)}{all:List (κ×Vl)}{Q:QQX}(kv:Nat->Vl)(tp:Nat->Addr)(hh:A.handled=none)(hl:s.heap.get? l=some ⟨.type "list",none,.seq its n,sl⟩) (hits:∀(j:Nat) (v:Vl),its[j]?=some v->v=.ref (tp j)) (Wv:its.size=all.length) (hT:∀j p,all[j]?=some p->s.heap.IsTuple (tp j) #[kv j,p.2]) (hk:∀j p,all[j]?=some p->knd.is p.1 (kv j)=true) (hz:all.length<=sizeLine) (h:∀h' tk,h'.DictOf knd s.heap.objs.size (merged [] all)->(∀b o,s.heap.get? b=some o->h'.get? b=some o)->Q (.ref s.heap.objs.size) {s with heap:=h',toks:=tk}):
  wpAny (model prog w) A (call (.type "dict") [.ref l]) Q E s:=by
 refine callType_codes (Q₁:=λobj s₁=>obj=Value.ref s.heap.objs.size/\s₁={s with heap:=s.heap.push {cls:=.type "dict",data:=.dict #[]}}) PySem.F.kt_called_dict (PySem.F.kt_typeCall_dict_1 _) F.entry_dict_init (kt_code_dict_new _ ⟨rfl,rfl⟩) ?_
 rintro obj s₁ ⟨rfl,rfl⟩
 have X6:(s.heap.push {cls:=.type "dict",data:=.dict #[]}).DictOf knd s.heap.objs.size []:=Heap.DictOf.new s.heap;have hl':(s.heap.push {cls:=.type "dict",data:=.dict #[]}).get? l=some ⟨.type "list",none,.seq its n,sl⟩:=cZ _ hl;have hTl:Shared.TypeIs {s with heap:=s.heap.push {cls:=.type "dict",data:=.dict #[]}} (.ref l) "list":=⟨_,hl',rfl⟩;have lsz:l<s.heap.objs.size:=dz hl;refine⟨X6.typeIs,F.args_dict_init_2 _ _,?_⟩;unfold Builtin.«dict.__init__»;refine cU ?_;unfold Builtin.Dict.selfAndRest;refine cU (wpAny_notOrdered_dict X6.typeIs ?_);show wpAny _ _ (pure (s.heap.objs.size,[Value.ref l])) _ _ _;refine de ?_;show wpAny _ _ (Builtin.Dict.updateFrom "dict.__init__" s.heap.objs.size (.ref l) [] .none) _ _ _;unfold Builtin.Dict.updateFrom;refine cU (jA hTl ?_);rw[c9 (by decide)];refine cU (EK hl' (by simpa using hh) λh' tk keep=>?_);have hl2:h'.IsList l its:=⟨_,keep _ _ hl',rfl,n,rfl⟩;show wpAny _ _ (rule _>>=_) _ _ _;refine cU (ko (cU (gF hl2 ?_)));have nd:h'.objs.size>s.heap.objs.size:=by have z:h'.get? s.heap.objs.size=some _:=keep _ _ (dE _ rfl);exact dz z
 have hDn:h'.DictOf knd s.heap.objs.size []:=by obtain⟨o,es,ep,ho,rest⟩:=X6;exact⟨o,es,ep,keep _ _ ho,rest⟩
 have hTs:∀j p,all[j]?=some p->h'.IsTuple (tp j) #[kv j,p.2]:=λj p e=>by obtain⟨o,h1,h2⟩:=hT j p e;exact⟨o,keep _ _ (cZ _ h1),h2⟩
 have WL:l≠h'.objs.size:=dH (jB lsz nd);have W:=(kr (prog:=prog) (w:=w) (A:=A.in1.in1) (by simpa using hh) h'.objs.size l WL its).toS;rw[Wv]at W;refine de ⟨kA vG _,JV (A:=A.in1) W s.heap.objs.size ?_ kv tp (λi v e=>hits i v e) (λj hj=>?_) hk hz all.length 0 0 _ (by omega) (eE _) ⟨⟨_,dE _ rfl,rfl,rfl⟩,hl2.push _⟩ (λj p e=>(hTs j p e).push _) ?_ λs' hm hD=>?_⟩
 .simp only[df,dC,eX,fH];exact⟨dH nd,gL lsz⟩
 .have hj':all[j]?=some all[j]:=cW hj;obtain⟨o,h1,_⟩:=hT j _ hj';have tsz:=dz h1;simp only[df,dC,eX];exact⟨dH (jB tsz nd),dH tsz⟩
 .obtain⟨o,es,ep,ho,rest⟩:=hDn;exact⟨o,es,ep,cZ _ ho,rest⟩
 .obtain⟨h2,g2,d2,t2,o2⟩:=s';have eg:g2=s.gens:=hm.gens;have ed:d2=s.drawn:=hm.drawn;have eo:o2=s.os:=hm.os;subst eg ed eo;refine⟨rfl,h h2 t2 hD λb o e=>?_⟩;have hb:=dz e;refine hm.heap b o ?_ (cZ _ (keep _ _ (cZ _ e)));simp only[df,dC,eX,fH];exact⟨dH hb,dH (jB hb nd)⟩
end
def sL{κ:Type}[DecidableEq κ](l:List κ):List κ:=l.foldl (λacc k=>if k∈acc then acc else acc++[k]) []
def yd{κ:Type}[DecidableEq κ](l:List κ)(k:κ):sL (l++[k])=if k∈sL l then sL l else sL l++[k]:=by unfold sL;rw[lD];rfl
def IK{κ:Type}[DecidableEq κ]:∀l:List κ,(sL l).length<=l.length:=by
 have go:∀(l acc:List κ),(l.foldl (λacc k=>if k∈acc then acc else acc++[k]) acc).length<=acc.length+l.length:=by
  intro l;induction l with
  | nil=>intro acc;simp
  | cons k r ih=>
   intro acc;rw[fS];refine dW (ih _) ?_;split
   .simp only[dZ];omega
   .simp only[dZ,cV,dM];omega
 intro l;have:=go l []
 simpa [sL]using this
def LD{κ:Type}[DecidableEq κ](x:κ):∀l:List κ,x∈sL l↔x∈l:=by
 have go:∀(l acc:List κ),x∈l.foldl (λacc k=>if k∈acc then acc else acc++[k]) acc↔x∈acc\/x∈l:=by
  intro l;induction l with
  | nil=>intro acc;simp
  | cons k r ih=>
   intro acc;rw[fS,ih];by_cases h:k∈acc
   .rw[c9 h,df];constructor
    .rintro (z|z)
     .exact .inl z
     .exact .inr (.inr z)
    .rintro (z|z|z)
     .exact .inl z
     .subst z;exact .inl h
     .exact .inr z
   .rw[cY h,dX,dq,df,or_assoc]
 intro l;have:=go l []
 simpa [sL]using this
def HF{κ:Type}[DecidableEq κ]:∀l:List κ,l.Nodup->sL l=l:=by
 have go:∀(l acc:List κ),(acc++l).Nodup->l.foldl (λacc k=>if k∈acc then acc else acc++[k]) acc=acc++l:=by
  intro l;induction l with
  | nil=>intro acc _;simp
  | cons k r ih=>
   intro acc h;have hk:k∉acc:=λz=>by rw[fQ]at h;exact h.2.2 k z k dN rfl
   rw[fS,cY hk,ih]
   .rw[eW];rfl
   .rw[eW];exact h
 intro l h;have:=go l [] (by simpa using h)
 simpa [sL]using this
section
variable {prog:Pg}{w:Wo}{A:Ar}{E:QQX}{R:Result→Sd→Prop}{κ:Type}[DecidableEq κ][BEq κ][LawfulBEq κ]{knd:PySem.KeyKind prog w κ}
 {I:Addr} {fp wr:QXQ} {G:Array GenState->Array GenState->Prop} {P:Nat->Vl->Prop} {St:Nat->Sd->Prop}
def F4{all:List κ}(W:WalksS prog w A.in1 I fp wr G all.length P St)(S:Addr)(hSf:S∉fp)(hval:∀i v k,P i v->all[i]?=some k->knd.is k v=true/\v.scannable=true)(hb:all.length+1<scanBound):
  ∀(n i:Nat) (s:Sd),all.length - i=n->i<=all.length->St i s->s.heap.SetOf knd S (λx=>decide (x∈sL (all.take i))) (sL (all.take i)).length->
   (∀s',Moved (S::wr) G s s'->s'.heap.SetOf knd S (λx=>decide (x∈sL all)) (sL all).length->R (.ok (.ret .none)) s')->codeAny (model prog w) A (.builtin "set.update.loop" ⟨[.ref S,.ref I],[]⟩) R s:=by
 have hSw:S∉wr:=λh=>hSf (W.sub _ h);have up:∀b∈wr,b∈S::wr:=λb hb=>dD _ hb;have kept:∀{s s':Sd} {T:κ->Bool} {m:Nat},Moved wr G s s'->s.heap.SetOf knd S T m->s'.heap.SetOf knd S T m:=λhm ⟨o,es,ep,t,ho,rest⟩=>⟨o,es,ep,t,hm.heap S _ hSw ho,rest⟩;intro n;induction n with
 | zero=>
  intro i s h0 hi WJ hS hR;obtain rfl:i=all.length:=by omega
  refine gT im ?_;rw[h9 gw _];rw[fD]at hS;exact cU (W.done s _ _ WJ λs' hm=>de (hR s' (hm.mono up) (kept hm hS)))
 | succ n ih=>
  intro i s h0 hi WJ hS hR;have WA:i<all.length:=by omega
  have XB:all[i]?=some all[i]:=cW WA;refine gT im ?_;rw[h9 gw _];refine cU (W.item i s _ _ WA WJ λv s' hP Zm hm=>?_);obtain⟨k1,k2⟩:=hval i v _ hP XB;have YD:=kept hm hS;show wpAny _ A.in1 (holding [v] (setAdd S v)>>=_) _ _ s';refine cU (eD ?_);unfold setAdd;refine eD (cU (knd.pyHash k1 ?_));have room:(sL (all.take i)).length+1<scanBound:=by have h1:=IK (all.take i);rw[fm]at h1;omega
  refine wpAny_setAddHashed_of (knd:=knd) (s:={s' with toks:=s'.toks+1}) k1 k2 YD room λh' hsb hS2=>?_;have et:all.take (i+1)=all.take i++[all[i]]:=by rw[gj,XB];rfl
  have hSi:h'.SetOf knd S (λx=>decide (x∈sL (all.take (i+1)))) (sL (all.take (i+1))).length:=by
   refine io hS2 (λx=>?_) ?_
   .rw[et];by_cases Wr:all[i]∈sL (all.take i)
    .rw[yd,c9 Wr];by_cases hx:x=all[i]
     .subst hx;simp[Wr]
     .simp[hx]
    .rw[yd,cY Wr];by_cases hx:x=all[i]
     .subst hx;simp
     .simp[hx]
   .rw[et,yd];by_cases Wr:all[i]∈sL (all.take i)
    .rw[c9 Wr];simp[Wr]
    .rw[cY Wr];simp[Wr]
  refine de ⟨kA gw _,ih (i+1) _ (by omega) WA (W.frame _ s' _ _ Zm (gg _) λb hb o e=>?_) hSi λZg Zn hS''=>?_⟩
  .rw[hsb.2 b (λz:b=S=>hSf (z ▸ hb))];exact e
  .refine hR Zg (mE W.gtrans ((hm.mono up).then_heap (gg _) λb o hb e=>?_) Zn) hS'';rw[hsb.2 b (λz:b=S=>hb (by rw[z];exact dN))];exact e
end
def Ee:isSubtype (.type "list") (.type "set")=pure false:=by rw[ja];kernel_rfl
def AK:isSubtype (.type "list") (.type "frozenset")=pure false:=by rw[ja];kernel_rfl
section
variable {prog:Pg}{w:Wo}{A:Ar}{E:QQX}{κ:Type}[DecidableEq κ][BEq κ][LawfulBEq κ]{knd:PySem.KeyKind prog w κ}{s:Sd}
set_option maxHeartbeats 4000000 in
def CP{l:Addr}{Wq:Array Vl}{all:List κ}{Q:QQX}(hh:A.handled=none)(hl:s.heap.IsList l Wq)(hn:Wq.size=all.length)(hi:∀(i:Nat) (v:Vl) (k:κ),Wq[i]?=some v->all[i]?=some k->knd.is k v=true/\v.scannable=true)(hb:all.length+1<scanBound) (h:∀(h':Heap) (tk:Nat),h'.SetOf knd s.heap.objs.size (λx=>decide (x∈sL all)) (sL all).length->(∀b o,s.heap.get? b=some o->h'.get? b=some o)->Q (.ref s.heap.objs.size) {s with heap:=h',toks:=tk}):
  wpAny (model prog w) A (call (.type "set") [.ref l]) Q E s:=by
 obtain⟨c,tl,Zo⟩:=ft.mro;have hmade:=ft.made;have Ya:=ft.sub;refine hZ (jP ?_);show wpAny _ _ (callAny (.type "set") _) _ _ _;refine de ⟨ip _ (by decide+kernel),gT lE ?_⟩;rw[kY (j8 "set" [.ref l] []) rfl];have h1:=ft.notType;have h2:=ft.canCreate;have hct:=lV (.ref l)
 repeat (any_goals(first|assumption|wp_step))
 have fresh:∀WR:Bool,(s.heap.push {cls:=.type "set",dict:=none,data:=.set #[] 0 (.fresh 0 0 WR)}).get? s.heap.objs.size=some {cls:=.type "set",dict:=none,data:=.set #[] 0 (.fresh 0 0 WR)}:=λWR=>dE _ rfl;refine gh (code_set_new_1 (.ref l) (E:=E) (Q₁:=λobj s₁=>∃WR:Bool,obj=Value.ref s.heap.objs.size/\s₁={s with heap:=s.heap.push {cls:=.type "set",dict:=none,data:=.set #[] 0 (.fresh 0 0 WR)}}) λWR=>⟨WR,rfl,rfl⟩) λr s₁ hr=>?_;cases r with
 | error e=>exact hr
 | ok fl=>
  cases fl with
  | ret obj=>
   obtain⟨WR,rfl,rfl⟩:=hr;have hS:=fresh WR;have hT:Shared.TypeIs {s with heap:=s.heap.push {cls:=.type "set",dict:=none,data:=.set #[] 0 (.fresh 0 0 WR)}} (.ref s.heap.objs.size) "set":=⟨_,hS,rfl⟩;have hli:=ft.init.lookup;have hbi:=ft.init.bind (.ref s.heap.objs.size)
   repeat (any_goals(first|assumption|wp_step))
   refine gh (ia (R:=wants (λr s₂=>r=.none/\∃h' tk,s₂={s with heap:=h',toks:=tk}/\h'.SetOf knd s.heap.objs.size (λx=>decide (x∈sL all)) (sL all).length/\(∀b o,s.heap.get? b=some o->h'.get? b=some o)) E) ft.init.plain lW (lX hT ?_)) λr₂ s₂ Zp=>?_
   .obtain⟨ol,hol,Y0,nl,hdl⟩:=hl;obtain⟨ocls,Yb,odata,XC⟩:=ol;simp only at Y0 hdl;subst Y0;subst hdl;have Zq:(s.heap.push {cls:=.type "set",dict:=none,data:=.set #[] 0 (.fresh 0 0 WR)}).get? l=some {cls:=.type "list",dict:=Yb,data:=.seq Wq nl,slots:=XC}:=cZ _ hol;have hsls:=Ee;have hslf:=AK;have hnd:(Value.type "list"==Value.type "dict")=false:=by decide
    have hl1:(s.heap.push {cls:=.type "set",dict:=none,data:=.set #[] 0 (.fresh 0 0 WR)}).IsList l Wq:=⟨_,Zq,rfl,nl,rfl⟩;unfold Builtin.«set.__init__» noKeywords Builtin.Frozenset.updateFrom;generalize hPI:pyIter=PI
    wp_walk
    subst hPI;refine gF hl1 ?_;refine cU (wpAny_runValue ?_);have lS:l<s.heap.objs.size:=dz hol;have hh3:A.in1.in1.in1.handled=none:=by simp[hh]
    have lI:l≠(s.heap.push {cls:=.type "set",dict:=none,data:=.set #[] 0 (.fresh 0 0 WR)}).objs.size:=by rw[fj];exact dH (g9 lS)
    have W:=(kr (prog:=prog) (w:=w) hh3 _ l lI Wq).toS;rw[hn]at W;refine F4 W s.heap.objs.size ?hf (λi v k e1 e2=>hi i v k e1 e2) hb all.length 0 _ (by omega) (eE _) ⟨⟨_,dE _ rfl,rfl,rfl⟩,(hl1.push _)⟩ ?h0 ?hR;case hf=>rw[fj];simp only[df,dC,eX,fH];exact⟨dH (fC _),gL lS⟩
    case h0=>exact io ((jg (knd:=knd) WR).setOf (cZ _ hS) (by unfold scanBound;omega)) (λ_=>rfl) rfl
    case hR=>intro s' hm YD;obtain⟨h',g',d',tk',Zf⟩:=s';have eg:g'=s.gens:=hm.gens;have ed:d'=s.drawn:=hm.drawn;have eo:Zf=s.os:=hm.os;subst eg;subst ed;subst eo;refine de ?_;show wpAny _ _ (ret Value.none) _ _ _;refine de ⟨rfl,h',tk',rfl,YD,λb o e=>?_⟩;have hb:=dz e;refine hm.heap b o ?_ (cZ _ (cZ _ e));rw[fj];simp only[df,dC,eX,fH];exact⟨dH hb,dH (g9 hb)⟩
   .cases r₂ with
    | error e=>exact Zp
    | ok fl₂=>
     cases fl₂ with
     | ret r=>
      obtain⟨rfl,h',tk,rfl,YD,Zl⟩:=Zp
      repeat (any_goals(first|assumption|wp_step))
      exact h _ _ YD Zl
     | _=>exact Zp.elim
  | _=>exact hr.elim
end
def Dc:isSubtype (.type "tuple") (.type "set")=pure false:=by rw[ja];kernel_rfl
def zU:isSubtype (.type "tuple") (.type "frozenset")=pure false:=by rw[ja];kernel_rfl
section
variable {prog:Pg}{w:Wo}{A:Ar}{E:QQX}{κ:Type}[DecidableEq κ][BEq κ][LawfulBEq κ]{knd:PySem.KeyKind prog w κ}{s:Sd}
set_option maxHeartbeats 4000000 in
def Bv{l:Addr}{Wq:Array Vl}{all:List κ}{Q:QQX}(hh:A.handled=none)(hl:s.heap.IsTuple l Wq)(hn:Wq.size=all.length)(hi:∀(i:Nat) (v:Vl) (k:κ),Wq[i]?=some v->all[i]?=some k->knd.is k v=true/\v.scannable=true)(hb:all.length+1<scanBound) (h:∀(h':Heap) (tk:Nat),h'.SetOf knd s.heap.objs.size (λx=>decide (x∈sL all)) (sL all).length->(∀b o,s.heap.get? b=some o->h'.get? b=some o)->Q (.ref s.heap.objs.size) {s with heap:=h',toks:=tk}):
  wpAny (model prog w) A (call (.type "set") [.ref l]) Q E s:=by
 obtain⟨c,tl,Zo⟩:=ft.mro;have hmade:=ft.made;have Ya:=ft.sub;refine hZ (jP ?_);show wpAny _ _ (callAny (.type "set") _) _ _ _;refine de ⟨ip _ (by decide+kernel),gT lE ?_⟩;rw[kY (j8 "set" [.ref l] []) rfl];have h1:=ft.notType;have h2:=ft.canCreate;have hct:=lV (.ref l)
 repeat (any_goals(first|assumption|wp_step))
 have fresh:∀WR:Bool,(s.heap.push {cls:=.type "set",dict:=none,data:=.set #[] 0 (.fresh 0 0 WR)}).get? s.heap.objs.size=some {cls:=.type "set",dict:=none,data:=.set #[] 0 (.fresh 0 0 WR)}:=λWR=>dE _ rfl;refine gh (code_set_new_1 (.ref l) (E:=E) (Q₁:=λobj s₁=>∃WR:Bool,obj=Value.ref s.heap.objs.size/\s₁={s with heap:=s.heap.push {cls:=.type "set",dict:=none,data:=.set #[] 0 (.fresh 0 0 WR)}}) λWR=>⟨WR,rfl,rfl⟩) λr s₁ hr=>?_;cases r with
 | error e=>exact hr
 | ok fl=>
  cases fl with
  | ret obj=>
   obtain⟨WR,rfl,rfl⟩:=hr;have hS:=fresh WR;have hT:Shared.TypeIs {s with heap:=s.heap.push {cls:=.type "set",dict:=none,data:=.set #[] 0 (.fresh 0 0 WR)}} (.ref s.heap.objs.size) "set":=⟨_,hS,rfl⟩;have hli:=ft.init.lookup;have hbi:=ft.init.bind (.ref s.heap.objs.size)
   repeat (any_goals(first|assumption|wp_step))
   refine gh (ia (R:=wants (λr s₂=>r=.none/\∃h' tk,s₂={s with heap:=h',toks:=tk}/\h'.SetOf knd s.heap.objs.size (λx=>decide (x∈sL all)) (sL all).length/\(∀b o,s.heap.get? b=some o->h'.get? b=some o)) E) ft.init.plain lW (lX hT ?_)) λr₂ s₂ Zp=>?_
   .obtain⟨ol,hol,Y0,nl,hdl⟩:=hl;obtain⟨ocls,Yb,odata,XC⟩:=ol;simp only at Y0 hdl;subst Y0;subst hdl;have Zq:(s.heap.push {cls:=.type "set",dict:=none,data:=.set #[] 0 (.fresh 0 0 WR)}).get? l=some {cls:=.type "tuple",dict:=Yb,data:=.seq Wq nl,slots:=XC}:=cZ _ hol;have hsls:=Dc;have hslf:=zU;have hnd:(Value.type "tuple"==Value.type "dict")=false:=by decide
    have hl1:(s.heap.push {cls:=.type "set",dict:=none,data:=.set #[] 0 (.fresh 0 0 WR)}).IsTuple l Wq:=⟨_,Zq,rfl,nl,rfl⟩;unfold Builtin.«set.__init__» noKeywords Builtin.Frozenset.updateFrom;generalize hPI:pyIter=PI
    wp_walk
    subst hPI;refine iq hl1 ?_;refine cU (wpAny_runValue ?_);have lS:l<s.heap.objs.size:=dz hol;have hh3:A.in1.in1.in1.handled=none:=by simp[hh]
    have lI:l≠(s.heap.push {cls:=.type "set",dict:=none,data:=.set #[] 0 (.fresh 0 0 WR)}).objs.size:=by rw[fj];exact dH (g9 lS)
    have W:=(Walks.tuple (prog:=prog) (w:=w) hh3 _ l lI Wq).toS;rw[hn]at W;refine F4 W s.heap.objs.size ?hf (λi v k e1 e2=>hi i v k e1 e2) hb all.length 0 _ (by omega) (eE _) ⟨⟨_,dE _ rfl,rfl,rfl⟩,(hl1.push _)⟩ ?h0 ?hR;case hf=>rw[fj];simp only[df,dC,eX,fH];exact⟨dH (fC _),gL lS⟩
    case h0=>exact io ((jg (knd:=knd) WR).setOf (cZ _ hS) (by unfold scanBound;omega)) (λ_=>rfl) rfl
    case hR=>intro s' hm YD;obtain⟨h',g',d',tk',Zf⟩:=s';have eg:g'=s.gens:=hm.gens;have ed:d'=s.drawn:=hm.drawn;have eo:Zf=s.os:=hm.os;subst eg;subst ed;subst eo;refine de ?_;show wpAny _ _ (ret Value.none) _ _ _;refine de ⟨rfl,h',tk',rfl,YD,λb o e=>?_⟩;have hb:=dz e;refine hm.heap b o ?_ (cZ _ (cZ _ e));rw[fj];simp only[df,dC,eX,fH];exact⟨dH hb,dH (g9 hb)⟩
   .cases r₂ with
    | error e=>exact Zp
    | ok fl₂=>
     cases fl₂ with
     | ret r=>
      obtain⟨rfl,h',tk,rfl,YD,Zl⟩:=Zp
      repeat (any_goals(first|assumption|wp_step))
      exact h _ _ YD Zl
     | _=>exact Zp.elim
  | _=>exact hr.elim
end
end L2
namespace HT
open PySem PyProof.Rows
variable {prog:Pg}{w:Wo}{A:Ar}{E:QQX}{s:Sd}
def zm{t sl:Addr}{Wq:Array Vl}{vl vu:Vl}{lo hi:Option Int}{Q:QQX}(ht:IsTup s.heap t Wq)(hs:s.heap.IsSliceOf sl vl vu .none)(pl:IsPart vl lo)(pu:IsPart vu hi) (hw:sT Wq.size 0 lo=0/\sT Wq.size Wq.size hi=Wq.size) (h:Q (.ref t) s):wpAny (model prog w) A (getItem (.ref t) (.ref sl)) Q E s:=by
 obtain⟨os,Zh,YU,Xq⟩:=id hs;have hTs:s.TypeIs (.ref sl) "slice":=⟨os,Zh,YU⟩;unfold getItem
 try with_reducible refine eD ?_
 first|refine cU (de ?_)|skip
 refine cU (jm ht.typeIs (by decide) ?_);refine cU (fJ (name:=Str.ofString "__getitem__") ht.typeIs fz (fZ fz ht.typeIs kD ?_ (kW _ _)));show wpAny _ _ (Builtin.Tuple.tupleItemsOf (.ref t)>>=_) _ _ s;refine cU (tupleItemsOf_ ht ?_);refine cU (jA hTs ?_);rw[c9 (by decide)];refine cU (wk hs pl pu ?_);have yes:(((sT Wq.size 0 lo:Nat):Int)==0&&(1:Int)==1&&(sT Wq.size Wq.size hi - sT Wq.size 0 lo)==Wq.size)=true:=by rw[hw.1,hw.2];simp
 show wpAny _ _ (if (((sT Wq.size 0 lo:Nat):Int)==0&&(1:Int)==1&&(sT Wq.size Wq.size hi - sT Wq.size 0 lo)==Wq.size)=true then _ else _) _ _ s;rw[c9 yes];have hT:=ht.typeIs;obtain⟨hp,g,d,tk,o⟩:=s
 repeat (any_goals(first|assumption|wp_step))
 exact⟨_,rfl,de h⟩
end HT
namespace L2
variable {X:Cx}{p p2 pos Yc:Pos}{e:Expr}{te:TE}
section
def UW(K:ql):V->Option Int->Option Int->Hp->VK->Prop:=λx lo hi H Q=>∃a xs,x=.ref a/\uQ K H a xs/\(HT.sT xs.length 0 lo=0/\HT.sT xs.length xs.length hi=xs.length)/\Q (.ref a) H
def RL:TF X (UW X.K):=by
 intro Wp s σ H x v vl vu lo hi sl Q I rx hs pl pu h;obtain⟨a,xs,rfl,hx,hw,q⟩:=h;cases rx;obtain⟨its,r,ht,hz⟩:=I.tuple hx;have Wv:its.toArray.size=xs.length:=by rw[dv];exact r.length.symm
 exact⟨"tuple",_,fz.lookup,ht.typeIs,HT.zm ht hs pl pu (by rw[Wv];exact hw) ⟨.ref a,H,I,rfl,q⟩⟩
local instance (priority:=5000) keyBEq:BEq rf:=instBEqOfDecidableEq
local instance (priority:=5000) keyLaw:LawfulBEq rf:=inferInstanceAs (LawfulBEq (Sum Int Str))
def OK(K:ql)(te:TE):TE:=λσ H Q=>te σ H λx H1=>∃a,∃ss:QQQ,x=.ref a/\(yS K H1 a (ss.map V.str)\/uQ K H1 a (ss.map V.str))/\ss.length+1<scanBound/\Q (.int (sL ss).length) H1
def F1{P:Pg}{w:Wo}{ss:QQQ}{us:List Vl}(r:qA (ss.map V.str) us):us.length=ss.length/\∀(i:Nat) (v:Vl) (k:rf),us[i]?=some v->(ss.map λx=>(Sum.inr x:rf))[i]?=some k->(rB P w).is k v=true/\v.scannable=true:=by
 refine⟨by rw[<-r.length,cT],λi v k e1 e2=>?_⟩;rw[dA]at e2;cases q:ss[i]? with
 | none=>rw[q]at e2;cases e2
 | some x=>rw[q]at e2;cases e2;obtain⟨u,e3,t,rfl⟩:=r.get (i:=i) (x:=V.str x) (by rw[dA,q];rfl);rw[e3]at e1;cases e1;exact⟨Ai P w x t,rfl⟩
def LF{ss:QQQ}:(sL (ss.map λx=>(Sum.inr x:rf))).length=(sL ss).length:=by
 have go:∀(l acc:QQQ),(l.map λx=>(Sum.inr x:rf)).foldl (λacc k=>if k∈acc then acc else acc++[k]) (acc.map Sum.inr)=(l.foldl (λacc k=>if k∈acc then acc else acc++[k]) acc).map Sum.inr:=by
  intro l;induction l with
  | nil=>intro acc;rfl
  | cons k r ih=>
   intro acc;rw[dS,fS,fS];have hm:(Sum.inr k:rf)∈acc.map Sum.inr↔k∈acc:=by
    rw[dB];constructor
    .rintro ⟨y,h1,h2⟩;cases h2;exact h1
    .exact λh=>⟨k,h,rfl⟩
   by_cases h:k∈acc
   .rw[c9 h,c9 (hm.mpr h)];exact ih acc
   .rw[cY h,cY λz=>h (hm.mp z)];have:=ih (acc++[k]);rw[dF]at this;exact this
 have:=go ss [];unfold sL;rw[iL]at this;rw[this,cT]
def JM(hc:X.calm=true)(he:PE X e te)(hg1:Gl X "len")(Wr:X.mg "len"=none)(hg2:Gl X "set")(WI:X.mg "set"=none)(b1:bootBuiltins "len"=some (.builtin "len"))(b2:bootBuiltins "set"=some (.type "set")) (hs:starEach [e] X.env=[(false,eval e X.env)]:=by rfl):PE X (.Call (.Name "len" p) [.Call (.Name "set" p2) [e] [] Yc] [] pos) (OK X.K te):=by
 intro Wp s σ H Q I h;refine gb (xE I hg1 Wr b1 ?_);refine iJ ?_ rfl rfl;show wpAny _ _ (spliced ((false,eval (.Call (.Name "set" p2) [e] [] Yc) X.env)::backTo pos (starEach [] X.env))) _ _ s;refine je ?_;refine gb (xE I hg2 WI b2 ?_);refine fR ?_ hs rfl;rw[hs];show wpAny _ _ (spliced ((false,eval e X.env)::backTo Yc (starEach [] X.env))) _ _ s;refine je (sr (he Wp s σ H _ I h) λu s1 ⟨x,H1,I1,r1,a,ss,ex,hq,hb,q⟩=>jl ?_);subst ex;obtain rfl:u=Value.ref a:=r1;have Xi:(ss.map λx=>(Sum.inr x:rf)).length+1<scanBound:=by rw[cT];exact hb
 have Wt:∀(h':Heap) (tk:Nat),h'.SetOf (rB X.prog X.w) s1.heap.objs.size (λx=>decide (x∈sL (ss.map λx=>(Sum.inr x:rf)))) (sL (ss.map λx=>(Sum.inr x:rf))).length->(∀b o,s1.heap.get? b=some o->h'.get? b=some o)->
   wpAny (model X.prog X.w) X.A (spliced (backTo pos (starEach [] X.env))) (λvs s₁=>wpAny (model X.prog X.w) X.A (call (.builtin "len") (.ref s1.heap.objs.size::vs)) (EP X Wp σ Q) X.xe s₁) X.xe {s1 with heap:=h',toks:=tk}:=λh' tk hS keep=>by
  refine jl ?_;obtain⟨o,es,ep,t,ho,hex,hd,_,_,hz,hf,hn⟩:=hS;have WA:(es.size:Int)<2 ^ 63:=by have:scanBound=4096:=rfl;omega
  refine call_len_set ho hex hd hf WA ?_;refine⟨.int es.size,H1,I1.kept keep,⟨_,rfl⟩,?_⟩;rw[hn,LF];exact q
 rcases hq with hq|hq
 .obtain⟨its,r,pl,hz⟩:=I1.list hq;obtain⟨k1,k2⟩:=F1 (P:=X.prog) (w:=X.w) r;exact L2.CP (knd:=rB X.prog X.w) (all:=ss.map λx=>(Sum.inr x:rf)) (I1.ok.hd hc) pl.isList (by rw[dv,k1,cT]) (λi v k e1 e2=>k2 i v k (by simpa using e1) e2) Xi Wt
 .obtain⟨its,r,pl,hz⟩:=I1.tuple hq;obtain⟨k1,k2⟩:=F1 (P:=X.prog) (w:=X.w) r;exact L2.Bv (knd:=rB X.prog X.w) (all:=ss.map λx=>(Sum.inr x:rf)) (I1.ok.hd hc) pl (by rw[dv,k1,cT]) (λi v k e1 e2=>k2 i v k (by simpa using e1) e2) Xi Wt
end
variable {Wp:List (Addr × Obj)}{σ:St}{H:Hp}{s:Sd}
theorem Dz(I:Inv X Wp σ H s):∀(ts:QXQ) (kvs:List (rf×V)),ts.length=kvs.length->(∀(j:Nat) (t:Addr) (p:rf×V),ts[j]?=some t->kvs[j]?=some p->uQ X.K H t [kV p.1,p.2])->
  ∃(us:List Vl) (all:List (rf×Vl)),us.length=kvs.length/\KV kvs all/\∀(j:Nat) (t:Addr) (p:rf×Vl),ts[j]?=some t->all[j]?=some p->∃u,us[j]?=some u/\s.heap.IsTuple t #[u,p.2]/\(rB X.prog X.w).is p.1 u=true
 | [],[],_,_=>⟨[],[],rfl,.nil,λj t p e=>by simp at e⟩
 | [],_::_,h,_=>by simp at h
 | _::_,[],h,_=>by simp at h
 | t::ts,(k,v)::kvs,h,hq=>by
  obtain⟨us,all,h1,h2,h3⟩:=Dz I ts kvs (by simpa using h) (λj t p e1 e2=>hq (j+1) t p (by simpa using e1) (by simpa using e2));obtain⟨its,r,pl,_⟩:=I.tuple (hq 0 t (k,v) (by simp) (by simp));cases r with
  | cons r1 r2=>
   cases r2 with
   | cons r3 r4=>
    cases r4;rename_i u w;refine⟨u::us,(k,w)::all,by simpa using h1,.cons ⟨rfl,r3⟩ h2,λj t' p e1 e2=>?_⟩;cases j with
    | zero=>
     have e1':t=t':=by simpa using e1
     have Yy:(k,w)=p:=by simpa using e2
     subst e1' Yy;exact⟨u,by simp,pl,GA r1⟩
    | succ j=>simpa using h3 j t' p (by simpa using e1) (by simpa using e2)
theorem KF:∀{kvs:List (rf×V)} {all:List (rf×Vl)},KV kvs all->all.map (·.1)=kvs.map (·.1)
 | _,_,.nil=>rfl
 | _,_,.cons r rs=>by rw[dS,dS,KF rs,r.1]
def GW(hc:X.calm=true):zF X (.type "dict") (λxs H Q=>∃l,∃ts:QXQ,∃kvs:List (rf×V),xs=[V.ref l]/\yS X.K H l (ts.map V.ref)/\ts.length=kvs.length/\
  (∀(j:Nat) (t:Addr) (p:rf×V),ts[j]?=some t->kvs[j]?=some p->uQ X.K H t [kV p.1,p.2])/\(kvs.map (·.1)).Nodup/\∀d,H d=none->Q (.ref d) (upd H d (.dK kvs))):=by
 intro Wp s σ H xs us Q I r h;obtain⟨l,ts,kvs,rfl,hl,Wv,hq,hnd,q⟩:=h;obtain⟨u,rfl,ru⟩:=xN r;cases ru;obtain⟨its,rv,⟨⟨c1,d1,t1,sl1⟩,n,g1,e1,e2,e3⟩,hz⟩:=I.list hl;simp only at e1 e2 e3;subst e1 e2 e3;obtain⟨ks,all,h1,h2,h3⟩:=Dz I ts kvs Wv hq;have la:all.length=kvs.length:=(jj h2).symm;have li:its.length=kvs.length:=by rw[<-rv.length,cT,Wv]
 have zl:all.length<=sizeLine:=by rw[la,<-Wv];simpa using hz
 have at_:∀(j:Nat) (p:rf×Vl),all[j]?=some p->∃t,ts[j]?=some t:=λj p e=>by have:=(cX.mp e).1;exact⟨ts[j],cW (by omega)⟩
 refine AS (knd:=rB X.prog X.w) (all:=all) (λj=>(ks[j]?).getD .none) (λj=>(ts[j]?).getD 0) (I.ok.hd hc) g1 (λj v e=>?_) (by rw[dv,li,la]) (λj p e=>?_) (λj p e=>?_) zl λh' tk hD keep=>?_
 .have e':its[j]?=some v:=by simpa using e
  have hj:=(cX.mp e').1;have hj2:j<ts.length:=by omega
  obtain⟨w,e4,e5⟩:=rv.get (i:=j) (x:=V.ref ts[j]) (by rw[dA,cW hj2];rfl);rw[e']at e4;cases e4;show v=Value.ref ((ts[j]?).getD 0);rw[cW hj2];exact e5
 .obtain⟨t,et⟩:=at_ j p e;obtain⟨u,e4,e5,_⟩:=h3 j t p et e;show s.heap.IsTuple ((ts[j]?).getD 0) #[(ks[j]?).getD .none,p.2];rw[et,e4];exact e5
 .obtain⟨t,et⟩:=at_ j p e;obtain⟨u,e4,_,e6⟩:=h3 j t p et e;show(rB X.prog X.w).is p.1 ((ks[j]?).getD .none)=true;rw[e4];exact e6
 .rw[merged_nil_of_nodup all (by rw[KF h2];exact hnd)]at hD;have fr:=I.mR.fresh (dg s.heap.objs.size);exact⟨.ref s.heap.objs.size,_,I.laid (t':=tk) (o:=.dK kvs) keep (dg _) (MV (by rw[<-la];exact zl) (gp.mpr (dJ (dH I.big))) h2 hD),rfl,q _ fr⟩
def UO:R2:=λx y H Q=>∃a v,x=.ref a/\Ep H a y (some v)/\Q v H
def Pl(hu:X.A.units+1<cLine):SB X UO:=by
 intro value WC Wp s σ H x y o i Q I rx ry h hs;obtain⟨a,v,rfl,g,q⟩:=h;obtain rfl:o=Value.ref a:=rx;have hT:=Gg I g;have h2:wpAny (model X.prog X.w) X.A (getItem (.ref a) i) (EP X Wp σ Q) X.xe s:=Jp hu I g ry λw' s3 I3 Yw=>⟨v,H,I3,Yw,q⟩;unfold subscriptTail;refine cU ?_;rw[j9 hT.not_modules];refine cU (iM hT jr.lookup ?_);have Wt:wpAny (model X.prog X.w) X.A (subscripted WC false (.ref a) i) (λr s₃=>wpAny (model X.prog X.w) X.A (letTemporaryGo value (.ref a) r>>=λ_=>pure r) (EP X Wp σ Q) X.xe s₃) X.xe s:=by rw[hs];exact wpAny_operating (d9 h2 (λr s₃ h₃=>cU (kt (de h₃))) λ_ _ x=>x)
 first
  | exact de (cU Wt)
  | exact cU (de (cU Wt))
  | exact cU Wt
def Rq(hu:X.A.units+1<cLine):xO X (compareOp .In) (λx y H Q=>∃a o,y=.ref a/\Ep H a x o/\Q (.bl o.isSome) H):=by intro Wp s σ H x y v u Q I rx ry h;obtain⟨a,o,rfl,g,q⟩:=h;obtain rfl:u=Value.ref a:=ry;exact UR hu I g rx λs3 I3=>⟨.bl o.isSome,H,I3,rfl,q⟩
variable {prog:Pg}{w:Wo}{A:Ar}{E:QQX}{a:Addr}{δ:Type}{k:Str}{tk:Tok}
section
variable {R:δ→Vl→Prop}{D:List (Str × δ)}
def yu(T:KTD.TabOf R s.heap a D):s.TypeIs (.ref a) "dict":=let⟨_,o,_,_,ho,hc,_⟩:=T;⟨o,ho,hc.1⟩
def Ib{Q:Option Vl->Sd->Prop}(T:KTD.TabOf R s.heap a D)(h1:∀d v,KTD.datumAt k D=some d->R d v->Q (some v) {s with toks:=s.toks+1})(h2:KTD.datumAt k D=none->Q none {s with toks:=s.toks+1}):
  wpAny (model prog w) A (dictGet a (.str k tk)) Q E s:=by
 obtain⟨_,o,es,ep,ho,hc,hd,hr⟩:=T;have hq:Q (findBy (λk v=>v.isStr k) es k) {s with toks:=s.toks+1}:=by
  have hf:findBy (λk v=>v.isStr k) es k=(es.toList.find? λe=>e.key.isStr k).map (·.val):=by obtain⟨l⟩:=es;simp[findBy]
  rw[hf];cases hat:KTD.datumAt k D with
  | none=>rw[hr.find_none hat];exact h2 hat
  | some d=>obtain⟨v,hv,hfl⟩:=hr.find_some hat;rw[hv];exact h1 d v hat hfl
 have W6:(es.all λe=>isExactStrKey e.key)=true:=by
  obtain⟨l⟩:=es
  simpa using hr.exact
 unfold dictGet
 try with_reducible refine eD ?_
 refine cU (lN (cU (KTD.kt_dictFind_strs (s:={s with toks:=s.toks+1}) ho hd W6 ?_)));rw[findBy_of_findIdx?]at hq;cases hi:es.findIdx? λe=>e.key.isStr k with
 | none=>rw[hi]at hq;exact de hq
 | some i=>rw[hi]at hq;exact cU (wpAny_dictEntries (s:={s with toks:=s.toks+1}) ho hd (de hq))
def Si{Q:QQX}(T:KTD.TabOf R s.heap a D)(h:Q (.bool (KTD.datumAt k D).isSome) {s with toks:=s.toks+1}):wpAny (model prog w) A (compareOp .In (.str k tk) (.ref a)) Q E s:=by
 have hT:=yu T;show wpAny _ _ (do return .bool (<-contains (.ref a) (.str k tk))) Q E s;refine cU ?_;unfold contains
 try with_reducible refine eD ?_
 refine cU (iM hT jh.lookup ?_);show wpAny _ _ (if (some (Value.builtin "dict.__contains__")==some Value.none)=true then _ else _) _ E s;rw[cY (by rw[beq_builtin_none];exact dw)];refine cU (wpAny_callSpecialUnlessNone?_slot (name:=Str.ofString "__contains__") hT jh (fZ jh hT entry_dict_contains ?_ (args_dict_contains _ _)));show wpAny _ _ (dictGet a (.str k tk)>>=_) _ _ s;refine cU (Ib T (λd v ha _=>?_) λhn=>?_)
 .rw[ha]at h;show wpAny _ _ (ret (.bool true)) _ _ _;exact de ⟨_,rfl,fh (de h)⟩
 .rw[hn]at h;show wpAny _ _ (Builtin.Dict.pendingKey? a (.str k tk)>>=_) _ _ _;exact cU (wpAny_pendingKey_other T.1 (de ⟨_,rfl,fh (de h)⟩))
def Km{Q:QQX}{d:δ}(T:KTD.TabOf R s.heap a D)(hd:KTD.datumAt k D=some d)(h:∀v,R d v->Q v {s with toks:=s.toks+1}):wpAny (model prog w) A (getItem (.ref a) (.str k tk)) Q E s:=by
 have hT:=yu T;unfold getItem
 try with_reducible refine eD ?_
 refine cU (jm hT (by decide) ?_);refine cU (fJ (name:=Str.ofString "__getitem__") hT lF (fZ lF hT entry_dict_getitem ?_ (args_dict_getitem _ _)));show wpAny _ _ (dictGet a (.str k tk)>>=_) _ _ s;refine cU (Ib T (λd' v ha hv=>de ⟨v,rfl,de (h v ?_)⟩) λhn=>?_)
 .rw[hd]at ha;cases ha;exact hv
 .rw[hd]at hn;cases hn
end
def Lg(K:ql)(mg:QQZ)(x:Str)(F:List (Str×QQQ)):Prop:=∃a o es ep,mg x=some (.ref a)/\(a==sysModules)=false/\K.lookup a=some o/\o.ExactDict/\o.data=.dict es ep/\
 KTD.Rows (λ(ss:QQQ) v=>∃t,v=Value.ref t/\uQ K (λ_=>none) t (ss.map V.str)) es.toList F
variable {x:Str}{F:List (Str × QQQ)}
def Iy{K:ql}{t:Addr}{xs:List V}{H:Hp}(h:uQ K (λ_=>none) t xs):uQ K H t xs:=by
 rcases h with(h|⟨o,h⟩)|h
 .cases h
 .cases h
 .exact .inr h
def Fz{K:ql}{mg:QQZ}(T:Lg K mg x F):∃a,mg x=some (.ref a)/\∀h:Heap,K.In h->KTD.TabOf (λ(ss:QQQ) v=>∃t,v=Value.ref t/\uQ K (λ_=>none) t (ss.map V.str)) h a F:=by obtain⟨a,o,es,ep,h1,h2,h3,h4,h5,h6⟩:=T;exact⟨a,h1,λh hk=>⟨h2,o,es,ep,hk a o h3,h4,h5,h6⟩⟩
def Ve(x:Str):It:=⟨λi _=>i<x.cps.size,λi H v H'=>H'=H/\∃c,x.cps[i]?=some c/\v=.str ⟨#[c]⟩,λi _=>i=x.cps.size⟩
def GE{P:Pg}{w:Wo}{K:ql}{tg:Expr}{ty:String}{x:Str}{t:Tok}(it:Addr)(W:∀A':Ar,A'.handled=none->Walks P w A' it [it] [it] x.cps.size (SignAt x) (λi h=>h.IsStrIter it ty x t i)) (hself:∀(A:Ar) (i:Nat) (s:Sd) (Q:QQX) (E:QQX),s.heap.IsStrIter it ty x t i->Q (.ref it) s->wpAny (model P w) A (pyIter (.ref it)) Q E s) (hn:["enumerate","zip","dict_itemiterator","dict_reverseitemiterator","odict_iterator","itertools.zip_longest","itertools.pairwise"].contains ty=false):FD P w K tg (Ve x) [it] it (λi h=>h.IsStrIter it ty x t i) where
 mem:=by simp
 obj:=λi h st b hb=>by
  obtain rfl:b=it:=by simpa using hb
  obtain⟨o,e,c,d⟩:=st;exact⟨o,e,λv z=>by rw[d]at z;cases z⟩
 keep:=λi h h' st k=>by obtain⟨o,e,r⟩:=st;exact⟨o,k it (by simp) o e,r⟩
 item:=by intro X hP hw hK hc i Wp s σ H E I hf st hg;subst hP hw hK;obtain⟨f0,f1,f2,f3,f4,f5⟩:=hf it (by simp);refine(W X.A (I.ok.hd hc)).item i s _ _ hg st λv h' tk hv XG kp=>?_;obtain⟨c,u,e1,e2⟩:=hv;have I1:Inv X Wp σ H {s with heap:=h',toks:=tk}:=I.turned (t':=tk) (λb o hb e=>kp b o (by simpa using hb) e) f0 f1 f3 f4 f5;obtain⟨o,e,cl,d⟩:=id XG;exact⟨v,rfl,Iw (s:={s with heap:=h',toks:=tk}) e cl d hn ⟨.str ⟨#[c]⟩,H,I1,⟨u,e2⟩,⟨rfl,c,e1,rfl⟩,XG,λb hb=>(hf b hb).1⟩⟩
 done:=by intro X hP hw hK hc i Wp s σ H E I hf st hg;subst hP hw hK;obtain⟨f0,f1,f2,f3,f4,f5⟩:=hf it (by simp);obtain rfl:i=x.cps.size:=hg;exact(W X.A (I.ok.hd hc)).done s _ _ st λh' tk kp=>⟨rfl,I.turned (t':=tk) (λb o hb e=>kp b o (by simpa using hb) e) f0 f1 f3 f4 f5⟩
 self:=hself
variable {tg:Expr}
def OT{l:Expr}{tl:TE}(hc:X.calm=true)(hl:PE X l tl):PI X tg l (λσ H R=>tl σ H λx H1=>(∃a,x=.ref a/\(((∃xs,yS X.K H1 a xs)/\R (UD X.K a) H1)\/((∃xs,uQ X.K H1 a xs)/\R (VH X.K a) H1)))\/∃z,x=.str z/\R (Ve z) H1):=by
 intro Wp s σ H R I h;refine sr (hl Wp s σ H _ I h) λv s1 zz=>x5 zz λx H1 I1 r1 q1=>?_;rcases q1 with⟨a,e,q1⟩|⟨z,e,q⟩
 .subst e;cases r1;rcases q1 with⟨⟨xs,hq⟩,q⟩|⟨⟨xs,hq⟩,q⟩
  .obtain⟨its,rv,p,hz⟩:=I1.list hq;refine gF p.isList ?_;refine⟨s1.heap.objs.size,[s1.heap.objs.size],_,_,H1,rfl,I1.kept (t':=s1.toks) λb o e=>cZ _ e,Jd a _,⟨_,dE _ rfl,rfl,rfl⟩,λb hb=>?_,q⟩;obtain rfl:b=s1.heap.objs.size:=by simpa using hb
   exact I1.nV (dg _) (I1.mR.fresh (dg _))
  .obtain⟨its,rv,p,hz⟩:=I1.tuple hq;refine iq (show s1.heap.IsTuple a its.toArray from p) ?_;refine⟨s1.heap.objs.size,[s1.heap.objs.size],_,_,H1,rfl,I1.kept (t':=s1.toks) λb o e=>cZ _ e,GY a _,⟨_,dE _ rfl,rfl,rfl⟩,λb hb=>?_,q⟩;obtain rfl:b=s1.heap.objs.size:=by simpa using hb
   exact I1.nV (dg _) (I1.mR.fresh (dg _))
 .subst e;obtain⟨t,rfl⟩:=r1;have fp:∀b∈[s1.heap.objs.size],AA X Wp H1 b:=λb hb=>by
   obtain rfl:b=s1.heap.objs.size:=by simpa using hb
   exact I1.nV (dg _) (I1.mR.fresh (dg _))
  cases ha:z.cps.all (·<128)
  .refine wpAny_pyIter_wide ha ?_;exact⟨s1.heap.objs.size,[s1.heap.objs.size],_,_,H1,rfl,I1.kept (t':=s1.toks) λb o e=>cZ _ e,GE _ (λA' hA=>Walks.strWide hA _ z t) (λA i s Q E st h=>wpAny_pyIter_striter_wide st h) (by decide),⟨_,dE _ rfl,rfl,rfl⟩,fp,q⟩
  .refine wpAny_pyIter_ascii ha ?_;exact⟨s1.heap.objs.size,[s1.heap.objs.size],_,_,H1,rfl,I1.kept (t':=s1.toks) λb o e=>cZ _ e,GE _ (λA' hA=>Walks.strAscii hA _ z t) (λA i s Q E st h=>wpAny_pyIter_striter_ascii st h) (by decide),⟨_,dE _ rfl,rfl,rfl⟩,fp,q⟩
end L2
namespace L2
inductive B1{α0:Sort u}{α1:Sort v}(p:α0->α1->Prop):Prop
 | mk (a0:α0) (a1:α1) (h:p a0 a1):B1 p
inductive Df{α0:Sort u}{α1:Sort v}{α2:Sort w}(p:α0->α1->α2->Prop):Prop
 | mk (a0:α0) (a1:α1) (a2:α2) (h:p a0 a1 a2):Df p
def x7{α:Sort u}{β:Sort v}{γ:Sort w}{p q r s:α->β->γ->Prop}{C:Prop}(h:Df λa b c=>p a b c/\q a b c/\r a b c/\s a b c)(f:∀a b c,p a b c->q a b c->r a b c->s a b c->C):C:=by obtain⟨a,b,c,h1,h2,h3,h4⟩:=h;exact f a b c h1 h2 h3 h4
def Kj{α:Sort u}{β:Sort v}{γ:Sort w}{p q r s s1 s2 s3:α->β->γ->Prop}{C:Prop}(h:Df λa b c=>p a b c/\q a b c/\r a b c/\s a b c/\s1 a b c/\s2 a b c/\s3 a b c)(f:∀a b c,p a b c->q a b c->r a b c->s a b c->s1 a b c->s2 a b c->s3 a b c->C):C:=by obtain⟨a,b,c,h1,h2,h3,h4,h5,h6,h7⟩:=h;exact f a b c h1 h2 h3 h4 h5 h6 h7
inductive BK{α0:Sort u}{α1:Sort v}{α2:Sort w}{α3:Sort u1}(p:α0->α1->α2->α3->Prop):Prop
 | mk (a0:α0) (a1:α1) (a2:α2) (a3:α3) (h:p a0 a1 a2 a3):BK p
inductive GG{α0:Sort u}{α1:Sort v}{α2:Sort w}{α3:Sort u1}{α4:Sort u2}(p:α0->α1->α2->α3->α4->Prop):Prop
 | mk (a0:α0) (a1:α1) (a2:α2) (a3:α3) (a4:α4) (h:p a0 a1 a2 a3 a4):GG p
inductive Ji{α0:Sort u}{α1:Sort v}{α2:Sort w}{α3:Sort u1}{α4:Sort u2}{α5:Sort u3}(p:α0->α1->α2->α3->α4->α5->Prop):Prop
 | mk (a0:α0) (a1:α1) (a2:α2) (a3:α3) (a4:α4) (a5:α5) (h:p a0 a1 a2 a3 a4 a5):Ji p
inductive Sl{α0:Sort u}{α1:Sort v}{α2:Sort w}{α3:Sort u1}{α4:Sort u2}{α5:Sort u3}{α6:Sort u4}(p:α0->α1->α2->α3->α4->α5->α6->Prop):Prop
 | mk (a0:α0) (a1:α1) (a2:α2) (a3:α3) (a4:α4) (a5:α5) (a6:α6) (h:p a0 a1 a2 a3 a4 a5 a6):Sl p
inductive P'{α0:Sort u}{α1:Sort v}{α2:Sort w}{α3:Sort u1}{α4:Sort u2}{α5:Sort u3}{α6:Sort u4}{α7:Sort u5}(p:α0->α1->α2->α3->α4->α5->α6->α7->Prop):Prop
 | mk (a0:α0) (a1:α1) (a2:α2) (a3:α3) (a4:α4) (a5:α5) (a6:α6) (a7:α7) (h:p a0 a1 a2 a3 a4 a5 a6 a7):P' p
inductive Te{α0:Sort u}{α1:Sort v}{α2:Sort w}{α3:Sort u1}{α4:Sort u2}{α5:Sort u3}{α6:Sort u4}{α7:Sort u5}{α8:Sort u6}(p:α0->α1->α2->α3->α4->α5->α6->α7->α8->Prop):Prop
 | mk (a0:α0) (a1:α1) (a2:α2) (a3:α3) (a4:α4) (a5:α5) (a6:α6) (a7:α7) (a8:α8) (h:p a0 a1 a2 a3 a4 a5 a6 a7 a8):Te p
inductive Li{α0:Sort u}{α1:Sort v}{α2:Sort w}{α3:Sort u1}{α4:Sort u2}{α5:Sort u3}{α6:Sort u4}{α7:Sort u5}{α8:Sort u6}{α9:Sort u7}(p:α0->α1->α2->α3->α4->α5->α6->α7->α8->α9->Prop):Prop
 | mk (a0:α0) (a1:α1) (a2:α2) (a3:α3) (a4:α4) (a5:α5) (a6:α6) (a7:α7) (a8:α8) (a9:α9) (h:p a0 a1 a2 a3 a4 a5 a6 a7 a8 a9):Li p
inductive Vt{α0:Sort u}{α1:Sort v}{α2:Sort w}{α3:Sort u1}{α4:Sort u2}{α5:Sort u3}{α6:Sort u4}{α7:Sort u5}{α8:Sort u6}{α9:Sort u7}{α10:Sort u8}(p:α0->α1->α2->α3->α4->α5->α6->α7->α8->α9->α10->Prop):Prop
 | mk (a0:α0) (a1:α1) (a2:α2) (a3:α3) (a4:α4) (a5:α5) (a6:α6) (a7:α7) (a8:α8) (a9:α9) (o9:α10) (h:p a0 a1 a2 a3 a4 a5 a6 a7 a8 a9 o9):Vt p
inductive U5{α0:Sort u}{α1:Sort v}{α2:Sort w}{α3:Sort u1}{α4:Sort u2}{α5:Sort u3}{α6:Sort u4}{α7:Sort u5}{α8:Sort u6}{α9:Sort u7}{α10:Sort u8}{α11:Sort u9}(p:α0->α1->α2->α3->α4->α5->α6->α7->α8->α9->α10->α11->Prop):Prop
 | mk (a0:α0) (a1:α1) (a2:α2) (a3:α3) (a4:α4) (a5:α5) (a6:α6) (a7:α7) (a8:α8) (a9:α9) (o9:α10) (a11:α11) (h:p a0 a1 a2 a3 a4 a5 a6 a7 a8 a9 o9 a11):U5 p
end L2
namespace L2
open PySem
def Ut(a C:Addr)(h:Heap):Prop:=B1 λoe vs=>h.get? a=some oe/\oe.cls=.ref C/\oe.data=.fields vs/\oe.dict=none
end L2
namespace L3
open L2
inductive D where
 | mM|bl (b:Bool)|int (i:Int)|str (x:Str)|tup (ds:List D)|ref (a:Addr)|ty (n:String)
 | rl (ds:List D)
def OX(K:ql)(H:Hp)(a:Addr)(xs:List V):Prop:=(∃o,H a=some (.frz o (.lst xs)))\/
 ∃(o:Obj) (its:Array Vl) (n:Nat),K.lookup a=some o/\o.cls=.type "list"/\o.dict=none/\o.data=.seq its n/\its.size<=sizeLine/\qA xs its.toList
def OX.sq{K:ql}{H:Hp}{a:Addr}{xs:List V}(h:OX K H a xs):yS K H a xs:=by
 rcases h with⟨o,h⟩|h
 .exact .inl (.inr ⟨o,h⟩)
 .exact .inr h
mutual
def rH(K:ql)(H:Hp):D->V->Prop
 | .mM,v=>v=.mM
 | .bl b,v=>v=.bl b
 | .int i,v=>v=.int i
 | .str x,v=>v=.str x
 | .ref a,v=>v=.ref a
 | .ty n,v=>v=.ty n
 | .tup ds,v=>∃a xs,v=.ref a/\uQ K H a xs/\qd K H ds xs
 | .rl ds,v=>∃a xs,v=.ref a/\OX K H a xs/\qd K H ds xs
def qd(K:ql)(H:Hp):List D->List V->Prop
 | [],xs=>xs=[]
 | d::ds,xs=>∃x r,xs=x::r/\rH K H d x/\qd K H ds r
end
structure qO(K:ql)(H H':Hp):Prop where
 t:∀a xs,uQ K H a xs->uQ K H' a xs
 f:∀a o xs,H a=some (.frz o (.lst xs))->H' a=some (.frz o (.lst xs))
def qO.refl{K:ql}{H:Hp}:qO K H H:=⟨λ_ _ h=>h,λ_ _ _ h=>h⟩
def qO.trans{K:ql}{H H1 H2:Hp}(a:qO K H H1)(b:qO K H1 H2):qO K H H2:=⟨λc xs h=>b.t c xs (a.t c xs h),λc o xs h=>b.f c o xs (a.f c o xs h)⟩
def qO.upd{K:ql}{H:Hp}{p:Addr}{o:HO}(h:∀xs,¬Rd H p (.tup xs))(h':∀u xs,H p≠some (.frz u (.lst xs))):qO K H (upd H p o):=⟨λa xs q=>by
 rcases q with q|q
 .have ne:a≠p:=λz=>h xs (z ▸ q);rcases q with q|⟨u,q⟩
  .exact .inl (.inl (by rw[pV ne];exact q))
  .exact .inl (.inr ⟨u,by rw[pV ne];exact q⟩)
 .exact .inr q,λa u xs q=>by
 have ne:a≠p:=λz=>h' u xs (z ▸ q);rw[pV ne];exact q⟩
def qO.new{K:ql}{H:Hp}{p:Addr}{o:HO}(h:H p=none):qO K H (L2.upd H p o):=.upd (λxs q=>by
 rcases q with q|⟨u,q⟩<;>(rw[h]at q;cases q)) λu xs q=>by rw[h]at q;cases q
def OX.mono{K:ql}{H H':Hp}{a:Addr}{xs:List V}(e:qO K H H')(h:OX K H a xs):OX K H' a xs:=by
 rcases h with⟨o,h⟩|h
 .exact .inl ⟨o,e.f a o xs h⟩
 .exact .inr h
mutual
theorem rH.mono{K:ql}{H H':Hp}(e:qO K H H'):∀{d:D} {v:V},rH K H d v->rH K H' d v
 | .mM,_,h=>h
 | .bl _,_,h=>h
 | .int _,_,h=>h
 | .str _,_,h=>h
 | .ref _,_,h=>h
 | .ty _,_,h=>h
 | .tup ds,v,h=>by unfold rH at h ⊢;obtain⟨a,xs,e1,e2,e3⟩:=h;exact⟨a,xs,e1,e.t _ _ e2,qd.mono e e3⟩
 | .rl ds,v,h=>by unfold rH at h ⊢;obtain⟨a,xs,e1,e2,e3⟩:=h;exact⟨a,xs,e1,e2.mono e,qd.mono e e3⟩
theorem qd.mono{K:ql}{H H':Hp}(e:qO K H H'):∀{ds:List D} {xs:List V},qd K H ds xs->qd K H' ds xs
 | [],_,h=>h
 | d::ds,xs,h=>by unfold qd at h ⊢;obtain⟨x,r,e1,e2,e3⟩:=h;exact⟨x,r,e1,rH.mono e e2,qd.mono e e3⟩
end
variable {K:ql}{H H':Hp}
def qd.nil:qd K H [] []:=by unfold qd;rfl
def qd.cons{d:D}{ds:List D}{x:V}{xs:List V}(a:rH K H d x)(b:qd K H ds xs):qd K H (d::ds) (x::xs):=by unfold qd;exact⟨x,xs,rfl,a,b⟩
def qd.inv{d:D}{ds:List D}{xs:List V}(h:qd K H (d::ds) xs):∃x r,xs=x::r/\rH K H d x/\qd K H ds r:=by unfold qd at h;exact h
def qd.nil_inv{xs:List V}(h:qd K H [] xs):xs=[]:=by unfold qd at h;exact h
theorem qd.length:∀{ds:List D} {xs:List V},qd K H ds xs->ds.length=xs.length
 | [],_,h=>by rw[h.nil_inv];rfl
 | d::ds,_,h=>by obtain⟨x,r,rfl,_,e⟩:=h.inv;simp[qd.length e]
theorem qd.get:∀{ds:List D} {xs:List V} {i:Nat} {d:D},qd K H ds xs->ds[i]?=some d->∃x,xs[i]?=some x/\rH K H d x
 | [],_,_,_,_,e=>by simp at e
 | d::ds,_,0,_,h,e=>by obtain⟨x,r,rfl,a,_⟩:=h.inv;simp at e;subst e;exact⟨x,by simp,a⟩
 | d::ds,_,i+1,_,h,e=>by obtain⟨x,r,rfl,_,b⟩:=h.inv;obtain⟨y,e1,e2⟩:=qd.get b (by simpa using e);exact⟨y,by simpa using e1,e2⟩
theorem qd.append:∀{ds es:List D} {xs ys:List V},qd K H ds xs->qd K H es ys->qd K H (ds++es) (xs++ys)
 | [],_,_,_,h,g=>by rw[h.nil_inv];exact g
 | d::ds,_,_,_,h,g=>by obtain⟨x,r,rfl,a,b⟩:=h.inv;exact .cons a (qd.append b g)
theorem qd.take:∀{ds:List D} {xs:List V} (n:Nat),qd K H ds xs->qd K H (ds.take n) (xs.take n)
 | _,_,0,_=>by simp only[mi];exact .nil
 | [],_,n+1,h=>by rw[h.nil_inv];exact .nil
 | d::ds,_,n+1,h=>by obtain⟨x,r,rfl,a,b⟩:=h.inv;exact .cons a (qd.take n b)
theorem qd.drop:∀{ds:List D} {xs:List V} (n:Nat),qd K H ds xs->qd K H (ds.drop n) (xs.drop n)
 | _,_,0,h=>h
 | [],_,n+1,h=>by rw[h.nil_inv];exact .nil
 | d::ds,_,n+1,h=>by obtain⟨x,r,rfl,a,b⟩:=h.inv;exact qd.drop n b
def qd.snoc{ds:List D}{xs:List V}{d:D}{x:V}(h:qd K H ds xs)(a:rH K H d x):qd K H (ds++[d]) (xs++[x]):=h.append (.cons a .nil)
theorem qd.ints:∀{ns:List Int},qd K H (ns.map D.int) (ns.map V.int)
 | []=>.nil
 | n::r=>.cons (by unfold rH;rfl) qd.ints
def rH.tup{ds:List D}{a:Addr}{xs:List V}(q:uQ K H a xs)(h:qd K H ds xs):rH K H (.tup ds) (.ref a):=by unfold rH;exact⟨a,xs,rfl,q,h⟩
def rH.mP{ds:List D}{v:V}(h:rH K H (.tup ds) v):∃a xs,v=.ref a/\uQ K H a xs/\qd K H ds xs:=by unfold rH at h;exact h
def rH.mZ{ds:List D}{v:V}(h:rH K H (.rl ds) v):∃a xs,v=.ref a/\OX K H a xs/\qd K H ds xs:=by unfold rH at h;exact h
def rH.int{i:Int}:rH K H (.int i) (.int i):=by unfold rH;rfl
def rH.bl{i:Bool}:rH K H (.bl i) (.bl i):=by unfold rH;rfl
def rH.str{i:Str}:rH K H (.str i) (.str i):=by unfold rH;rfl
def rH.ref{i:Addr}:rH K H (.ref i) (.ref i):=by unfold rH;rfl
def rH.mM:rH K H .mM .mM:=by unfold rH;rfl
def rH.int_inv{i:Int}{v:V}(h:rH K H (.int i) v):v=.int i:=by unfold rH at h;exact h
def rH.mL{i:Bool}{v:V}(h:rH K H (.bl i) v):v=.bl i:=by unfold rH at h;exact h
def rH.str_inv{i:Str}{v:V}(h:rH K H (.str i) v):v=.str i:=by unfold rH at h;exact h
def rH.mH{i:Addr}{v:V}(h:rH K H (.ref i) v):v=.ref i:=by unfold rH at h;exact h
def rH.nS{i:String}{v:V}(h:rH K H (.ty i) v):v=.ty i:=by unfold rH at h;exact h
def rH.mK{v:V}(h:rH K H .mM v):v=.mM:=by unfold rH at h;exact h
inductive uN where
 | lst (ds:List D)
 | ins (C:Addr) (fs:List (Str×D))
 | dk (kvs:List (rf×D))
 | exc (C:Addr)
abbrev Mp:=Addr->Option uN
def pD(M:Mp)(a:Addr)(c:uN):Mp:=λb=>if b=a then some c else M b
def pP{M:Mp}{a:Addr}{c:uN}:pD M a c a=some c:=by unfold pD;rw[c9 rfl]
def uq{M:Mp}{a b:Addr}{c:uN}(h:b≠a):pD M a c b=M b:=by unfold pD;rw[cY h]
def rE{M:Mp}{a:Addr}{c d:uN}:pD (pD M a c) a d=pD M a d:=by funext b;unfold pD;split<;>rfl
def OI{M:Mp}{a b:Addr}{c:uN}(h:M a=some c)(h':M b=none):a≠b:=by intro e;subst e;rw[h]at h';cases h'
def BW(K:ql)(H:Hp)(fs:List (Str×D))(vs:List (Str×V)):Prop:=vs.map (·.1)=fs.map (·.1)/\qd K H (fs.map (·.2)) (vs.map (·.2))
def xC(K:ql)(H:Hp)(a:Addr):uN->Prop
 | .lst ds=>∃xs,H a=some (.lst xs)/\qd K H ds xs
 | .ins C fs=>∃dx vs,H a=some (.ins C dx vs)/\Cls K C/\(∀f,f∈fs.map (·.1)->tX K C f)/\BW K H fs vs
 | .dk kvs=>∃vs,H a=some (.dK vs)/\vs.map (·.1)=kvs.map (·.1)/\qd K H (kvs.map (·.2)) (vs.map (·.2))
 | .exc C=>H a=some (.ext (Ut a C))
def HM(K:ql)(H:Hp)(M:Mp):Prop:=∀a c,M a=some c->xC K H a c
variable {M:Mp}
def BW.mono{fs:List (Str×D)}{vs:List (Str×V)}(e:qO K H H')(h:BW K H fs vs):BW K H' fs vs:=⟨h.1,h.2.mono e⟩
def xC.keep{a:Addr}{c:uN}(e:qO K H H')(k:H' a=H a)(h:xC K H a c):xC K H' a c:=by
 cases c with
 | lst ds=>obtain⟨xs,e1,e2⟩:=h;exact⟨xs,by rw[k];exact e1,e2.mono e⟩
 | ins C fs=>obtain⟨dx,vs,e1,c,n,e2⟩:=h;exact⟨dx,vs,by rw[k];exact e1,c,n,e2.mono e⟩
 | dk kvs=>obtain⟨vs,e1,e2,e3⟩:=h;exact⟨vs,by rw[k];exact e1,e2,e3.mono e⟩
 | exc C=>exact k.trans h
def xC.there{a:Addr}{c:uN}(h:xC K H a c):∃o,H a=some o/\(∀xs,¬Rd H a (.tup xs))/\∀u xs,H a≠some (.frz u (.lst xs)):=by
 have go:∀o,H a=some o->(∀xs,o≠.tup xs)->(∀u v,o≠.frz u v)->∃o,H a=some o/\(∀xs,¬Rd H a (.tup xs))/\∀u xs,H a≠some (.frz u (.lst xs)):=λo e n1 n2=>⟨o,e,λxs q=>by
  rcases q with q|⟨u,q⟩
  .rw[e]at q;exact n1 xs (dh q)
  .rw[e]at q;exact n2 u _ (dh q),λu xs q=>by rw[e]at q;exact n2 u _ (dh q)⟩
 cases c with
 | lst ds=>obtain⟨xs,e1,e2⟩:=h;exact go _ e1 (λ_ z=>by cases z) λ_ _ z=>by cases z
 | ins C fs=>obtain⟨dx,vs,e1,e2⟩:=h;exact go _ e1 (λ_ z=>by cases z) λ_ _ z=>by cases z
 | dk kvs=>obtain⟨vs,e1,e2,e3⟩:=h;exact go _ e1 (λ_ z=>by cases z) λ_ _ z=>by cases z
 | exc C=>exact go _ h (λ_ z=>by cases z) λ_ _ z=>by cases z
def HM.fresh(h:HM K H M){p:Addr}(n:H p=none):M p=none:=by
 cases e:M p with
 | none=>rfl
 | some c=>obtain⟨o,q,_⟩:=(h p c e).there;rw[n]at q;cases q
def HM.keep(h:HM K H M)(e:qO K H H')(k:∀a c,M a=some c->H' a=H a):HM K H' M:=λa c q=>(h a c q).keep e (k a c q)
def HM.add(h:HM K H M){p:Addr}{o:HO}(n:H p=none):HM K (upd H p o) M:=h.keep (.new n) λa c q=>by obtain⟨u,e,_⟩:=(h a c q).there;rw[pV (qN e n)]
def HM.new(h:HM K H M){p:Addr}{o:HO}{c:uN}(n:H p=none)(ok:xC K (upd H p o) p c):HM K (upd H p o) (pD M p c):=λa d q=>by
 by_cases e:a=p
 .subst e;rw[pP]at q;cases q;exact ok
 .rw[uq e]at q;exact h.add n a d q
def HM.put(h:HM K H M){p:Addr}{o:HO}{c c0:uN}(e0:M p=some c0)(ok:qO K H (upd H p o)->xC K (upd H p o) p c):HM K (upd H p o) (pD M p c)/\qO K H (upd H p o):=by
 obtain⟨u,eu,nt,nf⟩:=(h p c0 e0).there;have x:qO K H (upd H p o):=.upd nt nf;refine⟨λa d q=>?_,x⟩;by_cases e:a=p
 .subst e;rw[pP]at q;cases q;exact ok x
 .rw[uq e]at q;exact(h a d q).keep x (pV e)
abbrev St:=L2.St
abbrev uX:=List (Option D)
abbrev DK:=D->Mp->Prop
abbrev T3:=uX->Mp->DK->Prop
abbrev As:=uX->Mp->(Bool->Mp->Prop)->Prop
abbrev xi:=uX->Mp->(List D->Mp->Prop)->Prop
structure Gz where
 nx:uX->Mp->Prop
 rt:DK
 bk:uX->Mp->Prop:=λ_ _=>False
 ct:uX->Mp->Prop:=λ_ _=>False
abbrev xn:=Gz->uX->Mp->Prop
def yG(K:ql)(H:Hp)(σ:St)(δ:uX):Prop:=∀(i:Nat) (d:D),δ[i]?=some (some d)->∃v,σ[i]?=some (some v)/\rH K H d v
def yG.mono{K:ql}{H H':Hp}{σ:St}{δ:uX}(e:qO K H H')(h:yG K H σ δ):yG K H' σ δ:=λi d q=>by obtain⟨v,e1,e2⟩:=h i d q;exact⟨v,e1,e2.mono e⟩
def yG.set{K:ql}{H:Hp}{σ:St}{δ:uX}{i:Nat}{d:D}{v:V}(h:yG K H σ δ)(hv:rH K H d v)(hi:i<σ.length):yG K H (σ.set i (some v)) (δ.set i (some d)):=λj e q=>by
 by_cases hj:j=i
 .subst hj;rw[eK hi];by_cases hl:j<δ.length
  .rw[eK hl]at q;cases q;exact⟨v,rfl,hv⟩
  .rw[gz (by simpa using hl)]at q;cases q
 .rw[eR (dJ hj)]at q ⊢;exact h j e q
def lo(K:ql)(t:T3):TE:=λσ H Q'=>Df λδ M Q=>yG K H σ δ/\HM K H M/\t δ M Q/\∀v H' d M',rH K H' d v->HM K H' M'->qO K H H'->Q d M'->Q' v H'
def SA(K:ql)(t:As):TT:=λσ H Q'=>Df λδ M Q=>yG K H σ δ/\HM K H M/\t δ M Q/\∀b H' M',HM K H' M'->qO K H H'->Q b M'->Q' b H'
def VQ(K:ql)(t:xi):TA:=λσ H Q'=>Df λδ M Q=>yG K H σ δ/\HM K H M/\t δ M Q/\∀vs H' ds M',qd K H' ds vs->HM K H' M'->qO K H H'->Q ds M'->Q' vs H'
def Vx(K:ql)(t:xn):TS:=λD' σ H=>Df λδ M D=>yG K H σ δ/\HM K H M/\t D δ M/\(∀σ' H' δ' M',yG K H' σ' δ'->HM K H' M'->qO K H H'->σ'.length=σ.length->D.nx δ' M'->D'.nx σ' H')/\
 (∀v H' d M',rH K H' d v->HM K H' M'->qO K H H'->D.rt d M'->D'.rt v H')/\(∀σ' H' δ' M',yG K H' σ' δ'->HM K H' M'->qO K H H'->σ'.length=σ.length->D.bk δ' M'->D'.bk σ' H')/\
 (∀σ' H' δ' M',yG K H' σ' δ'->HM K H' M'->qO K H H'->σ'.length=σ.length->D.ct δ' M'->D'.ct σ' H')
def E3(X:Cx)(e:Expr)(t:T3):Prop:=PE X e (lo X.K t)
def B3(X:Cx)(e:Expr)(t:As):Prop:=PT X e (SA X.K t)
def A3(X:Cx)(es:List Expr)(t:xi):Prop:=PA X es (VQ X.K t)
def S3(X:Cx)(st:Stmt)(t:xn):Prop:=PS X st (Vx X.K t)
def GX(X:Cx)(st:List Stmt)(t:xn):Prop:=Cj X st (Vx X.K t)
def PE.mono{X:Cx}{e:Expr}{t t':TE}(h:PE X e t)(m:∀σ H Q,t' σ H Q->t σ H Q):PE X e t':=λWp s σ H Q I q=>h Wp s σ H Q I (m σ H Q q)
def PT.mono{X:Cx}{e:Expr}{t t':TT}(h:PT X e t)(m:∀σ H Q,t' σ H Q->t σ H Q):PT X e t':=λWp s σ H Q I q=>h Wp s σ H Q I (m σ H Q q)
def PA.mono{X:Cx}{e:List Expr}{t t':TA}(h:PA X e t)(m:∀σ H Q,t' σ H Q->t σ H Q):PA X e t':=λpos Wp s σ H Q I q=>h pos Wp s σ H Q I (m σ H Q q)
def PS.mono{X:Cx}{e:Stmt}{t t':TS}(h:PS X e t)(m:∀D σ H,t' D σ H->t D σ H):PS X e t':=λWp s σ H D I q=>h Wp s σ H D I (m D σ H q)
def Cj.mono{X:Cx}{e:List Stmt}{t t':TS}(h:Cj X e t)(m:∀D σ H,t' D σ H->t D σ H):Cj X e t':=λWp s σ H D I q=>h Wp s σ H D I (m D σ H q)
def PS.nO{X:Cx}{e:Stmt}{t t':TS}(h:PS X e t)(m:∀D σ H,σ.length=X.N.length->t' D σ H->t D σ H):PS X e t':=λWp s σ H D I q=>h Wp s σ H D I (m D σ H I.len q)
def vv{K:ql}{H H1:Hp}{Q':VK}{Q:DK}(x:qO K H H1)(f:∀v H' d M',rH K H' d v->HM K H' M'->qO K H H'->Q d M'->Q' v H'):∀v H' d M',rH K H' d v->HM K H' M'->qO K H1 H'->Q d M'->Q' v H':=
 λv H' d M' a b c e=>f v H' d M' a b (x.trans c) e
variable {X:Cx}{pos:Pos}
def v3(i:Nat):T3:=λδ M Q=>(δ.getD i none).elim False λd=>Q d M
def JK{δ:uX}{i:Nat}{P:D->Prop}(h:(δ.getD i none).elim False P):∃d,δ[i]?=some (some d)/\P d:=by
 cases e:δ[i]? with
 | none=>rw[gB,e]at h;exact h.elim
 | some o=>
  rw[gB,e]at h;cases o with
  | none=>exact h.elim
  | some d=>exact⟨d,rfl,h⟩
def QX(i:Nat){x:Str}(h:PE X (.Name x pos) (EZ i)):E3 X (.Name x pos) (v3 i):=PE.mono h λσ H Q' zz=>x7 zz λδ M Q hs hm ht k=>by obtain⟨d,e,q⟩:=JK ht;obtain⟨v,e1,e2⟩:=hs i d e;exact⟨v,e1,k v H d M e2 hm .refl q⟩
def c3(d:D):T3:=λ_ M Q=>Q d M
def pk{i j}:E3 X (.Constant (.int i) j pos) (c3 (.int i)):=PE.mono Sf λσ H Q' zz=>x7 zz λδ M Q hs hm ht k=>k _ H _ M .int hm .refl ht
def yl{i j}:E3 X (.Constant (.bool i) j pos) (c3 (.bl i)):=PE.mono S' λσ H Q' zz=>x7 zz λδ M Q hs hm ht k=>k _ H _ M .bl hm .refl ht
def pq{i j}:E3 X (.Constant (.str i) j pos) (c3 (.str i)):=PE.mono RJ λσ H Q' zz=>x7 zz λδ M Q hs hm ht k=>k _ H _ M .str hm .refl ht
def rL{j}:E3 X (.Constant .none j pos) (c3 .mM):=PE.mono RW λσ H Q' zz=>x7 zz λδ M Q hs hm ht k=>k _ H _ M .mM hm .refl ht
def Ta{x:Str}{n:String}(hg:Gl X x)(hm:X.mg x=none)(hv:bootBuiltins x=some (.type n))(hn:x≠"__name__":=by decide)(hd:yP x:=by decide):E3 X (.Name x pos) (c3 (.ty n)):=
 PE.mono (Pf (v:=.ty n) hg hm hv rfl hn hd) λσ H Q' zz=>x7 zz λδ M Q hs hm ht k=>k _ H _ M (by unfold rH;rfl) hm .refl ht
def oR(M:Mp)(a:Addr):Option (List D):=match M a with
 | some (.lst ds)=>some ds
 | _=>none
def yE(x:Str)(n:Int):Str:=⟨(List.replicate n.toNat x.cps).foldl (·++·) #[]⟩
def UG(op:Operator)(x y:D)(M:Mp)(Q:DK):Prop:=match op,x,y with
 | .Add,.int i,.int j=>Q (.int (i+j)) M
 | .Add,.str i,.str j=>i.length+j.length<=sizeLine/\Q (.str (i++j)) M
 | .Add,.tup i,.tup j=>i≠[]/\i.length+j.length<=sizeLine/\Q (.tup (i++j)) M
 | .Add,.ref a,.ref b=>(oR M a).elim False λi=>(oR M b).elim False λj=>i.length+j.length<=sizeLine/\∀p,M p=none->Q (.ref p) (pD M p (.lst (i++j)))
 | .Add,.rl i,.ref b=>(oR M b).elim False λj=>i.length+j.length<=sizeLine/\∀p,M p=none->Q (.ref p) (pD M p (.lst (i++j)))
 | .Sub,.int i,.int j=>Q (.int (i - j)) M
 | .Mult,.int i,.int j=>CT i j/\Q (.int (i*j)) M
 | .Mult,.str i,.int j=>(j<4096/\-4096<j/\i.length<4096)/\Q (.str (yE i j)) M
 | .FloorDiv,.int i,.int j=>Uw i j/\Q (.int (i / j)) M
 | .Mod,.int i,.int j=>0<j/\Q (.int (i % j)) M
 | _,_,_=>False
def o3(op:Operator)(ta tb:T3):T3:=λδ M Q=>ta δ M λx M1=>tb δ M1 λy M2=>UG op x y M2 Q
def Up(K:ql)(H:Hp)(Q':VK)(Q:DK):Prop:=∀v H' d M',rH K H' d v->HM K H' M'->qO K H H'->Q d M'->Q' v H'
variable {ta tb:T3}
section
def qo{K:ql}{H:Hp}{M:Mp}{a:Addr}{ds:List D}(hm:HM K H M)(h:oR M a=some ds):∃xs,yS K H a xs/\qd K H ds xs/\Rd H a (.lst xs):=by
 unfold oR at h;cases e:M a with
 | none=>rw[e]at h;cases h
 | some c=>
  rw[e]at h;have ok:=hm a c e;cases c with
  | lst es=>cases h;obtain⟨xs,e1,e2⟩:=ok;exact⟨xs,.inl (.inl e1),e2,.inl e1⟩
  | ins _ _=>cases h
  | dk _=>cases h
  | exc _=>cases h
def qP{α:Type}{o:Option α}{P:α->Prop}(h:o.elim False P):∃a,o=some a/\P a:=by
 cases o with
 | none=>exact h.elim
 | some a=>exact⟨a,rfl,h⟩
def IU:xO X (binaryOp .Add) (λx y H Q=>∃l b xs zs,x=.ref l/\y=.ref b/\yS X.K H l xs/\yS X.K H b zs/\xs.length+zs.length<=sizeLine/\∀p,H p=none->Q (.ref p) (upd H p (.lst (xs++zs)))):=by
 intro Wp s σ H x y v u Q I rx ry h;obtain⟨l,b,xs,zs,rfl,rfl,hH,hB,hz,q⟩:=h;cases rx;cases ry;obtain⟨its,r,⟨⟨c1,d1,t1,sl1⟩,n,g1,e1,_,f1⟩,_⟩:=I.list hH;obtain⟨Yl,r2,⟨⟨c2,d2,t2,sl2⟩,m,g2,e2,_,f2⟩,_⟩:=I.list hB;simp only at e1 f1 e2 f2;subst e1 f1 e2 f2;have hl:=r.length;have hl2:=r2.length;refine kU ⟨_,g1,rfl⟩ ⟨_,g2,rfl⟩ noFill_list_add seq_list_add PySem.F.slot_list_add PySem.F.entry_list_add (PySem.F.args_list_add_2 _ _) (list_addW l b its.toArray Yl.toArray n m d1 d2 sl1 sl2 (by rw[dv,dv];omega)) ⟨g1,g2,?_⟩;have ea:its.toArray++Yl.toArray=(its++Yl).toArray:=by simp
 rw[ea];exact⟨.ref _,_,I.oV (t':=s.toks) (r.append r2) (by rw[cV];omega),rfl,q _ I.fresh⟩
def Im(x:Array Nat):∀k,((List.replicate k x).foldl (·++·) #[]:Array Nat).size=k*x.size:=by
 have go:∀(k:Nat) (acc:Array Nat),((List.replicate k x).foldl (·++·) acc).size=acc.size+k*x.size:=by
  intro k;induction k with
  | zero=>intro acc;simp
  | succ k ih=>intro acc;rw[eG,fS,ih,Array.size_append,mx];omega
 intro k;rw[go];simp
def PX:xO X (binaryOp .Mult) (λx y H Q=>∃i j,x=.str i/\y=.int j/\(j<4096/\-4096<j/\i.length<4096)/\Q (.str (yE i j)) H):=by
 intro Wp s σ H x y v u Q I rx ry h;obtain⟨i,j,rfl,rfl,⟨h1,h2,h3⟩,q⟩:=h;obtain⟨t,rfl⟩:=rx;obtain⟨t',rfl⟩:=ry;refine PySem.P.mul_str ?_ ?_ ?_ ?_
 .rw[eQ (by omega),eQ (by omega)];rfl
 .intro h0 _;have:(4096:Int)<=(2 ^ 63 - 1) / j:=by
   have:(4096:Int)*j<=2 ^ 63 - 1:=by omega
   exact(Int.le_ediv_iff_mul_le (by omega)).mpr this
  omega
 .intro h0 _;have hm:i.length*j.toNat<=4096*4096:=kc (by omega) (by omega);have hz:=dO;unfold Builtin.Str.tooLong;exact eQ (by omega)
 .by_cases h0:j<1
  .rw[c9 h0];have e:yE i j=Str.empty:=by unfold yE;rw[show j.toNat=0 by omega];rfl
   rw[e]at q;exact⟨by decide,⟨.str Str.empty,H,I.tok _,⟨_,rfl⟩,q⟩⟩
  .rw[cY h0];by_cases hj:(j==1||i.length==0)=true
   .rw[c9 hj];have e:yE i j=i:=by
     have hj':j=1\/i.length=0:=by simpa using hj
     unfold yE;rcases hj' with z|z
     .subst z;show(⟨#[]++i.cps⟩:Str)=i;simp
     .have ec:i.cps=#[]:=Array.size_eq_zero_iff.mp z;have er:∀k:Nat,((List.replicate k (#[]:Array Nat)).foldl (·++·) #[]:Array Nat)=#[]:=by
       intro k;induction k with
       | zero=>rfl
       | succ k ih=>rw[eG,fS];simpa using ih
      rw[ec,er,<-ec]
    rw[e]at q;exact⟨.str i,H,I,⟨t,rfl⟩,q⟩
   .rw[cY hj];refine⟨?_,⟨.str _,H,I.tok _,⟨_,rfl⟩,q⟩⟩;have hz:=dO;have hm:j.toNat*i.length<=4096*4096:=kc (by omega) (by omega);show((List.replicate j.toNat i.cps).foldl (·++·) #[]:Array Nat).size<=_;rw[Im];have XU:j.toNat*i.cps.size<=4096*4096:=hm;omega
def R3(K:ql)(f:D->D->Mp->DK->Prop):R2:=λvx vy H Q'=>BK λx y M Q=>rH K H x vx/\rH K H y vy/\HM K H M/\f x y M Q/\Up K H Q' Q
def Wm(op:Operator):xO X (binaryOp op) (R3 X.K (UG op)):=by
 intro Wp s σ H vx vy v u Q' I rx ry h;obtain⟨x,y,M,Q,hx,hy,hm,q,k⟩:=h;unfold UG at q;split at q
 .cases hx.int_inv;cases hy.int_inv;exact Q3 Wp s σ H _ _ v u Q' I rx ry ⟨_,_,rfl,rfl,k _ _ _ _ .int hm .refl q⟩
 .cases hx.str_inv;cases hy.str_inv;exact GI Wp s σ H _ _ v u Q' I rx ry ⟨_,_,rfl,rfl,q.1,k _ _ _ _ .str hm .refl q.2⟩
 .rename_i i j;obtain⟨q1,q2,q3⟩:=q;obtain⟨a,xs,rfl,ha,X1⟩:=hx.mP;obtain⟨b,ys,rfl,hb,Xi⟩:=hy.mP;have l1:=X1.length;have l2:=Xi.length;refine Ov Wp s σ H _ _ v u Q' I rx ry ⟨a,b,xs,ys,rfl,rfl,ha,hb,λz=>q1 (by rw[z]at l1;exact gm.mp l1),by omega,λz=>?_,λz p hp=>?_⟩
  .refine k _ _ _ _ (.tup ha ?_) hm .refl q3;rw[z]at Xi;have e0:j=[]:=gm.mp (by simpa using Xi.length);rw[e0,eS];exact X1
  .have e:qO X.K H (upd H p (.tup (xs++ys))):=.new hp;exact k _ _ _ _ (.tup (.of pZ) ((X1.append Xi).mono e)) (hm.add hp) e q3
 .obtain⟨i,ei,q⟩:=qP q;obtain⟨j,ej,q1,q2⟩:=qP q;cases hx.mH;cases hy.mH;obtain⟨xs,rx',Zr,_⟩:=qo hm ei;obtain⟨ys,ry',hys,_⟩:=qo hm ej;have l1:=Zr.length;have l2:=hys.length;refine IU Wp s σ H _ _ v u Q' I rx ry ⟨_,_,xs,ys,rfl,rfl,rx',ry',by omega,λp hp=>?_⟩;have e:qO X.K H (upd H p (.lst (xs++ys))):=.new hp;exact k _ _ _ _ .ref (hm.new (c:=.lst (i++j)) hp ⟨_,pZ,(Zr.append hys).mono e⟩) e (q2 p (hm.fresh hp))
 .obtain⟨j,ej,q1,q2⟩:=qP q;obtain⟨l,xs,rfl,rx',Zr⟩:=hx.mZ;cases hy.mH;obtain⟨ys,ry',hys,_⟩:=qo hm ej;have l1:=Zr.length;have l2:=hys.length;refine IU Wp s σ H _ _ v u Q' I rx ry ⟨_,_,xs,ys,rfl,rfl,rx'.sq,ry',by omega,λp hp=>?_⟩;have e:qO X.K H (upd H p (.lst (xs++ys))):=.new hp;exact k _ _ _ _ .ref (hm.new (c:=.lst (_++j)) hp ⟨_,pZ,(Zr.append hys).mono e⟩) e (q2 p (hm.fresh hp))
 .cases hx.int_inv;cases hy.int_inv;exact So Wp s σ H _ _ v u Q' I rx ry ⟨_,_,rfl,rfl,k _ _ _ _ .int hm .refl q⟩
 .cases hx.int_inv;cases hy.int_inv;exact Ry Wp s σ H _ _ v u Q' I rx ry ⟨_,_,rfl,rfl,q.1,k _ _ _ _ .int hm .refl q.2⟩
 .cases hx.str_inv;cases hy.int_inv;exact PX Wp s σ H _ _ v u Q' I rx ry ⟨_,_,rfl,rfl,q.1,k _ _ _ _ .str hm .refl q.2⟩
 .cases hx.int_inv;cases hy.int_inv;exact Ox Wp s σ H _ _ v u Q' I rx ry ⟨_,_,rfl,rfl,q.1,k _ _ _ _ .int hm .refl q.2⟩
 .cases hx.int_inv;cases hy.int_inv;exact QG Wp s σ H _ _ v u Q' I rx ry ⟨_,_,rfl,rfl,q.1,k _ _ _ _ .int hm .refl q.2⟩
 .exact q.elim
variable {a b:Expr}
def GU{f:D->D->Mp->DK->Prop}:∀σ H Q',lo X.K (λδ M Q=>ta δ M λx M1=>tb δ M1 λy M2=>f x y M2 Q) σ H Q'->SM (R3 X.K f) (lo X.K ta) (lo X.K tb) σ H Q':=λσ H Q' zz=>x7 zz λδ M Q hs hm ht k=>⟨δ,M,_,hs,hm,ht,λv H1 x M1 hx Wr e1 q1=>⟨δ,M1,_,hs.mono e1,Wr,q1,λu H2 y M2 hy WI e2 q2=>⟨x,y,M2,Q,hx.mono e2,hy,WI,q2,vv (e1.trans e2) k⟩⟩⟩
def pT{op:Operator}(ha:E3 X a ta)(hb:E3 X b tb):E3 X (.BinOp a op b pos) (o3 op ta tb):=PE.mono (Qa (Wm op) ha hb) GU
end
def sA(f:D->D->Option Bool):List D->List D->Option Bool
 | x::a,y::b=>(f x y).bind λp=>(sA f a b).map λq=>p&&q
 | _,_=>some true
def yR(M:Mp):Nat->D->D->Option Bool
 | 0,_,_=>none
 | n+1,x,y=>match x,y with
  | .mM,.mM=>some true
  | .bl a,.bl b=>some (a==b)
  | .int a,.int b=>some (a==b)
  | .str a,.str b=>some (a==b)
  | .mM,.bl _=>some false
  | .mM,.int _=>some false
  | .mM,.str _=>some false
  | .bl _,.mM=>some false
  | .bl _,.str _=>some false
  | .int _,.mM=>some false
  | .int _,.str _=>some false
  | .str _,.mM=>some false
  | .str _,.bl _=>some false
  | .str _,.int _=>some false
  | .tup a,.tup b=>(sA (yR M n) a b).map λp=>p&&a.length==b.length
  | .ref a,.ref b=>(oR M a).bind λi=>(oR M b).bind λj=>if i.length=j.length then sA (yR M n) i j else some false
  | _,_=>none
variable {Wp:List (Addr × Obj)}{σ:St}{s:Sd}
theorem yw{f:D->D->Option Bool}:∀{ds es:List D} {xs:List V} {b:Bool},qd X.K H ds xs->qd X.K H es xs->(∀x y v b,rH X.K H x v->rH X.K H y v->f x y=some b->b=true)->sA f ds es=some b->b=true
 | [],[],_,_,_,_,_,e=>(dh e).symm
 | [],_::_,_,_,h,g,_,_=>by have h1:=h.length;have h2:=g.length;rw[<-h1]at h2;simp at h2
 | _::_,[],_,_,h,g,_,_=>by have h1:=h.length;have h2:=g.length;rw[<-h1]at h2;simp at h2
 | d::ds,e::es,xs,b,h,g,k,q=>by
  obtain⟨x,r,rfl,h1,h2⟩:=h.inv;obtain⟨x',r',e',g1,g2⟩:=g.inv;cases e';unfold sA at q;cases p1:f d e with
  | none=>rw[p1]at q;cases q
  | some b1=>
   rw[p1]at q;cases p2:sA f ds es with
   | none=>rw[p2]at q;cases q
   | some b2=>rw[p2]at q;have q':(b1&&b2)=b:=dh q;rw[<-q',k _ _ _ _ h1 g1 p1,yw h2 g2 k p2];rfl
theorem yT(I:Inv X Wp σ H s)(hm:HM X.K H M):∀(n:Nat) (x y:D) (v:V) (b:Bool),rH X.K H x v->rH X.K H y v->yR M n x y=some b->b=true
 | 0,_,_,_,_,_,_,e=>by cases e
 | n+1,x,y,v,b,hx,hy,e=>by
  unfold yR at e;split at e
  .exact(dh e).symm
  .rw[hx.mL]at hy;cases hy.mL;exact(dh e).symm.trans (by simp)
  .rw[hx.int_inv]at hy;cases hy.int_inv;exact(dh e).symm.trans (by simp)
  .rw[hx.str_inv]at hy;cases hy.str_inv;exact(dh e).symm.trans (by simp)
  .rw[hx.mK]at hy;cases hy.mL
  .rw[hx.mK]at hy;cases hy.int_inv
  .rw[hx.mK]at hy;cases hy.str_inv
  .rw[hx.mL]at hy;cases hy.mK
  .rw[hx.mL]at hy;cases hy.str_inv
  .rw[hx.int_inv]at hy;cases hy.mK
  .rw[hx.int_inv]at hy;cases hy.str_inv
  .rw[hx.str_inv]at hy;cases hy.mK
  .rw[hx.str_inv]at hy;cases hy.mL
  .rw[hx.str_inv]at hy;cases hy.int_inv
  .obtain⟨a,xs,rfl,h1,h2⟩:=hx.mP;obtain⟨a',ys,e',g1,g2⟩:=hy.mP;cases e';rw[I.ni g1 h1]at g2;cases p:sA (yR M n) _ _ with
   | none=>rw[p]at e;cases e
   | some b1=>rw[p]at e;have e':=dh e;rw[<-e',yw h2 g2 (yT I hm n) p,h2.length,g2.length];simp
  .rw[hx.mH]at hy;cases hy.mH;cases p:oR M _ with
   | none=>rw[p]at e;cases e
   | some i=>rw[p]at e;have e:(if i.length=i.length then sA (yR M n) i i else some false)=some b:=e;rw[c9 rfl]at e;obtain⟨xs,_,h2,_⟩:=qo hm p;exact yw h2 h2 (yT I hm n) e
  .cases e
theorem Bs{f:D->D->Option Bool}{A:Ar}:∀{ds es:List D} {xs ys:List V} {us ws:List Vl} {b:Bool},sA f ds es=some b->qd X.K H ds xs->qd X.K H es ys->qA xs us->qA ys ws->
  (∀x y b vx vy u w,f x y=some b->rH X.K H x vx->rH X.K H y vy->qG vx u->qG vy w->SeqAt.EqAt A s u w b)->
  ∃e:Nat->Bool,(∀j (h1:j<us.length) (h2:j<ws.length),SeqAt.EqAt A s us[j] ws[j] (e j))/\(List.range (min us.length ws.length)).all e=b
 | [],es,xs,ys,us,ws,b,q,hx,hy,rx,ry,k=>by
  have e1:=hx.nil_inv;subst e1;cases rx;refine⟨λ_=>true,λj h1=>absurd h1 (by simp),?_⟩;have q':some true=some b:=by cases es<;>exact q
  simpa using(dh q')
 | d::ds,[],xs,ys,us,ws,b,q,hx,hy,rx,ry,k=>by
  have e1:=hy.nil_inv;subst e1;cases ry;refine⟨λ_=>true,λj _ h2=>absurd h2 (by simp),?_⟩;have q':some true=some b:=q
  simpa using(dh q')
 | d::ds,e::es,xs,ys,us,ws,b,q,hx,hy,rx,ry,k=>by
  obtain⟨x,r,rfl,h1,h2⟩:=hx.inv;obtain⟨y,r',rfl,g1,g2⟩:=hy.inv;cases rx with
  | cons r1 r2=>
   cases ry with
   | cons t1 t2=>
    unfold sA at q;cases p1:f d e with
    | none=>rw[p1]at q;cases q
    | some b1=>
     rw[p1]at q;cases p2:sA f ds es with
     | none=>rw[p2]at q;cases q
     | some b2=>
      rw[p2]at q;have q':(b1&&b2)=b:=dh q;obtain⟨e',he,ha⟩:=Bs p2 h2 g2 r2 t2 k;refine⟨λj=>match j with|0=>b1|j+1=>e' j,λj l1 l2=>?_,?_⟩
      .cases j with
       | zero=>exact k _ _ _ _ _ _ _ p1 h1 g1 r1 t1
       | succ j=>exact he j (by simpa using l1) (by simpa using l2)
      .rw[<-q',<-ha];simp only[dZ];rw[Nat.succ_min_succ,List.range_succ_eq_map,fk,my];rfl
theorem EF(I:Inv X Wp σ H s)(hm:HM X.K H M):∀(n:Nat) (A:Ar) (x y:D) (b:Bool) (vx vy:V) (u w:Vl),A.units+n<cLine->yR M n x y=some b->rH X.K H x vx->rH X.K H y vy->qG vx u->qG vy w->
  SeqAt.RcAt A s u w b/\SeqAt.EqAt A s u w b/\SeqAt.RcNeAt A s u w (!b)
 | 0,_,_,_,_,_,_,_,_,_,e,_,_,_,_=>by cases e
 | n+1,A,x,y,b,vx,vy,u,w,hu,e,hx,hy,rx,ry=>by
  have hu1:A.units<cLine:=by omega
  have hui:A.in1.units+n<cLine:=by show A.units+1+n<cLine;omega
  unfold yR at e;split at e
  .cases hx.mK;cases hy.mK;cases rx;cases ry;cases e;exact⟨.none_none,.same _,.none_none⟩
  .cases hx.mL;cases hy.mL;cases rx;cases ry;cases e;exact⟨.bool_bool _ _,.bool_bool _ _,.bool_bool _ _⟩
  .cases hx.int_inv;cases hy.int_inv;obtain⟨t,rfl⟩:=rx;obtain⟨t',rfl⟩:=ry;cases e;exact⟨.int_int _ _ _ _,.int_int _ _ _ _,.int_int _ _ _ _⟩
  .cases hx.str_inv;cases hy.str_inv;obtain⟨t,rfl⟩:=rx;obtain⟨t',rfl⟩:=ry;cases e;exact⟨.str_str _ _ _ _,.str_str _ _ _ _,.str_str _ _ _ _⟩
  .cases hx.mK;cases hy.mL;cases rx;cases ry;cases e;exact⟨.none_bool _,.none_bool _,.none_bool _⟩
  .cases hx.mK;cases hy.int_inv;cases rx;obtain⟨t',rfl⟩:=ry;cases e;exact⟨.none_int _ _,.none_int _ _,.none_int _ _⟩
  .cases hx.mK;cases hy.str_inv;cases rx;obtain⟨t',rfl⟩:=ry;cases e;exact⟨.none_str _ _,.none_str _ _,.none_str _ _⟩
  .cases hx.mL;cases hy.mK;cases rx;cases ry;cases e;exact⟨.bool_none _,.bool_none _,.bool_none _⟩
  .cases hx.mL;cases hy.str_inv;cases rx;obtain⟨t',rfl⟩:=ry;cases e;exact⟨.bool_str _ _ _,.bool_str _ _ _,.bool_str _ _ _⟩
  .cases hx.int_inv;cases hy.mK;obtain⟨t,rfl⟩:=rx;cases ry;cases e;exact⟨.int_none _ _,.int_none _ _,.int_none _ _⟩
  .cases hx.int_inv;cases hy.str_inv;obtain⟨t,rfl⟩:=rx;obtain⟨t',rfl⟩:=ry;cases e;exact⟨.int_str _ _ _ _,.int_str _ _ _ _,.int_str _ _ _ _⟩
  .cases hx.str_inv;cases hy.mK;obtain⟨t,rfl⟩:=rx;cases ry;cases e;exact⟨.str_none _ _,.str_none _ _,.str_none _ _⟩
  .cases hx.str_inv;cases hy.mL;obtain⟨t,rfl⟩:=rx;cases ry;cases e;exact⟨.str_bool _ _ _,.str_bool _ _ _,.str_bool _ _ _⟩
  .cases hx.str_inv;cases hy.int_inv;obtain⟨t,rfl⟩:=rx;obtain⟨t',rfl⟩:=ry;cases e;exact⟨.str_int _ _ _ _,.str_int _ _ _ _,.str_int _ _ _ _⟩
  .rename_i da db;obtain⟨a1,xs,rfl,h1,h2⟩:=hx.mP;obtain⟨a2,ys,rfl,g1,g2⟩:=hy.mP;cases rx;cases ry;obtain⟨us,r1,p1,_⟩:=I.tuple h1;obtain⟨ws,r2,p2,_⟩:=I.tuple g1;cases p:sA (yR M n) da db with
   | none=>rw[p]at e;cases e
   | some b1=>
    have e0:=e;rw[p]at e;have e':(b1&&da.length==db.length)=b:=dh e;obtain⟨f,hf,ha⟩:=Bs (A:=A.in1) (s:=s) p h2 g2 r1 r2 λx y b vx vy u w q1 q2 q3 q4 q5=>(EF I hm n A.in1 x y b vx vy u w hui q1 q2 q3 q4 q5).2.1;have hb:((List.range (min us.toArray.size ws.toArray.size)).all f&&us.toArray.size==ws.toArray.size)=b:=by rw[dv,dv,ha,<-e',<-r1.length,<-r2.length,h2.length,g2.length]
    have hf':∀j (l1:j<us.toArray.size) (l2:j<ws.toArray.size),SeqAt.EqAt A.in1 s us.toArray[j] ws.toArray[j] (f j):=λj l1 l2=>by simpa using hf j (by simpa using l1) (by simpa using l2)
    have c1:SeqAt.RcAt A s (.ref a1) (.ref a2) b:=by rw[<-hb];exact .tuples p1 p2 hu1 hf'
    have c3:SeqAt.RcNeAt A s (.ref a1) (.ref a2) (!b):=by have:=SeqAt.RcNeAt.tuples p1 p2 hu1 hf';rw[hb]at this;exact this
    refine⟨c1,?_,c3⟩;by_cases ea:a1=a2
    .subst ea;have:b=true:=yT I hm (n+1) (.tup da) (.tup db) (.ref a1) b hx hy (by unfold yR;exact e0);rw[this];exact .same _
    .exact .of_refs ea c1
  .cases hx.mH;cases hy.mH;cases rx;cases ry;rename_i a1 a2;have e0:=e;cases p:oR M a1 with
   | none=>rw[p]at e;cases e
   | some i=>
    cases p':oR M a2 with
    | none=>rw[p,p']at e;cases e
    | some j=>
     rw[p,p']at e;have e:(if i.length=j.length then sA (yR M n) i j else some false)=some b:=e;obtain⟨xs,q1,h2,_⟩:=qo hm p;obtain⟨ys,q2,g2,_⟩:=qo hm p';obtain⟨us,r1,p1,_⟩:=I.list q1;obtain⟨ws,r2,p2,_⟩:=I.list q2;have Wt:SeqAt.RcAt A s (.ref a1) (.ref a2) b/\SeqAt.RcNeAt A s (.ref a1) (.ref a2) (!b):=by
      by_cases hl:i.length=j.length
      .rw[c9 hl]at e;obtain⟨f,hf,ha⟩:=Bs (A:=A.in1) (s:=s) e h2 g2 r1 r2 λx y b vx vy u w q1 q2 q3 q4 q5=>(EF I hm n A.in1 x y b vx vy u w hui q1 q2 q3 q4 q5).2.1;have hsz:us.toArray.size=ws.toArray.size:=by rw[dv,dv,<-r1.length,<-r2.length,<-h2.length,<-g2.length];exact hl
       have hf':∀j (l1:j<us.toArray.size) (l2:j<ws.toArray.size),SeqAt.EqAt A.in1 s us.toArray[j] ws.toArray[j] (f j):=λj l1 l2=>by simpa using hf j (by simpa using l1) (by simpa using l2)
       have hb:(List.range us.toArray.size).all f=b:=by rw[<-ha];rw[dv,dv]at hsz;rw[dv,<-hsz,Nat.min_self]
       rw[<-hb];exact⟨.lists p1.isList p2.isList hsz hu1 hf',.lists p1.isList p2.isList hsz hu1 hf'⟩
      .rw[cY hl]at e;cases e;have hsz:(us.toArray.size != ws.toArray.size)=true:=by
        rw[dv,dv,<-r1.length,<-r2.length,<-h2.length,<-g2.length]
        simpa using hl
       exact⟨.lists_lengths p1.isList p2.isList hsz hu1,.lists_lengths p1.isList p2.isList hsz hu1⟩
     refine⟨Wt.1,?_,Wt.2⟩;by_cases ea:a1=a2
     .subst ea;have:b=true:=yT I hm (n+1) (.ref a1) (.ref a1) (.ref a1) b .ref .ref (by unfold yR;exact e0);rw[this];exact .same _
     .exact .of_refs ea Wt.1
  .cases e
def uu:D->Bool
 | .mM=>true
 | .bl _=>true
 | .int _=>true
 | .str _=>true
 | _=>false
def Ny:D->D->Bool
 | .mM,.mM=>true
 | .bl a,.bl b=>a==b
 | .bl a,.int b=>(if a then 1 else 0)==b
 | .int a,.bl b=>a==(if b then 1 else 0)
 | .int a,.int b=>a==b
 | .str a,.str b=>a==b
 | _,_=>false
def inD(x:D)(ds:List D):Bool:=ds.any λy=>Ny y x
def KW(M:Mp):D->Option (List D)
 | .tup ds=>some ds
 | .ref a=>oR M a
 | .rl ds=>some ds
 | _=>none
def Cz(i j:Str):Bool:=!(Builtin.Str.occurrences j i 0 j.length 1).isEmpty
def Ra(X0:Bool)(x y:D)(M:Mp)(Q:DK):Prop:=match x,y with
 | .str i,.str j=>Q (.bl (if X0 then !Cz i j else Cz i j)) M
 | _,_=>(KW M y).elim False λds=>uu x=true/\ds.all uu=true/\Q (.bl (if X0 then !inD x ds else inD x ds)) M
def Pu(op:CmpOp)(x y:D)(M:Mp)(Q:DK):Prop:=match op with
 | .Eq=>(yR M 9 x y).elim False λb=>Q (.bl b) M
 | .NotEq=>(yR M 9 x y).elim False λb=>Q (.bl (!b)) M
 | .Lt=>match x,y with|.int i,.int j=>Q (.bl (decide (i<j))) M|_,_=>False
 | .LtE=>match x,y with|.int i,.int j=>Q (.bl (decide (i<=j))) M|_,_=>False
 | .Gt=>match x,y with|.int i,.int j=>Q (.bl (decide (j<i))) M|_,_=>False
 | .GtE=>match x,y with|.int i,.int j=>Q (.bl (decide (j<=i))) M|_,_=>False
 | .Is=>match y with|.mM=>Q (.bl (match x with|.mM=>true|_=>false)) M|_=>False
 | .IsNot=>match y with|.mM=>Q (.bl (match x with|.mM=>false|_=>true)) M|_=>False
 | .In=>Ra false x y M Q
 | .NotIn=>Ra true x y M Q
def k3(op:CmpOp)(ta tb:T3):T3:=λδ M Q=>ta δ M λx M1=>tb δ M1 λy M2=>Pu op x y M2 Q
def xQ{d:D}{v:V}(h:rH K H d v)(f:uu d=true):yj v=true:=by
 cases d with
 | mM=>rw[h.mK];rfl
 | bl _=>rw[h.mL];rfl
 | int _=>rw[h.int_inv];rfl
 | str _=>rw[h.str_inv];rfl
 | _=>cases f
def IA{d e:D}{v w:V}(h:rH K H d v)(g:rH K H e w)(f:uu d=true)(f':uu e=true):Nh v w=Ny d e:=by
 cases d with
 | mM=>
  rw[h.mK];cases e with
  | mM=>rw[g.mK];rfl
  | bl _=>rw[g.mL];rfl
  | int _=>rw[g.int_inv];rfl
  | str _=>rw[g.str_inv];rfl
  | _=>cases f'
 | bl _=>
  rw[h.mL];cases e with
  | mM=>rw[g.mK];rfl
  | bl _=>rw[g.mL];rfl
  | int _=>rw[g.int_inv];rfl
  | str _=>rw[g.str_inv];rfl
  | _=>cases f'
 | int _=>
  rw[h.int_inv];cases e with
  | mM=>rw[g.mK];rfl
  | bl _=>rw[g.mL];rfl
  | int _=>rw[g.int_inv];rfl
  | str _=>rw[g.str_inv];rfl
  | _=>cases f'
 | str _=>
  rw[h.str_inv];cases e with
  | mM=>rw[g.mK];rfl
  | bl _=>rw[g.mL];rfl
  | int _=>rw[g.int_inv];rfl
  | str _=>rw[g.str_inv];rfl
  | _=>cases f'
 | _=>cases f
theorem Bc:∀{ds:List D} {xs:List V},qd K H ds xs->ds.all uu=true->xs.all yj=true
 | [],_,h,_=>by rw[h.nil_inv];rfl
 | d::ds,_,h,f=>by obtain⟨x,r,rfl,h1,h2⟩:=h.inv;rw[fk,dU]at f ⊢;exact⟨xQ h1 f.1,Bc h2 f.2⟩
theorem Ks{e:D}{w:V}(g:rH K H e w)(f':uu e=true):∀{ds:List D} {xs:List V},qd K H ds xs->ds.all uu=true->inV w xs=inD e ds
 | [],_,h,_=>by rw[h.nil_inv];rfl
 | d::ds,_,h,f=>by obtain⟨x,r,rfl,h1,h2⟩:=h.inv;rw[fk,dU]at f;show(Nh x w||inV w r)=(Ny d e||inD e ds);rw[IA h1 g f.1 f',Ks g f' h2 f.2]
def E5(hm:HM K H M){y:D}{v:V}{ds:List D}(h:rH K H y v)(q:KW M y=some ds):∃p xs,v=.ref p/\(yS K H p xs\/uQ K H p xs)/\qd K H ds xs:=by
 cases y with
 | tup es=>cases q;obtain⟨a,xs,rfl,h1,h2⟩:=h.mP;exact⟨a,xs,rfl,.inr h1,h2⟩
 | ref a=>cases h.mH;obtain⟨xs,h1,h2,_⟩:=qo hm q;exact⟨a,xs,rfl,.inl h1,h2⟩
 | rl es=>cases q;obtain⟨a,xs,rfl,h1,h2⟩:=h.mZ;exact⟨a,xs,rfl,.inl h1.sq,h2⟩
 | _=>cases q
variable {c:Expr}{tc:T3}
section
def JQ(op:CmpOp)(hu:X.A.units+9<cLine):xO X (compareOp op) (R3 X.K (Pu op)):=by
 intro Wp s σ H vx vy v u Q' I rx ry h;obtain⟨x,y,M,Q,hx,hy,hm,q,k⟩:=h;have bk:∀b,Q (.bl b) M->EP X Wp σ Q' (.bool b) s:=λb q=>⟨.bl b,H,I,rfl,k _ _ _ _ .bl hm .refl q⟩;have inn:∀X0:Bool,((KW M y).elim False λds=>uu x=true/\ds.all uu=true/\Q (.bl (if X0 then !inD x ds else inD x ds)) M)->Vs X.K X0 vx vy H Q':=λX0 q=>by obtain⟨ds,e,f1,f2,q⟩:=qP q;obtain⟨p,xs,rfl,h1,h2⟩:=E5 hm hy e;refine⟨p,xs,rfl,h1,xQ hx f1,Bc h2 f2,?_⟩;rw[Ks hx f1 h2 f2];exact k _ _ _ _ .bl hm .refl q
 cases op with
 | Eq=>obtain⟨b,e,q⟩:=qP q;exact(EF I hm 9 X.A x y b vx vy v u hu e hx hy rx ry).1 _ _ _ _ (bk b q)
 | NotEq=>obtain⟨b,e,q⟩:=qP q;exact(EF I hm 9 X.A x y b vx vy v u hu e hx hy rx ry).2.2 _ _ _ _ (bk _ q)
 | Lt=>
  cases x<;>first|exact q.elim|skip
  cases y<;>first|exact q.elim|skip
  cases hx.int_inv;cases hy.int_inv;exact SX Wp s σ H _ _ v u Q' I rx ry ⟨_,_,rfl,rfl,k _ _ _ _ .bl hm .refl q⟩
 | LtE=>
  cases x<;>first|exact q.elim|skip
  cases y<;>first|exact q.elim|skip
  cases hx.int_inv;cases hy.int_inv;exact TH Wp s σ H _ _ v u Q' I rx ry ⟨_,_,rfl,rfl,k _ _ _ _ .bl hm .refl q⟩
 | Gt=>
  cases x<;>first|exact q.elim|skip
  cases y<;>first|exact q.elim|skip
  cases hx.int_inv;cases hy.int_inv;exact S9 Wp s σ H _ _ v u Q' I rx ry ⟨_,_,rfl,rfl,k _ _ _ _ .bl hm .refl q⟩
 | GtE=>
  cases x<;>first|exact q.elim|skip
  cases y<;>first|exact q.elim|skip
  cases hx.int_inv;cases hy.int_inv;exact Ur Wp s σ H _ _ v u Q' I rx ry ⟨_,_,rfl,rfl,k _ _ _ _ .bl hm .refl q⟩
 | Is=>
  cases y<;>first|exact q.elim|skip
  cases hy.mK;refine Sg Wp s σ H _ _ v u Q' I rx ry ⟨rfl,k _ _ _ _ ?_ hm .refl q⟩;cases x with
  | mM=>rw[hx.mK];exact .bl
  | bl _=>rw[hx.mL];exact .bl
  | int _=>rw[hx.int_inv];exact .bl
  | str _=>rw[hx.str_inv];exact .bl
  | tup _=>obtain⟨a,xs,rfl,_⟩:=hx.mP;exact .bl
  | ref _=>rw[hx.mH];exact .bl
  | ty _=>rw[hx.nS];exact .bl
  | rl _=>obtain⟨a,xs,rfl,_⟩:=hx.mZ;exact .bl
 | IsNot=>
  cases y<;>first|exact q.elim|skip
  cases hy.mK;refine O4 Wp s σ H _ _ v u Q' I rx ry ⟨rfl,k _ _ _ _ ?_ hm .refl q⟩;cases x with
  | mM=>rw[hx.mK];exact .bl
  | bl _=>rw[hx.mL];exact .bl
  | int _=>rw[hx.int_inv];exact .bl
  | str _=>rw[hx.str_inv];exact .bl
  | tup _=>obtain⟨a,xs,rfl,_⟩:=hx.mP;exact .bl
  | ref _=>rw[hx.mH];exact .bl
  | ty _=>rw[hx.nS];exact .bl
  | rl _=>obtain⟨a,xs,rfl,_⟩:=hx.mZ;exact .bl
 | In=>
  have q:Ra false x y M Q:=q;unfold Ra at q;split at q
  .cases hx.str_inv;cases hy.str_inv;exact Jm Wp s σ H _ _ v u Q' I rx ry ⟨_,_,rfl,rfl,k _ _ _ _ .bl hm .refl q⟩
  .exact Jj Wp s σ H _ _ v u Q' I rx ry (inn false q)
 | NotIn=>
  have q:Ra true x y M Q:=q;unfold Ra at q;split at q
  .cases hx.str_inv;cases hy.str_inv;exact Eg Wp s σ H _ _ v u Q' I rx ry ⟨_,_,rfl,rfl,k _ _ _ _ .bl hm .refl q⟩
  .exact D6 Wp s σ H _ _ v u Q' I rx ry (inn true q)
variable {a b:Expr}
def qh{op:CmpOp}(hu:X.A.units+9<cLine)(ha:E3 X a ta)(hb:E3 X b tb)(hm:behindInMarks op b=false:=by first|exact G4 _|with_unfolding_all rfl):E3 X (.Compare a [op] [b] pos) (k3 op ta tb):=PE.mono (IT (JQ op hu) ha hb hm) GU
def b3(t:T3):As:=λδ M Q=>t δ M λd M1=>match d with|.bl c=>Q c M1|_=>False
def vp{e:Expr}{t:T3}(h:E3 X e t)(he:∀WX,isTrue e X.env WX=(do let v<-WX;standAt e.pos;holding [v] (truthy v)):=by intro _;rfl):B3 X e (b3 t):=PT.mono (Se h he) λσ H Q' zz=>x7 zz λδ M Q hs hm ht k=>
 ⟨δ,M,_,hs,hm,ht,λv H1 d M1 hd Wr e1 q1=>by
  cases d with
  | bl c=>exact⟨c,hd.mL,k c H1 M1 Wr e1 q1⟩
  | _=>exact q1.elim⟩
def pF{op:CmpOp}(hu:X.A.units+9<cLine)(ha:E3 X a ta)(hb:E3 X b tb)(hm:behindInMarks op b=false:=by first|exact G4 _|with_unfolding_all rfl):B3 X (.Compare a [op] [b] pos) (b3 (k3 op ta tb)):=PT.mono (HP (JQ op hu) ha hb hm) λσ H Q' zz=>x7 zz λδ M Q hs hm ht k=>
 GU σ H _ ⟨δ,M,_,hs,hm,ht,λv H1 d M1 hd Wr e1 q1=>by
  cases d with
  | bl c=>exact⟨c,hd.mL,k c H1 M1 Wr e1 q1⟩
  | _=>exact q1.elim⟩
end
variable {tA tB:As}{rest:List Expr}
section
variable {a b:Expr}
def OO(t u:As):As:=λδ M Q=>t δ M λc M1=>if c=true then u δ M1 Q else Q false M1
def Wb(t u:As):As:=λδ M Q=>t δ M λc M1=>if c=true then Q true M1 else u δ M1 Q
def Tf(t:As):As:=λδ M Q=>t δ M λc M1=>Q (!c) M1
def W3(X:Cx)(e:Expr)(t:As):Prop:=PW X e (SA X.K t)
def PW.mono{X:Cx}{e:Expr}{t t':TT}(h:PW X e t)(m:∀σ H Q,t' σ H Q->t σ H Q):PW X e t':=λwh Wp s σ H Q I q=>h wh Wp s σ H Q I (m σ H Q q)
def W3.b3{e:Expr}{t:As}(h:W3 X e t):B3 X e t:=PW.pt h
def uI(h:B3 X a tA):W3 X (.BoolOp .And [a] pos) tA:=Od h
def yF(h:B3 X a tA):W3 X (.BoolOp .Or [a] pos) tA:=RY h
def uE(ha:B3 X a tA)(hb:W3 X (.BoolOp .And (b::rest) pos) tB):W3 X (.BoolOp .And (a::b::rest) pos) (OO tA tB):=PW.mono (Ri ha hb) λσ H Q' zz=>x7 zz λδ M Q hs hm ht k=>
 ⟨δ,M,_,hs,hm,ht,λc H1 M1 Wr e1 q1=>by
  cases c with
  | true=>exact(c9 rfl).mpr ⟨δ,M1,Q,hs.mono e1,Wr,(c9 rfl).mp q1,λb H' M' x1 x2 x3=>k b H' M' x1 (e1.trans x2) x3⟩
  | false=>exact(cY dw).mpr (k false H1 M1 Wr e1 ((cY dw).mp q1))⟩
def zg(ha:B3 X a tA)(hb:W3 X (.BoolOp .Or (b::rest) pos) tB):W3 X (.BoolOp .Or (a::b::rest) pos) (Wb tA tB):=PW.mono (Tb ha hb) λσ H Q' zz=>x7 zz λδ M Q hs hm ht k=>
 ⟨δ,M,_,hs,hm,ht,λc H1 M1 Wr e1 q1=>by
  cases c with
  | true=>exact(c9 rfl).mpr (k true H1 M1 Wr e1 ((c9 rfl).mp q1))
  | false=>exact(cY dw).mpr ⟨δ,M1,Q,hs.mono e1,Wr,(cY dw).mp q1,λb H' M' x1 x2 x3=>k b H' M' x1 (e1.trans x2) x3⟩⟩
def xG(ha:B3 X a tA):B3 X (.UnaryOp .Not a pos) (Tf tA):=PT.mono (QO ha) λσ H Q' zz=>x7 zz λδ M Q hs hm ht k=>⟨δ,M,_,hs,hm,ht,λc H1 M1 Wr e1 q1=>k _ H1 M1 Wr e1 q1⟩
def Uu(ta tb:T3):T3:=λδ M Q=>ta δ M λd M1=>match d with|.bl c=>if c=true then tb δ M1 Q else Q (.bl false) M1|_=>False
def VC(ta tb:T3):T3:=λδ M Q=>ta δ M λd M1=>match d with|.bl c=>if c=true then Q (.bl true) M1 else tb δ M1 Q|_=>False
def To(ta:T3):T3:=λδ M Q=>ta δ M λd M1=>match d with|.bl c=>Q (.bl (!c)) M1|_=>False
def sH{op}(h:E3 X a ta):E3 X (.BoolOp op [a] pos) ta:=Sm h
def sU(ha:E3 X a ta)(hb:E3 X (.BoolOp .And (b::rest) pos) tb):E3 X (.BoolOp .And (a::b::rest) pos) (Uu ta tb):=PE.mono (Rg ha hb) λσ H Q' zz=>x7 zz λδ M Q hs hm ht k=>
 ⟨δ,M,_,hs,hm,ht,λv H1 d M1 hd Wr e1 q1=>by
  cases d with
  | bl c=>
   refine⟨c,hd.mL,?_⟩;cases c with
   | true=>exact(c9 rfl).mpr ⟨δ,M1,Q,hs.mono e1,Wr,(c9 rfl).mp q1,vv e1 k⟩
   | false=>exact(cY dw).mpr (k _ H1 _ M1 .bl Wr e1 ((cY dw).mp q1))
  | _=>exact q1.elim⟩
def HV(ha:E3 X a ta)(hb:E3 X (.BoolOp .Or (b::rest) pos) tb):E3 X (.BoolOp .Or (a::b::rest) pos) (VC ta tb):=PE.mono (TQ ha hb) λσ H Q' zz=>x7 zz λδ M Q hs hm ht k=>
 ⟨δ,M,_,hs,hm,ht,λv H1 d M1 hd Wr e1 q1=>by
  cases d with
  | bl c=>
   refine⟨c,hd.mL,?_⟩;cases c with
   | true=>exact(c9 rfl).mpr (k _ H1 _ M1 .bl Wr e1 ((c9 rfl).mp q1))
   | false=>exact(cY dw).mpr ⟨δ,M1,Q,hs.mono e1,Wr,(cY dw).mp q1,vv e1 k⟩
  | _=>exact q1.elim⟩
def Sy(ha:E3 X a ta):E3 X (.UnaryOp .Not a pos) (To ta):=PE.mono (Q1 ha) λσ H Q' zz=>x7 zz λδ M Q hs hm ht k=>
 ⟨δ,M,_,hs,hm,ht,λv H1 d M1 hd Wr e1 q1=>by
  cases d with
  | bl c=>exact⟨c,hd.mL,k _ H1 _ M1 .bl Wr e1 q1⟩
  | _=>exact q1.elim⟩
def Wh(t:As)(ta tb:T3):T3:=λδ M Q=>t δ M λc M1=>if c=true then ta δ M1 Q else tb δ M1 Q
def Qh(hc:B3 X c tA)(ha:E3 X a ta)(hb:E3 X b tb):E3 X (.IfExp c a b pos) (Wh tA ta tb):=PE.mono (Mz hc ha hb) λσ H Q' zz=>x7 zz λδ M Q hs hm ht k=>
 ⟨δ,M,_,hs,hm,ht,λc H1 M1 Wr e1 q1=>by
  cases c with
  | true=>exact(c9 rfl).mpr ⟨δ,M1,Q,hs.mono e1,Wr,(c9 rfl).mp q1,vv e1 k⟩
  | false=>exact(cY dw).mpr ⟨δ,M1,Q,hs.mono e1,Wr,(cY dw).mp q1,vv e1 k⟩⟩
def UL(x y:D)(M:Mp)(Q:DK):Prop:=match x,y with
 | .tup ds,.int i=>(vD ds i).elim False λd=>Q d M
 | .ref a,.int i=>(oR M a).elim False λds=>(vD ds i).elim False λd=>Q d M
 | .rl ds,.int i=>(vD ds i).elim False λd=>Q d M
 | .str z,.int i=>z.length<=sizeLine/\(vD z.cps.toList i).elim False λc=>Q (.str ⟨#[c]⟩) M
 | _,_=>False
def i3(ta tb:T3):T3:=λδ M Q=>ta δ M λx M1=>tb δ M1 λy M2=>UL x y M2 Q
def Fb{K:ql}{H:Hp}{ds:List D}{xs:List V}{i:Int}{d:D}(h:qd K H ds xs)(e:vD ds i=some d):∃v,vD xs i=some v/\rH K H d v:=by
 unfold vD at e ⊢;rw[<-h.length];cases q:EG ds.length i with
 | none=>rw[q]at e;cases e
 | some j=>rw[q]at e;exact h.get e
def We:SB X (R3 X.K UL):=by
 intro value WC Wp s σ H vx vy v u Q' I rx ry h hs;obtain⟨x,y,M,Q,hx,hy,hm,q,k⟩:=h;unfold UL at q;split at q
 .obtain⟨d,e,q⟩:=qP q;obtain⟨p,xs,rfl,h1,h2⟩:=hx.mP;cases hy.int_inv;obtain⟨w,e1,e2⟩:=Fb h2 e;exact Sq value WC Wp s σ H _ _ v u Q' I rx ry ⟨p,xs,_,w,rfl,rfl,h1,e1,k _ _ _ _ e2 hm .refl q⟩ hs
 .obtain⟨ds,e0,q⟩:=qP q;obtain⟨d,e,q⟩:=qP q;cases hx.mH;cases hy.int_inv;obtain⟨xs,h1,h2,_⟩:=qo hm e0;obtain⟨w,e1,e2⟩:=Fb h2 e;exact HH value WC Wp s σ H _ _ v u Q' I rx ry ⟨_,xs,_,w,rfl,rfl,h1,e1,k _ _ _ _ e2 hm .refl q⟩ hs
 .obtain⟨d,e,q⟩:=qP q;obtain⟨p,xs,rfl,h1,h2⟩:=hx.mZ;cases hy.int_inv;obtain⟨w,e1,e2⟩:=Fb h2 e;exact HH value WC Wp s σ H _ _ v u Q' I rx ry ⟨p,xs,_,w,rfl,rfl,h1.sq,e1,k _ _ _ _ e2 hm .refl q⟩ hs
 .obtain⟨q1,q⟩:=q;obtain⟨c,e,q⟩:=qP q;cases hx.str_inv;cases hy.int_inv;exact Ro value WC Wp s σ H _ _ v u Q' I rx ry ⟨_,_,c,rfl,rfl,q1,e,k _ _ _ _ .str hm .refl q⟩ hs
 .exact q.elim
def pE(ha:E3 X a ta)(hb:E3 X b tb)(hs:AY b:=by exact λ_ _=>rfl):E3 X (.Subscript a b pos) (i3 ta tb):=PE.mono (LC We ha hb hs) GU
def tM(ds:List D)(lo hi:Option Int):List D:=(ds.drop (HT.sT ds.length 0 lo)).take (HT.sT ds.length ds.length hi - HT.sT ds.length 0 lo)
def Ez{K:ql}{H:Hp}{ds:List D}{xs:List V}{l h:Option Int}(q:qd K H ds xs):qd K H (tM ds l h) (Cb xs l h):=by unfold tM Cb;rw[q.length];exact(q.drop _).take _
abbrev SE:=uX->Mp->(Option Int->Mp->Prop)->Prop
def Wd(K:ql)(t:SE):TO:=λσ H Q'=>Df λδ M Q=>yG K H σ δ/\HM K H M/\t δ M Q/\∀o H' M',HM K H' M'->qO K H H'->Q o M'->Q' o H'
def O3(X:Cx)(e:Option Expr)(t:SE):Prop:=PO X e (Wd X.K t)
def O2:SE:=λ_ M Q=>Q none M
def Um(t:T3):SE:=λδ M Q=>t δ M λd M1=>match d with|.int i=>Q (some i) M1|_=>False
def PO.mono{X:Cx}{e:Option Expr}{t t':TO}(h:PO X e t)(m:∀σ H Q,t' σ H Q->t σ H Q):PO X e t':=λWp s σ H Q I q=>h Wp s σ H Q I (m σ H Q q)
def tD:O3 X none O2:=PO.mono N0 λσ H Q' zz=>x7 zz λδ M Q hs hm ht k=>k none H M hm .refl ht
def sI{e:Expr}{t:T3}(h:E3 X e t):O3 X (some e) (Um t):=PO.mono (OH h) λσ H Q' zz=>x7 zz λδ M Q hs hm ht k=>
 ⟨δ,M,_,hs,hm,ht,λv H1 d M1 hd Wr e1 q1=>by
  cases d with
  | int i=>exact⟨i,hd.int_inv,k (some i) H1 M1 Wr e1 q1⟩
  | _=>exact q1.elim⟩
def VM(x:D)(lo hi:Option Int)(M:Mp)(Q:DK):Prop:=match x with
 | .tup ds=>Q (.tup (tM ds lo hi)) M
 | .ref a=>(oR M a).elim False λds=>∀p,M p=none->Q (.ref p) (pD M p (.lst (tM ds lo hi)))
 | .rl ds=>∀p,M p=none->Q (.ref p) (pD M p (.lst (tM ds lo hi)))
 | _=>False
def s3(te:T3)(tl th:SE):T3:=λδ M Q=>te δ M λx M1=>tl δ M1 λl M2=>th δ M2 λu M3=>VM x l u M3 Q
def Vz(K:ql):V->Option Int->Option Int->Hp->VK->Prop:=λvx l u H Q'=>Df λx M Q=>rH K H x vx/\HM K H M/\VM x l u M Q/\Up K H Q' Q
def OY{ds:List D}{lo hi:Option Int}(h:HT.sT ds.length 0 lo=0/\HT.sT ds.length ds.length hi=ds.length):tM ds lo hi=ds:=by unfold tM;rw[h.1,h.2,jb,kZ,fD]
def Vj:TF X (Vz X.K):=by
 intro Wp s σ H vx v vl vu l u sl Q' I rx YE pl pu h;obtain⟨x,M,Q,hx,hm,q,k⟩:=h;cases x with
 | tup ds=>
  have q2:Q (.tup (tM ds l u)) M:=q;obtain⟨a,xs,rfl,h1,h2⟩:=hx.mP;by_cases q1:HT.sT ds.length 0 l=0/\HT.sT ds.length ds.length u=ds.length
  .rw[OY q1]at q2;exact RL Wp s σ H _ v vl vu l u sl Q' I rx YE pl pu ⟨a,xs,rfl,h1,by rw[<-h2.length];exact q1,k _ _ _ _ hx hm .refl q2⟩
  refine QP Wp s σ H _ v vl vu l u sl Q' I rx YE pl pu ⟨a,xs,rfl,h1,by rw[<-h2.length];exact q1,λp hp=>?_⟩;have e:qO X.K H (upd H p (.tup (Cb xs l u))):=.new hp;exact k _ _ _ _ (.tup (.of pZ) ((Ez h2).mono e)) (hm.add hp) e q2
 | ref a=>obtain⟨ds,e0,q⟩:=qP q;cases hx.mH;obtain⟨xs,h1,h2,_⟩:=qo hm e0;refine HX Wp s σ H _ v vl vu l u sl Q' I rx YE pl pu ⟨a,xs,rfl,h1,λp hp=>?_⟩;have e:qO X.K H (upd H p (.lst (Cb xs l u))):=.new hp;exact k _ _ _ _ .ref (hm.new (c:=.lst (tM ds l u)) hp ⟨_,pZ,(Ez h2).mono e⟩) e (q p (hm.fresh hp))
 | rl ds=>obtain⟨a,xs,rfl,h1,h2⟩:=hx.mZ;refine HX Wp s σ H _ v vl vu l u sl Q' I rx YE pl pu ⟨a,xs,rfl,h1.sq,λp hp=>?_⟩;have e:qO X.K H (upd H p (.lst (Cb xs l u))):=.new hp;exact k _ _ _ _ .ref (hm.new (c:=.lst (tM ds l u)) hp ⟨_,pZ,(Ez h2).mono e⟩) e (q p (hm.fresh hp))
 | _=>exact q.elim
def sj{e:Expr}{te:T3}{lo hi:Option Expr}{tl th:SE}{p2:Pos}(he:E3 X e te)(hl:O3 X lo tl)(hu:O3 X hi th):E3 X (.Subscript e (.Slice lo hi none p2) pos) (s3 te tl th):=PE.mono (MF Vj he hl hu) λσ H Q' zz=>x7 zz λδ M Q hs hm ht k=>⟨δ,M,_,hs,hm,ht,λv H1 x M1 hx Wr e1 q1=>⟨δ,M1,_,hs.mono e1,Wr,q1,λl H2 M2 WI e2 q2=>⟨δ,M2,_,hs.mono (e1.trans e2),WI,q2,λu H3 M3 Xk e3 q3=>⟨x,M3,Q,hx.mono (e2.trans e3),Xk,q3,vv (e1.trans (e2.trans e3)) k⟩⟩⟩⟩
def xy:xi:=λ_ M Q=>Q [] M
def vc(ta:T3)(tr:xi):xi:=λδ M Q=>ta δ M λx M1=>tr δ M1 λxs M2=>Q (x::xs) M2
def sm:A3 X [] xy:=PA.mono RG λσ H Q' zz=>x7 zz λδ M Q hs hm ht k=>k [] H [] M .nil hm .refl ht
def pR{e:Expr}{es:List Expr}{te:T3}{t:xi}(ha:E3 X e te)(hr:A3 X es t)(hs:AL X e es:=by rfl):A3 X (e::es) (vc te t):=PA.mono (PJ ha hr hs) λσ H Q' zz=>x7 zz λδ M Q hs hm ht k=>⟨δ,M,_,hs,hm,ht,λv H1 x M1 hx Wr e1 q1=>⟨δ,M1,_,hs.mono e1,Wr,q1,λvs H2 xs M2 Zr WI e2 q2=>k _ H2 _ M2 (.cons (hx.mono e2) Zr) WI (e1.trans e2) q2⟩⟩
def Vw(t:xi):T3:=λδ M Q=>t δ M λds M1=>ds.length<=sizeLine/\Q (.tup ds) M1
def S8(t:xi):T3:=λδ M Q=>t δ M λds M1=>ds.length<=sizeLine/\∀p,M1 p=none->Q (.ref p) (pD M1 p (.lst ds))
def pK{x1}{es:List Expr}{t:xi}(h:A3 X es t):E3 X (.Tuple es x1 pos) (Vw t):=PE.mono (Qv h) λσ H Q' zz=>x7 zz λδ M Q hs hm ht k=>
 ⟨δ,M,_,hs,hm,ht,λvs H1 ds M1 Xq Wr e1 q1=>⟨by rw[<-Xq.length];exact q1.1,λp hp=>by
  have e:qO X.K H1 (upd H1 p (.tup vs)):=.new hp;exact k _ _ _ M1 (.tup (.of pZ) (Xq.mono e)) (Wr.add hp) (e1.trans e) q1.2⟩⟩
def qB{es:List Expr}{t:xi}(h:A3 X es t):E3 X (.List es pos) (S8 t):=PE.mono (R7 h) λσ H Q' zz=>x7 zz λδ M Q hs hm ht k=>
 ⟨δ,M,_,hs,hm,ht,λvs H1 ds M1 Xq Wr e1 q1=>⟨by rw[<-Xq.length];exact q1.1,λp hp=>by
  have e:qO X.K H1 (upd H1 p (.lst vs)):=.new hp;exact k _ _ _ _ .ref (Wr.new (c:=.lst ds) hp ⟨_,pZ,Xq.mono e⟩) (e1.trans e) (q1.2 p (Wr.fresh hp))⟩⟩
def ud(t u:xn):xn:=λD δ M=>t {D with nx:=u D} δ M
def VB:xn:=λD δ M=>D.nx δ M
def pH:GX X [] VB:=Cj.mono O6 λD' σ H zz=>Kj zz λδ M D hs hm ht k1 k2 k3 k4=>k1 σ H δ M hs hm .refl rfl ht
def pb{st:Stmt}{rest:List Stmt}{t u:xn}(h1:S3 X st t)(h2:GX X rest u):GX X (st::rest) (ud t u):=Cj.mono (Kw h1 h2) λD' σ H zz=>Kj zz λδ M D hs hm ht k1 k2 k3 k4=>
 ⟨δ,M,{D with nx:=u D},hs,hm,ht,λσ1 H1 δ1 M1 Zs Wr e1 l1 q1=>⟨δ1,M1,D,Zs,Wr,q1,λσ' H' δ' M' x1 x2 x3 x4 x5=>k1 σ' H' δ' M' x1 x2 (e1.trans x3) (x4.trans l1) x5,λv H' d M' x1 x2 x3 x4=>k2 v H' d M' x1 x2 (e1.trans x3) x4,λσ' H' δ' M' x1 x2 x3 x4 x5=>k3 σ' H' δ' M' x1 x2 (e1.trans x3) (x4.trans l1) x5,λσ' H' δ' M' x1 x2 x3 x4 x5=>k4 σ' H' δ' M' x1 x2 (e1.trans x3) (x4.trans l1) x5⟩,k2,k3,k4⟩
def pf{st:Stmt}{t:xn}(h1:S3 X st t):GX X [st] t:=Cj.mono (Ei h1) λD' σ H h=>h
def T5(te:T3):xn:=λD δ M=>te δ M λ_ M1=>D.nx δ M1
def pM{e:Expr}{te:T3}(he:E3 X e te)(XT:swapsWith e none pos.line X.env=pure false:=by rfl):S3 X (.Expr e pos) (T5 te):=PS.mono (Pa he XT) λD' σ H zz=>Kj zz λδ M D hs hm ht k1 k2 k3 k4=>⟨δ,M,_,hs,hm,ht,λv H1 d M1 hd Wr e1 q1=>k1 σ H1 δ M1 (hs.mono e1) Wr e1 rfl q1⟩
def Sx(te:T3):xn:=λD δ M=>te δ M D.rt
def pA{e:Expr}{te:T3}(he:E3 X e te):S3 X (.Return (some e) pos) (Sx te):=PS.mono (Rr he) λD' σ H zz=>Kj zz λδ M D hs hm ht k1 k2 k3 k4=>⟨δ,M,_,hs,hm,ht,λv H1 d M1 hd Wr e1 q1=>k2 v H1 d M1 hd Wr e1 q1⟩
def K6(c:As)(t u:xn):xn:=λD δ M=>c δ M λb M1=>if b=true then t D δ M1 else u D δ M1
def pN{c:Expr}{as bs:List Stmt}{tc:As}{t u:xn}(hc:B3 X c tc)(ha:GX X as t)(hb:GX X bs u):S3 X (.If c as bs pos) (K6 tc t u):=PS.mono (TN hc ha hb) λD' σ H zz=>Kj zz λδ M D hs hm ht k1 k2 k3 k4=>
 ⟨δ,M,_,hs,hm,ht,λb H1 M1 Wr e1 q1=>by
  have up:∀t:xn,t D δ M1->Vx X.K t D' σ H1:=λt q=>⟨δ,M1,D,hs.mono e1,Wr,q,λσ' H' δ' M' x1 x2 x3 x4 x5=>k1 σ' H' δ' M' x1 x2 (e1.trans x3) x4 x5,λv H' d M' x1 x2 x3 x4=>k2 v H' d M' x1 x2 (e1.trans x3) x4,λσ' H' δ' M' x1 x2 x3 x4 x5=>k3 σ' H' δ' M' x1 x2 (e1.trans x3) x4 x5,λσ' H' δ' M' x1 x2 x3 x4 x5=>k4 σ' H' δ' M' x1 x2 (e1.trans x3) x4 x5⟩
  cases b with
  | true=>exact(c9 rfl).mpr (up t ((c9 rfl).mp q1))
  | false=>exact(cY dw).mpr (up u ((cY dw).mp q1))⟩
def Q5:xn:=λ_ _ _=>False
def FF{st:Stmt}:S3 X st Q5:=PS.mono KU λD' σ H ⟨δ,M,D,hs,hm,ht,_⟩=>ht
abbrev C9:=D->uX->Mp->(uX->Mp->Prop)->Prop
def UH(K:ql)(g:C9):TG:=λv σ H Q'=>BK λd δ M Q=>rH K H d v/\yG K H σ δ/\HM K H M/\g d δ M Q/\∀σ' H' δ' M',yG K H' σ' δ'->HM K H' M'->qO K H H'->σ'.length=σ.length->Q δ' M'->Q' σ' H'
def G3(X:Cx)(e:Expr)(g:C9):Prop:=PG X e (UH X.K g)
def PG.nO{X:Cx}{e:Expr}{t t':TG}(h:PG X e t)(m:∀v σ H Q,σ.length=X.N.length->t' v σ H Q->t v σ H Q):PG X e t':=λWp s σ H v u Q I r q=>h Wp s σ H v u Q I r (m v σ H Q I.len q)
def sO(i:Nat):C9:=λd δ M Q=>Q (δ.set i (some d)) M
def IC{i:Nat}{x:Str}(hN:X.N.Nodup)(hi:X.N[i]?=some x)(hx:Ki X.env.scope x)(hf:Kk X x:=by first|exact .inl rfl|exact .inr rfl|assumption):G3 X (.Name x pos) (sO i):=
 PG.nO (Ol hN hi hx hf) λv σ H Q' hl ⟨d,δ,M,Q,hd,hs,hm,ht,k⟩=>k _ H _ M (hs.set hd (by rw[hl];exact(cX.mp hi).1)) hm .refl (by simp) ht
abbrev CQ:=List D->uX->Mp->(uX->Mp->Prop)->Prop
def UT(K:ql)(g:CQ):Oz:=λvs σ H Q'=>BK λds δ M Q=>qd K H ds vs/\yG K H σ δ/\HM K H M/\g ds δ M Q/\∀σ' H' δ' M',yG K H' σ' δ'->HM K H' M'->qO K H H'->σ'.length=σ.length->Q δ' M'->Q' σ' H'
def SK(X:Cx)(es:List Expr)(g:CQ):Prop:=Ni X es (UT X.K g)
def Ni.mono{X:Cx}{e:List Expr}{t t':Oz}(h:Ni X e t)(m:∀v σ H Q,t' v σ H Q->t v σ H Q):Ni X e t':=λWp s σ H v u Q I r q=>h Wp s σ H v u Q I r (m v σ H Q q)
def PG.mono{X:Cx}{e:Expr}{t t':TG}(h:PG X e t)(m:∀v σ H Q,t' v σ H Q->t v σ H Q):PG X e t':=λWp s σ H v u Q I r q=>h Wp s σ H v u Q I r (m v σ H Q q)
def BO:CQ:=λds δ M Q=>match ds with|[]=>Q δ M|_=>False
def xk(t:C9)(u:CQ):CQ:=λds δ M Q=>match ds with|d::r=>t d δ M λδ' M'=>u r δ' M' Q|[]=>False
def sS:SK X [] BO:=Ni.mono Pm λvs σ H Q' ⟨ds,δ,M,Q,hd,hs,hm,ht,k⟩=>by
 cases ds with
 | nil=>exact⟨hd.nil_inv,k σ H δ M hs hm .refl rfl ht⟩
 | cons _ _=>exact ht.elim
def qe{e:Expr}{es:List Expr}{t:C9}{u:CQ}(h1:G3 X e t)(h2:SK X es u)(hs:(assignEach (e::es) X.env).map (·.2)=assign e X.env::(assignEach es X.env).map (·.2):=by rfl):SK X (e::es) (xk t u):=
 Ni.mono (Lx h1 h2 hs) λvs σ H Q' ⟨ds,δ,M,Q,hd,hs,hm,ht,k⟩=>by
 cases ds with
 | nil=>exact ht.elim
 | cons d r=>obtain⟨x,xr,rfl,hx,hr⟩:=hd.inv;exact⟨x,xr,rfl,d,δ,M,_,hx,hs,hm,ht,λσ1 H1 δ1 M1 Zs Wr e1 l1 q1=>⟨r,δ1,M1,Q,hr.mono e1,Zs,Wr,q1,λσ' H' δ' M' x1 x2 x3 x4 x5=>k σ' H' δ' M' x1 x2 (e1.trans x3) (x4.trans l1) x5⟩⟩
def Qr(n:Nat)(t:CQ):C9:=λd δ M Q=>match d with|.tup ds=>ds.length=n/\t ds δ M Q|_=>False
def uz{es:List Expr}{k:Nat}{t:CQ}{n:Nat}(hc:X.calm=true)(h:SK X es t)(hn:(assignEach es X.env).length=n:=by rfl)(WJ:(assignEach es X.env).findIdx? (·.1)=none:=by rfl):G3 X (.Tuple es k pos) (Qr n t):=
 PG.mono (Qx hc h hn WJ) λv σ H Q' ⟨d,δ,M,Q,hd,hs,hm,ht,k⟩=>by
 cases d with
 | tup ds=>obtain⟨a,xs,rfl,h1,h2⟩:=hd.mP;exact⟨a,xs,rfl,h1,by rw[<-h2.length];exact ht.1,ds,δ,M,Q,h2,hs,hm,ht.2,k⟩
 | _=>exact ht.elim
def EW(te:T3)(g:C9):xn:=λD δ M=>te δ M λx M1=>g x δ M1 D.nx
def E2{tg e:Expr}{te:T3}{g:C9}(he:E3 X e te)(hg:G3 X tg g)(hs:swapsWithSole [tg] e pos.line X.env=pure false:=by rfl)(hw:swappedStores [tg] e X.env=pure none:=by rfl)
  (h1:(assignEach [tg] X.env).map (·.2)=[assign tg X.env]:=by rfl):S3 X (.Assign [tg] e pos) (EW te g):=PS.mono (QN he hg hs hw h1) λD' σ H zz=>Kj zz λδ M D hs hm ht k1 k2 k3 k4=>
 ⟨δ,M,_,hs,hm,ht,λv H1 d M1 hd Wr e1 q1=>⟨d,δ,M1,_,hd,hs.mono e1,Wr,q1,λσ' H' δ' M' x1 x2 x3 x4 x5=>k1 σ' H' δ' M' x1 x2 (e1.trans x3) x4 x5⟩⟩
def Rn{i:Nat}{x:Str}{e:Expr}{te:T3}{Wy:Pos}(hN:X.N.Nodup)(hi:X.N[i]?=some x)(hx:Ki X.env.scope x)(he:E3 X e te)(XT:swapsWith e (some (.Name x Wy)) pos.line X.env=pure false:=by rfl)
  (hf:Kk X x:=by first|exact .inl rfl|exact .inr rfl|assumption):S3 X (.Assign [.Name x Wy] e pos) (EW te (sO i)):=PS.nO (MT hN hi hx he XT hf) λD' σ H hl zz=>Kj zz λδ M D hs hm ht k1 k2 k3 k4=>
 ⟨δ,M,_,hs,hm,ht,λv H1 d M1 hd Wr e1 q1=>k1 _ H1 _ M1 ((hs.mono e1).set hd (by rw[hl];exact(cX.mp hi).1)) Wr e1 (by simp) q1⟩
end
abbrev rh:=List D->Mp->DK->Prop
def Nn(K:ql)(sp:rh):Sp:=λvs H Q' _=>Df λds M Q=>qd K H ds vs/\HM K H M/\sp ds M Q/\Up K H Q' Q
def wz(N:QQQ)(ds:List D):uX:=ds.map some++List.replicate (N.length - ds.length) none
def Dm{K:ql}{H:Hp}{N:QQQ}{ds:List D}{vs:List V}(h:qd K H ds vs):yG K H (L2.start N vs) (wz N ds):=λi d q=>by
 unfold wz at q;unfold L2.start;by_cases hi:i<ds.length
 .rw[eO (by simpa using hi),dA]at q;cases e:ds[i]? with
  | none=>rw[e]at q;cases q
  | some d'=>rw[e]at q;cases q;obtain⟨v,e1,e2⟩:=h.get e;refine⟨v,?_,e2⟩;rw[eO (by rw[cT,<-h.length];exact hi),dA,e1];rfl
 .rw[eB (by simpa using hi),jK]at q;split at q<;>cases q
variable {P:Pg}{w:Wo}{mg:QQZ}{base:Heap}
abbrev SH(P:Pg)(w:Wo)(K:ql)(mg:QQZ)(base:Heap)(k:Nat)(f:Addr)(fd:FuncData)(ps:QQQ)(sp:rh):Prop:=xh P w K mg base Nk k f fd ps (Nn K sp)
variable {k:Nat}{f C:Addr}{fd:FuncData}{ps:QQQ}{sp:rh}{x m fn:Str}{p Ws:Pos}{e o:Expr}{es:List Expr}{t:xi}
def DH(sp:rh)(t:xi):T3:=λδ M Q=>t δ M λds M1=>sp ds M1 Q
def NN(F:SH X.prog X.w X.K X.mg X.base k f fd ps sp)(hr:rR k X.A)(hg:Gl X x)(hm:X.mg x=some (.ref f))(hk:W.keepIn X.K (.ref f)=true)(hb:uL X.K fd ps [])(ha:A3 X (e::es) t) (WK:yP x:=by decide) (he:AL X e es:=by rfl) (WH:Cr X pos es:=by rfl):
  E3 X (.Call (.Name x p) (e::es) [] pos) (DH sp t):=PE.mono (PK F hr hg hm hk hb .nil (FV (X:=X)) ha WK he WH) λσ H Q' zz=>x7 zz λδ M Q hs hm ht k=>
 ⟨δ,M,_,hs,hm,ht,λvs H1 ds M1 hd Wr e1 q1=>⟨ds,M1,Q,by rw[eS];exact hd,Wr,q1,vv e1 k⟩⟩
def C3(X:Cx)(f:Vl)(r:rh):Prop:=zF X f λvs H Q'=>∃ds M Q,qd X.K H ds vs/\HM X.K H M/\r ds M Q/\Up X.K H Q' Q
def pQ{id:String}{r:rh}(hc:C3 X (.builtin id) r)(hg:Gl X x)(hm:X.mg x=none)(hv:bootBuiltins x=some (.builtin id))(ha:A3 X (e::es) t)(hn:x≠"__name__":=by decide)(WK:yP x:=by decide)
  (he:AL X e es:=by rfl) (WH:Cr X pos es:=by rfl):E3 X (.Call (.Name x p) (e::es) [] pos) (DH r t):=
 PE.mono (M8 hc hg hm hv ha hn WK he WH) λσ H Q' zz=>x7 zz λδ M Q hs hm ht k=>⟨δ,M,_,hs,hm,ht,λvs H1 ds M1 hd Wr e1 q1=>⟨ds,M1,Q,hd,Wr,q1,vv e1 k⟩⟩
def qx{T:String}{r:rh}(hc:C3 X (.type T) r)(hg:Gl X x)(hm:X.mg x=none)(hv:bootBuiltins x=some (.type T))(ha:A3 X (e::es) t)(hn:x≠"__name__":=by decide)(WK:yP x:=by decide)
  (he:AL X e es:=by rfl) (WH:Cr X pos es:=by rfl):E3 X (.Call (.Name x p) (e::es) [] pos) (DH r t):=
 PE.mono (J5 hc hg hm hv ha hn WK he WH) λσ H Q' zz=>x7 zz λδ M Q hs hm ht k=>⟨δ,M,_,hs,hm,ht,λvs H1 ds M1 hd Wr e1 q1=>⟨ds,M1,Q,hd,Wr,q1,vv e1 k⟩⟩
def TV(ds:List D)(M:Mp)(Q:DK):Prop:=match ds with
 | [.str z]=>z.length<=sizeLine/\Q (.int z.length) M
 | [.tup es]=>Q (.int es.length) M
 | [.ref a]=>(oR M a).elim False λes=>Q (.int es.length) M
 | [.rl es]=>Q (.int es.length) M
 | _=>False
def rQ{K:ql}{H:Hp}{d:D}{vs:List V}(h:qd K H [d] vs):∃v,vs=[v]/\rH K H d v:=by obtain⟨x,r,rfl,a,b⟩:=h.inv;rw[b.nil_inv];exact⟨x,rfl,a⟩
def Fu{K:ql}{H:Hp}{d e:D}{vs:List V}(h:qd K H [d,e] vs):∃v u,vs=[v,u]/\rH K H d v/\rH K H e u:=by obtain⟨x,r,rfl,a,b⟩:=h.inv;obtain⟨y,rfl,c⟩:=rQ b;exact⟨x,y,rfl,a,c⟩
def qu:C3 X (.builtin "len") TV:=by
 intro Wp s σ H vs us Q' I rv h;obtain⟨ds,M,Q,hd,hm,q,k⟩:=h;unfold TV at q;split at q
 .obtain⟨v,rfl,hv⟩:=rQ hd;cases hv.str_inv;exact Fk Wp s σ H _ us Q' I rv ⟨_,rfl,q.1,k _ _ _ _ .int hm .refl q.2⟩
 .obtain⟨v,rfl,hv⟩:=rQ hd;obtain⟨a,xs,rfl,h1,h2⟩:=hv.mP;exact wH Wp s σ H _ us Q' I rv ⟨a,xs,rfl,.inr h1,k _ _ _ _ (by rw[<-h2.length];exact .int) hm .refl q⟩
 .obtain⟨v,rfl,hv⟩:=rQ hd;obtain⟨es,e0,q⟩:=qP q;cases hv.mH;obtain⟨xs,h1,h2,_⟩:=qo hm e0;exact wH Wp s σ H _ us Q' I rv ⟨_,xs,rfl,.inl h1,k _ _ _ _ (by rw[<-h2.length];exact .int) hm .refl q⟩
 .obtain⟨v,rfl,hv⟩:=rQ hd;obtain⟨a,xs,rfl,h1,h2⟩:=hv.mZ;exact wH Wp s σ H _ us Q' I rv ⟨a,xs,rfl,.inl h1.sq,k _ _ _ _ (by rw[<-h2.length];exact .int) hm .refl q⟩
 .exact q.elim
def T6(ds:List D)(M:Mp)(Q:DK):Prop:=match ds with
 | [.int i,.int j]=>Q (.int (if j<i then j else i)) M
 | _=>False
def Sh(hc:X.calm=true):C3 X (.builtin "min") T6:=by
 intro Wp s σ H vs us Q' I rv h;obtain⟨ds,M,Q,hd,hm,q,k⟩:=h;unfold T6 at q;split at q
 .obtain⟨v,u,rfl,hv,hw⟩:=Fu hd;cases hv.int_inv;cases hw.int_inv;exact JU hc Wp s σ H _ us Q' I rv ⟨_,_,rfl,k _ _ _ _ .int hm .refl q⟩
 .exact q.elim
def LX(ds:List D)(M:Mp)(Q:DK):Prop:=match ds with
 | [.tup es]=>Q (.tup es) M
 | [.ref a]=>(oR M a).elim False λes=>Q (.tup es) M
 | [.rl es]=>Q (.tup es) M
 | _=>False
def ue:C3 X (.type "tuple") LX:=by
 intro Wp s σ H vs us Q' I rv h;obtain⟨ds,M,Q,hd,hm,q,k⟩:=h;unfold LX at q;split at q
 .obtain⟨v,rfl,hv⟩:=rQ hd;obtain⟨a,xs,rfl,h1,h2⟩:=id hv.mP;exact vS Wp s σ H _ us Q' I rv ⟨a,xs,rfl,.inr ⟨h1,k _ _ _ _ hv hm .refl q⟩⟩
 .obtain⟨v,rfl,hv⟩:=rQ hd;obtain⟨es,e0,q⟩:=qP q;cases hv.mH;obtain⟨xs,h1,h2,_⟩:=qo hm e0;refine vS Wp s σ H _ us Q' I rv ⟨_,xs,rfl,.inl ⟨h1,λl hl=>?_⟩⟩;have e:qO X.K H (upd H l (.tup xs)):=.new hl;exact k _ _ _ _ (.tup (.of pZ) (h2.mono e)) (hm.add hl) e q
 .obtain⟨v,rfl,hv⟩:=rQ hd;obtain⟨a,xs,rfl,h1,h2⟩:=hv.mZ;refine vS Wp s σ H _ us Q' I rv ⟨_,xs,rfl,.inl ⟨h1.sq,λl hl=>?_⟩⟩;have e:qO X.K H (upd H l (.tup xs)):=.new hl;exact k _ _ _ _ (.tup (.of pZ) (h2.mono e)) (hm.add hl) e q
 .exact q.elim
def Qt(ds:List D)(M:Mp)(Q:DK):Prop:=match ds with
 | [d]=>(KW M d).elim False λes=>∀p,M p=none->Q (.ref p) (pD M p (.lst es))
 | _=>False
def tU:C3 X (.type "list") Qt:=by
 intro Wp s σ H vs us Q' I rv h;obtain⟨ds,M,Q,hd,hm,q,k⟩:=h;unfold Qt at q;split at q
 .obtain⟨v,rfl,hv⟩:=rQ hd;obtain⟨es,e0,q⟩:=qP q;obtain⟨p,xs,rfl,h1,h2⟩:=E5 hm hv e0;refine ER Wp s σ H _ us Q' I rv ⟨p,xs,rfl,h1,λl hl=>?_⟩;have e:qO X.K H (upd H l (.lst xs)):=.new hl;exact k _ _ _ _ .ref (hm.new (c:=.lst es) hl ⟨_,pZ,h2.mono e⟩) e (q l (hm.fresh hl))
 .exact q.elim
theorem wI{K:ql}{H:Hp}{f:Str}:∀{fs:List (Str×D)} {vs:List (Str×V)},BW K H fs vs->(∀d,fs.lookup f=some d->∃v,vs.lookup f=some v/\rH K H d v)/\(fs.lookup f=none->vs.lookup f=none)
 | [],[],_=>⟨λd e=>by simp at e,λ_=>rfl⟩
 | [],_::_,h=>by have:=h.1;simp at this
 | _::_,[],h=>by have:=h.1;simp at this
 | (g,d)::fs,(g',v)::vs,h=>by
  have h1:g'=g/\vs.map (·.1)=fs.map (·.1):=by
   have:=h.1
   simpa using this
  obtain⟨x,r,e,a,b⟩:=h.2.inv;have e':v::vs.map (·.2)=x::r:=e;cases e';obtain⟨i1,i2⟩:=wI (f:=f) (fs:=fs) (vs:=vs) ⟨h1.2,b⟩;rw[h1.1];refine⟨λd' e=>?_,λe=>?_⟩
  .rw[eL]at e ⊢;cases q:f==g with
   | true=>rw[q]at e;cases e;exact⟨v,rfl,a⟩
   | false=>rw[q]at e;exact i1 d' e
  .rw[eL]at e ⊢;cases q:f==g with
   | true=>rw[q]at e;cases e
   | false=>rw[q]at e;exact i2 e
theorem II{f:Str}{d:D}:∀{fs:List (Str×D)},fs.lookup f=some d->f∈fs.map (·.1)
 | [],h=>by simp at h
 | (g,e)::r,h=>by
  rw[eL]at h;cases q:f==g with
  | true=>
   have z:f=g:=by simpa using q
   rw[z,dS];exact dN
  | false=>rw[q]at h;simp[II h]
def Af(o:Option uN)(F:Addr->List (Str×D)->Prop):Prop:=match o with
 | some (.ins C fs)=>F C fs
 | _=>False
def pj{o:Option uN}{F:Addr->List (Str×D)->Prop}{C:Addr}{fs:List (Str×D)}(e:o=some (.ins C fs))(h:F C fs):Af o F:=by rw[e];exact h
def xq{o:Option uN}{F:Addr->List (Str×D)->Prop}(h:Af o F):∃C fs,o=some (.ins C fs)/\F C fs:=by
 unfold Af at h;split at h
 .exact⟨_,_,rfl,h⟩
 .exact h.elim
def VD(f:Str)(ta:T3):T3:=λδ M Q=>ta δ M λx M1=>match x with
 | .ref a=>Af (M1 a) λ_ fs=>(fs.lookup f).elim False λd=>Q d M1
 | _=>False
def pB{f:Str}(he:E3 X o ta)(hb:attributeBase o f X.env (eval o X.env)=eval o X.env:=by rfl):E3 X (.Attribute o f pos) (VD f ta):=PE.mono (RP he hb) λσ H Q' zz=>x7 zz λδ M Q hs hm ht k=>
 ⟨δ,M,_,hs,hm,ht,λv H1 d M1 hd Wr e1 q1=>by
  cases d with
  | ref a=>cases hd.mH;obtain⟨C,fs,e,q1⟩:=xq q1;obtain⟨d,e2,q⟩:=qP q1;obtain⟨dx,vs,h1,cl,na,fo⟩:=Wr a _ e;obtain⟨v,e3,hv⟩:=(wI fo).1 d e2;exact⟨a,C,dx,vs,v,rfl,h1,cl,na f (II e2),e3,k v H1 d M1 hv Wr e1 q⟩
  | _=>exact q1.elim⟩
def vT(f:Str)(v:D):List (Str×D)->List (Str×D)
 | []=>[(f,v)]
 | (g,u)::r=>if g=f then(g,v)::r else(g,u)::vT f v r
theorem D8{K:ql}{H:Hp}{f:Str}{d:D}{v:V}(hv:rH K H d v):∀{fs:List (Str×D)} {vs:List (Str×V)},BW K H fs vs->BW K H (vT f d fs) (vB f v vs)
 | [],[],_=>⟨rfl,.cons hv .nil⟩
 | [],_::_,h=>by have:=h.1;simp at this
 | _::_,[],h=>by have:=h.1;simp at this
 | (g,e)::fs,(g',u)::vs,h=>by
  have h1:g'=g/\vs.map (·.1)=fs.map (·.1):=by
   have:=h.1
   simpa using this
  obtain⟨x,r,e1,a,b⟩:=h.2.inv;have e':u::vs.map (·.2)=x::r:=e1;cases e';obtain⟨hg,ht⟩:=h1;subst hg;rw[show vT f d ((g',e)::fs)=(if g'=f then(g',d)::fs else(g',e)::vT f d fs)from rfl,show vB f v ((g',u)::vs)=(if g'=f then(g',v)::vs else(g',u)::vB f v vs)from rfl];by_cases q:g'=f
  .rw[c9 q,c9 q];exact⟨by simpa using ht,.cons hv b⟩
  .rw[cY q,cY q];obtain⟨i1,i2⟩:=D8 hv (fs:=fs) (vs:=vs) ⟨ht,b⟩;exact⟨by simpa using i1,.cons a i2⟩
theorem B9{f:Str}{d:D}:∀{fs:List (Str×D)} {g:Str},g∈(vT f d fs).map (·.1)->g=f\/g∈fs.map (·.1)
 | [],g,h=>.inl (by simpa [vT]using h)
 | (k,e)::r,g,h=>by
  rw[show vT f d ((k,e)::r)=(if k=f then(k,d)::r else(k,e)::vT f d r)from rfl]at h;by_cases q:k=f
  .rw[c9 q]at h;exact .inr (by simpa using h)
  .rw[cY q]at h;rw[dS,df]at h;rcases h with h|h
   .exact .inr (by simp[h])
   .rcases B9 h with z|z
    .exact .inl z
    .exact .inr (by simp;right;simpa using z)
def Uo(K:ql)(f:Str)(ta tv:T3):xn:=λD δ M=>tv δ M λy M1=>ta δ M1 λx M2=>match x with
 | .ref a=>Af (M2 a) λC fs=>tX K C f/\fs.length<1000/\D.nx δ (pD M2 a (.ins C (vT f y fs)))
 | _=>False
def pX{f:Str}{value:Expr}{tv:T3}{Wy:Pos}(ha:E3 X o ta)(hv:E3 X value tv)(XT:swapsWith value (some (.Attribute o f Wy)) pos.line X.env=pure false:=by rfl):S3 X (.Assign [.Attribute o f Wy] value pos) (Uo X.K f ta tv):=
 PS.mono (QJ ha hv XT) λD' σ H zz=>Kj zz λδ M D hs hm ht k1 k2 k3 k4=>
 ⟨δ,M,_,hs,hm,ht,λy H1 dy M1 hy Wr e1 q1=>⟨δ,M1,_,hs.mono e1,Wr,q1,λv H2 d M2 hd WI e2 q2=>by
  cases d with
  | ref a=>
   cases hd.mH;obtain⟨C,fs,e,q2⟩:=xq q2;obtain⟨na,hl,q⟩:=q2;obtain⟨dx,vs,h1,cl,nn,fo⟩:=WI a _ e;have Wv:vs.length=fs.length:=by have:=eP List.length fo.1;simpa using this
   refine⟨a,C,dx,vs,rfl,h1,cl,na,by omega,?_⟩;obtain⟨Xk,e3⟩:=WI.put (p:=a) (o:=.ins C dx (vB f y vs)) (c:=.ins C (vT f dy fs)) e λx=>⟨dx,_,pZ,cl,λg hg=>by
    rcases B9 hg with z|z
    .rw[z];exact na
    .exact nn g z,D8 ((hy.mono e2).mono x) (fo.mono x)⟩
   exact k1 σ _ δ _ (hs.mono (e1.trans (e2.trans e3))) Xk (e1.trans (e2.trans e3)) rfl q
  | _=>exact q2.elim⟩⟩
def Qf(C:Addr)(sp:rh)(t:xi):T3:=λδ M Q=>t δ M λds M1=>∀x,M1 x=none->sp (.ref x::ds) (pD M1 x (.ins C [])) λd M2=>d=.mM/\Q (.ref x) M2
def Kx{K:ql}{H:Hp}{M:Mp}{xa dx:Addr}(hm:HM K H M)(cl:Cls K C)(h1:H xa=none)(h2:H dx=none)(ne:dx≠xa):HM K (upd (upd H dx (.own xa)) xa (.ins C dx [])) (pD M xa (.ins C []))/\qO K H (upd (upd H dx (.own xa)) xa (.ins C dx [])):=by
 have W9:upd H dx (.own xa) xa=none:=by rw[pV (dJ ne)];exact h1
 exact⟨(hm.add (p:=dx) (o:=.own xa) h2).new W9 ⟨dx,[],pZ,cl,λg hg=>by simp at hg,rfl,.nil⟩,qO.trans (.new h2) (.new W9)⟩
def Oc(cl:Cls X.K C)(Mk':Mk X.K C f)(F:SH X.prog X.w X.K X.mg X.base k f fd ps sp)(hr:rR (k+1) X.A)(hg:Gl X x)(hm:X.mg x=some (.ref C))(hb:uL X.K fd ps [])(ha:A3 X (e::es) t) (WK:yP x:=by decide) (he:AL X e es:=by rfl) (WH:Cr X pos es:=by rfl):
  E3 X (.Call (.Name x p) (e::es) [] pos) (Qf C sp t):=PE.mono (Pv Mk' F hr hg hm hb .nil (FV (X:=X)) ha WK he WH) λσ H Q' zz=>x7 zz λδ M Q hs hm ht k=>
 ⟨δ,M,_,hs,hm,ht,λvs H1 ds M1 hd Wr e1 q1=>λxa dx n1 n2 ne=>by
  obtain⟨WI,e2⟩:=Kx Wr cl n1 n2 ne;refine⟨.ref xa::ds,_,_,?_,WI,q1 xa (Wr.fresh n1),λv H3 d M3 hd3 Xk e3 q3=>?_⟩
  .rw[eS];exact .cons .ref (hd.mono e2)
  .obtain⟨z,q3⟩:=q3;subst z;exact⟨hd3.mK,k _ H3 _ M3 .ref Xk (e1.trans (e2.trans e3)) q3⟩⟩
def G1(m:Str)(R:Addr->Sp->Prop)(ta:TE)(t:TA):TE:=λσ H Q=>ta σ H λx H1=>∃a C dx fs sp,x=.ref a/\H1 a=some (.ins C dx fs)/\fs.lookup m=none/\R C sp/\t σ H1 λvs H2=>sp (x::vs) H2 Q E0
def xM(P:Pg)(w:Wo)(K:ql)(mg:QQZ)(base:Heap)(k:Nat)(m:Str)(C:Addr)(sp:Sp):Prop:=Cls K C/\∃f fd ps,vA K C m f/\xh P w K mg base Nk k f fd ps sp/\uL K fd ps []
def Mg{R:Addr->Sp->Prop}{ta:TE}{t:TA}{pl:Sem Bool}(he:PE X o ta)(hR:∀C sp,R C sp->xM X.prog X.w X.K X.mg X.base k m C sp)(hr:rR k X.A)(ha:PA X (e::es) t) (WJ:AL X e es:=by rfl) (WH:Cr X pos es:=by rfl)
  (ht:eval (.Call (.Attribute o m Ws) (e::es) [] pos) X.env=(do
   let ov<-eval o X.env
   standAt Ws.atName
   let(f,first)<-holding [ov] (getMethod ov m pl)
   callWith pos f first (backTo pos (starEach (e::es) X.env)) (backToKw pos (keywordEach [] X.env))):=by rfl):
  PE X (.Call (.Attribute o m Ws) (e::es) [] pos) (G1 m R ta t):=by
 intro Wp s σ H Q I h;refine jQ (pl:=pl) (sr (he Wp s σ H _ I h) λu s1 zz=>?_) ht;obtain⟨x,H1,I1,rx,a,C,dx,fs,sp,ex,ea,l,hRC,q⟩:=zz;obtain⟨c,f,fd,ps,hm,F,hb⟩:=hR C sp hRC;subst ex;obtain rfl:u=Value.ref a:=rx;refine Bt I1 ea c hm l ?_;refine iI (first:=[.ref a]) (h₀:=X.base) I.ok.mod.ou hm.kp (sr (ha pos Wp s1 σ H1 _ I1 q) λus s2 zz=>x5 zz λvs H2 I2 r q2=>⟨I2.m7,?_⟩) WJ WH;exact EC (us:=.ref a::us) (vs:=.ref a::vs) F hr hb .nil (FV (X:=X)) I2 (.cons rfl r) (by rw[eS];exact q2)
def Jh{R:Addr->Sp->Prop}{ta:TE}{pl:Sem Bool}(he:PE X o ta)(hR:∀C sp,R C sp->xM X.prog X.w X.K X.mg X.base k m C sp)(hr:rR k X.A) (ht:eval (.Call (.Attribute o m Ws) [] [] pos) X.env=(do
   let ov<-eval o X.env
   standAt Ws.atName
   let(f,first)<-holding [ov] (getMethod ov m pl)
   callWith pos f first (backTo pos (starEach [] X.env)) (backToKw pos (keywordEach [] X.env))):=by rfl):
  PE X (.Call (.Attribute o m Ws) [] [] pos) (G1 m R ta Tg):=by
 intro Wp s σ H Q I h;refine jQ (pl:=pl) (sr (he Wp s σ H _ I h) λu s1 zz=>?_) ht;obtain⟨x,H1,I1,rx,a,C,dx,fs,sp,ex,ea,l,hRC,q⟩:=zz;obtain⟨c,f,fd,ps,hm,F,hb⟩:=hR C sp hRC;subst ex;obtain rfl:u=Value.ref a:=rx;refine Bt I1 ea c hm l ?_;exact W.callWith_K0 (first:=[.ref a]) I1.m7 hm.kp (EC (us:=[.ref a]) (vs:=[.ref a]) F hr hb .nil (FV (X:=X)) I1 (.cons rfl .nil) (by rw[eS];exact q))
def An(m:Str)(R:Addr->rh->Prop)(ta:T3)(t:xi):T3:=λδ M Q=>ta δ M λx M1=>match x with
 | .ref a=>Af (M1 a) λC fs=>fs.lookup m=none/\∃sp,R C sp/\t δ M1 λds M2=>sp (x::ds) M2 Q
 | _=>False
def UU(K:ql)(R:Addr->rh->Prop):Addr->Sp->Prop:=λC sp'=>∃sp,R C sp/\sp'=Nn K sp
def IP{R:Addr->rh->Prop}:∀σ H Q',lo X.K (An m R ta t) σ H Q'->G1 m (UU X.K R) (lo X.K ta) (VQ X.K t) σ H Q':=λσ H Q' zz=>x7 zz λδ M Q hs hm ht k=>
 ⟨δ,M,_,hs,hm,ht,λv H1 d M1 hd Wr e1 q1=>by
  cases d with
  | ref a=>cases hd.mH;obtain⟨C,fs,e,q1⟩:=xq q1;obtain⟨hn,sp,hR,q⟩:=q1;obtain⟨dx,vs,h1,cl,na,fo⟩:=Wr a _ e;exact⟨a,C,dx,vs,_,rfl,h1,(wI fo).2 hn,⟨sp,hR,rfl⟩,δ,M1,_,hs.mono e1,Wr,q,λus H2 ds M2 Xq WI e2 q2=>⟨.ref a::ds,M2,Q,.cons .ref Xq,WI,q2,vv (e1.trans e2) k⟩⟩
  | _=>exact q1.elim⟩
def Ff{R:Addr->rh->Prop}{pl:Sem Bool}(he:E3 X o ta)(hR:∀C sp,R C sp->xM X.prog X.w X.K X.mg X.base k m C (Nn X.K sp))(hr:rR k X.A)(ha:A3 X (e::es) t) (WJ:AL X e es:=by rfl) (WH:Cr X pos es:=by rfl)
  (ht:eval (.Call (.Attribute o m Ws) (e::es) [] pos) X.env=(do
   let ov<-eval o X.env
   standAt Ws.atName
   let(f,first)<-holding [ov] (getMethod ov m pl)
   callWith pos f first (backTo pos (starEach (e::es) X.env)) (backToKw pos (keywordEach [] X.env))):=by rfl):
  E3 X (.Call (.Attribute o m Ws) (e::es) [] pos) (An m R ta t):=PE.mono (Mg (R:=UU X.K R) he (λC sp' ⟨sp,h,z⟩=>by rw[z];exact hR C sp h) hr ha WJ WH ht) IP
def Bz{R:Addr->rh->Prop}{pl:Sem Bool}(he:E3 X o ta)(hR:∀C sp,R C sp->xM X.prog X.w X.K X.mg X.base k m C (Nn X.K sp))(hr:rR k X.A) (ht:eval (.Call (.Attribute o m Ws) [] [] pos) X.env=(do
   let ov<-eval o X.env
   standAt Ws.atName
   let(f,first)<-holding [ov] (getMethod ov m pl)
   callWith pos f first (backTo pos (starEach [] X.env)) (backToKw pos (keywordEach [] X.env))):=by rfl):
  E3 X (.Call (.Attribute o m Ws) [] [] pos) (An m R ta xy):=PE.mono (Jh (R:=UU X.K R) he (λC sp' ⟨sp,h,z⟩=>by rw[z];exact hR C sp h) hr ht) λσ H Q' h=>by
 obtain⟨δ,M,Q,hs,hm,ht,k⟩:=IP (t:=xy) σ H Q' h;refine⟨δ,M,Q,hs,hm,ht,λv H' d M' x1 x2 x3 x4=>?_⟩;obtain⟨a,C,dx,fs,sp,e1,e2,e3,e4,δ',Wu,Q'',y1,y2,y3,y4⟩:=k v H' d M' x1 x2 x3 x4;exact⟨a,C,dx,fs,sp,e1,e2,e3,e4,y4 [] H' [] Wu .nil y2 .refl y3⟩
structure Gk(K:ql)(H1:Hp)(J:It)(ds:List D)(ok:Mp->Prop):Prop where
 go:∀i H M,i<ds.length->HM K H M->ok M->qO K H1 H->J.go i H
 oM:∀i d H M x H',ds[i]?=some d->HM K H M->ok M->qO K H1 H->J.oM i H x H'->rH K H' d x/\HM K H' M/\qO K H H'
 stop:∀H M,HM K H M->ok M->qO K H1 H->J.stop ds.length H
abbrev Nm:=uX->Mp->(List D->(Mp->Prop)->Mp->Prop)->Prop
def V5(K:ql)(wi:Nm):TI:=λσ H R'=>Df λδ M R=>yG K H σ δ/\HM K H M/\wi δ M R/\∀J H1 ds ok M1,Gk K H1 J ds ok->HM K H1 M1->qO K H H1->ok M1->R ds ok M1->R' J H1
def I3(X:Cx)(tg iter:Expr)(wi:Nm):Prop:=PI X tg iter (V5 X.K wi)
def PI.mono{X:Cx}{tg e:Expr}{t t':TI}(h:PI X tg e t)(m:∀σ H Q,t' σ H Q->t σ H Q):PI X tg e t':=λWp s σ H Q I q=>h Wp s σ H Q I (m σ H Q q)
variable {H1:Hp}
def L9{a:Addr}{ds:List D}:Gk K H1 (UD K a) ds (λM=>oR M a=some ds) where
 go:=λi H M hi hm ok _=>by obtain⟨xs,h1,h2,_⟩:=qo hm ok;obtain⟨x,e,_⟩:=h2.get (cW hi);exact⟨xs,x,h1,e⟩
 oM:=λi d H M x H' hd hm ok _ y=>by obtain⟨xs,h1,h2,_⟩:=qo hm ok;obtain⟨e,y⟩:=y;subst e;obtain⟨x',e,hx⟩:=h2.get hd;have:=y xs h1;rw[e]at this;cases this;exact⟨hx,hm,.refl⟩
 stop:=λH M hm ok _=>by obtain⟨xs,h1,h2,_⟩:=qo hm ok;exact⟨xs,h1,by rw[h2.length];exact dg _⟩
def NY{a:Addr}{ds:List D}{xs:List V}(h1:uQ K H1 a xs)(h2:qd K H1 ds xs):Gk K H1 (VH K a) ds (λ_=>True) where
 go:=λi H M hi hm ok e1=>by obtain⟨x,e,_⟩:=h2.get (cW hi);exact⟨xs,x,e1.t _ _ h1,e⟩
 oM:=λi d H M x H' hd hm ok e1 y=>by obtain⟨e,y⟩:=y;subst e;obtain⟨x',e,hx⟩:=h2.get hd;have:=y xs (e1.t _ _ h1);rw[e]at this;cases this;exact⟨hx.mono e1,hm,.refl⟩
 stop:=λH M hm ok e1=>⟨xs,e1.t _ _ h1,by rw[h2.length];exact dg _⟩
def Q9{a:Addr}{ds:List D}{xs:List V}(h1:OX K H1 a xs)(h2:qd K H1 ds xs):Gk K H1 (UD K a) ds (λ_=>True) where
 go:=λi H M hi hm ok e1=>by obtain⟨x,e,_⟩:=h2.get (cW hi);exact⟨xs,x,(h1.mono e1).sq,e⟩
 oM:=λi d H M x H' hd hm ok e1 y=>by obtain⟨e,y⟩:=y;subst e;obtain⟨x',e,hx⟩:=h2.get hd;have:=y xs (h1.mono e1).sq;rw[e]at this;cases this;exact⟨hx.mono e1,hm,.refl⟩
 stop:=λH M hm ok e1=>⟨xs,(h1.mono e1).sq,by rw[h2.length];exact dg _⟩
def J7{n:Nat}{lo:Int}:Gk K H1 (Uy lo n) ((List.range n).map λi=>D.int (lo+(i:Nat))) (λ_=>True) where
 go:=λi H M hi hm ok e1=>by
  have z:i<n:=by simpa using hi
  exact z
 oM:=λi d H M x H' hd hm ok e1 y=>by
  obtain⟨e,y⟩:=y;subst e;subst y;have hi:i<n:=by
   have:=(cX.mp hd).1
   simpa using this
  have hd':d=D.int (lo+(i:Nat)):=by rw[dA,iW hi]at hd;exact(dh hd).symm
  subst hd';exact⟨.int,hm,.refl⟩
 stop:=λH M hm ok e1=>by show n<=_;simp
variable {scope:Scope}{ix:List (Option Nat)}{N':QQQ}{iter Xh:Expr}{W0:List Expr}{wi:Nm}{g:C9}{tt:As}{te:T3}{tg:Expr}
def Tx(t:T3):Nm:=λδ M R=>t δ M λx M1=>match x with
 | .tup ds=>R ds (λ_=>True) M1
 | .ref a=>(oR M1 a).elim False λds=>R ds (λM=>oR M a=some ds) M1
 | .rl ds=>R ds (λ_=>True) M1
 | .str z=>R (z.cps.toList.map λc=>D.str ⟨#[c]⟩) (λ_=>True) M1
 | _=>False
def O9{K:ql}{H1:Hp}{z:Str}:Gk K H1 (Ve z) (z.cps.toList.map λc=>D.str ⟨#[c]⟩) (λ_=>True) where
 go:=λi H M hi hm ok _=>by
  show i<z.cps.size
  simpa using hi
 oM:=λi d H M x H' hd hm ok _ y=>by obtain⟨e,c,e1,e2⟩:=y;subst e e2;rw[dA,Array.getElem?_toList,e1]at hd;cases hd;exact⟨.str,hm,.refl⟩
 stop:=λH M hm ok _=>by show _=z.cps.size;simp
def qH{l:Expr}{t:T3}(h:E3 X l t)(hc:X.calm=true:=by rfl):I3 X tg l (Tx t):=PI.mono (OT hc h) λσ H R' zz=>x7 zz λδ M R hs hm ht k=>
 ⟨δ,M,_,hs,hm,ht,λv H1 d M1 hd Wr e1 q1=>by
  cases d with
  | tup ds=>obtain⟨a,xs,rfl,h1,h2⟩:=hd.mP;exact .inl ⟨a,rfl,.inr ⟨⟨xs,h1⟩,k _ H1 ds _ M1 (NY h1 h2) Wr e1 trivial q1⟩⟩
  | ref a=>cases hd.mH;obtain⟨ds,e0,q⟩:=qP q1;obtain⟨xs,h1,h2,_⟩:=qo Wr e0;exact .inl ⟨a,rfl,.inl ⟨⟨xs,h1⟩,k _ H1 ds _ M1 L9 Wr e1 e0 q⟩⟩
  | str z=>exact .inr ⟨z,hd.str_inv,k _ H1 _ _ M1 O9 Wr e1 trivial q1⟩
  | rl ds=>obtain⟨a,xs,rfl,h1,h2⟩:=hd.mZ;exact .inl ⟨a,rfl,.inl ⟨⟨xs,h1.sq⟩,k _ H1 ds _ M1 (Q9 h1 h2) Wr e1 trivial q1⟩⟩
  | _=>exact q1.elim⟩
def Ti(t:xi):Nm:=λδ M R=>t δ M λds M1=>match ds with
 | [.int j]=>(-(2 ^ 62)<=j/\j<2 ^ 62)/\R ((List.range j.toNat).map λi=>D.int (0+(i:Nat))) (λ_=>True) M1
 | [.int i,.int j]=>(-(2 ^ 62)<=i/\i<2 ^ 62/\-(2 ^ 62)<=j/\j<2 ^ 62)/\R ((List.range (j - i).toNat).map λn=>D.int (i+(n:Nat))) (λ_=>True) M1
 | _=>False
def uY{a:Expr}{ta:xi}(hg:Gl X "range")(hm:X.mg "range"=none)(ha:A3 X [a] ta)(hs:starEach [a] X.env=[(false,eval a X.env)]:=by rfl):I3 X tg (.Call (.Name "range" p) [a] [] pos) (Ti λδ M Q=>ta δ M λds M1=>ds.length=1/\Q ds M1):=
 PI.mono (JL hg hm ha hs) λσ H R' zz=>x7 zz λδ M R hs hm ht k=>⟨δ,M,_,hs,hm,ht,λvs H1 ds M1 hd Wr e1 q1=>by
  obtain⟨hl,q1⟩:=q1;split at q1
  .obtain⟨v,rfl,hv⟩:=rQ hd;cases hv.int_inv;exact⟨_,rfl,q1.1.1,q1.1.2,k _ H1 _ _ M1 J7 Wr e1 trivial q1.2⟩
  .simp at hl
  .exact q1.elim⟩
def EH(g:C9)(tb:xn)(ok:Mp->Prop)(E:Gz):List D->uX->Mp->Prop
 | [],δ,M=>E.nx δ M
 | d::r,δ,M=>g d δ M λδ2 M2=>tb {E with nx:=λδ' M'=>ok M'/\EH g tb ok E r δ' M',ct:=λδ' M'=>ok M'/\EH g tb ok E r δ' M',bk:=E.nx} δ2 M2
def Tw(wi:Nm)(g:C9)(tb:xn):xn:=λE δ M=>wi δ M λds ok M1=>EH g tb ok E ds δ M1
def uB{iter:Expr}{body:List Stmt}{wi:Nm}{g:C9}{tb:xn}(hp:PassesOwn (model X.prog X.w) X.A X.env X.xe)(hc:X.calm=true)(hi:I3 X tg iter wi)(hg:G3 X tg g)(hb:GX X body tb) (hs:∀x,foldedSetIterable iter X.env x=pure x:=by intro _;rfl):S3 X (.For tg iter body [] pos) (Tw wi g tb):=PS.mono (QV hp hc hi hg hb hs) λD' σ H zz=>Kj zz λδ M E hs hm ht k1 k2 k3 k4=>
 ⟨δ,M,_,hs,hm,ht,λJ H1 ds ok M1 S Wr e1 ok1 q1=>by
  refine⟨λi m σ' H'=>m=ds.length - i/\i<=ds.length/\∃δ' M',yG X.K H' σ' δ'/\HM X.K H' M'/\ok M'/\qO X.K H1 H'/\σ'.length=σ.length/\EH g tb ok E (ds.drop i) δ' M',⟨ds.length,by simp,eE _,δ,M1,hs.mono e1,Wr,ok1,.refl,rfl,by simpa using q1⟩,?_⟩
  rintro i m σ' H' ⟨rfl,hi,δ',M',YZ,XU,Zt,e',l',q'⟩
  by_cases WA:i<ds.length
  .rw[gI WA]at q';refine .inr ⟨S.go i H' M' WA XU Zt e',λσ2 H2=>∃δ2 M2,yG X.K H2 σ2 δ2/\HM X.K H2 M2/\ok M2/\qO X.K H1 H2/\σ2.length=σ.length/\EH g tb ok E (ds.drop (i+1)) δ2 M2,λσ2 H2 z=>⟨ds.length - (i+1),by omega,rfl,WA,z⟩,λx H2 y=>?_⟩;obtain⟨hx,WI,e2⟩:=S.oM i ds[i] H' M' x H2 (cW WA) XU Zt e' y;refine⟨ds[i],δ',M',_,hx,YZ.mono e2,WI,q',λσ3 H3 δ3 M3 x1 x2 x3 x4 x5=>?_⟩;refine⟨δ3,M3,_,x1,x2,x5,λσ4 H4 δ4 M4 y1 y2 y3 y4 y5=>?_,λv H4 d M4 y1 y2 y3 y4=>?_,λσ4 H4 δ4 M4 y1 y2 y3 y4 y5=>?_,λσ4 H4 δ4 M4 y1 y2 y3 y4 y5=>?_⟩
   .exact⟨δ4,M4,y1,y2,y5.1,e'.trans (e2.trans (x3.trans y3)),by rw[y4,x4,l'],y5.2⟩
   .exact k2 v H4 d M4 y1 y2 (e1.trans (e'.trans (e2.trans (x3.trans y3)))) y4
   .exact k1 σ4 H4 δ4 M4 y1 y2 (e1.trans (e'.trans (e2.trans (x3.trans y3)))) (by rw[y4,x4,l']) y5
   .exact⟨δ4,M4,y1,y2,y5.1,e'.trans (e2.trans (x3.trans y3)),by rw[y4,x4,l'],y5.2⟩
  .have e:i=ds.length:=by omega
   subst e;rw[jD]at q';exact .inl ⟨S.stop H' M' XU Zt e',k1 σ' H' δ' M' YZ XU (e1.trans e') l' q'⟩⟩
def NR(ix:List (Option Nat))(δ:uX):uX:=ix.map λo=>o.bind λi=>(δ[i]?).join
def NJ{K:ql}{H:Hp}{σ:St}{δ:uX}{ix:List (Option Nat)}(h:yG K H σ δ):yG K H (ON ix σ) (NR ix δ):=λi d q=>by
 unfold NR at q;unfold ON;rw[dA]at q ⊢;cases e:ix[i]? with
 | none=>rw[e]at q;cases q
 | some o=>
  rw[e]at q;cases o with
  | none=>cases q
  | some j=>
   have q':(δ[j]?).join=some d:=dh q;have e4:δ[j]?=some (some d):=by
    cases r:δ[j]? with
    | none=>rw[r]at q';cases q'
    | some w=>rw[r]at q';exact eP some q'
   obtain⟨v,e5,hv⟩:=h j d e4;refine⟨v,?_,hv⟩;show some ((σ[j]?).join)=some (some v);rw[e5];rfl
def uV(g:C9)(tt:As)(te:T3)(ok:Mp->Prop)(Q:DK):List D->List D->uX->Mp->Prop
 | [],acc,_,M=>acc.length<=sizeLine/\∀p,M p=none->Q (.ref p) (pD M p (.lst acc))
 | d::r,acc,δ,M=>acc.length<sizeLine/\g d δ M λδ2 M2=>tt δ2 M2 λb M3=>if b=true then te δ2 M3 λy M4=>ok M4/\uV g tt te ok Q r (acc++[y]) δ2 M4 else ok M3/\uV g tt te ok Q r acc δ2 M3
def Mn(ix:List (Option Nat))(wi:Nm)(g:C9)(tt:As)(te:T3):T3:=λδ M Q=>wi δ M λds ok M1=>uV g tt te ok Q ds [] (NR ix δ) M1
def F3(X:Cx)(W0:List Expr)(t:As):Prop:=PF X W0 (SA X.K t)
def PF.mono{X:Cx}{e:List Expr}{t t':TT}(h:PF X e t)(m:∀σ H Q,t' σ H Q->t σ H Q):PF X e t':=λWp s σ H Q I q=>h Wp s σ H Q I (m σ H Q q)
def Bf:As:=λ_ M Q=>Q true M
def rO:F3 X [] Bf:=PF.mono Qu λσ H Q' zz=>x7 zz λδ M Q hs hm ht k=>k true H M hm .refl ht
def vQ{c:Expr}{t:As}(h:B3 X c t):F3 X [c] t:=QE h
def H9:∀σ H Q',lo X.K (Mn ix wi g tt te) σ H Q'->LV ix (V5 X.K wi) (UH X.K g) (SA X.K tt) (lo X.K te) σ H Q':=λσ H Q' zz=>x7 zz λδ M Q hs hm ht k=>
 ⟨δ,M,_,hs,hm,ht,λJ H1 ds ok M1 S Wr e1 ok1 q1=>by
  refine⟨λi m ys σ' H'=>m=ds.length - i/\i<=ds.length/\∃δ' M' acc,yG X.K H' σ' δ'/\HM X.K H' M'/\qd X.K H' acc ys/\ok M'/\qO X.K H1 H'/\uV g tt te ok Q (ds.drop i) acc δ' M',⟨ds.length,by simp,eE _,NR ix δ,M1,[],NJ (hs.mono e1),Wr,.nil,ok1,.refl,by simpa using q1⟩,?_⟩
  rintro i m ys σ' H' ⟨rfl,hi,δ',M',acc,YZ,XU,X1,Zt,e',q'⟩
  by_cases WA:i<ds.length
  .rw[gI WA]at q';obtain⟨hz,q'⟩:=q';refine .inr ⟨S.go i H' M' WA XU Zt e',by rw[<-X1.length];exact hz,λx H2 y=>?_⟩;obtain⟨hx,WI,e2⟩:=S.oM i ds[i] H' M' x H2 (cW WA) XU Zt e' y;refine⟨ds[i],δ',M',_,hx,YZ.mono e2,WI,q',λσ3 H3 δ3 M3 x1 x2 x3 x4 x5=>?_⟩;refine⟨δ3,M3,_,x1,x2,x5,λb H4 M4 y2 y3 y5=>?_⟩;cases b with
   | true=>rw[c9 rfl]at y5 ⊢;refine⟨δ3,M4,_,x1.mono y3,y2,y5,λv H5 d M5 z1 z2 z3 z4=>⟨ds.length - (i+1),by omega,rfl,WA,δ3,M5,acc++[d],x1.mono (y3.trans z3),z2,(X1.mono (e2.trans (x3.trans (y3.trans z3)))).snoc z1,z4.1,e'.trans (e2.trans (x3.trans (y3.trans z3))),z4.2⟩⟩
   | false=>rw[cY dw]at y5 ⊢;exact⟨ds.length - (i+1),by omega,rfl,WA,δ3,M4,acc,x1.mono y3,y2,X1.mono (e2.trans (x3.trans y3)),y5.1,e'.trans (e2.trans (x3.trans y3)),y5.2⟩
  .have e:i=ds.length:=by omega
   subst e;rw[jD]at q';refine .inl ⟨S.stop H' M' XU Zt e',by rw[<-X1.length];exact q'.1,λp hp=>?_⟩;have e5:qO X.K H' (upd H' p (.lst ys)):=.new hp;exact k _ _ _ _ .ref (XU.new (c:=.lst acc) hp ⟨_,pZ,X1.mono e5⟩) (e1.trans (e'.trans e5)) (q'.2 p (XU.fresh hp))⟩
def qJ(hc:X.calm=true)(S:rZ X scope ix N')(hi:I3 X tg iter wi)(hg:∀{C s0 H0 ex},G3 (X.comp scope N' C s0 H0 ex) tg g)(ht:∀{C s0 H0 ex},F3 (X.comp scope N' C s0 H0 ex) W0 tt)(he:∀{C s0 H0 ex},E3 (X.comp scope N' C s0 H0 ex) Xh te) (hs:∀x,foldedSetIterable iter X.env x=pure x:=by intro _;rfl):E3 X (.ListComp Xh [⟨tg,iter,W0,0⟩] scope pos) (Mn ix wi g tt te):=PE.mono (PR (g:=UH X.K g) (tt:=SA X.K tt) (te:=lo X.K te) hc S hi (λ_ _ _ _=>hg) (λ_ _ _ _=>ht) (λ_ _ _ _=>he) hs) H9
def vt{i:Nat}{x:Str}{px X9:Pos}(hN:X.N.Nodup)(YC:X.N[i]?=some x)(hx:Ki X.env.scope x)(hc:X.calm=true)(S:rZ X scope ix N')(hi:I3 X tg iter wi)(hg:∀{C s0 H0 ex},G3 (X.comp scope N' C s0 H0 ex) tg g)(ht:∀{C s0 H0 ex},F3 (X.comp scope N' C s0 H0 ex) W0 tt) (he:∀{C s0 H0 ex},E3 (X.comp scope N' C s0 H0 ex) Xh te) (XT:swapsWith (.ListComp Xh [⟨tg,iter,W0,0⟩] scope pos) (some (.Name x px)) X9.line X.env=pure true:=by rfl)
  (hf:Kk X x:=by first|exact .inl rfl|exact .inr rfl|assumption) (hs:∀x,foldedSetIterable iter X.env x=pure x:=by intro _;rfl):
  S3 X (.Assign [.Name x px] (.ListComp Xh [⟨tg,iter,W0,0⟩] scope pos) X9) (EW (Mn ix wi g tt te) (sO i)):=PS.nO (Hs (g:=UH X.K g) (tt:=SA X.K tt) (te:=lo X.K te) hN YC hx hc S hi (λ_ _ _ _=>hg) (λ_ _ _ _=>ht) (λ_ _ _ _=>he) XT hf hs) λD' σ H hl zz=>Kj zz λδ M D hs hm ht k1 k2 k3 k4=>
 H9 σ H _ ⟨δ,M,_,hs,hm,ht,λv H1 d M1 hd Wr e1 q1=>k1 _ H1 _ M1 ((hs.mono e1).set hd (by rw[hl];exact(cX.mp YC).1)) Wr e1 (by simp) q1⟩
def VZ{A:Ar}{k:Nat}(hr:rR k A):A.units+9<cLine:=by have:=hr.units;omega
def Hd(sc:Scope)(N:QQQ)(scope:Scope)(ix:List (Option Nat))(N':QQQ):Bool:=
 (scope.kind==.function)&&(scope.names.all λy=>!(y.2==.cell))&&(scope.names.all λy=>!(y.2==.local)||(scope.names.lookup y.1==some .local))&&
 (scope.names.all λy=>!(y.2==.free)||(sc.names.lookup y.1==some .cell)||(sc.names.lookup y.1==some .free))&&(ix.length==N'.length)&&
 ((ix.zip N').all λp=>match p.1 with|none=>true|some i=>(N[i]?==some p.2)&&(scope.names.lookup p.2==some .free))
def SQ{X:Cx}{scope:Scope}{ix:List (Option Nat)}{N':QQQ}(h:Hd X.env.scope X.N scope ix N'=true):rZ X scope ix N':=by
 unfold Hd at h;simp only[dU]at h;obtain⟨⟨⟨⟨⟨h1,h2⟩,h3⟩,h4⟩,h5⟩,h6⟩:=h;refine⟨by simpa using h1,λy hy e=>?_,λy hy e=>?_,λy hy e=>?_,by simpa using h5,λj i x e1 e2=>?_⟩
 .have:=eM.mp h2 y hy;rw[e]at this;simp at this
 .have:=eM.mp h3 y hy;rw[e]at this
  simpa using this
 .have:=eM.mp h4 y hy;rw[e]at this
  simpa using this
 .have hm:(some i,x)∈ix.zip N':=by
   have:(ix.zip N')[j]?=some (some i,x):=by rw[List.getElem?_zip_eq_some];exact⟨e1,e2⟩
   exact fO this
  have:=eM.mp h6 _ hm
  simpa using this
section
variable {a b:Expr}
def Il(op Xg:CmpOp)(ta tb tc:T3):T3:=λδ M Q=>ta δ M λx M1=>tb δ M1 λy M2=>Pu op x y M2 λz M3=>match z with
 | .bl k=>if k=true then tc δ M3 λw M4=>Pu Xg y w M4 Q else Q (.bl false) M3
 | _=>False
def uj{op Xg:CmpOp}(hu:X.A.units+9<cLine)(ha:E3 X a ta)(hb:E3 X b tb)(hc:E3 X c tc)(hmk:lastMarks [op,Xg] [b,c]=false:=by rfl):
  E3 X (.Compare a [op,Xg] [b,c] pos) (Il op Xg ta tb tc):=PE.mono (K9 (JQ op hu) (JQ Xg hu) ha hb hc hmk) λσ H Q' zz=>x7 zz λδ M Q hs hm ht k=>
 ⟨δ,M,_,hs,hm,ht,λv H1 x M1 hx Wr e1 q1=>⟨δ,M1,_,hs.mono e1,Wr,q1,λu H2 y M2 hy WI e2 q2=>⟨x,y,M2,_,hx.mono e2,hy,WI,q2,λw H3 z M3 hz Xk e3 q3=>by
  cases z with
  | bl c=>
   refine⟨c,hz.mL,?_⟩;cases c with
   | true=>refine(c9 rfl).mpr ⟨δ,M3,_,hs.mono (e1.trans (e2.trans e3)),Xk,(c9 rfl).mp q3,λw' H4 d M4 hd hm4 e4 q4=>⟨y,d,M4,Q,hy.mono (e3.trans e4),hd,hm4,q4,vv (e1.trans (e2.trans (e3.trans e4))) k⟩⟩
   | false=>exact(cY dw).mpr (k _ H3 _ M3 .bl Xk (e1.trans (e2.trans e3)) ((cY dw).mp q3))
  | _=>exact q3.elim⟩⟩⟩
def Gp{op Xg:CmpOp}(hu:X.A.units+9<cLine)(ha:E3 X a ta)(hb:E3 X b tb)(hc:E3 X c tc)(hmk:lastMarks [op,Xg] [b,c]=false:=by rfl):
  B3 X (.Compare a [op,Xg] [b,c] pos) (b3 (Il op Xg ta tb tc)):=PT.mono (Ld (JQ op hu) (JQ Xg hu) ha hb hc hmk) λσ H Q' zz=>x7 zz λδ M Q hs hm ht k=>
 ⟨δ,M,_,hs,hm,ht,λv H1 x M1 hx Wr e1 q1=>⟨δ,M1,_,hs.mono e1,Wr,q1,λu H2 y M2 hy WI e2 q2=>⟨x,y,M2,_,hx.mono e2,hy,WI,q2,λw H3 z M3 hz Xk e3 q3=>by
  cases z with
  | bl c=>
   refine⟨c,hz.mL,?_⟩;cases c with
   | true=>
    refine(c9 rfl).mpr ⟨δ,M3,_,hs.mono (e1.trans (e2.trans e3)),Xk,(c9 rfl).mp q3,λw' H4 d M4 hd hm4 e4 q4=>⟨y,d,M4,_,hy.mono (e3.trans e4),hd,hm4,q4,λw5 H5 d5 M5 hd5 hm5 e5 q5=>?_⟩⟩;cases d5 with
    | bl c5=>exact⟨c5,hd5.mL,k c5 H5 M5 hm5 (e1.trans (e2.trans (e3.trans (e4.trans e5)))) q5⟩
    | _=>exact q5.elim
   | false=>exact(cY dw).mpr ⟨false,rfl,k false H3 M3 Xk (e1.trans (e2.trans e3)) ((cY dw).mp q3)⟩
  | _=>exact q3.elim⟩⟩⟩
structure U4(K:ql)(C:Addr):Prop where
 ha:W.findIn K (.ref C) "__class__"=some (some (.builtin "object.__class__"))
 hn:W.specialIn K (.builtin "object.__class__") "__get__"=some (some (.builtin "getset_descriptor.__get__"))
 htk:W.takesIn K (.builtin "object.__class__")=some true
 hm:W.mroIn K C (.type "object")=some true
def GT:Option uN->Option Vl
 | some (.lst _)=>some (.type "list")
 | some (.ins C _)=>some (.ref C)
 | some (.dk _)=>some (.type "dict")
 | some (.exc _)=>none
 | none=>none
def VT(M:Mp):D->Option Vl
 | .mM=>some (.type "NoneType")
 | .bl _=>some (.type "bool")
 | .int _=>some (.type "int")
 | .str _=>some (.type "str")
 | .tup _=>some (.type "tuple")
 | .ref a=>GT (M a)
 | .ty _=>none
 | .rl _=>some (.type "list")
def UY:D->Option Vl
 | .ref C=>some (.ref C)
 | .ty n=>some (.type n)
 | _=>none
def Qm(K:ql)(ds:List D)(M:Mp)(Q:DK):Prop:=match ds with
 | [x,c]=>(VT M x).elim False λt=>(UY c).elim False λcv=>(∀C,t=.ref C->U4 K C)/\(W.kitOne K t cv).elim False λb=>Q (.bl b) M
 | _=>False
def Js:C3 X (.builtin "isinstance") (Qm X.K):=by
 intro Wp s σ H vs us Q' I rv h;obtain⟨ds,M,Q,hd,hm,q,k⟩:=h;unfold Qm at q;split at q
 .rename_i x c;obtain⟨v,u,rfl,hv,hw⟩:=Fu hd;obtain⟨t,et,q⟩:=qP q;obtain⟨cv,ec,hC,q⟩:=qP q;obtain⟨b,eb,qb⟩:=qP q;obtain⟨uv,uw,rfl,YF,rv2⟩:=Mt rv;have ecv:uw=cv:=by
   cases c with
   | ref C=>cases hw.mH;cases ec;exact rv2
   | ty n=>cases hw.nS;cases ec;exact rv2
   | _=>cases ec
  subst ecv;have Wt:∀tk,EP X Wp σ Q' (.bool b) {s with toks:=tk}:=λtk=>⟨.bl b,H,I.tok tk,rfl,k _ _ _ _ .bl hm .refl qb⟩;cases x with
  | mM=>cases hv.mK;cases et;exact uD I YF .mM eb Wt
  | bl y=>cases hv.mL;cases et;exact uD I YF (.bl y) eb Wt
  | int y=>cases hv.int_inv;cases et;exact uD I YF (.int y) eb Wt
  | str y=>cases hv.str_inv;cases et;exact uD I YF (.str y) eb Wt
  | tup ds=>obtain⟨a,xs,rfl,h1,h2⟩:=hv.mP;cases et;cases YF;obtain⟨its,r,p,_⟩:=I.tuple h1;obtain⟨o,g1,g2,_⟩:=p;exact gk W.kitx_tuple I.m7 ⟨o,g1,g2⟩ eb (λz=>nomatch z) Wt
  | ref a=>
   cases hv.mH;have et:GT (M a)=some t:=et;cases e:M a with
   | none=>rw[e]at et;cases et
   | some cell=>
    rw[e]at et;have ok:=hm a cell e;cases cell with
    | lst ds=>cases et;obtain⟨xs,e1,_⟩:=ok;exact uD I YF (.lst e1) eb Wt
    | ins C fs=>cases et;obtain⟨dx,vs,e1,cl,_⟩:=ok;obtain⟨i1,i2,i3,i4⟩:=hC C rfl;exact uD I YF (.ins e1 cl i1 i2 i3 i4) eb Wt
    | dk kvs=>cases et;obtain⟨vs,e1,_⟩:=ok;exact uD I YF (.dK e1) eb Wt
    | exc C=>cases et
  | ty n=>cases et
  | rl ds=>obtain⟨p,xs,rfl,h1,h2⟩:=hv.mZ;cases et;cases YF;obtain⟨its,r,⟨o,n,g1,g2,_⟩,_⟩:=I.list h1.sq;exact gk lK I.m7 ⟨o,g1,g2⟩ eb (λz=>nomatch z) Wt
 .exact q.elim
def F8:List D->Option (List Bool)
 | []=>some []
 | .bl b::r=>(F8 r).map (b::·)
 | _::_=>none
theorem D5{K:ql}{H:Hp}:∀{ds:List D} {bs:List Bool} {xs:List V} {us:List Vl},F8 ds=some bs->qd K H ds xs->qA xs us->us=bs.map Value.bool
 | [],bs,xs,us,e,h,r=>by cases e;have:=h.nil_inv;subst this;cases r;rfl
 | d::ds,bs,xs,us,e,h,r=>by
  cases d with
  | bl b=>
   obtain⟨y,ys,rfl,h1,h2⟩:=h.inv;cases h1.mL;unfold F8 at e;cases q:F8 ds with
   | none=>rw[q]at e;cases e
   | some cs=>
    rw[q]at e;cases e;cases r with
    | cons r1 r2=>cases r1;rw[D5 q h2 r2];rfl
  | _=>cases e
def TL(ds:List D)(M:Mp)(Q:DK):Prop:=match ds with
 | [.ref a]=>(oR M a).elim False λes=>(F8 es).elim False λbs=>Q (.bl (bs.all id)) M
 | _=>False
def E4(hc:X.calm=true):C3 X (.builtin "all") TL:=by
 intro Wp s σ H vs us Q' I rv h;obtain⟨ds,M,Q,hd,hm,q,k⟩:=h;unfold TL at q;split at q
 .rename_i a;obtain⟨v,rfl,hv⟩:=rQ hd;obtain⟨es,e0,q⟩:=qP q;obtain⟨bs,e1,q⟩:=qP q;cases hv.mH;obtain⟨u,rfl,ru⟩:=xN rv;cases ru;obtain⟨xs,h1,h2,_⟩:=qo hm e0;obtain⟨its,r,pl,hz⟩:=I.list h1;have Zu:=D5 e1 h2 r;subst Zu;have WL:a≠s.heap.objs.size:=by obtain⟨o,_,e,_⟩:=pl;exact dH (dz e)
  refine call_all_walk (gF pl.isList ?_);refine⟨s.heap.objs.size,_,_,_,_,_,λi=>(bs[i]?).getD true,rfl,kr (A:=X.A.in1) (I.ok.hd hc) _ a WL (bs.map Value.bool).toArray,⟨⟨_,dE _ rfl,rfl,rfl⟩,?_⟩,λi v s' Q E hP hQ=>?_,λh' tk hk=>?_⟩
  .obtain⟨o,n,e,c,d,q⟩:=pl;exact⟨o,cZ _ e,c,n,q⟩
  .simp only[iF,dA]at hP;cases e2:bs[i]? with
   | none=>rw[e2]at hP;cases hP
   | some b=>rw[e2]at hP;cases hP;have hQ:Q ((bs[i]?).getD true) s':=hQ;rw[e2]at hQ;exact fh hQ
  .have ea:(List.range (bs.map Value.bool).toArray.size).all (λi=>(bs[i]?).getD true)=bs.all id:=by
    rw[dv,cT];rw[gi,eM,eM];constructor
    .intro z b hb;obtain⟨i,hi,e⟩:=gO hb;have:=z i (gq.mpr hi);rw[cW hi,e]at this;exact this
    .intro z i hi;have Ym:=gq.mp hi;rw[cW Ym];exact z _ (ib Ym)
   rw[ea];refine⟨.bl (bs.all id),H,?_,rfl,k _ _ _ _ .bl hm .refl q⟩;exact I.kept (h':=h') (t':=tk) λb o e=>hk b o (by simpa using dH (dz e)) (cZ _ e)
 .exact q.elim
def zS(x:D):List D->Option Nat
 | []=>none
 | d::r=>if Ny d x=true then some 0 else(zS x r).map (·+1)
theorem EU{K:ql}{H:Hp}{e:D}{w:V}(g:rH K H e w)(fe:uu e=true):∀{ds:List D} {xs:List V} {us:List Vl} {j:Nat},qd K H ds xs->qA xs us->ds.all uu=true->zS e ds=some j->
  ∃h:j<us.length,Dt w us[j]=true/\∀m (hm:m<us.length),m<j->Dt w us[m]=false
 | [],_,_,_,_,_,_,q=>by cases q
 | d::ds,_,us,j,h,r,fl,q=>by
  obtain⟨y,ys,rfl,h1,h2⟩:=h.inv;rw[fk,dU]at fl;cases r with
  | @cons _ u _ us' r1 r2=>
   have eu:Dt w u=Ny d e:=by rw[Hk r1 (xQ h1 fl.1),IA h1 g fl.1 fe]
   unfold zS at q;by_cases hq:Ny d e=true
   .rw[c9 hq]at q;cases q;exact⟨by simp,by simpa [eu]using hq,λm _ hm=>absurd hm (Nat.not_lt_zero m)⟩
   .rw[cY hq]at q;cases q2:zS e ds with
    | none=>rw[q2]at q;cases q
    | some j'=>
     rw[q2]at q;cases q;obtain⟨hl,e1,e2⟩:=EU g fe h2 r2 fl.2 q2;refine⟨by simpa using hl,by simpa using e1,λm hm WA=>?_⟩;cases m with
     | zero=>simpa [eu]using hq
     | succ m=>simpa using e2 m (by simpa using hm) (by have z:m+1<j'+1:=WA;omega)
def Q2(x:D)(ds:List D)(M:Mp)(Q:DK):Prop:=match x,ds with
 | .ref a,[y]=>(oR M a).elim False λes=>uu y=true/\es.all uu=true/\(zS y es).elim False λj=>Q (.int (j:Nat)) M
 | _,_=>False
def M3(X:Cx)(id:String)(r:D->List D->Mp->DK->Prop):Prop:=UV X id λvx vs H Q'=>∃x ds M Q,rH X.K H x vx/\qd X.K H ds vs/\HM X.K H M/\r x ds M Q/\Up X.K H Q' Q
def Mm:M3 X "list.index" Q2:=by
 intro Wp s σ H vx vs v us Q' I rx rv h;obtain⟨x,ds,M,Q,hx,hd,hm,q,k⟩:=h;unfold Q2 at q;split at q
 .rename_i a y;obtain⟨es,e0,f1,f2,q⟩:=qP q;obtain⟨j,e1,q⟩:=qP q;cases hx.mH;cases rx;obtain⟨w,rfl,hw⟩:=rQ hd;obtain⟨u,rfl,ru⟩:=xN rv;obtain⟨xs,h1,h2,rd⟩:=qo hm e0;obtain⟨hz,its,n,r,g⟩:=rd.ok I.mR;obtain⟨hl,p1,p2⟩:=EU hw f1 h2 r f2 e1;have hlz:its.length<=sizeLine:=by rw[<-r.length];exact hz
  have h63:=yI;refine iK F.slot_list_index ⟨_,g,rfl⟩ F.entry_list_index (F.args_list_index_2 _ _) (SeqAt.list_indexAt a its.toArray n none #[] u (Dt w) j (by simpa using hl) (by omega) (by simpa using p1) λm hm WA=>by simpa using p2 m (by simpa using hm) WA) ⟨g,?_,?_⟩
  .intro z YX;exact vm ru (xQ hw f1) r (Bc h2 f2) z (by simpa using YX)
  .exact⟨.int (j:Nat),H,I.tok _,⟨_,rfl⟩,k _ _ _ _ .int hm .refl q⟩
 .exact q.elim
def Qg(M:Mp):D->Prop
 | .ref a=>(oR M a).isSome=true
 | _=>False
def Vf(r:D->List D->Mp->DK->Prop)(to:T3)(t:xi):T3:=λδ M Q=>to δ M λx M1=>Qg M1 x/\t δ M1 λds M2=>r x ds M2 Q
def QH{K:ql}{H:Hp}{M:Mp}{x:D}{v:V}(hm:HM K H M)(h:rH K H x v)(l:Qg M x):Vy K "list" v H:=by
 cases x with
 | ref a=>cases h.mH;obtain⟨ds,e⟩:=jx.mp (show(oR M a).isSome=true from l);obtain⟨xs,h1,_⟩:=qo hm e;exact .inl ⟨rfl,xs,h1⟩
 | _=>exact l.elim
def P8{id:String}{name:Str}{r:D->List D->Mp->DK->Prop}(slot:Slot "list" name id)(hty:typeOf (.builtin id)=pure (.type "method_descriptor"))(hm:M3 X id r)(ho:E3 X o ta)(ha:A3 X (e::es) t) (WE:attributeBase o name X.env (eval o X.env)=eval o X.env:=by rfl)
  (WY:((backTo pos (starEach (e::es) X.env)).all (λx=>!x.1)&&(backToKw pos (keywordEach [] X.env)).all (λx=>x.1.isSome)
   &&decide ((e::es).length+([]:List Keyword).length+(if ([]:List Keyword).isEmpty then 0 else 1)<30))=true:=by rfl)
  (WO:(Ws.endLine==pos.line)=true:=by rfl) (hs:AL X e es:=by rfl) (Wx:Cr X pos es:=by rfl):
  E3 X (.Call (.Attribute o name Ws) (e::es) [] pos) (Vf r ta t):=PE.mono (Uc PySem.F.plainAttrs_list slot hty hm ho ha WE WY WO hs Wx) λσ H Q' zz=>x7 zz λδ M Q hs hm ht k=>
 ⟨δ,M,_,hs,hm,ht,λv H1 x M1 hx Wr e1 q1=>⟨QH Wr hx q1.1,δ,M1,_,hs.mono e1,Wr,q1.2,λvs H2 ds M2 Xq WI e2 q2=>⟨x,ds,M2,Q,hx.mono e2,Xq,WI,q2,vv (e1.trans e2) k⟩⟩⟩
def xR(ho:E3 X o ta)(ha:A3 X (e::es) t) (WE:attributeBase o "index" X.env (eval o X.env)=eval o X.env:=by rfl)
  (WY:((backTo pos (starEach (e::es) X.env)).all (λx=>!x.1)&&(backToKw pos (keywordEach [] X.env)).all (λx=>x.1.isSome)
   &&decide ((e::es).length+([]:List Keyword).length+(if ([]:List Keyword).isEmpty then 0 else 1)<30))=true:=by rfl)
  (WO:(Ws.endLine==pos.line)=true:=by rfl) (hs:AL X e es:=by rfl) (Wx:Cr X pos es:=by rfl):
  E3 X (.Call (.Attribute o "index" Ws) (e::es) [] pos) (Vf Q2 ta t):=P8 PySem.F.slot_list_index PySem.F.type_list_index Mm ho ha WE WY WO hs Wx
structure Mj(K:ql)(C:Addr)(m:Str)(f:Addr):Prop where
 hg:W.specialIn K (.ref C) "__getattribute__"=some (some (.builtin "type.__getattribute__"))
 rd:W.readsIn K C (.type "type")=true
 fc:W.findCls K (.ref C) (.type "type") m=some (.val (.ref f))
def Pw{sp:Sp}{t:TA}{pl:Sem Bool}(cm:Mj X.K C m f)(F:xh X.prog X.w X.K X.mg X.base Nk k f fd ps sp)(hr:rR k X.A)(hg:Gl X x)(hm:X.mg x=some (.ref C))(hk:W.keepIn X.K (.ref f)=true)(hb:uL X.K fd ps [])(ha:PA X (e::es) t) (WK:yP x:=by decide) (WJ:AL X e es:=by rfl) (WH:Cr X pos es:=by rfl)
  (ht:eval (.Call (.Attribute (.Name x p) m Ws) (e::es) [] pos) X.env=(do
   let ov<-eval (.Name x p) X.env
   standAt Ws.atName
   let(f,first)<-holding [ov] (getMethod ov m pl)
   callWith pos f first (backTo pos (starEach (e::es) X.env)) (backToKw pos (keywordEach [] X.env))):=by rfl):
  PE X (.Call (.Attribute (.Name x p) m Ws) (e::es) [] pos) (λσ H Q=>t σ H λvs H1=>sp vs H1 Q E0):=by
 intro Wp s σ H Q I h;refine jQ (pl:=pl) (wG I hg hm ?_ WK) ht;refine W.method_cls I.m7 cm.hg (W.cls_value I.m7 cm.rd cm.fc rfl ?_);refine iI (first:=[]) (h₀:=X.base) I.ok.mod.ou hk (sr (ha pos Wp _ σ H _ (I.tok _) h) λus s2 zz=>x5 zz λvs H2 I2 r q2=>⟨I2.m7,?_⟩) WJ WH;exact EC F hr hb .nil (FV (X:=X)) I2 r (by rw[eS];exact q2)
def Ph{pl:Sem Bool}(cm:Mj X.K C m f)(F:SH X.prog X.w X.K X.mg X.base k f fd ps sp)(hr:rR k X.A)(hg:Gl X x)(hm:X.mg x=some (.ref C))(hk:W.keepIn X.K (.ref f)=true)(hb:uL X.K fd ps [])(ha:A3 X (e::es) t) (WK:yP x:=by decide) (WJ:AL X e es:=by rfl) (WH:Cr X pos es:=by rfl)
  (ht:eval (.Call (.Attribute (.Name x p) m Ws) (e::es) [] pos) X.env=(do
   let ov<-eval (.Name x p) X.env
   standAt Ws.atName
   let(f,first)<-holding [ov] (getMethod ov m pl)
   callWith pos f first (backTo pos (starEach (e::es) X.env)) (backToKw pos (keywordEach [] X.env))):=by rfl):
  E3 X (.Call (.Attribute (.Name x p) m Ws) (e::es) [] pos) (DH sp t):=PE.mono (Pw cm F hr hg hm hk hb ha WK WJ WH ht) λσ H Q' zz=>x7 zz λδ M Q hs hm ht k=>
 ⟨δ,M,_,hs,hm,ht,λvs H1 ds M1 hd Wr e1 q1=>⟨ds,M1,Q,hd,Wr,q1,vv e1 k⟩⟩
def qp:bootBuiltins "len"=some (.builtin "len"):=by decide+kernel
def Rh:bootBuiltins "min"=some (.builtin "min"):=by decide+kernel
def Cy:bootBuiltins "isinstance"=some (.builtin "isinstance"):=by decide+kernel
def Fe:bootBuiltins "all"=some (.builtin "all"):=by decide+kernel
def ua:bootBuiltins "tuple"=some (.type "tuple"):=by decide+kernel
def tQ:bootBuiltins "list"=some (.type "list"):=by decide+kernel
def Su:bootBuiltins "str"=some (.type "str"):=by decide+kernel
def EO:bootBuiltins "dict"=some (.type "dict"):=by decide+kernel
def Fx:bootBuiltins "enumerate"=some (.type "enumerate"):=by decide+kernel
def Rw:bootBuiltins "zip"=some (.type "zip"):=by decide+kernel
end
theorem _root_.L2.Inv.drawn{ch:QXQ}{T:Addr}{xs:List V}{its:List Vl}{h':Heap}{tk:Nat}(I:Inv X Wp σ H s)(Xn:∀b∈ch,AA X Wp H b)(k:∀b o,b∉ch->s.heap.get? b=some o->h'.get? b=some o)(hT:s.heap.objs.size<=T)(hx:xs.length<=sizeLine) (rv:qA xs its) (ht:CL h' T its.toArray):Inv X Wp σ (upd H T (.tup xs)) {s with heap:=h',toks:=tk}:=by
 have YG:H T=none:=I.mR.fresh hT;have nT:∀b o,s.heap.get? b=some o->b≠T:=λb o e=>dH (dI (dz e) hT);refine I.step (g':=s.gens) (d':=s.drawn) (ch:=ch) (λb hb=>⟨(Xn b hb).2.2.2.1,(Xn b hb).2.1,(Xn b hb).2.2.2.2.1,(Xn b hb).2.2.2.2.2⟩) (λb o _ _ hc e _=>k b o hc e) (λb o _ _ hc e _=>⟨o.slots,k b o hc e⟩) (λb o _ e n=>by rw[pV (nT b o e)];exact n)
  (λb o hc e=>⟨o,k b o hc e⟩) (λb ys e=>by rw[pV (qN e YG)];exact e) (λb o u e=>by rw[pV (qN e YG)];exact e) (λb ps e=>⟨#[],by rw[pV (qN e YG),e];simp⟩) (λm hm=>?_) (λb u e=>?_) I.bare
 .obtain⟨o,es,ep,ho,r⟩:=hm;exact⟨o,es,ep,k _ o (λz=>(Xn _ z).2.1 rfl) ho,r⟩
 .by_cases hb:b=T
  .subst hb;rw[pZ]at e;cases e;exact⟨hx,its,rv,ht⟩
  .rw[pV hb]at e;refine(I.mR b u e).nk (λc v hc q=>k c v (λz=>?_) q) (λc q=>by rw[pV (qN q YG)];exact q) (λc ys q=>by rw[pV (qN q YG)];exact q);have n:=(Xn c z).1;rcases hc with y|y
   .rw[y,e]at n;cases n
   .rw[y]at n;cases n
def U6(K:ql)(a:Addr):It:=
 ⟨λi H=>∃xs x,yS K H a xs/\xs[i]?=some x,λi H x H'=>∃p y,x=.ref p/\H p=none/\H'=upd H p (.tup [.int (i:Nat),y])/\∀xs,yS K H a xs->xs[i]?=some y,λi H=>∃xs,yS K H a xs/\xs.length<=i⟩
def Jv{P:Pg}{w:Wo}{K:ql}{WQ:List Expr}{n:Nat}{tp:Pos}(a e it:Addr)(hei:e≠it):FD P w K (.Tuple WQ n tp) (U6 K a) [e,it] e (λi h=>(∃W8,IsEnum h e it (i:Nat) W8)/\h.IsListIter it a i) where
 mem:=by simp
 obj:=λi h st b hb=>by
  obtain⟨⟨W8,he⟩,o,e1,c,d⟩:=st;rcases df.mp hb with rfl|hb
  .exact⟨_,he,λv z=>by cases z⟩
  .rw[dq.mp hb];exact⟨o,e1,λv z=>by rw[d]at z;cases z⟩
 keep:=λi h h' st k=>by obtain⟨⟨W8,he⟩,hi⟩:=st;exact⟨⟨W8,k e (by simp) _ he⟩,hi.at λo q=>k it (by simp) o q⟩
 item:=by
  intro X hP hw hK hc i Wp s σ H E I hf st hg;subst hP hw hK;obtain⟨xs,x,hq,hx⟩:=hg;obtain⟨its,rv,p,hz⟩:=I.list hq;obtain⟨u,hu,ru⟩:=rv.get hx;obtain⟨⟨W8,he⟩,hi⟩:=st;refine wpAny_pyNext_enum_item he hi p.isList (x:=u) (by simpa using hu) hei λh1 ho X2 hT hsz hk=>?_;refine⟨_,rfl,wpAny_letOwnedTupleGo_enum ho λh2 he2 X4=>?_⟩;have helt:e<s.heap.objs.size:=dz he;have hilt:it<s.heap.objs.size:=by obtain⟨o,q,_⟩:=hi;exact dz q
  have kk:∀b o,b∉[e,it]->s.heap.get? b=some o->h2.get? b=some o:=λb o hb q=>(X4.2 b λz=>hb (by simp[z])).trans (hk b o (λz=>hb (by simp[z])) (λz=>hb (by simp[z])) q);have hT2:h2.get? s.heap.objs.size=some {cls:=.type "tuple",data:=.seq #[.int (i:Nat) s.toks,u]}:=(X4.2 _ (gL helt)).trans hT;have YG:H s.heap.objs.size=none:=I.mR.fresh (dg _);have I2:=I.drawn (ch:=[e,it]) (T:=s.heap.objs.size) (xs:=[.int (i:Nat),x]) (its:=[.int (i:Nat) s.toks,u]) (h':=h2) (tk:=s.toks+1) hf kk (dg _) (by show 2<=sizeLine;decide) (.cons ⟨_,rfl⟩ (.cons ru .nil)) ⟨_,hT2,rfl,⟨_,rfl⟩,rfl⟩;refine⟨.ref s.heap.objs.size,_,I2,rfl,⟨_,x,rfl,YG,rfl,λys hy=>by rw[I.nP hy hq];exact hx⟩,⟨⟨_,by simpa using he2⟩,X2.extBut X4.extBut (dJ hei)⟩,λb hb=>?_⟩;have Xi:b<s.heap.objs.size:=by
   rcases df.mp hb with z|z
   .rw[z];exact helt
   .rw[dq.mp z];exact hilt
  rw[pV (dH Xi)];exact(hf b hb).1
 done:=by intro X hP hw hK hc i Wp s σ H E I hf st hg;subst hP hw hK;obtain⟨xs,hq,hx⟩:=hg;obtain⟨its,rv,p,hz⟩:=I.list hq;obtain⟨⟨W8,he⟩,hi⟩:=st;have hl:=rv.length;obtain⟨f0,f1,f2,f3,f4,f5⟩:=hf it (by simp);exact wpAny_pyNext_enum_end (I.ok.hd hc) he hi p.isList (by simp;omega) λh' eb=>⟨rfl,I.turned (t':=s.toks) (λb o hb q=>eb b o hb q) f0 f1 f3 f4 f5⟩
 self:=λ_ _ _ _ _ st h=>by obtain⟨⟨W8,he⟩,_⟩:=st;exact lG he h
variable {tp:Pos}{WQ:List Expr}{n:Nat}
def OB{a:Expr}{ta:TA}(hg:Gl X "enumerate")(hm:X.mg "enumerate"=none)(ha:PA X [a] ta)(hs:starEach [a] X.env=[(false,eval a X.env)]:=by rfl):
  PI X (.Tuple WQ n tp) (.Call (.Name "enumerate" p) [a] [] pos) (λσ H R=>ta σ H λvs H1=>∃l,vs=[.ref l]/\(∃xs,yS X.K H1 l xs)/\R (U6 X.K l) H1):=by
 intro Wp s σ H R I h;refine Call_ (xE I hg hm Fx (fR (sr (ha pos Wp s σ H _ I h) λus s1 zz=>x5 zz λvs H1 I1 r1 q1=>?_) hs rfl));obtain⟨l,e,⟨xs,hq⟩,q⟩:=q1;subst e;obtain⟨u,rfl,ru⟩:=xN r1;cases ru;obtain⟨its,rv,pl,hz⟩:=I1.list hq;refine call_enumerate_list pl.isList λh' he hi hsz hk=>?_;refine lG he ?_;have I2:Inv X Wp σ H1 {s1 with heap:=h'}:=I1.kept (t':=s1.toks) hk;refine⟨s1.heap.objs.size+1,[s1.heap.objs.size+1,s1.heap.objs.size],_,_,H1,rfl,I2,Jv l _ _ (Nat.succ_ne_self _),⟨⟨_,he⟩,hi⟩,λb hb=>?_,q⟩;have Xi:s1.heap.objs.size<=b:=by
  rcases df.mp hb with z|z
  .rw[z];exact gg _
  .rw[dq.mp z];exact dg _
 exact I1.nV Xi (I1.mR.fresh Xi)
def uy:Nat->List D->List D
 | _,[]=>[]
 | i,d::r=>.tup [.int (i:Nat),d]::uy (i+1) r
theorem zt:∀{ds:List D} {i j:Nat},(uy j ds)[i]?=(ds[i]?).map λd=>D.tup [.int ((j+i:Nat):Int),d]
 | [],i,j=>by simp[uy]
 | d::r,0,j=>by simp[uy]
 | d::r,i+1,j=>by show(uy (j+1) r)[i]?=_;rw[zt];simp only[List.getElem?_cons_succ];rw[show j+1+i=j+(i+1)by omega]
theorem vb:∀{ds:List D} {j:Nat},(uy j ds).length=ds.length
 | [],j=>rfl
 | d::r,j=>by simp[uy,vb]
def Kv{K:ql}{H1:Hp}{a:Addr}{ds:List D}:Gk K H1 (U6 K a) (uy 0 ds) (λM=>oR M a=some ds) where
 go:=λi H M hi hm ok _=>by rw[vb]at hi;obtain⟨xs,h1,h2,_⟩:=qo hm ok;obtain⟨x,e,_⟩:=h2.get (cW hi);exact⟨xs,x,h1,e⟩
 oM:=λi d H M x H' hd hm ok _ y=>by
  obtain⟨xs,h1,h2,_⟩:=qo hm ok;obtain⟨p,z,rfl,hp,rfl,y⟩:=y;rw[zt]at hd;cases e:ds[i]? with
  | none=>rw[e]at hd;cases hd
  | some d'=>rw[e]at hd;cases hd;obtain⟨x',e',hx⟩:=h2.get e;have w1:=y xs h1;rw[e']at w1;have w2:x'=z:=dh w1;subst w2;have ex:qO K H (upd H p (.tup [.int (i:Nat),x'])):=.new hp;refine⟨.tup (.of pZ) (.cons (by rw[mz];exact .int) (.cons (hx.mono ex) .nil)),hm.add hp,ex⟩
 stop:=λH M hm ok _=>by obtain⟨xs,h1,h2,_⟩:=qo hm ok;exact⟨xs,h1,by rw[vb,h2.length];exact dg _⟩
def QT(t:xi):Nm:=λδ M R=>t δ M λds M1=>match ds with
 | [.ref a]=>(oR M1 a).elim False λes=>R (uy 0 es) (λM=>oR M a=some es) M1
 | _=>False
def wu{a:Expr}{ta:xi}(hg:Gl X "enumerate")(hm:X.mg "enumerate"=none)(ha:A3 X [a] ta)(hs:starEach [a] X.env=[(false,eval a X.env)]:=by rfl):I3 X (.Tuple WQ n tp) (.Call (.Name "enumerate" p) [a] [] pos) (QT ta):=
 PI.mono (OB hg hm ha hs) λσ H R' zz=>x7 zz λδ M R hs hm ht k=>⟨δ,M,_,hs,hm,ht,λvs H1 ds M1 hd Wr e1 q1=>by
  split at q1
  .obtain⟨v,rfl,hv⟩:=rQ hd;cases hv.mH;obtain⟨es,e0,q⟩:=qP q1;obtain⟨xs,h1,h2,_⟩:=qo Wr e0;exact⟨_,rfl,⟨xs,h1⟩,k _ H1 _ _ M1 Kv Wr e1 e0 q⟩
  .exact q1.elim⟩
variable {prog:Pg}{A:Ar}{E:QQX}
def GH{it t:Addr}{i:Nat}{its:Array Vl}{x:Vl}{Q:QQX}(hi:s.heap.IsTupleIter it t i)(ht:s.heap.IsTuple t its)(hx:its[i]?=some x) (hQ:∀g,g.IsTupleIter it t (i+1)->Heap.SameBut it s.heap g->Q x {s with heap:=g}):wpAny (model prog w) A (Builtin.SmallTypes.nextOf (.ref it)) Q E s:=by
 obtain⟨ob,e1,e2,e3⟩:=id hi;obtain⟨ot,e4,_,nt,e5⟩:=ht;unfold Builtin.SmallTypes.nextOf;refine cU (fJ (name:=Str.ofString "__next__") hi.typeIs gC (fZ gC hi.typeIs ji ?_ (jc _)));show wpAny (model prog w) _ (field (.ref it) 0>>=_) _ _ s;refine cU (fg e1 e3 (x:=.ref t) rfl ?_);show wpAny (model prog w) _ (if (Value.ref t==Value.none)=true then _ else _) _ _ s;rw[cY (show ¬(Value.ref t==Value.none)=true from dw)];show wpAny (model prog w) _ (field (.ref it) 1>>=_) _ _ s;refine cU (fg e1 e3 (x:=.int i 0) rfl ?_);show wpAny (model prog w) _ (seqItems? (.ref t)>>=_) _ _ s;refine cU (gu e4 e5 ?_);simp only[gZ,hx];refine cU (hW e1 e3 (by simp) (de ⟨x,rfl,de (hQ _ ⟨_,fE _ e1 (Obj.isFreed_of_fields (k9 e3 _)),(Obj.cls_mapFields ..).trans e2,?_⟩ (kE ..))⟩));rw[k9 e3];simp[rawInt]
def BU{it t:Addr}{i:Nat}{its:Array Vl}{Q:QQX}(hh:A.handled=none)(hi:s.heap.IsTupleIter it t i)(ht:s.heap.IsTuple t its)(hx:its[i]?=none) (hE:∀g e,Heap.ExtBut it s.heap g->(∃o,g.get? e=some o/\o.cls=.type "StopIteration")->E (.ref e) {s with heap:=g}):wpAny (model prog w) A (Builtin.SmallTypes.nextOf (.ref it)) Q E s:=by
 obtain⟨ob,e1,e2,e3⟩:=id hi;obtain⟨ot,e4,_,nt,e5⟩:=ht;unfold Builtin.SmallTypes.nextOf;refine cU (fJ (name:=Str.ofString "__next__") hi.typeIs gC (fZ gC hi.typeIs ji ?_ (jc _)));show wpAny (model prog w) _ (field (.ref it) 0>>=_) _ _ s;refine cU (fg e1 e3 (x:=.ref t) rfl ?_);show wpAny (model prog w) _ (if (Value.ref t==Value.none)=true then _ else _) _ _ s;rw[cY (show ¬(Value.ref t==Value.none)=true from dw)];show wpAny (model prog w) _ (field (.ref it) 1>>=_) _ _ s;refine cU (fg e1 e3 (x:=.int i 0) rfl ?_);show wpAny (model prog w) _ (seqItems? (.ref t)>>=_) _ _ s;refine cU (gu e4 e5 ?_);simp only[gZ,hx];refine cU (ko (cU (hW e1 e3 (by simp) ?_)));show wpAny (model prog w) _ (newExc (.type "StopIteration") []>>=_) _ _ _;refine cU ?_;simp only[newExc,newTuple];refine cU (fP ?_ (by size_fits));refine cU (m:=firstArgMember _ _) (wpAny_of_eq (a:=Value.none) (by first|rfl|(simp only[firstArgMember];rfl)) ?_);refine fP ?_ (by size_fits);simp only[raiseNew];refine cU (wpAny_handled ?_)
 first|rw[show A.in1.handled=none from hh]|rw[hh]
 refine cU (de (wpAny_throw (hE _ _ (((kE ..).extBut.push _).push _) ⟨_,dE _ rfl,rfl⟩)))
def ya{prog:Pg}{w:Wo}{A:Ar}(hh:A.handled=none)(it t:Addr)(WL:t≠it)(its:Array Vl):
  Draws prog w A it [it,t] its.size (λi v=>its[i]?=some v) (λi h=>h.IsTupleIter it t i/\h.IsTuple t its) where
 live:=λi h st=>let⟨o,ho,_⟩:=st.1;⟨o,ho⟩
 frame:=λi h g st hk=>by obtain⟨⟨o,e1,e2⟩,⟨o',e3,e4⟩⟩:=st;exact⟨⟨o,hk it (by simp) o e1,e2⟩,⟨o',hk t (by simp) o' e3,e4⟩⟩
 item:=λi s Q E hi st hQ=>GH st.1 st.2 (x:=its[i]) (by simp[hi]) λg hg hs=>hQ _ g s.toks (by simp[hi]) ⟨hg,st.2.extBut hs.extBut WL⟩ hs
 done:=λs Q E st hE=>BU hh st.1 st.2 (by simp) hE
structure Ah(z TI TO i1 i2:Addr)(f1 f2:QXQ):Prop where
 a1:TI≠z
 a2:TO≠z
 a3:i1≠z
 a4:i2≠z
 a5:TI≠TO
 a6:TI≠i1
 a7:TI≠i2
 a8:TO≠i1
 a9:TO≠i2
 o9:i1≠i2
 b1:z∉f1
 b2:TO∉f1
 b3:i2∉f1
 c1:z∉f2
 c2:TO∉f2
 c3:i1∉f2
variable {z TI TO i1 i2:Addr}{f1 f2:QXQ}{n1 n2 k1 k2:Nat}{P1 P2:Nat→Vl→Prop}{S1 S2:Nat→Heap→Prop}
section
variable {a b:Vl}
def r6{fp:QXQ}{it:Addr}{n:Nat}{Pt:Nat->Vl->Prop}{St:Nat->Heap->Prop}(Dr:Draws prog w A it fp n Pt St){i:Nat}{h g:Heap}{c:Addr}(st:St i h)(hs:Heap.SameBut c h g)(hc:c∉fp):St i g:=
 Dr.frame _ _ _ st λd hd o e=>(hs.2 d λq=>hc (q ▸ hd)).trans e
def Jf{Q:QQX}(D1:Draws prog w A i1 f1 n1 P1 S1)(D2:Draws prog w A i2 f2 n2 P2 S2)(WM:Ah z TI TO i1 i2 f1 f2)(hz:IsZip s.heap z TI TO .none)(hI:IsPair s.heap TI (.ref i1) (.ref i2))(hO:IsPair s.heap TO a b) (W4:S1 k1 s.heap) (WP:S2 k2 s.heap) (l1:k1<n1) (l2:k2<n2) (hQ:∀x y g tk,P1 k1 x->P2 k2 y->IsZip g z TI TO (rawInt s.heap.objs.size)->IsPair g TO x y->S1 (k1+1) g->S2 (k2+1) g->IsPair g s.heap.objs.size x y->g.objs.size=s.heap.objs.size+1->
   (∀c o,c≠z->c≠TO->c≠i1->c≠i2->s.heap.get? c=some o->g.get? c=some o)->Q (.ref s.heap.objs.size) {s with heap:=g,toks:=tk}):
  wpAny (model prog w) A (Builtin.«zip.__next__» ⟨[.ref z],[]⟩) (λWt s'=>∃v,Wt=.done (.ret v)/\Q v s') E s:=by
 show wpAny (model prog w) A (field (.ref z) 2>>=_) _ _ _;refine cU (fg hz rfl (x:=.bool false) rfl ?_);show wpAny (model prog w) A (field (.ref z) 3>>=_) _ _ _;refine cU (fg hz rfl (x:=.ref TI) rfl (cU (gu hI rfl ?_)));show wpAny (model prog w) A (Builtin.SmallTypes.ownedTupleIsFree (.ref z)>>=_) _ _ _;refine cU ?_;unfold Builtin.SmallTypes.ownedTupleIsFree;refine cU (fg hz rfl (x:=.none) rfl (de ?_));simp only[iZ];refine cU (ko (cU (fg hz rfl (x:=.ref TO) rfl (cU (gx hz (by simp) λg1 z1 Yd=>?_)))));replace z1:IsZip g1 z TI TO .ellipsis:=z1;refine cU ?_;simp only[lY,mh,jN,j6];refine cU (cU (iC ?_));show wpAny (model prog w) A (Builtin.SmallTypes.nextOf (.ref i1)>>=_) _ _ _;have Ye:S1 k1 g1:=r6 D1 W4 Yd WM.b1;refine cU (D1.item k1 _ _ _ l1 Ye λx g2 tk2 px st1b Xr=>de ?_);replace Xr:Heap.SameBut i1 g1 g2:=Xr;have o2:IsPair g2 TO a b:=Xr.extBut _ _ WM.a8 (Yd.extBut _ _ WM.a2 hO);refine cU (gu o2 rfl (cU (iN o2 λg3 o3 Xx=>?_)));replace o3:IsPair g3 TO x b:=o3;replace Xx:Heap.SameBut TO g2 g3:=Xx;refine cU (lM (de (cU (cU (iC ?_)))));show wpAny (model prog w) A (Builtin.SmallTypes.nextOf (.ref i2)>>=_) _ _ _;have YH:S2 k2 g3:=r6 D2 (r6 D2 (r6 D2 WP Yd WM.c1) Xr WM.c3) Xx WM.c2;refine cU (D2.item k2 _ _ _ l2 YH λy g4 tk4 py st2b Yn=>de ?_);replace Yn:Heap.SameBut i2 g3 g4:=Yn;have o4:IsPair g4 TO x b:=Yn.extBut _ _ WM.a9 o3;refine cU (gu o4 rfl (cU (iN o4 λg5 o5 Yo=>?_)));replace o5:IsPair g5 TO x y:=o5;replace Yo:Heap.SameBut TO g4 g5:=Yo;refine cU (lM (de (de (cU (gu o5 rfl (cU (wpAny_newTuple ?_)))))));have esz:g5.objs.size=s.heap.objs.size:=by rw[Yo.1,Yn.1,Xx.1,Xr.1,Yd.1]
 have z5:IsZip g5 z TI TO .ellipsis:=Yo.extBut _ _ WM.a2.symm (Yn.extBut _ _ WM.a4.symm (Xx.extBut _ _ WM.a2.symm (Xr.extBut _ _ WM.a3.symm z1)));have kp:∀c o,c≠z->c≠TO->c≠i1->c≠i2->s.heap.get? c=some o->g5.get? c=some o:=λc o q1 q2 q3 q4 q=>Yo.extBut _ _ q2 (Yn.extBut _ _ q4 (Xx.extBut _ _ q2 (Xr.extBut _ _ q3 (Yd.extBut _ _ q1 q))));have st1c:S1 (k1+1) g5:=r6 D1 (r6 D1 (r6 D1 st1b Xx WM.b2) Yn WM.b3) Yo WM.b2;have st2c:S2 (k2+1) g5:=r6 D2 st2b Yo WM.c2;have zlt:z<g5.objs.size:=dz z5;show wpAny (model prog w) A (Builtin.SmallTypes.ownedTupleHandOut (.ref z) (.ref g5.objs.size)>>=_) _ _ _;refine cU ?_;unfold Builtin.SmallTypes.ownedTupleHandOut;have z6:IsZip (g5.push {cls:=.type "tuple",data:=.seq #[x,y]}) z TI TO .ellipsis:=cZ _ z5;refine cU (gx z6 (by simp) λg7 z7 sb7=>?_);replace z7:IsZip g7 z TI TO (rawInt g5.objs.size):=z7;refine gx z7 (by simp) λg8 z8 sb8=>?_;replace z8:IsZip g8 z TI TO (rawInt g5.objs.size):=z8;have up:∀c o,c≠z->g5.get? c=some o->g8.get? c=some o:=λc o q1 q=>sb8.extBut _ _ q1 (sb7.extBut _ _ q1 (cZ _ q));have tu:IsPair g8 g5.objs.size x y:=sb8.extBut _ _ (gL zlt) (sb7.extBut _ _ (gL zlt) (dE _ rfl));have es8:g8.objs.size=g5.objs.size+1:=by rw[sb8.1,sb7.1,fj]
 rw[esz]at z8 tu es8;refine de ⟨_,rfl,?_⟩;show Q (.ref g5.objs.size) _;rw[esz];exact hQ x y g8 _ px py z8 (up _ _ WM.a2 o5) (D1.frame _ _ _ st1c λc hc o q=>up c o (λr=>WM.b1 (r ▸ hc)) q) (D2.frame _ _ _ st2c λc hc o q=>up c o (λr=>WM.c1 (r ▸ hc)) q) tu es8 λc o q1 q2 q3 q4 q=>up c o q1 (kp c o q1 q2 q3 q4 q)
def Lj{Q:Fin->Sd->Prop}(D1:Draws prog w A i1 f1 n1 P1 S1)(D2:Draws prog w A i2 f2 n2 P2 S2)(WM:Ah z TI TO i1 i2 f1 f2)(hz:IsZip s.heap z TI TO .none)(hI:IsPair s.heap TI (.ref i1) (.ref i2))(hO:IsPair s.heap TO a b) (W4:S1 k1 s.heap) (WP:S2 k1 s.heap) (Zv:k1=n1\/(k1<n1/\k1=n2)) (hE:∀g e,(∀c o,c≠z->c≠TO->c≠i1->c≠i2->s.heap.get? c=some o->g.get? c=some o)->(∃o,g.get? e=some o/\o.cls=.type "StopIteration")->∀tk,E (.ref e) {s with heap:=g,toks:=tk}):
  wpAny (model prog w) A (Builtin.«zip.__next__» ⟨[.ref z],[]⟩) Q E s:=by
 show wpAny (model prog w) A (field (.ref z) 2>>=_) _ _ _;refine cU (fg hz rfl (x:=.bool false) rfl ?_);show wpAny (model prog w) A (field (.ref z) 3>>=_) _ _ _;refine cU (fg hz rfl (x:=.ref TI) rfl (cU (gu hI rfl ?_)));show wpAny (model prog w) A (Builtin.SmallTypes.ownedTupleIsFree (.ref z)>>=_) _ _ _;refine cU ?_;unfold Builtin.SmallTypes.ownedTupleIsFree;refine cU (fg hz rfl (x:=.none) rfl (de ?_));simp only[iZ];refine cU (ko (cU (fg hz rfl (x:=.ref TO) rfl (cU (gx hz (by simp) λg1 z1 Yd=>?_)))));replace z1:IsZip g1 z TI TO .ellipsis:=z1;refine cU ?_;simp only[lY,mh,jN,j6];refine cU (cU (iC ?_));show wpAny (model prog w) A (Builtin.SmallTypes.nextOf (.ref i1)>>=_) _ _ _;have Ye:S1 k1 g1:=r6 D1 W4 Yd WM.b1;rcases Zv with he|⟨WA,he⟩
 .rw[he]at Ye;refine cU (D1.done _ _ _ Ye λg2 e Xr hx=>?_);obtain⟨oe,g,Zw⟩:=hx;have z2:IsZip g2 z TI TO .ellipsis:=Xr _ _ WM.a3.symm z1;have hez:e≠z:=λq=>by subst q;rw[z2]at g;cases g;simp at Zw
  exact gx z2 (by simp) λg3 _ Xx=>hE g3 e (λc o q1 _ q3 _ q=>Xx.extBut _ _ q1 (Xr _ _ q3 (Yd.extBut _ _ q1 q))) ⟨oe,Xx.extBut _ _ hez g,Zw⟩ _
 .refine cU (D1.item k1 _ _ _ WA Ye λx g2 tk2 px st1b Xr=>de ?_);replace Xr:Heap.SameBut i1 g1 g2:=Xr;have o2:IsPair g2 TO a b:=Xr.extBut _ _ WM.a8 (Yd.extBut _ _ WM.a2 hO);refine cU (gu o2 rfl (cU (iN o2 λg3 o3 Xx=>?_)));replace Xx:Heap.SameBut TO g2 g3:=Xx;refine cU (lM (de (cU (cU (iC ?_)))));show wpAny (model prog w) A (Builtin.SmallTypes.nextOf (.ref i2)>>=_) _ _ _;have YH:S2 k1 g3:=r6 D2 (r6 D2 (r6 D2 WP Yd WM.c1) Xr WM.c3) Xx WM.c2;rw[he]at YH;refine cU (D2.done _ _ _ YH λg4 e Yn hx=>?_);obtain⟨oe,g,Zw⟩:=hx;have z4:IsZip g4 z TI TO .ellipsis:=Yn _ _ WM.a4.symm (Xx.extBut _ _ WM.a2.symm (Xr.extBut _ _ WM.a3.symm z1));have hez:e≠z:=λq=>by subst q;rw[z4]at g;cases g;simp at Zw
  exact gx z4 (by simp) λg5 _ Yo=>hE g5 e (λc o q1 q2 q3 q4 q=>Yo.extBut _ _ q1 (Yn _ _ q4 (Xx.extBut _ _ q2 (Xr.extBut _ _ q3 (Yd.extBut _ _ q1 q))))) ⟨oe,Yo.extBut _ _ hez g,Zw⟩ _
end
abbrev UA(h:Heap)(t:Addr):Heap:=h.push {cls:=.type "tuple_iterator",data:=.fields #[.ref t,.int 0 0]}
abbrev UE(h:Heap)(t u:Addr):Heap:=(UA h t).push {cls:=.type "tuple_iterator",data:=.fields #[.ref u,.int 0 0]}
abbrev UF(h:Heap)(t u:Addr):Heap:=(UE h t u).push {cls:=.type "tuple",data:=.seq #[.ref h.objs.size,.ref (UA h t).objs.size]}
abbrev Uz(h:Heap)(t u:Addr):Heap:=(UF h t u).push {cls:=.type "tuple",data:=.seq #[.none,.none]}
abbrev SD(h:Heap)(t u:Addr):Heap:=(Uz h t u).push {cls:=.type "zip",data:=.fields #[.none,.bool false,.bool false,.ref (UE h t u).objs.size,.ref (UF h t u).objs.size]}
def CU(t u:Addr)(xs ys:Array Vl):
  Meets (Builtin.«zip.__new__» ⟨[.type "zip",.ref t,.ref u],[]⟩) (λ_ R s=>s.heap.IsTuple t xs/\s.heap.IsTuple u ys/\R (.ok (.ret (.ref (Uz s.heap t u).objs.size))) {s with heap:=SD s.heap t u}):=
 .of_wp λprog w A R s h=>by
  obtain⟨hp,g,d,tk,os⟩:=s;obtain⟨e1,e2,h⟩:=h;have Ya:=sub_zip;have q1:Heap.IsTuple (Shared.heap ⟨hp,g,d,tk,os⟩) t xs:=e1;have q2:Heap.IsTuple (Shared.heap ⟨hp.push {cls:=.type "tuple_iterator",data:=.fields #[.ref t,.int 0 0]},g,d,tk,os⟩) u ys:=Heap.IsTuple.push e2 _
  wp_walk using iq q1,iq q2
  exact⟨_,rfl,h⟩
def Fd{t u:Addr}{xs ys:Array Vl}{Q:QQX}(ht:s.heap.IsTuple t xs)(hu:s.heap.IsTuple u ys) (h:∀g,IsZip g (s.heap.objs.size+4) (s.heap.objs.size+2) (s.heap.objs.size+3) .none->IsPair g (s.heap.objs.size+2) (.ref s.heap.objs.size) (.ref (s.heap.objs.size+1))->IsPair g (s.heap.objs.size+3) .none .none->
   g.IsTupleIter s.heap.objs.size t 0->g.IsTupleIter (s.heap.objs.size+1) u 0->(∀c o,s.heap.get? c=some o->g.get? c=some o)->Q (.ref (s.heap.objs.size+4)) {s with heap:=g}):
  wpAny (model prog w) A (call (.type "zip") [.ref t,.ref u]) Q E s:=by
 refine callType_new F.called_zip (by decide) (F.typeCall_zip_2 _ _) (F.newCall_zip_2 _ _) (λobj=>F.args_object_init_3 obj _ _) F.entry_zip_new (CU t u xs ys) ⟨ht,hu,?_⟩;have m1:(UA s.heap t).objs.size=s.heap.objs.size+1:=fj ..;have m2:(UE s.heap t u).objs.size=s.heap.objs.size+2:=by rw[fj,m1]
 have m3:(UF s.heap t u).objs.size=s.heap.objs.size+3:=by rw[fj,m2]
 have m4:(Uz s.heap t u).objs.size=s.heap.objs.size+4:=by rw[fj,m3]
 have up:∀{h:Heap} {c:Addr} {o p:Obj},h.get? c=some o->(h.push p).get? c=some o:=λq=>cZ _ q;have r5:(SD s.heap t u).get? (Uz s.heap t u).objs.size=some _:=dE _ rfl;have r4:(SD s.heap t u).get? (UF s.heap t u).objs.size=some _:=up (dE _ rfl);have r3:(SD s.heap t u).get? (UE s.heap t u).objs.size=some _:=up (up (dE _ rfl));have r2:(SD s.heap t u).get? (UA s.heap t).objs.size=some _:=up (up (up (dE _ rfl)));have r1:(SD s.heap t u).get? s.heap.objs.size=some _:=up (up (up (up (dE _ rfl))));show _/\_;rw[m2,m3,m4]at r5;rw[m1,m2]at r3;rw[m3]at r4;rw[m1]at r2;rw[m4];exact⟨⟨_,r5,rfl⟩,h _ r5 r3 r4 ⟨_,r1,rfl,rfl⟩ ⟨_,r2,rfl,rfl⟩ λc o q=>up (up (up (up (up q))))⟩
def Gj{z TI TO i1 i2:Addr}{f1 f2:QXQ}{n1 n2 k:Nat}{P1 P2:Nat->Vl->Prop}{S1 S2:Nat->Heap->Prop}{a b:Vl}{Q:Option Vl->Sd->Prop}(D1:Draws prog w A.in1 i1 f1 n1 P1 S1)(D2:Draws prog w A.in1 i2 f2 n2 P2 S2)(WM:Ah z TI TO i1 i2 f1 f2) (hz:IsZip s.heap z TI TO .none) (hI:IsPair s.heap TI (.ref i1) (.ref i2)) (hO:IsPair s.heap TO a b) (W4:S1 k s.heap) (WP:S2 k s.heap) (l1:k<n1) (l2:k<n2) (hQ:∀x y g tk,P1 k x->P2 k y->IsZip g z TI TO (rawInt s.heap.objs.size)->IsPair g TO x y->S1 (k+1) g->S2 (k+1) g->IsPair g s.heap.objs.size x y->g.objs.size=s.heap.objs.size+1->
   (∀c o,c≠z->c≠TO->c≠i1->c≠i2->s.heap.get? c=some o->g.get? c=some o)->Q (some (.ref s.heap.objs.size)) {s with heap:=g,toks:=tk}):wpAny (model prog w) A (pyNext (.ref z)) Q E s:=by
 have hT:s.TypeIs (.ref z) "zip":=⟨_,hz,rfl⟩;unfold pyNext;refine cU (kB (fJ (name:=Str.ofString "__next__") hT iO (fZ iO hT lZ ?_ (lH _))));exact Jf D1 D2 WM hz hI hO W4 WP l1 l2 λx y g tk q1 q2 q3 q4 q5 q6 q7 q8 q9=>de (hQ x y g tk q1 q2 q3 q4 q5 q6 q7 q8 q9)
def Ay{z TI TO i1 i2:Addr}{f1 f2:QXQ}{n1 n2 k:Nat}{P1 P2:Nat->Vl->Prop}{S1 S2:Nat->Heap->Prop}{a b:Vl}{Q:Option Vl->Sd->Prop}(D1:Draws prog w A.in1 i1 f1 n1 P1 S1)(D2:Draws prog w A.in1 i2 f2 n2 P2 S2)(WM:Ah z TI TO i1 i2 f1 f2) (hz:IsZip s.heap z TI TO .none) (hI:IsPair s.heap TI (.ref i1) (.ref i2)) (hO:IsPair s.heap TO a b) (W4:S1 k s.heap) (WP:S2 k s.heap) (Zv:k=n1\/(k<n1/\k=n2)) (hQ:∀g tk,(∀c o,c≠z->c≠TO->c≠i1->c≠i2->s.heap.get? c=some o->g.get? c=some o)->Q none {s with heap:=g,toks:=tk}):wpAny (model prog w) A (pyNext (.ref z)) Q E s:=by
 have hT:s.TypeIs (.ref z) "zip":=⟨_,hz,rfl⟩;unfold pyNext;refine cU (kB (fJ (name:=Str.ofString "__next__") hT iO (fZ iO hT lZ (Lj D1 D2 WM hz hI hO W4 WP Zv λg e kp hx tk=>?_) (lH _))));obtain⟨o,e1,e2⟩:=hx;exact cU (wpAny_isInstance (T:="StopIteration") (b:=true) ⟨o,e1,e2⟩ isSubtype_stop (de (hQ g tk kp)))
def Et{a b:Addr}{xs:List V}(I:Inv X Wp σ H s)(f:AA X Wp H b)(q:uQ X.K H a xs):a≠b:=by
 rintro rfl
 rcases q with q|⟨o,its,n,hk,_⟩
 .have z:=f.1;rcases q with q|⟨u,q⟩<;>(rw[q]at z;cases z)
 .have e:=I.mod.ou a o hk;rcases f.2.2.2.1 with z|z
  .exact I.ok.nQ a o e z
  .exact absurd (dI (dz e) (dW I.ok.nY z)) (eZ _)
def VJ(K:ql)(a b:Addr):It:=
 ⟨λi H=>∃xs ys x y,uQ K H a xs/\uQ K H b ys/\xs[i]?=some x/\ys[i]?=some y,λi H v H'=>∃p x y,v=.ref p/\H p=none/\H'=upd H p (.tup [x,y])/\(∀xs,uQ K H a xs->xs[i]?=some x)/\(∀ys,uQ K H b ys->ys[i]?=some y),λi H=>∃xs ys,uQ K H a xs/\uQ K H b ys/\i=min xs.length ys.length⟩
def ME{P:Pg}{w:Wo}{K:ql}{WQ:List Expr}{n:Nat}{tp:Pos}(a b z TI TO i1 i2:Addr)(a1:TI≠z)(a2:TO≠z)(a3:i1≠z)(a4:i2≠z)(a5:TI≠TO)(a6:TI≠i1)(a7:TI≠i2)(a8:TO≠i1)(a9:TO≠i2)(o9:i1≠i2):
  FD P w K (.Tuple WQ n tp) (VJ K a b) [z,TI,TO,i1,i2] z (λi h=>IsZip h z TI TO .none/\IsPair h TI (.ref i1) (.ref i2)/\(∃u v,IsPair h TO u v)/\h.IsTupleIter i1 a i/\h.IsTupleIter i2 b i) where
 mem:=by simp
 obj:=λi h st c hc=>by
  obtain⟨h1,h2,⟨u,v,h3⟩,⟨o4,h4,_,d4⟩,⟨o5,h5,_,d5⟩⟩:=st;simp only[df,dC,eX]at hc;rcases hc with rfl|rfl|rfl|rfl|rfl
  .exact⟨_,h1,λv z=>by cases z⟩
  .exact⟨_,h2,λv z=>by cases z⟩
  .exact⟨_,h3,λv z=>by cases z⟩
  .exact⟨_,h4,λv z=>by rw[d4]at z;cases z⟩
  .exact⟨_,h5,λv z=>by rw[d5]at z;cases z⟩
 keep:=λi h h' st k=>by obtain⟨h1,h2,⟨u,v,h3⟩,⟨o4,h4,c4⟩,⟨o5,h5,c5⟩⟩:=st;exact⟨k z (by simp) _ h1,k TI (by simp) _ h2,⟨u,v,k TO (by simp) _ h3⟩,⟨o4,k i1 (by simp) _ h4,c4⟩,⟨o5,k i2 (by simp) _ h5,c5⟩⟩
 item:=by
  intro X hP hw hK hc i Wp s σ H E I hf st hg;subst hP hw hK;obtain⟨xs,ys,x,y,hx,hy,ex,ey⟩:=hg;obtain⟨its,rx,px,_⟩:=I.tuple hx;obtain⟨Yl,ry,py,_⟩:=I.tuple hy;obtain⟨u,eu,ru⟩:=rx.get ex;obtain⟨v,ev,rv⟩:=ry.get ey;obtain⟨h1,h2,⟨p,q,h3⟩,h4,h5⟩:=st;have hh:X.A.in1.handled=none:=I.ok.hd hc;have fa:∀c∈[z,TI,TO,i1,i2],a≠c:=λc hc=>Et I (hf c hc) hx;have fb:∀c∈[z,TI,TO,i1,i2],b≠c:=λc hc=>Et I (hf c hc) hy;have WM:Ah z TI TO i1 i2 [i1,a] [i2,b]:=⟨a1,a2,a3,a4,a5,a6,a7,a8,a9,o9,by
   simp only[df,dC,eX,fH];exact⟨dJ a3,dJ (fa z (by simp))⟩,by
   simp only[df,dC,eX,fH];exact⟨a8,dJ (fa TO (by simp))⟩,by
   simp only[df,dC,eX,fH];exact⟨dJ o9,dJ (fa i2 (by simp))⟩,by
   simp only[df,dC,eX,fH];exact⟨dJ a4,dJ (fb z (by simp))⟩,by
   simp only[df,dC,eX,fH];exact⟨a9,dJ (fb TO (by simp))⟩,by
   simp only[df,dC,eX,fH];exact⟨o9,dJ (fb i1 (by simp))⟩⟩
  have l1:i<its.toArray.size:=by
   have:=(cX.mp eu).1
   simpa using this
  have l2:i<Yl.toArray.size:=by
   have:=(cX.mp ev).1
   simpa using this
  refine Gj (ya hh i1 a (fa i1 (by simp)) its.toArray) (ya hh i2 b (fb i2 (by simp)) Yl.toArray) WM h1 h2 h3 ⟨h4,px⟩ ⟨h5,py⟩ l1 l2 λx' y' g tk e1 e2 z1 o1 s1 s2 t1 sz kp=>?_;have e1':x'=u:=by
   have:its[i]?=some x':=by simpa using e1
   rw[eu]at this;exact(dh this).symm
  have Yy:y'=v:=by
   have:Yl[i]?=some y':=by simpa using e2
   rw[ev]at this;exact(dh this).symm
  subst e1' Yy;refine⟨_,rfl,wpAny_letOwnedTupleGo_zip z1 λg2 z2 sb=>?_⟩;have zlt:z<s.heap.objs.size:=dz h1;have kk:∀c o,c∉[z,TI,TO,i1,i2]->s.heap.get? c=some o->g2.get? c=some o:=λc o hc e=>by simp only[df,dC,eX,fH]at hc;exact(sb.2 c hc.1).trans (kp c o hc.1 hc.2.2.1 hc.2.2.2.1 hc.2.2.2.2 e)
  have t2:g2.get? s.heap.objs.size=some {cls:=.type "tuple",data:=.seq #[x',y']}:=(sb.2 _ (gL zlt)).trans t1;have YG:H s.heap.objs.size=none:=I.mR.fresh (dg _);have I2:=I.drawn (ch:=[z,TI,TO,i1,i2]) (T:=s.heap.objs.size) (xs:=[x,y]) (its:=[x',y']) (h':=g2) (tk:=tk) hf kk (dg _) (by show 2<=sizeLine;decide) (.cons ru (.cons rv .nil)) ⟨_,t2,rfl,⟨_,rfl⟩,rfl⟩;refine⟨.ref s.heap.objs.size,_,I2,rfl,⟨_,x,y,rfl,YG,rfl,λxs' hx'=>by rw[I.ni hx' hx];exact ex,λys' hy'=>by rw[I.ni hy' hy];exact ey⟩,?_,λc hc=>?_⟩
  .obtain⟨o4,g4,c4⟩:=s1.1;obtain⟨o5,g5,c5⟩:=s2.1;exact⟨z2,(sb.2 _ a1).trans (kp _ _ a1 a5 a6 a7 h2),⟨_,_,(sb.2 _ a2).trans o1⟩,⟨o4,(sb.2 _ a3).trans g4,c4⟩,⟨o5,(sb.2 _ a4).trans g5,c5⟩⟩
  .have n0:=(hf c hc).1;obtain⟨o,eo⟩:∃o,s.heap.get? c=some o:=by
    obtain⟨o4,g4,_⟩:=h4;obtain⟨o5,g5,_⟩:=h5;simp only[df,dC,eX]at hc;rcases hc with rfl|rfl|rfl|rfl|rfl
    .exact⟨_,h1⟩
    .exact⟨_,h2⟩
    .exact⟨_,h3⟩
    .exact⟨_,g4⟩
    .exact⟨_,g5⟩
   rw[pV (dH (dz eo))];exact n0
 done:=by
  intro X hP hw hK hc i Wp s σ H E I hf st hg;subst hP hw hK;obtain⟨xs,ys,hx,hy,hi⟩:=hg;obtain⟨its,rx,px,_⟩:=I.tuple hx;obtain⟨Yl,ry,py,_⟩:=I.tuple hy;obtain⟨h1,h2,⟨p,q,h3⟩,h4,h5⟩:=st;have hh:X.A.in1.handled=none:=I.ok.hd hc;have fa:∀c∈[z,TI,TO,i1,i2],a≠c:=λc hc=>Et I (hf c hc) hx;have fb:∀c∈[z,TI,TO,i1,i2],b≠c:=λc hc=>Et I (hf c hc) hy;have WM:Ah z TI TO i1 i2 [i1,a] [i2,b]:=⟨a1,a2,a3,a4,a5,a6,a7,a8,a9,o9,by
   simp only[df,dC,eX,fH];exact⟨dJ a3,dJ (fa z (by simp))⟩,by
   simp only[df,dC,eX,fH];exact⟨a8,dJ (fa TO (by simp))⟩,by
   simp only[df,dC,eX,fH];exact⟨dJ o9,dJ (fa i2 (by simp))⟩,by
   simp only[df,dC,eX,fH];exact⟨dJ a4,dJ (fb z (by simp))⟩,by
   simp only[df,dC,eX,fH];exact⟨a9,dJ (fb TO (by simp))⟩,by
   simp only[df,dC,eX,fH];exact⟨o9,dJ (fb i1 (by simp))⟩⟩
  have e1:=rx.length;have e2:=ry.length;refine Ay (ya hh i1 a (fa i1 (by simp)) its.toArray) (ya hh i2 b (fb i2 (by simp)) Yl.toArray) WM h1 h2 h3 ⟨h4,px⟩ ⟨h5,py⟩ (by simp only[dv];omega) λg tk kp=>⟨rfl,?_⟩;have kk:∀c o,c∉[z,TI,TO,i1,i2]->s.heap.get? c=some o->g.get? c=some o:=λc o hc e=>by simp only[df,dC,eX,fH]at hc;exact kp c o hc.1 hc.2.2.1 hc.2.2.2.1 hc.2.2.2.2 e
  refine I.step (g':=s.gens) (d':=s.drawn) (t':=tk) (ch:=[z,TI,TO,i1,i2]) (λc hc=>⟨(hf c hc).2.2.2.1,(hf c hc).2.1,(hf c hc).2.2.2.2.1,(hf c hc).2.2.2.2.2⟩) ?_ ?_ (λc o _ e n=>n) ?_ (λ_ _ e=>e) (λ_ _ _ e=>e) (λc ps e=>⟨#[],by rw[e];simp⟩) ?_ ?_ I.bare
  .exact λc o _ _ hc e _=>kk c o hc e
  .exact λc o _ _ hc e _=>⟨o.slots,kk c o hc e⟩
  .exact λc o hc e=>⟨o,kk c o hc e⟩
  .intro m hm;obtain⟨o,es,ep,ho,r⟩:=hm;exact⟨o,es,ep,kk _ o (λy=>(hf _ y).2.1 rfl) ho,r⟩
  .intro c u e;refine(I.mR c u e).nk (λd v hd q=>kk d v (λy=>?_) q) (λ_ q=>q) λ_ _ q=>q;have n:=(hf d y).1;rcases hd with x|x
   .rw[x,e]at n;cases n
   .rw[x]at n;cases n
 self:=λ_ _ _ _ _ st h=>l0 st.1 h
def QL{a b:Expr}{ta:TA}(hg:Gl X "zip")(hm:X.mg "zip"=none)(ha:PA X [a,b] ta)(hs:starEach [a,b] X.env=[(false,eval a X.env),(false,eval b X.env)]:=by rfl)(X4:starEach [b] X.env=[(false,eval b X.env)]:=by rfl):
  PI X (.Tuple WQ n tp) (.Call (.Name "zip" p) [a,b] [] pos) (λσ H R=>ta σ H λvs H1=>∃l m,vs=[.ref l,.ref m]/\(∃xs,uQ X.K H1 l xs)/\(∃xs,uQ X.K H1 m xs)/\R (VJ X.K l m) H1):=by
 intro Wp s σ H R I h;refine Call_ (xE I hg hm Rw (fR (sr (ha pos Wp s σ H _ I h) λus s1 zz=>x5 zz λvs H1 I1 r1 q1=>?_) (by rw[hs,X4]) (by rw[X4];rfl)));obtain⟨l,m,e,⟨xs,hx⟩,⟨ys,hy⟩,q⟩:=q1;subst e;obtain⟨u,v,rfl,ru,rv⟩:=Mt r1;cases ru;cases rv;obtain⟨its,_,px,_⟩:=I1.tuple hx;obtain⟨Yl,_,py,_⟩:=I1.tuple hy;refine Fd px py λg h1 h2 h3 h4 h5 hk=>l0 h1 ?_;have I2:Inv X Wp σ H1 {s1 with heap:=g}:=I1.kept (t':=s1.toks) hk;refine⟨s1.heap.objs.size+4,[s1.heap.objs.size+4,s1.heap.objs.size+2,s1.heap.objs.size+3,s1.heap.objs.size,s1.heap.objs.size+1],_,_,H1,rfl,I2,ME l m _ _ _ _ _ ?_ ?_ ?_ ?_ ?_ ?_ ?_ ?_ ?_ ?_,⟨h1,h2,⟨_,_,h3⟩,h4,h5⟩,λb hb=>?_,q⟩
 .exact λz=>by have z:s1.heap.objs.size+2=s1.heap.objs.size+4:=z;omega
 .exact λz=>by have z:s1.heap.objs.size+3=s1.heap.objs.size+4:=z;omega
 .exact λz=>by have z:s1.heap.objs.size=s1.heap.objs.size+4:=z;omega
 .exact λz=>by have z:s1.heap.objs.size+1=s1.heap.objs.size+4:=z;omega
 .exact λz=>by have z:s1.heap.objs.size+2=s1.heap.objs.size+3:=z;omega
 .exact λz=>by have z:s1.heap.objs.size+2=s1.heap.objs.size:=z;omega
 .exact λz=>by have z:s1.heap.objs.size+2=s1.heap.objs.size+1:=z;omega
 .exact λz=>by have z:s1.heap.objs.size+3=s1.heap.objs.size:=z;omega
 .exact λz=>by have z:s1.heap.objs.size+3=s1.heap.objs.size+1:=z;omega
 .exact λz=>by have z:s1.heap.objs.size=s1.heap.objs.size+1:=z;omega
 .have Xi:s1.heap.objs.size<=b:=by
   simp only[df,dC,eX]at hb;rcases hb with rfl|rfl|rfl|rfl|rfl
   .exact iD _ _
   .exact iD _ _
   .exact iD _ _
   .exact dg _
   .exact iD _ _
  exact I1.nV Xi (I1.mR.fresh Xi)
def Az:List D->List D->List D
 | x::a,y::b=>.tup [x,y]::Az a b
 | _,_=>[]
theorem HG:∀{ds es:List D} {i:Nat},(Az ds es)[i]?=(ds[i]?).bind λd=>(es[i]?).map λe=>D.tup [d,e]
 | [],es,i=>by simp[Az]
 | d::ds,[],i=>by simp[Az]
 | d::ds,e::es,0=>by simp[Az]
 | d::ds,e::es,i+1=>by show(Az ds es)[i]?=_;rw[HG];simp
theorem EL:∀{ds es:List D},(Az ds es).length=min ds.length es.length
 | [],es=>by simp[Az]
 | d::ds,[]=>by simp[Az]
 | d::ds,e::es=>by show(Az ds es).length+1=_;rw[EL];simp only[dZ];omega
def PD{K:ql}{H1:Hp}{a b:Addr}{ds es:List D}{xs ys:List V}(h1:uQ K H1 a xs)(h2:qd K H1 ds xs)(g1:uQ K H1 b ys)(g2:qd K H1 es ys):Gk K H1 (VJ K a b) (Az ds es) (λ_=>True) where
 go:=λi H M hi hm ok e1=>by rw[EL]at hi;obtain⟨x,ex,_⟩:=h2.get (cW (show i<ds.length by omega));obtain⟨y,ey,_⟩:=g2.get (cW (show i<es.length by omega));exact⟨xs,ys,x,y,e1.t _ _ h1,e1.t _ _ g1,ex,ey⟩
 oM:=λi d H M v H' hd hm ok e1 y=>by
  obtain⟨p,x,z,rfl,hp,rfl,y1,y2⟩:=y;rw[HG]at hd;cases e:ds[i]? with
  | none=>rw[e]at hd;cases hd
  | some d'=>
   cases e':es[i]? with
   | none=>rw[e,e']at hd;cases hd
   | some d''=>rw[e,e']at hd;cases hd;obtain⟨x',q1,hx⟩:=h2.get e;obtain⟨z',q2,hz⟩:=g2.get e';have w1:=y1 xs (e1.t _ _ h1);have w2:=y2 ys (e1.t _ _ g1);rw[q1]at w1;rw[q2]at w2;have v1:x'=x:=dh w1;have v2:z'=z:=dh w2;subst v1 v2;have ex:qO K H (upd H p (.tup [x',z'])):=.new hp;exact⟨.tup (.of pZ) (.cons (hx.mono (e1.trans ex)) (.cons (hz.mono (e1.trans ex)) .nil)),hm.add hp,ex⟩
 stop:=λH M hm ok e1=>⟨xs,ys,e1.t _ _ h1,e1.t _ _ g1,by rw[EL,h2.length,g2.length]⟩
def SO(t:xi):Nm:=λδ M R=>t δ M λds M1=>match ds with
 | [.tup a,.tup b]=>R (Az a b) (λ_=>True) M1
 | _=>False
def RQ{a b:Expr}{ta:xi}(hg:Gl X "zip")(hm:X.mg "zip"=none)(ha:A3 X [a,b] ta)(hs:starEach [a,b] X.env=[(false,eval a X.env),(false,eval b X.env)]:=by rfl)(X4:starEach [b] X.env=[(false,eval b X.env)]:=by rfl):
  I3 X (.Tuple WQ n tp) (.Call (.Name "zip" p) [a,b] [] pos) (SO ta):=
 PI.mono (QL hg hm ha hs X4) λσ H R' zz=>x7 zz λδ M R hs hm ht k=>⟨δ,M,_,hs,hm,ht,λvs H1 ds M1 hd Wr e1 q1=>by
  split at q1
  .obtain⟨v,u,rfl,hv,hw⟩:=Fu hd;obtain⟨l,xs,rfl,h1,h2⟩:=hv.mP;obtain⟨m,ys,rfl,g1,g2⟩:=hw.mP;exact⟨l,m,rfl,⟨xs,h1⟩,⟨ys,g1⟩,k _ H1 _ _ M1 (PD h1 h2 g1 g2) Wr e1 trivial q1⟩
  .exact q1.elim⟩
def qw(M M':Mp):Prop:=∀a c,M a=some c->M' a=some c
def qw.refl{M:Mp}:qw M M:=λ_ _ h=>h
def qw.trans{M M1 M2:Mp}(a:qw M M1)(b:qw M1 M2):qw M M2:=λx c h=>b x c (a x c h)
def qw.new{M:Mp}{p:Addr}{c:uN}(h:M p=none):qw M (pD M p c):=λx d q=>by rw[uq (OI q h)];exact q
def qw.lst{M M':Mp}{a:Addr}{ds:List D}(s:qw M M')(h:oR M a=some ds):oR M' a=some ds:=by
 unfold oR at h ⊢;cases e:M a with
 | none=>rw[e]at h;cases h
 | some c=>rw[s a c e];rw[e]at h;exact h
def HM.sub{K:ql}{H:Hp}{M M':Mp}(h:HM K H M')(s:qw M M'):HM K H M:=λa c q=>h a c (s a c q)
def S6{x qual:Str}{st:Stmt}{f:Addr}{fd:FuncData}{N ps:QQQ}{k:Nat}{sp:rh}(F:Of K x qual st f fd)(S:sR N ps (pY st))(len:∀ds M Q,sp ds M Q->ds.length=ps.length) (WN:∀(Wz:Vl) (A:Ar) (outer:List Env) (s:Sd) (H:Hp) (E:XK),rR k (A.deeper (envOfC qual (pY st) s.heap.objs.size f Wz))->
   ∃t,GX (vo Nk P w K mg base N qual (pY st) f Wz A outer s H E).oq (rJ st) t/\∀ds M Q,sp ds M Q->t {nx:=λ_ M'=>∃Wu,qw Wu M'/\Q .mM Wu,rt:=λd M'=>∃Wu,qw Wu M'/\Q d Wu} (wz N ds) M):SH P w K mg base (k+1) f fd ps sp:=by
 refine F.ok S (λvs H Q E h=>?_) (λWz A outer s H vs Q' E hr h=>?_)
 .obtain⟨ds,M,Q,hd,_,hs,_⟩:=h;rw[<-hd.length];exact len ds M Q hs
 .obtain⟨ds,M,Q,hd,hm,hs,k⟩:=h;obtain⟨t,ht,hb⟩:=WN Wz A outer s H E hr;exact⟨_,ht,wz N ds,M,_,Dm hd,hm,hb ds M Q hs,λσ' H' δ' M' _ x2 x3 _ ⟨Wu,y1,y2⟩=>k .mM H' .mM Wu .mM (x2.sub y1) x3 y2,λv H' d M' x1 x2 x3 ⟨Wu,y1,y2⟩=>k v H' d Wu x1 (x2.sub y1) x3 y2,λ_ _ _ _ _ _ _ _ z=>z,λ_ _ _ _ _ _ _ _ z=>z⟩
theorem BM{g:C9}{te:T3}{ok:Mp->Prop}{Q:DK}{f:D->D}{M:Mp}(J:uX->Prop)(mR:ok M):∀(ds acc:List D) (δ:uX),J δ->acc.length+ds.length<=sizeLine->
  (∀d∈ds,∀δ,J δ->∀k:uX->DK,(∀δ',J δ'->k δ' (f d) M)->g d δ M λδ2 M2=>te δ2 M2 (k δ2))->(∀p,M p=none->Q (.ref p) (pD M p (.lst (acc++ds.map f))))->uV g Bf te ok Q ds acc δ M
 | [],acc,δ,_,hl,_,hq=>⟨by simpa using hl,by simpa using hq⟩
 | d::r,acc,δ,hj,hl,ht,hq=>by
  rw[dZ]at hl;refine⟨by omega,?_⟩;refine ht d dN δ hj (λδ2 y M4=>ok M4/\uV g Bf te ok Q r (acc++[y]) δ2 M4) λδ' hj'=>⟨mR,BM (f:=f) J mR r (acc++[f d]) δ' hj' ?_ (λe he=>ht e (dD _ he)) ?_⟩
  .rw[cV,dP];omega
  .simpa using hq
def qX{i:Nat}{te:T3}{ok:Mp->Prop}{Q:DK}{f:D->D}{M:Mp}(mR:ok M):∀(ds acc:List D) (δ:uX),acc.length+ds.length<=sizeLine->(∀d∈ds,∀k:DK,k (f d) M->te (δ.set i (some d)) M k)->
  (∀p,M p=none->Q (.ref p) (pD M p (.lst (acc++ds.map f))))->uV (sO i) Bf te ok Q ds acc δ M:=λds acc δ hl ht hq=>
 BM (f:=f) (λδ'=>∀d,δ'.set i (some d)=δ.set i (some d)) mR ds acc δ (λ_=>rfl) hl (λd hd δ' hj k hk=>by
  show te (δ'.set i (some d)) M (k (δ'.set i (some d)));rw[hj d];exact ht d hd _ (hk _ λe=>by rw[iP])) hq
theorem x8{α:Type}(f:α->Bool):∀l:List α,F8 (l.map λx=>D.bl (f x))=some (l.map f)
 | []=>rfl
 | x::r=>by show(F8 (r.map λx=>D.bl (f x))).map (f x::·)=_;rw[x8 f r];rfl
def pC{M:Mp}{p:Addr}{ds:List D}:oR (pD M p (.lst ds)) p=some ds:=by unfold oR;rw[pP]
def i'{α:Type}{o:Option α}{P:α->Prop}{x:α}(e:o=some x)(h:P x):o.elim False P:=by rw[e];exact h
def oZ{l:List D}(h:decide (l.length<=100)=true):l.length<=sizeLine:=by have z:=dO;have:=fv h;omega
theorem A7{g:C9}{tb:xn}{ok:Mp->Prop}{E:Gz}(J:uX->Mp->Prop)(mR:∀δ M,J δ M->ok M):∀(ds:List D) (δ:uX) (M:Mp),J δ M->
  (∀d∈ds,∀δ M,J δ M->∀nx:uX->Mp->Prop,(∀δ' M',J δ' M'->nx δ' M')->g d δ M λδ2 M2=>tb {E with nx:=nx,ct:=nx,bk:=E.nx} δ2 M2)->(∀δ M,J δ M->E.nx δ M)->EH g tb ok E ds δ M
 | [],δ,M,j,_,hn=>hn δ M j
 | d::r,δ,M,j,ht,hn=>ht d dN δ M j (λδ' M'=>ok M'/\EH g tb ok E r δ' M') λδ' M' j'=>⟨mR δ' M' j',A7 J mR r δ' M' j' (λe he=>ht e (dD _ he)) hn⟩
theorem vP{g:C9}{tb:xn}{ok:Mp->Prop}{E:Gz}(all:List D)(J:List D->uX->Mp->Prop)(mR:∀p δ M,J p δ M->ok M):∀(ds pre:List D) (δ:uX) (M:Mp),pre++ds=all->J pre δ M->
  (∀pre d post,pre++d::post=all->∀δ M,J pre δ M->∀nx:uX->Mp->Prop,(∀δ' M',J (pre++[d]) δ' M'->nx δ' M')->g d δ M λδ2 M2=>tb {E with nx:=nx,ct:=nx,bk:=E.nx} δ2 M2)->(∀δ M,J all δ M->E.nx δ M)->EH g tb ok E ds δ M
 | [],pre,δ,M,e,j,_,hn=>hn δ M (by rw[<-e,eS];exact j)
 | d::r,pre,δ,M,e,j,ht,hn=>ht pre d r e δ M j (λδ' M'=>ok M'/\EH g tb ok E r δ' M') λδ' M' j'=>⟨mR _ δ' M' j',vP all J mR r (pre++[d]) δ' M' (by rw[<-e,eW];rfl) j' ht hn⟩
def LU{K:ql}{t:Vl}:W.kitOne K t t=some true:=by unfold W.kitOne;rw[c9 (by simp)]
def Sj{K:ql}{t c:Vl}{b:Bool}(h:W.kitCls K t c=some b)(ne:b=false->(t==c)=false):W.kitOne K t c=some b:=by
 unfold W.kitOne;by_cases e:(t==c)=true
 .rw[c9 e];cases b with
  | true=>rfl
  | false=>rw[ne rfl]at e;cases e
 .rw[cY e];exact h
def RX{K:ql}{t:Vl}{T:String}{b:Bool}(m:W.kitMeta T=true)(s:W.subIn K t (.type T)=some b)(ne:b=false->(t==.type T)=false):W.kitOne K t (.type T)=some b:=by refine Sj ?_ ne;unfold W.kitCls;simp only;rw[c9 m];exact s
def Rv:W.kitMeta "str"=true:=by decide+kernel
def Lb{c:Bool}{A B:Prop}(h:c=false)(hb:B):if c=true then A else B:=by subst h;exact NE hb
def Au{c:Bool}{A B:Prop}(h:c=true)(ha:A):if c=true then A else B:=by subst h;exact M9 ha
def Qq{t u:xn}{E:Gz}{δ:uX}{M:Mp}(R:uX->Mp->Prop)(h2:∀nx:uX->Mp->Prop,(∀δ' M',R δ' M'->nx δ' M')->t {E with nx:=nx} δ M)(h1:∀δ' M',R δ' M'->u E δ' M'):ud t u E δ M:=h2 (u E) h1
def SN{K:ql}{H:Hp}{a:Addr}{ns:List Int}(hO:LL H)(hS:yS K H a (ns.map V.int)):rH K H (.rl (ns.map D.int)) (.ref a):=by
 have r:OX K H a (ns.map V.int):=by
  rcases hS with h|h
  .rcases h with h|⟨o,h⟩
   .rcases hO a with z|⟨o,xs,z⟩<;>(rw[h]at z;cases z)
   .exact .inl ⟨o,h⟩
  .exact .inr h
 unfold rH;exact⟨a,_,rfl,r,.ints⟩
def Rx{K:ql}{sp:rh}{H:Hp}{a:Addr}{ns:List Int}(hO:LL H)(hS:yS K H a (ns.map V.int))(h:sp [.rl (ns.map D.int)] (λ_=>none) λd _=>d=.bl true):Nn K sp [.ref a] H (λv _=>v=.bl true) λ_ _ _=>False:=
 ⟨_,λ_=>none,_,.cons (SN hO hS) .nil,λ_ _ z=>(by cases z),h,λv H' d M' x1 _ _ x4=>by subst x4;exact x1.mL⟩
def L4{l:W.OpenLaw}{q:Pg}{Xe:QQQ}{XP:(QQZ)->Heap->Prop}{YP:Wo->Heap->Prop}{d:DefRec}{K:Params->ql}{k:Nat}{x:Str}{sp:rh}(hn:l.most=some 63)(YV:d.params.defaults=[])(hr:rR k callerA) (hY:∀(w:Wo) (h:Heap),YP w h->(K w.params).In h) (XS:∀ns:List Int,ns.length<=63->sp [.rl (ns.map D.int)] (λ_=>none) λd _=>d=.bl true) (F:∀(w:Wo) (mg:QQZ) (fa:Addr) (h:Heap),(K w.params).In h->h.Ns mainGlobals mg->mg d.name=some (.ref fa)->
   ∃fd:FuncData,(∀(s:Sd) (u:Vl),BindsTo s fd ⟨[u],[]⟩ [(x,u)])/\∀base:Heap,(K w.params).In base->base.Ns mainGlobals mg->SH l.prog w (K w.params) mg base k fa fd [x] sp):
  W.WalkO q Xe XP YP l.row.toRowW d [] (λf vs=>PySem.call f vs):=
 L2.OR (n:=63) (k:=k) (x:=x) (CX:=λ_=>Nk) (sp:=λw=>Nn (K w.params) sp) hn (by decide) YV hr hY F (λ_ _ a ns hl hO hS=>Rx hO hS (XS ns hl)) λ_ _ _ _ _ z=>z
def KD(K:ql)(mg:QQZ)(x:Str)(d:D):Prop:=B1 λv u=>mg x=some u/\qG v u/\∀H,rH K H d v
def QI{K:ql}{mg:QQZ}{x y:Str}{t:Tok}(h:mg x=some (.str y t)):KD K mg x (.str y):=⟨.str y,_,h,⟨t,rfl⟩,λ_=>.str⟩
def vX{K:ql}{mg:QQZ}{x:Str}{y:Int}{t:Tok}(h:mg x=some (.int y t)):KD K mg x (.int y):=⟨.int y,_,h,⟨t,rfl⟩,λ_=>.int⟩
def uk{K:ql}{a:Addr}{ss:QQQ}{us:List Vl}{n:Nat}{sl:Array (Option Vl)}(h:K.lookup a=some ⟨.type "tuple",none,.seq us.toArray n,sl⟩)(r:qA (ss.map V.str) us)(hz:us.length<=1000):uQ K (λ_=>none) a (ss.map V.str):=
 .inr ⟨_,us.toArray,n,h,rfl,rfl,rfl,by rw[dv,dO];omega,by simpa using r⟩
theorem zZ{K:ql}{H:Hp}:∀{ss:QQQ},qd K H (ss.map D.str) (ss.map V.str)
 | []=>.nil
 | _::_=>.cons .str zZ
def NS{K:ql}{mg:QQZ}{x:Str}{a:Addr}{ss:QQQ}(h:mg x=some (.ref a))(q:uQ K (λ_=>none) a (ss.map V.str)):KD K mg x (.tup (ss.map D.str)):=
 ⟨.ref a,_,h,rfl,λ_=>.tup (Iy q) zZ⟩
variable {d:D}{i:Expr}{td tk:T3}{F:List (Str × QQQ)}
def sy(hg:Gl X x)(h:KD X.K X.mg x d)(hd:yP x:=by decide):E3 X (.Name x pos) (c3 d):=by obtain⟨v,u,hm,r,hh⟩:=h;exact PE.mono (DZ hg hm r hd) λσ H Q' zz=>x7 zz λδ M Q hs hm ht k=>k _ H _ M (hh H) hm .refl ht
def Vn(F:List (Str×QQQ))(ta:T3):T3:=λδ M Q=>ta δ M λx M1=>match x with|.str k=>Q (.bl (KTD.datumAt k F).isSome) M1|_=>False
def Tu(F:List (Str×QQQ))(ta:T3):T3:=λδ M Q=>ta δ M λx M1=>match x with|.str k=>(KTD.datumAt k F).elim False λss=>Q (.tup (ss.map D.str)) M1|_=>False
def L8(T:Lg X.K X.mg x F)(hg:Gl X x)(he:E3 X e ta)(hd:yP x:=by decide)(hmk:behindInMarks .In (.Name x p)=false:=by rfl):E3 X (.Compare e [.In] [.Name x p] pos) (Vn F ta):=by
 obtain⟨a,hm,T⟩:=Fz T;refine PE.mono (IT (r:=λy z H Q=>∃k,y=.str k/\z=.ref a/\Q (.bl (KTD.datumAt k F).isSome) H) (λWp s σ H y z v u Q I ry rz ⟨k,e1,e2,q⟩=>?_) he (DZ (v:=.ref a) hg hm rfl hd) hmk) λσ H Q' zz=>x7 zz λδ M Q hs hm ht k=>⟨δ,M,_,hs,hm,ht,λv H1 d M1 hd Wr e1 q1=>?_⟩
 .subst e1 e2;obtain⟨t,rfl⟩:=ry;obtain rfl:u=Value.ref a:=rz;exact Si (T s.heap I.m7) ⟨.bl (KTD.datumAt k F).isSome,H,I.tok _,rfl,q⟩
 .cases d with
  | str k'=>exact⟨k',hd.str_inv,rfl,k _ _ _ _ .bl Wr e1 q1⟩
  | _=>exact q1.elim
def Kh(T:Lg X.K X.mg x F)(hg:Gl X x)(he:E3 X e ta)(hd:yP x:=by decide)(hs:AY e:=by exact λ_ _=>rfl):E3 X (.Subscript (.Name x p) e pos) (Tu F ta):=by
 obtain⟨a,hm,T⟩:=Fz T;refine PE.mono (LC (r:=λz y H Q=>∃k ss,y=.str k/\z=.ref a/\KTD.datumAt k F=some ss/\∀t,uQ X.K H t (ss.map V.str)->Q (.ref t) H) (λvalue WC Wp s σ H z y o i Q I rz ry ⟨k,ss,e1,e2,e3,q⟩ hs=>?_) (DZ (v:=.ref a) hg hm rfl hd) he hs) λσ H Q' zz=>x7 zz λδ M Q hs hm ht k=>⟨δ,M,_,hs,hm,ht,λv H1 d M1 hd Wr e1 q1=>?_⟩
 .subst e1 e2;obtain⟨t,rfl⟩:=ry;obtain rfl:o=Value.ref a:=rz;have hT:=yu (s:=s) (T s.heap I.m7);have h2:wpAny (model X.prog X.w) X.A (getItem (.ref a) (.str k t)) (EP X Wp σ Q) X.xe s:=Km (T s.heap I.m7) e3 λv ⟨t',e4,q4⟩=>⟨.ref t',H,I.tok _,e4,q t' (Iy q4)⟩;unfold subscriptTail;refine cU ?_;rw[j9 hT.not_modules];refine cU (iM hT jr.lookup ?_);have Wt:wpAny (model X.prog X.w) X.A (subscripted WC false (.ref a) (.str k t)) (λr s₃=>wpAny (model X.prog X.w) X.A (letTemporaryGo value (.ref a) r>>=λ_=>pure r) (EP X Wp σ Q) X.xe s₃) X.xe s:=by rw[hs];exact wpAny_operating (d9 h2 (λr s₃ h₃=>cU (kt (de h₃))) λ_ _ x=>x)
  first
   | exact de (cU Wt)
   | exact cU (de (cU Wt))
   | exact cU Wt
 .cases d with
  | str k'=>obtain⟨ss,e4,q2⟩:=qP q1;exact⟨k',ss,hd.str_inv,rfl,e4,λt qt=>k _ _ _ _ (.tup qt zZ) Wr e1 q2⟩
  | _=>exact q1.elim
def zG(M:Mp)(a:Addr):Option (List (rf×D)):=match M a with
 | some (.dk kvs)=>some kvs
 | _=>none
def vw(kvs:List (rf×D))(k:rf):Option D:=(kvs.find? λp=>decide (p.1=k)).map (·.2)
def Ct{K:ql}{H:Hp}{M:Mp}{a:Addr}{kvs:List (rf×D)}(hm:HM K H M)(h:zG M a=some kvs):∃vs,H a=some (.dK vs)/\vs.map (·.1)=kvs.map (·.1)/\qd K H (kvs.map (·.2)) (vs.map (·.2)):=by
 unfold zG at h;cases e:M a with
 | none=>rw[e]at h;cases h
 | some c=>
  rw[e]at h;have ok:=hm a c e;cases c with
  | dk es=>cases h;exact ok
  | ins _ _=>cases h
  | lst _=>cases h
  | exc _=>cases h
theorem D7{K:ql}{H:Hp}{k:rf}:∀{kvs:List (rf×D)} {vs:List (rf×V)},vs.map (·.1)=kvs.map (·.1)->qd K H (kvs.map (·.2)) (vs.map (·.2))->(∀d,vw kvs k=some d->∃v,wO vs k=some v/\rH K H d v)/\(vw kvs k=none->wO vs k=none)
 | [],[],_,_=>⟨λd z=>(by cases z),λ_=>rfl⟩
 | [],_::_,e,_=>by cases e
 | _::_,[],e,_=>by cases e
 | (j,d)::kvs,(j',v)::vs,e,h=>by
  have e1:j'=j:=by simpa using(gD e).1
  subst e1;obtain⟨x,r,e2,h1,h2⟩:=h.inv;obtain⟨e3,e4⟩:=gD e2;subst e3 e4;have ih:=D7 (k:=k) (kvs:=kvs) (vs:=vs) (gD e).2 h2;by_cases hk:j'=k
  .have g:vw ((j',d)::kvs) k=some d:=by simp[vw,hk]
   have g':wO ((j',v)::vs) k=some v:=by simp[wO,hk]
   rw[g,g'];exact⟨λd' z=>by cases z;exact⟨v,rfl,h1⟩,λz=>by cases z⟩
  .have g:vw ((j',d)::kvs) k=vw kvs k:=by simp[vw,hk]
   have g':wO ((j',v)::vs) k=wO vs k:=by simp[wO,hk]
   rw[g,g'];exact ih
def KC(x y:D)(M:Mp)(Q:DK):Prop:=match x,y with
 | .ref a,.str k=>(zG M a).elim False λkvs=>(vw kvs (.inr k)).elim False λd=>Q d M
 | _,_=>False
def Tn(td tk:T3):T3:=λδ M Q=>td δ M λx M1=>tk δ M1 λy M2=>KC x y M2 Q
def yX(hu:X.A.units+9<cLine)(ho:E3 X o td)(hi:E3 X i tk)(hs:AY i:=by exact λ_ _=>rfl):E3 X (.Subscript o i pos) (Tn td tk):=by
 refine PE.mono (LC (r:=R3 X.K KC) (λvalue WC Wp s σ H vx vy v u Q' I rx ry h hs=>?_) ho hi hs) GU;obtain⟨x,y,M,Q,hx,hy,hm,q,k⟩:=h;unfold KC at q;split at q
 .rename_i a0 k0;obtain⟨kvs,e1,q⟩:=qP q;obtain⟨d,e2,q⟩:=qP q;cases hx.mH;cases hy.str_inv;obtain⟨vs,h1,h2,h3⟩:=Ct hm e1;obtain⟨w,e3,hw⟩:=(D7 h2 h3).1 d e2;refine Pl (by omega) value WC Wp s σ H _ _ v u Q' I rx ry ⟨_,w,rfl,?_,k _ _ _ _ hw hm .refl q⟩ hs;have g:=Ep.k (k:=Sum.inr k0) h1;rw[e3]at g;exact g
 .exact q.elim
def QW(X0:Bool)(x y:D)(M:Mp)(Q:DK):Prop:=match x,y with
 | .str k,.ref a=>(zG M a).elim False λkvs=>Q (.bl (if X0 then !(vw kvs (.inr k)).isSome else(vw kvs (.inr k)).isSome)) M
 | _,_=>False
def Lk{K:ql}{H:Hp}{k:rf}{kvs:List (rf×D)}{vs:List (rf×V)}(h2:vs.map (·.1)=kvs.map (·.1))(h3:qd K H (kvs.map (·.2)) (vs.map (·.2))):(wO vs k).isSome=(vw kvs k).isSome:=by
 obtain⟨a,b⟩:=D7 (k:=k) h2 h3;cases e:vw kvs k with
 | none=>rw[b e];rfl
 | some d=>obtain⟨v,e3,_⟩:=a d e;rw[e3];rfl
def Vr(X0:Bool)(tk td:T3):T3:=λδ M Q=>tk δ M λx M1=>td δ M1 λy M2=>QW X0 x y M2 Q
def SS(hu:X.A.units+9<cLine):xO X (compareOp .In) (R3 X.K (QW false)):=λWp s σ H vx vy v u Q' I rx ry h=>by
 obtain⟨x,y,M,Q,hx,hy,hm,q,k⟩:=h;unfold QW at q;split at q
 .obtain⟨kvs,e1,q⟩:=qP q;cases hy.mH;cases hx.str_inv;obtain⟨vs,h1,h2,h3⟩:=Ct hm e1;refine Rq (by omega) Wp s σ H _ _ v u Q' I rx ry ⟨_,_,rfl,Ep.k (k:=Sum.inr _) h1,?_⟩;rw[Lk h2 h3];exact k _ _ _ _ .bl hm .refl q
 .exact q.elim
def Mh(hu:X.A.units+9<cLine)(hi:E3 X i tk)(ho:E3 X o td)(hm:behindInMarks .In o=false:=by first|exact G4 _|with_unfolding_all rfl):B3 X (.Compare i [.In] [o] pos) (b3 (Vr false tk td)):=PT.mono (HP (SS hu) hi ho hm) λσ H Q' zz=>x7 zz λδ M Q hs hm ht k=>
 GU σ H _ ⟨δ,M,_,hs,hm,ht,λv H1 d M1 hd Wr e1 q1=>by
  cases d with
  | bl c=>exact⟨c,hd.mL,k c H1 M1 Wr e1 q1⟩
  | _=>exact q1.elim⟩
def wN:List D->Option (List (rf×D))
 | []=>some []
 | .tup [.str k,d]::r=>(wN r).map ((.inr k,d)::·)
 | _::_=>none
theorem DW{K:ql}{H:Hp}:∀{es:List D} {kvs:List (rf×D)} {xs:List V},wN es=some kvs->qd K H es xs->∃(ts:QXQ) (vs:List (rf×V)),xs=ts.map V.ref/\ts.length=vs.length/\vs.map (·.1)=kvs.map (·.1)/\qd K H (kvs.map (·.2)) (vs.map (·.2))/\
  ∀(j:Nat) (t:Addr) (p:rf×V),ts[j]?=some t->vs[j]?=some p->uQ K H t [kV p.1,p.2]
 | [],_,_,e,h=>by cases e;exact⟨[],[],h.nil_inv,rfl,rfl,.nil,λj t p z=>by simp at z⟩
 | d::es,kvs,xs,e,h=>by
  obtain⟨x,r,rfl,h1,h2⟩:=h.inv;unfold wN at e;split at e
  .rename_i z;cases z
  .rename_i k d' r' z;cases z;cases q:wN es with
   | none=>rw[q]at e;cases e
   | some kvs'=>
    rw[q]at e;cases e;obtain⟨ts,vs,e1,e2,e3,e4,e5⟩:=DW q h2;obtain⟨a,ys,rfl,g1,g2⟩:=h1.mP;obtain⟨y,r1,rfl,g3,g4⟩:=g2.inv;obtain⟨w,r2,rfl,g5,g6⟩:=g4.inv;cases g6.nil_inv;cases g3.str_inv;refine⟨a::ts,(.inr k,w)::vs,by rw[e1];rfl,by simpa using e2,by rw[dS,dS,e3],.cons g5 e4,λj t p z1 z2=>?_⟩;cases j with
    | zero=>
     have z1':a=t:=by simpa using z1
     have z2':(Sum.inr k,w)=p:=by simpa using z2
     subst z1' z2';exact g1
    | succ j=>exact e5 j t p (by simpa using z1) (by simpa using z2)
  .cases e
def Qi(ds:List D)(M:Mp)(Q:DK):Prop:=match ds with
 | [.ref a]=>(oR M a).elim False λes=>(wN es).elim False λkvs=>(kvs.map (·.1)).Nodup/\∀p,M p=none->Q (.ref p) (pD M p (.dk kvs))
 | _=>False
def E8(hc:X.calm=true):C3 X (.type "dict") Qi:=by
 intro Wp s σ H vs us Q' I rv h;obtain⟨ds,M,Q,hd,hm,q,k⟩:=h;unfold Qi at q;split at q
 .obtain⟨es,e1,q⟩:=qP q;obtain⟨kvs,e2,hnd,q⟩:=qP q;obtain⟨v,rfl,hv⟩:=rQ hd;cases hv.mH;obtain⟨xs,h1,h2,_⟩:=qo hm e1;obtain⟨ts,ws,rfl,f2,f3,f4,f5⟩:=DW e2 h2;refine GW hc Wp s σ H _ us Q' I rv ⟨_,ts,ws,rfl,h1,f2,f5,by rw[f3];exact hnd,λd hd=>?_⟩;have e:qO X.K H (upd H d (.dK ws)):=.new hd;exact k _ _ _ _ .ref (hm.new (c:=.dk kvs) hd ⟨_,pZ,f3,f4.mono e⟩) e (q d (hm.fresh hd))
 .exact q.elim
def QQ:bootBuiltins "set"=some (.type "set"):=by decide+kernel
def BJ:List D->Option (QQQ)
 | []=>some []
 | .str x::r=>(BJ r).map (x::·)
 | _::_=>none
theorem Bu:∀ss:QQQ,BJ (ss.map D.str)=some ss
 | []=>rfl
 | x::r=>by show(BJ (r.map D.str)).map (x::·)=_;rw[Bu r];rfl
theorem FL{K:ql}{H:Hp}:∀{ds:List D} {ss:QQQ} {xs:List V},BJ ds=some ss->qd K H ds xs->xs=ss.map V.str
 | [],_,_,e,h=>by cases e;exact h.nil_inv
 | d::ds,_,_,e,h=>by
  obtain⟨x,r,rfl,h1,h2⟩:=h.inv;cases d with
  | str z=>
   unfold BJ at e;cases q:BJ ds with
   | none=>rw[q]at e;cases e
   | some ss=>rw[q]at e;cases e;rw[h1.str_inv,FL q h2];rfl
  | _=>cases e
def SY(ta:T3):T3:=λδ M Q=>ta δ M λx M1=>(KW M1 x).elim False λes=>(BJ es).elim False λss=>ss.length<4000/\Q (.int (sL ss).length) M1
def Ke{p2 Yc:Pos}(hc:X.calm=true)(he:E3 X e ta)(hg1:Gl X "len")(Wr:X.mg "len"=none)(hg2:Gl X "set")(WI:X.mg "set"=none)(b1:bootBuiltins "len"=some (.builtin "len"))(b2:bootBuiltins "set"=some (.type "set")) (hs:starEach [e] X.env=[(false,eval e X.env)]:=by rfl):E3 X (.Call (.Name "len" p) [.Call (.Name "set" p2) [e] [] Yc] [] pos) (SY ta):=
 PE.mono (JM hc he hg1 Wr hg2 WI b1 b2 hs) λσ H Q' zz=>x7 zz λδ M Q hs hm ht k=>⟨δ,M,_,hs,hm,ht,λv H1 d M1 hd Wr e1 q1=>by
  obtain⟨es,e2,q1⟩:=qP q1;obtain⟨ss,e3,hz,q1⟩:=qP q1;obtain⟨a,xs,rfl,h1,h2⟩:=E5 Wr hd e2;rw[FL e3 h2]at h1;have z:scanBound=4096:=rfl;exact⟨a,ss,rfl,h1,by omega,k _ _ _ _ .int Wr e1 q1⟩⟩
def RM(x:D)(ds:List D)(M:Mp)(Q:DK):Prop:=match x,ds with
 | .ref a,[y]=>(oR M a).elim False λes=>es.length<sizeLine/\Q .mM (pD M a (.lst (es++[y])))
 | _,_=>False
def qg{M:Mp}{a:Addr}{es:List D}(h:oR M a=some es):M a=some (.lst es):=by
 unfold oR at h;split at h
 .rename_i e;rw[e];cases h;rfl
 .cases h
def Ef{K:ql}{H:Hp}{M:Mp}{a:Addr}{es:List D}(hm:HM K H M)(h:oR M a=some es):∃xs,H a=some (.lst xs)/\qd K H es xs:=hm a _ (qg h)
def JT:M3 X "list.append" RM:=by
 intro Wp s σ H vx vs v us Q' I rx rv h;obtain⟨x,ds,M,Q,hx,hd,hm,q,k⟩:=h;unfold RM at q;split at q
 .obtain⟨es,e1,hz,q⟩:=qP q;obtain⟨w,rfl,hw⟩:=rQ hd;cases hx.mH;obtain⟨xs,h1,h2⟩:=Ef hm e1;refine JI Wp s σ H _ _ v us Q' I rx rv ⟨_,xs,w,rfl,rfl,h1,by rw[<-h2.length];exact hz,?_⟩;obtain⟨WI,ex⟩:=hm.put (c:=.lst (es++[_])) (qg e1) λex=>⟨_,pZ,(h2.mono ex).snoc (hw.mono ex)⟩;exact k _ _ _ _ .mM WI ex q
 .exact q.elim
def rb(ho:E3 X o ta)(ha:A3 X (e::es) t)(WE:attributeBase o "append" X.env (eval o X.env)=eval o X.env:=by rfl)
  (WY:((backTo pos (starEach (e::es) X.env)).all (λx=>!x.1)&&(backToKw pos (keywordEach [] X.env)).all (λx=>x.1.isSome)&&decide ((e::es).length+([]:List Keyword).length+(if ([]:List Keyword).isEmpty then 0 else 1)<30))=true:=by rfl)
  (WO:(Ws.endLine==pos.line)=true:=by rfl) (hs:AL X e es:=by rfl) (Wx:Cr X pos es:=by rfl):
  E3 X (.Call (.Attribute o "append" Ws) (e::es) [] pos) (Vf RM ta t):=P8 PySem.F.slot_list_append PySem.F.type_list_append JT ho ha WE WY WO hs Wx
def qw.none{M M2:Mp}{q:Addr}(s:qw M M2)(h:M2 q=none):M q=none:=by
 cases e:M q with
 | none=>rfl
 | some c=>rw[s q c e]at h;cases h
def qw.upd{M M2:Mp}{q:Addr}{c:uN}(s:qw M M2):qw (pD M q c) (pD M2 q c):=λx d h=>by
 by_cases e:x=q
 .subst e;rw[pP]at h ⊢;exact h
 .rw[uq e]at h ⊢;exact s x d h
def qw.dk{M M':Mp}{a:Addr}{ds:List (rf×D)}(s:qw M M')(h:zG M a=some ds):zG M' a=some ds:=by
 unfold zG at h ⊢;cases e:M a with
 | none=>rw[e]at h;cases h
 | some c=>rw[s a c e];rw[e]at h;exact h
def rV(p:Addr)(M M':Mp):Prop:=∀b c,b≠p->M b=some c->M' b=some c
def qw.keep{M M':Mp}{p:Addr}(s:qw M M'):rV p M M':=λb c _ h=>s b c h
def rV.trans{M M1 M2:Mp}{p:Addr}(a:rV p M M1)(b:rV p M1 M2):rV p M M2:=λx c n h=>b x c n (a x c n h)
def rV.put{M:Mp}{p:Addr}{c:uN}:rV p M (pD M p c):=λb d n h=>by rw[uq n];exact h
def rV.lst{M M':Mp}{p a:Addr}{ds:List D}(k:rV p M M')(n:a≠p)(h:oR M a=some ds):oR M' a=some ds:=by have:=k a _ n (qg h);unfold oR;rw[this]
def rV.dk{M M':Mp}{p a:Addr}{ds:List (rf×D)}(k:rV p M M')(n:a≠p)(h:zG M a=some ds):zG M' a=some ds:=by
 unfold zG at h ⊢;cases e:M a with
 | none=>rw[e]at h;cases h
 | some c=>rw[k a c n e];rw[e]at h;exact h
def pS{M:Mp}{a p C:Addr}{ds:List D}{fs:List (Str×D)}(h:oR M a=some ds)(hp:M p=some (.ins C fs)):a≠p:=λz=>by subst z;rw[qg h]at hp;cases hp
def BC{M:Mp}{a p C:Addr}{ds:List (rf×D)}{fs:List (Str×D)}(h:zG M a=some ds)(hp:M p=some (.ins C fs)):a≠p:=λz=>by subst z;unfold zG at h;rw[hp]at h;cases h
def sG{M:Mp}{p:Addr}{ds:List D}(h:M p=some (.lst ds)):oR M p=some ds:=by unfold oR;rw[h]
def DP{M:Mp}{p:Addr}{ds:List (rf×D)}(h:M p=some (.dk ds)):zG M p=some ds:=by unfold zG;rw[h]
def sQ{N:Mp}{p q C:Addr}{fs fs':List (Str×D)}{c:uN}(hp:N p=some (.ins C fs))(hq:N q=none):
  q≠p/\pD N q c p=some (.ins C fs)/\rV p N (pD (pD N q c) p (.ins C fs'))/\pD (pD N q c) p (.ins C fs') q=some c/\pD (pD N q c) p (.ins C fs') p=some (.ins C fs'):=by
 have n:p≠q:=OI hp hq;refine⟨dJ n,by rw[uq n];exact hp,(qw.new hq).keep.trans .put,by rw[uq (dJ n),pP],pP⟩
theorem D0{g:C9}{te:T3}{ok:Mp->Prop}{Q:DK}(all:List D)(J:List D->List D->uX->Mp->Prop)(mR:∀p acc δ M,J p acc δ M->ok M):∀(ds pre acc:List D) (δ:uX) (M:Mp),pre++ds=all->acc.length+ds.length<=sizeLine->J pre acc δ M->
  (∀pre d post,pre++d::post=all->∀acc δ M,J pre acc δ M->∀k:uX->DK,(∀δ2 y M4,J (pre++[d]) (acc++[y]) δ2 M4->k δ2 y M4)->g d δ M λδ2 M2=>te δ2 M2 (k δ2))->
  (∀acc δ M,J all acc δ M->∀p,M p=none->Q (.ref p) (pD M p (.lst acc)))->uV g Bf te ok Q ds acc δ M
 | [],pre,acc,δ,M,e,hl,j,_,hq=>⟨by simpa using hl,hq acc δ M (by rw[<-e,eS];exact j)⟩
 | d::r,pre,acc,δ,M,e,hl,j,ht,hq=>by rw[dZ]at hl;refine⟨by omega,?_⟩;refine ht pre d r e acc δ M j (λδ2 y M4=>ok M4/\uV g Bf te ok Q r (acc++[y]) δ2 M4) λδ2 y M4 j'=>⟨mR _ _ _ _ j',D0 all J mR r (pre++[d]) (acc++[y]) δ2 M4 (by rw[<-e,eW];rfl) ?_ j' ht hq⟩;rw[cV,dP];omega
def vg:Nat->D->Bool
 | _,.mM=>true
 | _,.bl _=>true
 | _,.int _=>true
 | _,.str _=>true
 | n+1,.tup ds=>ds.all (vg n)
 | _,_=>false
theorem yO{f:D->D->Option Bool}:∀ds:List D,(∀d∈ds,f d d=some true)->sA f ds ds=some true
 | [],_=>rfl
 | d::r,h=>by show(f d d).bind (λp=>(sA f r r).map λq=>p&&q)=some true;rw[h d dN,yO r λe he=>h e (dD _ he)];rfl
theorem Gs{M:Mp}:∀(n:Nat) (d:D),vg n d=true->yR M (n+1) d d=some true
 | _,.mM,_=>rfl
 | _,.bl _,_=>by simp[yR]
 | _,.int _,_=>by simp[yR]
 | _,.str _,_=>by simp[yR]
 | n+1,.tup ds,h=>by have h:ds.all (vg n)=true:=h;show(sA (yR M (n+1)) ds ds).map (λp=>p&&ds.length==ds.length)=some true;rw[yO ds λd hd=>Gs n d (eM.mp h d hd)];simp
 | 0,.tup _,h=>by cases h
 | 0,.ref _,h=>by cases h
 | _+1,.ref _,h=>by cases h
 | 0,.ty _,h=>by cases h
 | _+1,.ty _,h=>by cases h
 | 0,.rl _,h=>by cases h
 | _+1,.rl _,h=>by cases h
def JF{M:Mp}{n:Nat}{a b:Addr}{ds:List D}(ha:oR M a=some ds)(hb:oR M b=some ds)(h:∀d∈ds,yR M n d d=some true):yR M (n+1) (.ref a) (.ref b)=some true:=by show(oR M a).bind (λi=>(oR M b).bind λj=>if i.length=j.length then sA (yR M n) i j else some false)=some true;rw[ha,hb];show(if ds.length=ds.length then sA (yR M n) ds ds else some false)=some true;rw[c9 rfl];exact yO ds h
def Q4(tc:As)(tb:xn):xn:=λE δ M=>∃W:Nat->uX->Mp->Prop,(∃m,W m δ M)/\∀m δ M,W m δ M->
 tc δ M λb M1=>if b=true then tb {E with nx:=λδ' M'=>∃m',m'<m/\W m' δ' M',ct:=λδ' M'=>∃m',m'<m/\W m' δ' M',bk:=E.nx} δ M1 else E.nx δ M1
def MJ{c:Expr}{body:List Stmt}{tc:As}{tb:xn}(hp:PassesOwn (model X.prog X.w) X.A X.env X.xe)(hc:B3 X c tc)(hb:GX X body tb):S3 X (.While c body [] pos) (Q4 tc tb):=
 PS.mono (Ly hp hc hb) λD' σ H ⟨δ,M,E,hs,hm,⟨W,⟨m0,w0⟩,turn⟩,k1,k2,k3,k4⟩=>by
 refine⟨λm σ' H'=>∃δ' M',yG X.K H' σ' δ'/\HM X.K H' M'/\qO X.K H H'/\σ'.length=σ.length/\W m δ' M',⟨m0,δ,M,hs,hm,.refl,rfl,w0⟩,?_⟩
 rintro m σ1 H1 ⟨δ1,M1,Zs,Wr,e1,l1,w1⟩
 refine⟨δ1,M1,_,Zs,Wr,turn m δ1 M1 w1,λb H2 M2 WI e2 q2=>?_⟩;cases b with
 | false=>rw[cY dw]at q2 ⊢;exact k1 σ1 H2 δ1 M2 (Zs.mono e2) WI (e1.trans e2) l1 q2
 | true=>
  rw[c9 rfl]at q2 ⊢;refine⟨λσ' H'=>∃δ' M',yG X.K H' σ' δ'/\HM X.K H' M'/\qO X.K H H'/\σ'.length=σ.length/\∃m',m'<m/\W m' δ' M',?_,δ1,M2,_,Zs.mono e2,WI,q2,?_,?_,?_,?_⟩
  .rintro σ' H' ⟨δ',M',a1,a2,a3,a4,m',lt,w⟩
   exact⟨m',lt,δ',M',a1,a2,a3,a4,w⟩
  .exact λσ' H' δ' M' y1 y2 y3 y4 y5=>⟨δ',M',y1,y2,e1.trans (e2.trans y3),by rw[y4,l1],y5⟩
  .exact λv H' d M' y1 y2 y3 y4=>k2 v H' d M' y1 y2 (e1.trans (e2.trans y3)) y4
  .exact λσ' H' δ' M' y1 y2 y3 y4 y5=>k1 σ' H' δ' M' y1 y2 (e1.trans (e2.trans y3)) (by rw[y4,l1]) y5
  .exact λσ' H' δ' M' y1 y2 y3 y4 y5=>⟨δ',M',y1,y2,e1.trans (e2.trans y3),by rw[y4,l1],y5⟩
def RC(op:Operator)(x y:D):Option D:=match op,x,y with
 | .Add,.int i,.int j=>some (.int (i+j))
 | .Sub,.int i,.int j=>some (.int (i - j))
 | _,_,_=>none
def Rk(op:Operator):V->V->Hp->VK->Prop:=λvx vy H Q=>match op,vx,vy with
 | .Add,.int i,.int j=>Q (.int (i+j)) H
 | .Sub,.int i,.int j=>Q (.int (i - j)) H
 | _,_,_=>False
def Rf{op:Operator}:OZ X op (Rk op):=by
 intro Wp s σ H x y u v Q I rx ry h;unfold Rk at h;split at h
 .exact R9 Wp s σ H _ _ u v Q I rx ry ⟨_,_,rfl,rfl,h⟩
 .exact Rb Wp s σ H _ _ u v Q I rx ry ⟨_,_,rfl,rfl,h⟩
 .exact h.elim
def Pk{K:ql}{H:Hp}{op:Operator}{x y z:D}{vx vy:V}{Q:VK}(hx:rH K H x vx)(hy:rH K H y vy)(e:RC op x y=some z)(k:∀vz,rH K H z vz->Q vz H):Rk op vx vy H Q:=by
 unfold RC at e;split at e
 .cases e;cases hx.int_inv;cases hy.int_inv;exact k _ .int
 .cases e;cases hx.int_inv;cases hy.int_inv;exact k _ .int
 .cases e
def TZ(K:ql)(f:Str)(op:Operator)(ta tv:T3):xn:=λE δ M=>ta δ M λx M1=>match x with
 | .ref a=>Af (M1 a) λC fs=>tX K C f/\(fs.lookup f).elim False λd=>tv δ M1 λy M2=>(RC op d y).elim False λz=>Af (M2 a) λC' fs'=>C'=C/\fs'.length<1000/\E.nx δ (pD M2 a (.ins C (vT f z fs')))
 | _=>False
def DO{o value:Expr}{ta tv:T3}{f:Str}{op:Operator}{Yv:Pos}(ha:E3 X o ta)(hv:E3 X value tv):S3 X (.AugAssign (.Attribute o f Yv) op value pos) (TZ X.K f op ta tv):=
 PS.mono (JN ha hv Rf) λD' σ H zz=>Kj zz λδ M E hs hm ht k1 k2 k3 k4=>
 ⟨δ,M,_,hs,hm,ht,λv H1 d M1 hd Wr e1 q1=>by
  cases d with
  | ref a=>
   cases hd.mH;obtain⟨C,fs,e,q1⟩:=xq q1;obtain⟨na,q1⟩:=q1;obtain⟨d,ed,q1⟩:=qP q1;obtain⟨dx,vs,h1,cl,nn,fo⟩:=Wr a _ e;obtain⟨w,ew,hw⟩:=(wI fo).1 d ed;refine⟨a,C,dx,vs,w,rfl,h1,cl,na,ew,δ,M1,_,hs.mono e1,Wr,q1,λu H2 y M2 hy WI e2 q2=>?_⟩;obtain⟨z,ez,q2⟩:=qP q2;obtain⟨C',fs',e',q2⟩:=xq q2;obtain⟨rfl,hl,q2⟩:=q2;refine Pk (hw.mono e2) hy ez λvz hz=>?_;obtain⟨Ze,vs',W9,cl',nn',fo'⟩:=WI a _ e';have Wv:vs'.length=fs'.length:=by have:=eP List.length fo'.1;simpa using this
   refine⟨Ze,vs',W9,by omega,?_⟩;obtain⟨Xk,e3⟩:=WI.put (p:=a) (o:=.ins C' Ze (vB f vz vs')) (c:=.ins C' (vT f z fs')) e' λx=>⟨Ze,_,pZ,cl',λg hg=>by
    rcases B9 hg with q|q
    .rw[q];exact na
    .exact nn' g q,D8 (hz.mono x) (fo'.mono x)⟩
   exact k1 σ _ δ _ (hs.mono (e1.trans (e2.trans e3))) Xk (e1.trans (e2.trans e3)) rfl q2
  | _=>exact q1.elim⟩
theorem tw{i:Nat}{tt:As}{te:T3}{ok:Mp->Prop}{Q:DK}{f:D->D}{t:D->Bool}{M:Mp}(mR:ok M):∀(ds acc:List D) (δ:uX),acc.length+ds.length<=sizeLine->
  (∀d∈ds,∀k:Bool->Mp->Prop,k (t d) M->tt (δ.set i (some d)) M k)->(∀d∈ds,t d=true->∀k:DK,k (f d) M->te (δ.set i (some d)) M k)->
  (∀p,M p=none->Q (.ref p) (pD M p (.lst (acc++(ds.filter t).map f))))->uV (sO i) tt te ok Q ds acc δ M
 | [],acc,δ,hl,_,_,hq=>⟨by simpa using hl,by simpa using hq⟩
 | d::r,acc,δ,hl,ht,he,hq=>by
  rw[dZ]at hl;refine⟨by omega,?_⟩;show tt (δ.set i (some d)) M _;refine ht d dN _ ?_;have z:∀e:D,(δ.set i (some d)).set i (some e)=δ.set i (some e):=λe=>by rw[iP]
  cases q:t d with
  | true=>
   rw[c9 rfl];refine he d dN q _ ⟨mR,tw (f:=f) (t:=t) mR r (acc++[f d]) _ ?_ (λe m k h=>?_) (λe m h0 k h=>?_) ?_⟩
   .rw[cV,dP];omega
   .rw[z];exact ht e (dD _ m) k h
   .rw[z];exact he e (dD _ m) h0 k h
   .intro p hp;have:=hq p hp;rw[iz q]at this
    simpa using this
  | false=>
   rw[cY dw];refine⟨mR,tw (f:=f) (t:=t) mR r acc _ (by omega) (λe m k h=>?_) (λe m h0 k h=>?_) ?_⟩
   .rw[z];exact ht e (dD _ m) k h
   .rw[z];exact he e (dD _ m) h0 k h
   .intro p hp;have:=hq p hp;rw[gQ (by rw[q];exact dw)]at this;exact this
section
variable {a:Expr}
def UM(ta:T3):T3:=λδ M Q=>ta δ M λx M1=>match x with|.int i=>Q (.int (-i)) M1|_=>False
def Bi(ha:E3 X a ta):E3 X (.UnaryOp .USub a pos) (UM ta):=PE.mono (Us QZ ha) λσ H Q' zz=>x7 zz λδ M Q hs hm ht k=>
 ⟨δ,M,_,hs,hm,ht,λv H1 d M1 hd Wr e1 q1=>by
  cases d with
  | int i=>cases hd.int_inv;exact⟨i,rfl,k _ H1 _ M1 .int Wr e1 q1⟩
  | _=>exact q1.elim⟩
end
end L3
namespace L2
open PySem.W
variable {prog:Pg}{w:Wo}{A:Ar}{E:QQX}{s:Sd}
end L2
namespace L3
open L2
variable {X:Cx}{pos:Pos}{a b o i:Expr}{ta tb ti to:T3}
def Tp(to ti:T3):C9:=λd δ M Q=>to δ M λx M1=>ti δ M1 λy M2=>match x,y with
 | .ref p,.int k=>(oR M2 p).elim False λes=>(EG es.length k).elim False λj=>Q δ (pD M2 p (.lst (es.set j d)))
 | _,_=>False
theorem qd.set{K:ql}{H:Hp}{d:D}{v:V}(hv:rH K H d v):∀{ds:List D} {xs:List V} (j:Nat),qd K H ds xs->qd K H (ds.set j d) (xs.set j v)
 | [],_,j,h=>by rw[h.nil_inv];simp only[List.set_nil];exact .nil
 | e::ds,_,0,h=>by obtain⟨x,r,rfl,h1,h2⟩:=h.inv;exact .cons hv h2
 | e::ds,_,j+1,h=>by obtain⟨x,r,rfl,h1,h2⟩:=h.inv;exact .cons h1 (qd.set hv j h2)
def Qz(ho:E3 X o to)(hi:E3 X i ti) (ha:∀v,assign (.Subscript o i pos) X.env v=(do
   let ov<-holding [v] (eval o X.env);let iv<-holding [v,ov] (eval i X.env)
   standAt pos
   holding [v,ov,iv] (setItem ov iv v)
   release [v,ov,iv] []):=by intro _;rfl):G3 X (.Subscript o i pos) (Tp to ti):=
 PG.mono (Q8 ho hi K4 ha) λv σ H Q' ⟨d,δ,M,Q,hd,hs,hm,ht,k⟩=>
 ⟨δ,M,_,hs,hm,ht,λvx H1 x M1 hx Wr e1 q1=>⟨δ,M1,_,hs.mono e1,Wr,q1,λvy H2 y M2 hy WI e2 q2=>by
  cases x with
  | ref p=>
   cases y with
   | int j0=>obtain⟨es,f1,q2⟩:=qP q2;obtain⟨j,f2,q2⟩:=qP q2;cases(hx.mono e2).mH;cases hy.int_inv;obtain⟨xs,h1,h2⟩:=Ef WI f1;refine⟨p,xs,j0,j,rfl,rfl,h1,by rw[<-h2.length];exact f2,?_⟩;have hd2:=hd.mono (e1.trans e2);obtain⟨Xk,e3⟩:=WI.put (o:=.lst (xs.set j v)) (c:=.lst (es.set j d)) (qg f1) λex=>⟨_,pZ,(h2.mono ex).set (hd2.mono ex) j⟩;exact k σ _ δ _ (hs.mono (e1.trans (e2.trans e3))) Xk (e1.trans (e2.trans e3)) rfl q2
   | _=>exact q2.elim
  | _=>exact q2.elim⟩⟩
end L3
namespace L2
variable {prog:Pg}{w:Wo}{A:Ar}{E:QQX}{s:Sd}{X:Cx}
end L2
namespace L3
open L2
variable {X:Cx}{pos Ws p:Pos}{a b o e i value:Expr}{es:List Expr}{ta tb ti to tv td tk:T3}{t:xi}
def RE(x y:D)(M:Mp)(Q:DK):Prop:=match x,y with
 | .ref a,.int k=>(oR M a).elim False λes=>(0<=k/\k<=1000/\es.length<=1000)/\∀p,M p=none->Q (.ref p) (pD M p (.lst (List.replicate k.toNat es).flatten))
 | _,_=>False
theorem Ih{K:ql}{H:Hp}{ds:List D}{xs:List V}(h:qd K H ds xs):∀n:Nat,qd K H (List.replicate n ds).flatten (List.replicate n xs).flatten
 | 0=>.nil
 | n+1=>by rw[eG,eG,fM,fM];exact h.append (Ih h n)
def Re:xO X (binaryOp .Mult) (R3 X.K RE):=λWp s σ H vx vy v u Q' I rx ry h=>by
 obtain⟨x,y,M,Q,hx,hy,hm,q,k⟩:=h;unfold RE at q;split at q
 .obtain⟨es,e1,⟨q1,q2,q3⟩,q⟩:=qP q;cases hx.mH;cases hy.int_inv;obtain⟨xs,h1,h2⟩:=Ef hm e1;have hz:=dO;have hl:=h2.length;refine RV Wp s σ H _ _ v u Q' I rx ry ⟨_,_,xs,rfl,rfl,h1,by omega,by omega,?_,λpp hp=>?_⟩
  .exact dW (kc (show xs.length<=1000 by omega) (show Int.toNat _<=1000 by omega)) (by rw[hz];decide)
  .exact k _ _ _ _ .ref (hm.new (c:=.lst _) hp ⟨_,pZ,(Ih h2 _).mono (.new hp)⟩) (.new hp) (q pp (hm.fresh hp))
 .exact q.elim
def Ul(ta tb:T3):T3:=λδ M Q=>ta δ M λx M1=>tb δ M1 λy M2=>RE x y M2 Q
def Bo(ha:E3 X a ta)(hb:E3 X b tb):E3 X (.BinOp a .Mult b pos) (Ul ta tb):=PE.mono (Qa Re ha hb) GU
def Bd(kvs:List (rf×D))(k:rf)(v:D):List (rf×D):=if (kvs.any λkv=>decide (kv.1=k))=true then kvs.map (λkv=>if kv.1=k then(kv.1,v)else kv)else kvs++[(k,v)]
theorem Gq{κ α β:Type}{k:κ}[DecidableEq κ]:∀{xs:List (κ×α)} {ys:List (κ×β)},xs.map (·.1)=ys.map (·.1)->(xs.any λkv=>decide (kv.1=k))=ys.any λkv=>decide (kv.1=k)
 | [],[],_=>rfl
 | [],_::_,e=>by cases e
 | _::_,[],e=>by cases e
 | x::xs,y::ys,e=>by obtain⟨e1,e2⟩:=gD e;rw[fX,fX,Gq e2];have e1:x.1=y.1:=e1;rw[e1]
def Jy{K:ql}{H:Hp}{k:rf}{d:D}{v:V}(hv:rH K H d v){kvs:List (rf×D)}{vs:List (rf×V)}(h1:vs.map (·.1)=kvs.map (·.1))(h2:qd K H (kvs.map (·.2)) (vs.map (·.2))):
  (yA vs k v).map (·.1)=(Bd kvs k d).map (·.1)/\qd K H ((Bd kvs k d).map (·.2)) ((yA vs k v).map (·.2)):=by
 have go:∀{kvs:List (rf×D)} {vs:List (rf×V)},vs.map (·.1)=kvs.map (·.1)->qd K H (kvs.map (·.2)) (vs.map (·.2))->
   (vs.map (λkv=>if kv.1=k then(kv.1,v)else kv)).map (·.1)=(kvs.map (λkv=>if kv.1=k then(kv.1,d)else kv)).map (·.1)/\qd K H ((kvs.map (λkv=>if kv.1=k then(kv.1,d)else kv)).map (·.2)) ((vs.map (λkv=>if kv.1=k then(kv.1,v)else kv)).map (·.2)):=λ{kvs}=>by
  induction kvs with
  | nil=>intro vs e h;cases vs with
   | nil=>exact⟨rfl,.nil⟩
   | cons _ _=>cases e
  | cons c r ih=>intro vs e h;cases vs with
   | nil=>cases e
   | cons w ws=>
    obtain⟨e1,e2⟩:=gD e;obtain⟨x,xr,e3,g1,g2⟩:=h.inv;obtain⟨e4,e5⟩:=gD e3;subst e4 e5;obtain⟨i1,i2⟩:=ih e2 g2;have e1:w.1=c.1:=e1;by_cases hk:c.1=k
    .have w1:(if w.1=k then(w.1,v)else w)=(w.1,v):=c9 (e1.trans hk);have w2:(if c.1=k then(c.1,d)else c)=(c.1,d):=c9 hk;simp only[dS,w1,w2];exact⟨by rw[i1,e1],.cons hv i2⟩
    .have w1:(if w.1=k then(w.1,v)else w)=w:=cY λz=>hk (e1.symm.trans z);have w2:(if c.1=k then(c.1,d)else c)=c:=cY hk;simp only[dS,w1,w2];exact⟨by rw[i1,e1],.cons g1 i2⟩
 unfold yA Bd;rw[Gq (k:=k) h1];by_cases hk:(kvs.any λkv=>decide (kv.1=k))=true
 .rw[c9 hk,c9 hk];exact go h1 h2
 .rw[cY hk,cY hk];exact⟨by rw[dF,dF,h1];rfl,by rw[dF,dF];exact h2.append (.cons hv .nil)⟩
def Uh(td tk tv:T3):xn:=λD δ M=>tv δ M λv M1=>td δ M1 λx M2=>tk δ M2 λy M3=>match x,y with
 | .ref a,.str k=>(zG M3 a).elim False λkvs=>kvs.length<sizeLine/\D.nx δ (pD M3 a (.dk (Bd kvs (.inr k) v)))
 | _,_=>False
def zv{M:Mp}{a:Addr}{kvs:List (rf×D)}(h:zG M a=some kvs):M a=some (.dk kvs):=by
 unfold zG at h;split at h
 .rename_i e;rw[e];cases h;rfl
 .cases h
def NO{Wy:Pos}(hu:X.A.units+9<cLine)(ho:E3 X o td)(hi:E3 X i tk)(hv:E3 X value tv)(hs:swapsWith value (some (.Subscript o i Wy)) pos.line X.env=pure false:=by rfl):S3 X (.Assign [.Subscript o i Wy] value pos) (Uh td tk tv):=
 PS.mono (OA (by omega) ho hi hv hs) λD' σ H zz=>Kj zz λδ M D hs hm ht k1 k2 k3 k4=>
 ⟨δ,M,_,hs,hm,ht,λv H1 d M1 hd Wr e1 q1=>⟨δ,M1,_,hs.mono e1,Wr,q1,λvx H2 x M2 hx WI e2 q2=>⟨δ,M2,_,hs.mono (e1.trans e2),WI,q2,λvy H3 y M3 hy Xk e3 q3=>by
  split at q3
  .rename_i a0 k0;obtain⟨kvs,f1,f2,q3⟩:=qP q3;cases(hx.mono e3).mH;cases hy.str_inv;obtain⟨vs,h1,h2,h3⟩:=Ct Xk f1;have hl:vs.length=kvs.length:=by have:=eP List.length h2;simpa using this
   refine⟨_,_,rfl,MD.k (k:=Sum.inr k0) h1 (by omega),?_⟩;have hd3:=hd.mono (e2.trans e3);obtain⟨hm4,e4⟩:=Xk.put (o:=.dK (yA vs (Sum.inr k0) v)) (c:=.dk (Bd kvs (.inr k0) d)) (zv f1) λex=>by obtain⟨g1,g2⟩:=Jy (k:=Sum.inr k0) (hd3.mono ex) h2 (h3.mono ex);exact⟨_,pZ,g1,g2⟩
   exact k1 σ _ δ _ (hs.mono (e1.trans (e2.trans (e3.trans e4)))) hm4 (e1.trans (e2.trans (e3.trans e4))) rfl q3
  .exact q3.elim⟩⟩⟩
variable {Wp:List (Addr × Obj)}{σ:St}{H:Hp}{s:Sd}{tp:Pos}{WQ:List Expr}{n:Nat}
end L3
namespace L2
open Builtin Builtin.Str
variable {prog:Pg}{w:Wo}{A:Ar}{E:QQX}{s:Sd}{X:Cx}
end L2
namespace L3
open L2 Builtin Builtin.Str
variable {X:Cx}{pos Ws:Pos}{o e:Expr}{es:List Expr}{ta:T3}{t:xi}
@[irreducible] def SsI (X:Cx) (st:List Stmt) (t:xn):Prop:=GX X st t
@[irreducible] def SI (X:Cx) (st:Stmt) (t:xn):Prop:=S3 X st t
@[irreducible] def EI (X:Cx) (e:Expr) (t:T3):Prop:=E3 X e t
@[irreducible] def AI (X:Cx) (es:List Expr) (t:xi):Prop:=A3 X es t
variable {prog:Pg}{w:Wo}{A:Ar}{E:QQX}{s:Sd}{Wp:List (Addr × Obj)}{σ:St}{H:Hp}{p tp:Pos}{WQ:List Expr}{n:Nat}
theorem xY{g:C9}{tt:As}{te:T3}{ok:Mp->Prop}{Q:DK}(all:List D)(J:List D->List D->uX->Mp->Prop)(mR:∀p acc δ M,J p acc δ M->ok M):∀(ds pre acc:List D) (δ:uX) (M:Mp),pre++ds=all->acc.length+ds.length<=sizeLine->J pre acc δ M->
  (∀pre d post,pre++d::post=all->∀acc δ M,J pre acc δ M->∀(k:uX->DK) (k2:uX->Mp->Prop),(∀δ2 y M4,J (pre++[d]) (acc++[y]) δ2 M4->k δ2 y M4)->(∀δ2 M3,J (pre++[d]) acc δ2 M3->k2 δ2 M3)->g d δ M λδ2 M2=>tt δ2 M2 λb M3=>if b=true then te δ2 M3 (k δ2)else k2 δ2 M3)->
  (∀acc δ M,J all acc δ M->∀p,M p=none->Q (.ref p) (pD M p (.lst acc)))->uV g tt te ok Q ds acc δ M
 | [],pre,acc,δ,M,e,hl,j,_,hq=>⟨by simpa using hl,hq acc δ M (by rw[<-e,eS];exact j)⟩
 | d::r,pre,acc,δ,M,e,hl,j,ht,hq=>by rw[dZ]at hl;refine⟨by omega,?_⟩;refine ht pre d r e acc δ M j (λδ2 y M4=>ok M4/\uV g tt te ok Q r (acc++[y]) δ2 M4) (λδ2 M3=>ok M3/\uV g tt te ok Q r acc δ2 M3) (λδ2 y M4 j'=>⟨mR _ _ _ _ j',xY all J mR r (pre++[d]) (acc++[y]) δ2 M4 (by rw[<-e,eW];rfl) ?_ j' ht hq⟩) λδ2 M3 j'=>⟨mR _ _ _ _ j',xY all J mR r (pre++[d]) acc δ2 M3 (by rw[<-e,eW];rfl) (by omega) j' ht hq⟩;rw[cV,dP];omega
end L3
namespace L2
def Cx.nW(X:Cx)(E:QQX):Cx:={X with xe:=E}
def Inv.nW{X:Cx}{E:QQX}{Wp:QQY}{σ:St}{H:Hp}{s:Sd}(I:Inv X Wp σ H s):Inv (X.nW E) Wp σ H s:=
 ⟨⟨I.ok.mod,I.ok.kind,I.ok.glob,I.ok.blt,I.ok.above,I.ok.inj,I.ok.has,I.ok.oC,I.ok.hd,I.ok.frames,I.ok.oH,I.ok.oX,I.ok.bs,I.ok.nY,I.ok.nQ,I.ok.nX,I.ok.nA,I.ok.oi⟩,I.os,I.bare,I.base,I.loc,I.cell,I.free,I.mX,I.pin,I.mR,I.len⟩
def Inv.xeOf{X:Cx}{E:QQX}{Wp:QQY}{σ:St}{H:Hp}{s:Sd}(I:Inv (X.nW E) Wp σ H s):Inv X Wp σ H s:=
 ⟨⟨I.ok.mod,I.ok.kind,I.ok.glob,I.ok.blt,I.ok.above,I.ok.inj,I.ok.has,I.ok.oC,I.ok.hd,I.ok.frames,I.ok.oH,I.ok.oX,I.ok.bs,I.ok.nY,I.ok.nQ,I.ok.nX,I.ok.nA,I.ok.oi⟩,I.os,I.bare,I.base,I.loc,I.cell,I.free,I.mX,I.pin,I.mR,I.len⟩
end L2
namespace L3
open L2
end L3
namespace L2
end L2
namespace L3
open L2
variable {X:Cx}{pos p tp kpos:Pos}{WQ:List Expr}{n:Nat}
end L3
namespace L2
variable {prog:Pg}{w:Wo}{A:Ar}{E:QQX}{s:Sd}{a:Addr}{δ:Type}{k:Str}{tk:Tok}
section
variable {R:δ→Vl→Prop}{D:List (Str × δ)}
end
end L2
namespace L3
open L2
variable {X:Cx}{pos p:Pos}{x:Str}{d:D}{e o i:Expr}{ta tb td tk:T3}{F:List (Str × QQQ)}
end L3
namespace L2
def Mb(h:Heap)(e:Addr)(cls:Vl)(dx tb:Option Addr)(F:Vl):Prop:=
 ∃oe vs,h.get? e=some oe/\oe.cls=cls/\oe.dict=dx/\oe.data=.fields vs/\1<vs.size/\vs[1]?=some (tb.elim Value.none Value.ref)/\∀T,tb=some T->T≠e/\∃oT ts,h.get? T=some oT/\oT.data=.fields ts/\3<ts.size/\ts[3]?=some F
def NM(h:Heap)(e:Addr)(cls:Vl)(dx tb:Option Addr):Prop:=Mb h e cls dx tb Value.none
theorem BV{h base:Heap}:∀{l:List Env} {b:Addr},h.FunFrames base l->b∈vZ l->∃o,h.get? b=some o/\∀vs,o.data≠.fields vs
 | [],b,_,hb=>by cases hb
 | env::r,b,hF,hb=>by
  obtain⟨_,⟨L,o,hL,_,ho,hd⟩,hr⟩:=hF;have e:vZ (env::r)=L::vZ r:=by unfold vZ;rw[fT,hL]
  rw[e]at hb;rcases df.mp hb with z|z
  .rw[z];exact⟨o,ho,hd⟩
  .exact BV hr z
def DN{h base:Heap}{l:List Env}{b:Addr}{o:Obj}{vs:Array Vl}(hF:h.FunFrames base l)(ho:h.get? b=some o)(hd:o.data=.fields vs):b∉vZ l:=λhb=>by obtain⟨o',W5,hn⟩:=BV hF hb;rw[ho]at W5;cases W5;exact hn vs hd
variable {M:Model}{A:Ar}{s:Sd}{base:Heap}{env:Env}{outer:List Env}{L e:Addr}{cls:Vl}{dx:Option Addr}{Q:Unit→Sd→Prop}
section
variable {E:QQX}
def Oj{XD:Vl}{YI:Bool}{oe:Obj}{vs:Array Vl}{W7:Env}(hcf:W7.frame=some L)(Yp:A.frames=some (env::outer))(hF:s.heap.FunFrames base (env::outer))(hL:env.frame=some L)(ho:s.heap.get? e=some oe)(hd:oe.data=.fields vs)(h1:1<vs.size) (k:∀(h':Heap) (T:Addr),s.heap.get? T=none->(∀b o,s.heap.get? b=some o->b∉vZ (env::outer)->b≠e->h'.get? b=some o)->(∀b o,s.heap.get? b=some o->b∈vZ (env::outer)->∃sl,h'.get? b=some {o with slots:=sl})->
   (∃oe',h'.get? e=some oe'/\oe'.cls=oe.cls/\oe'.dict=oe.dict/\oe'.data=.fields (vs.setIfInBounds 1 (.ref T)))->(∃oT ts,h'.get? T=some oT/\oT.data=.fields ts/\3<ts.size/\ts[3]?=some (rawInt ↑L))->Q () {s with heap:=h'}):
  wpAny M A (do
   let a<-PySem.frameOf W7;let pl<-entryPlaceOf L YI;let b<-EntryCells.newEntry XD a Value.none (rawInt ↑L) Value.none pl
   setField (Value.ref e) 1 b) Q E s:=by
 have ne:=DN hF ho hd;unfold PySem.frameOf;refine cU (cU (wpAny_frameEnvs Yp (cU ?_)));have ed:List.dropWhile (λx=>x.frame != W7.frame) (env::outer)=env::outer:=by rw[List.dropWhile_cons,cY (by rw[hL,hcf];simp)]
 rw[ed];unfold frameObject;refine cU (wpAny_readyFrames_fun hF λW9 hs=>?_);obtain⟨z1,z2,z3⟩:=hs;rw[hL];refine de (de ?_);refine cU (wpAny_entryPlaceOf λpl hp=>?_);refine cU ?_;unfold EntryCells.newEntry newFields;have Wv:([XD,Value.ref L,Value.none,rawInt ↑L,Value.none]++if pl.isEmpty=true then List.replicate 6 Value.none else pl).length=11:=by rw[cV];rcases hp with rfl|⟨_,_,_,_,_,_,_,rfl⟩<;>rfl
 have hfl:([XD,Value.ref L,Value.none,rawInt ↑L,Value.none]++if pl.isEmpty=true then List.replicate 6 Value.none else pl)[3]?=some (rawInt ↑L):=rfl;generalize ([XD,Value.ref L,Value.none,rawInt ↑L,Value.none]++if pl.isEmpty=true then List.replicate 6 Value.none else pl)=fs at Wv hfl ⊢;refine fP ?_ (by
  show fs.toArray.size<=_;rw[dv,Wv];decide)
 have e1:W9.get? e=some oe:=by rw[z2 e ne];exact ho
 have e2:(W9.push {cls:=.type "traceback",data:=.fields fs.toArray}).get? e=some oe:=cZ _ e1;refine hW e2 hd h1 ?_;have tn:s.heap.get? W9.objs.size=none:=gH (by rw[z1];exact dg _);have te:W9.objs.size≠e:=λz=>by rw[z,ho]at tn;cases tn
 obtain⟨oc,od,Y1,Xd⟩:=oe;obtain rfl:Y1=.fields vs:=hd;have up:∀b,e≠b->((W9.push {cls:=.type "traceback",data:=.fields fs.toArray}).update e (Obj.mapFields λx=>x.setIfInBounds 1 (.ref W9.objs.size))).get? b=(W9.push {cls:=.type "traceback",data:=.fields fs.toArray}).get? b:=λb z=>fV _ _ z;refine k _ W9.objs.size tn (λb o hb nf ne'=>?_) (λb o hb hf=>?_) ⟨_,fE _ e2 rfl,rfl,rfl,rfl⟩ ⟨_,fs.toArray,(up _ (dJ te)).trans (dE _ rfl),rfl,by rw[dv,Wv];decide,by rw[iF];exact hfl⟩
 .rw[up b (dJ ne')];exact cZ _ (by rw[z2 b nf];exact hb)
 .obtain⟨sl,q⟩:=z3 b o hb;refine⟨sl,?_⟩;rw[up b (λz=>ne (z ▸ hf))];exact cZ _ q
def R0{E₁:QQX}{tb:Option Addr}{F:Vl}{W7:Env}(hcf:W7.frame=some L)(Yp:A.frames=some (env::outer))(hF:s.heap.FunFrames base (env::outer))(hL:env.frame=some L)(hx:Mb s.heap e cls dx tb F)(hFL:(F==rawInt ↑L)=false) (k:∀(h':Heap) (T:Addr),s.heap.get? T=none->(∀b o,s.heap.get? b=some o->b∉vZ (env::outer)->b≠e->tb≠some b->h'.get? b=some o)->(∀b o,s.heap.get? b=some o->b∈vZ (env::outer)->∃sl,h'.get? b=some {o with slots:=sl})->
   (∀b,h'.get? b=none->s.heap.get? b=none)->Mb h' e cls dx (some T) (rawInt ↑L)->Q () {s with heap:=h'}):wpAny M A (noteFrame (.ref e) W7) Q E₁ s:=by
 obtain⟨oe,vs,ho,hc,Yf,hd,h1,hv,hT⟩:=hx;have ne:=DN hF ho hd;unfold noteFrame;rw[hcf];refine cU (fg ho hd hv ?_);have Wt:∀(s1:Sd) (oe1:Obj),s1.gens=s.gens->s1.drawn=s.drawn->s1.toks=s.toks->s1.os=s.os->s1.heap.FunFrames base (env::outer)->s1.heap.get? e=some oe1->oe1.cls=cls->oe1.dict=dx->oe1.data=.fields vs->(∀b o,s.heap.get? b=some o->b∉vZ (env::outer)->b≠e->tb≠some b->s1.heap.get? b=some o)->
   (∀b o,s.heap.get? b=some o->b∈vZ (env::outer)->s1.heap.get? b=some o)->(∀b,s1.heap.get? b=none↔s.heap.get? b=none)->∀(XD:Vl) (YI:Bool),wpAny M A (do
   let a<-PySem.frameOf W7;let pl<-entryPlaceOf L YI;let b<-EntryCells.newEntry XD a Value.none (rawInt ↑L) Value.none pl
   setField (Value.ref e) 1 b) Q E₁ s1:=by
  intro s1 oe1 g1 g2 g3 g4 hF1 ho1 hc1 hdx1 hd1 kb kf kn XD YI;refine Oj hcf Yp hF1 hL ho1 hd1 h1 λh' T tn k1 k2 ⟨oe',he',Zw,hdxe,hde⟩ ⟨oT,ts,Xy,X3,h3,h3v⟩=>?_;have te:T≠e:=λz=>by rw[z,ho1]at tn;cases tn
  have:=k h' T ((kn T).mp tn) (λb o hb nf nb nt=>k1 b o (kb b o hb nf nb nt) nf nb) (λb o hb hf=>k2 b o (kf b o hb hf) hf) (λb hb=>?_) ⟨oe',vs.setIfInBounds 1 (.ref T),he',Zw.trans hc1,hdxe.trans hdx1,hde,by rw[jE];exact h1,by rw[ie h1];rfl,λT' eT=>?_⟩
  .show Q () {heap:=_,gens:=s1.gens,drawn:=s1.drawn,toks:=s1.toks,os:=s1.os};rw[g1,g2,g3,g4];exact this
  .refine(kn b).mp ?_;cases q:s1.heap.get? b with
   | none=>rfl
   | some o=>
    by_cases z:b=e
    .rw[z,he']at hb;cases hb
    .by_cases zf:b∈vZ (env::outer)
     .obtain⟨sl,q2⟩:=k2 b o q zf;rw[q2]at hb;cases hb
     .rw[k1 b o q zf z]at hb;cases hb
  .cases eT;exact⟨te,oT,ts,Xy,X3,h3,h3v⟩
 cases tb with
 | none=>rw[cY (show ¬((none:Option Addr).elim Value.none Value.ref != Value.none)=true by decide+kernel)];exact Wt s oe rfl rfl rfl rfl hF ho hc Yf hd (λb o hb _ _ _=>hb) (λb o hb _=>hb) (λb=>.rfl) _ _
 | some T=>
  obtain⟨nTe,oT,ts,Xy,X3,h3,hn⟩:=hT T rfl;rw[c9 (show((some T:Option Addr).elim Value.none Value.ref != Value.none)=true by rfl)];refine cU (fg Xy X3 hn ?_);rw[cY (by rw[hFL];exact dw)];refine cU (hW Xy X3 h3 ?_);have up:∀b,T≠b->(s.heap.update T (Obj.mapFields λx=>x.setIfInBounds 3 .none)).get? b=s.heap.get? b:=λb z=>fV _ _ z;have nf:∀b o,s.heap.get? b=some o->(∀vs,o.data≠.fields vs)->T≠b:=λb o hb hn z=>by rw[<-z,Xy]at hb;cases hb;exact hn ts X3
  have sz:∀b,(s.heap.update T (Obj.mapFields λx=>x.setIfInBounds 3 .none)).get? b=none↔s.heap.get? b=none:=λb=>by
   by_cases z:T=b
   .rw[<-z];obtain⟨oc,od,Y1,Xd⟩:=oT;obtain rfl:Y1=.fields ts:=X3;rw[fE _ Xy rfl,Xy];exact⟨(λq=>by cases q),(λq=>by cases q)⟩
   .rw[up b z]
  exact Wt {s with heap:=s.heap.update T (Obj.mapFields λx=>x.setIfInBounds 3 .none)} oe rfl rfl rfl rfl (mC (λb o hb hn=>⟨o,(up b (nf b o hb hn)).trans hb,rfl⟩) hF) ((up e nTe).trans ho) hc Yf hd
   (λb o hb _ _ nt=>(up b λz=>nt (by rw[z])).trans hb) (λb o hb hf=>by
    obtain⟨o',W5,hn⟩:=BV hF hf;rw[hb]at W5;cases W5;exact(up b (nf b o hb hn)).trans hb) sz _ _
def LI{T:Addr}{F:Vl}(x:Option Addr)(hx:Mb s.heap e cls dx (some T) F)(k:∀h':Heap,(∀b,T≠b->h'.get? b=s.heap.get? b)->(∀b,h'.get? b=none↔s.heap.get? b=none)->Mb h' e cls dx (some T) (x.elim .none λf=>rawInt f)->Q () {s with heap:=h'}):wpAny M A (setFlight (.ref e) x) Q E s:=by
 obtain⟨oe,vs,ho,hc,Yf,hd,h1,hv,hT⟩:=hx;obtain⟨nTe,oT,ts,Xy,X3,h3,hn⟩:=hT T rfl;unfold setFlight;refine cU (fg ho hd hv ?_);rw[c9 (by rfl)];refine hW Xy X3 h3 ?_;obtain⟨oc,od,Y1,Xd⟩:=oT;obtain rfl:Y1=.fields ts:=X3;have up:∀b,T≠b->(s.heap.update T (Obj.mapFields λy=>y.setIfInBounds 3 (x.elim .none λf=>rawInt f))).get? b=s.heap.get? b:=λb z=>fV _ _ z;refine k _ up (λb=>?_) ⟨oe,vs,(up e nTe).trans ho,hc,Yf,hd,h1,hv,λT' eT=>?_⟩
 .by_cases z:T=b
  .rw[<-z,fE _ Xy rfl,Xy];exact⟨(λq=>by cases q),(λq=>by cases q)⟩
  .rw[up b z]
 .cases eT;exact⟨nTe,_,ts.setIfInBounds 3 (x.elim .none λf=>rawInt f),fE _ Xy rfl,rfl,by rw[jE];exact h3,by rw[ie h3]⟩
def Ie{E₁ E₂:QQX}{tb:Option Addr}(Yp:A.frames=some (env::outer))(hF:s.heap.FunFrames base (env::outer))(hL:env.frame=some L)(hx:NM s.heap e cls dx tb) (k:∀(h':Heap) (T:Addr),s.heap.get? T=none->(∀b o,s.heap.get? b=some o->b∉vZ (env::outer)->b≠e->tb≠some b->h'.get? b=some o)->(∀b o,s.heap.get? b=some o->b∈vZ (env::outer)->∃sl,h'.get? b=some {o with slots:=sl})->
   NM h' e cls dx (some T)->Q () {s with heap:=h'}):wpAny M A (noteFrame (.ref e) env) (λ_ s₂=>wpAny M A (setFlight (.ref e) none) Q E₂ s₂) E₁ s:=by
 refine R0 hL Yp hF hL hx (dG.mpr λz=>by have:=fi.mp z;cases this) λh' T tn k1 k2 _ x'=>?_;refine LI none x' λh2 up _ x2=>k h2 T tn (λb o hb nf nb nt=>?_) (λb o hb hf=>?_) x2
 .have tb:T≠b:=λz=>by rw[z,hb]at tn;cases tn
  exact(up b tb).trans (k1 b o hb nf nb nt)
 .have tb:T≠b:=λz=>by rw[z,hb]at tn;cases tn
  obtain⟨sl,q⟩:=k2 b o hb hf;exact⟨sl,(up b tb).trans q⟩
def Ow{tb:Option Addr}(Yp:A.frames=some (env::outer))(hF:s.heap.FunFrames base (env::outer))(hL:env.frame=some L)(hx:NM s.heap e cls dx tb) (k:∀(h':Heap) (T:Addr),s.heap.get? T=none->(∀b o,s.heap.get? b=some o->b∉vZ (env::outer)->b≠e->tb≠some b->h'.get? b=some o)->(∀b o,s.heap.get? b=some o->b∈vZ (env::outer)->∃sl,h'.get? b=some {o with slots:=sl})->
   NM h' e cls dx (some T)->Q () {s with heap:=h'}):wpAny M A (leaving env (.ref e)) Q E s:=cU (Ie Yp hF hL hx k)
end
def B5(P:Pg)(w:Wo):Kl:=λouter H s E ev s'=>GG λe C dx H' tb=>ev=.ref e/\E (.ref C) dx H'/\s'.os=s.os/\AllBare s'.gens/\Un (vZ outer) [] H H' s.heap s'.heap/\ye P w H' s'.heap/\
 NM s'.heap e (.ref C) dx (some tb)/\s.heap.get? e=none/\s.heap.get? tb=none/\H' e=none/\H' tb=none
def xU{P:Pg}{w:Wo}{H:Hp}{h:Heap}{a:Addr}{o:HO}(x:sf P w H h a o):∃ob,h.get? a=some ob:=by
 cases o with
 | lst xs=>obtain⟨_,_,_,_,e⟩:=x;exact⟨_,e⟩
 | tup xs=>obtain⟨_,_,_,o,e,_⟩:=x;exact⟨_,e⟩
 | dK kvs=>obtain⟨_,_,_,_,o,_,_,e,_⟩:=x;exact⟨_,e⟩
 | dT kvs=>obtain⟨_,_,_,_,o,_,_,e,_⟩:=x;exact⟨_,e⟩
 | set S n=>obtain⟨o,_,_,_,e,_⟩:=x;exact⟨_,e⟩
 | ins C dx fs=>obtain⟨_,_,_,e,_⟩:=x;exact⟨_,e⟩
 | own y=>exact x
 | xd fs=>obtain⟨_,⟨_,_,_,e,_⟩,_⟩:=x;exact⟨_,e⟩
 | rng lo hi=>obtain⟨_,_,_,e⟩:=x;exact⟨_,e⟩
 | frz ob u=>obtain⟨e,_⟩:=x;exact⟨_,e⟩
 | tbl ps=>exact⟨_,x⟩
 | met f y=>exact⟨_,x⟩
 | ext φ=>obtain⟨_,e,_⟩:=x;exact e
def zb{P:Pg}{w:Wo}{H:Hp}{h:Heap}{T:Addr}(mR:ye P w H h)(tn:h.get? T=none):H T=none:=by
 cases z:H T with
 | none=>rfl
 | some o=>obtain⟨ob,hob⟩:=xU (mR T o z);rw[hob]at tn;cases tn
variable {P:Pg}{w:Wo}{K:ql}{mg:QQZ}{N:QQQ}{qual:Str}{scope:Scope}{f:Addr}{cd:Vl}{s0:Sd}{H0:Hp}
section
variable {E:XK}
def F9{fs ex:QXQ}{H H':Hp}{h h':Heap}(u:Un fs ex H H' h h')(hex:ex=[]){b:Addr}(hb:h'.get? b=none):h.get? b=none:=by
 cases q:h.get? b with
 | none=>rfl
 | some o=>obtain⟨o',e⟩:=u.there b o q (by rw[hex];simp);rw[e]at hb;cases hb
def MY{Wp:QQY}{σ:St}{H:Hp}{s:Sd}{e C T:Addr}{tb dx:Option Addr}{h':Heap}(I:Inv (vo (B5 P w) P w K mg base N qual scope f cd A outer s0 H0 E) Wp σ H s)(he:s0.heap.get? e=none)(W8:∀T,tb=some T->s0.heap.get? T=none/\H T=none)(hn:H e=none)(q:E (.ref C) dx H)(hT:s0.heap.get? T=none/\H T=none) (k1:∀b o,s.heap.get? b=some o->b∉vZ (envOfC qual scope s0.heap.objs.size f cd::outer)->b≠e->tb≠some b->h'.get? b=some o) (k2:∀b o,s.heap.get? b=some o->b∈vZ (envOfC qual scope s0.heap.objs.size f cd::outer)->∃sl,h'.get? b=some {o with slots:=sl}) (x':NM h' e (.ref C) dx (some T)):
  B5 P w outer H0 s0 E (.ref e) {s with heap:=h'}:=by
 have Xb:=I.nH;have WG:∀b o,H b=some o->∀u,s.heap.get? b=some u->h'.get? b=some u:=λb o hb u hu=>k1 b u hu (λz=>by rw[Xb b z]at hb;cases hb) (λz=>by rw[z,hn]at hb;cases hb) (λz=>by rw[(W8 b z).2]at hb;cases hb);have oldf:∀b o,s0.heap.get? b=some o->b∉vZ [envOfC qual scope s0.heap.objs.size f cd]:=λb o hb z=>by
  have:b=s0.heap.objs.size:=by have hz:b∈[s0.heap.objs.size]:=z;exact dq.mp hz
  rw[this]at hb;exact absurd (dz hb) (eZ _)
 have fr:∀b,b∈vZ (envOfC qual scope s0.heap.objs.size f cd::outer)->b∈vZ [envOfC qual scope s0.heap.objs.size f cd]\/b∈vZ outer:=λb hb=>by
  have hb:b∈s0.heap.objs.size::vZ outer:=hb;rcases df.mp hb with z|z
  .exact .inl (by rw[z];exact dN)
  .exact .inr z
 have WS:Un (vZ outer) [] H0 H s0.heap s.heap:=I.base;refine⟨e,C,dx,H,T,rfl,q,I.os,I.bare,⟨λb o hb h0 nf ne=>?_,λb o hb h0 hf ne=>?_,WS.free,λb o hb ne=>?_,WS.ny,WS.nu,WS.nG⟩,λb o hb=>?_,x',he,hT.1,hn,hT.2⟩
 .have hs:=WS.keep b o hb h0 nf ne;refine k1 b o hs (λz=>?_) (λz=>by rw[z,he]at hb;cases hb) λz=>by rw[(W8 b z).1]at hb;cases hb
  rcases fr b z with z|z
  .exact oldf b o hb z
  .exact nf z
 .obtain⟨sl,hs⟩:=WS.slot b o hb h0 hf ne;have:b∈vZ (envOfC qual scope s0.heap.objs.size f cd::outer):=dD _ hf;obtain⟨XQ,h2⟩:=k2 b _ hs this;exact⟨XQ,h2⟩
 .obtain⟨o',hs⟩:=WS.there b o hb ne;by_cases z:b∈vZ (envOfC qual scope s0.heap.objs.size f cd::outer)
  .obtain⟨sl,h2⟩:=k2 b o' hs z;exact⟨_,h2⟩
  .exact⟨o',k1 b o' hs z (λz=>by rw[z,he]at hb;cases hb) λz=>by rw[(W8 b z).1]at hb;cases hb⟩
 .refine(I.mR b o hb).nk (λb' u Xi hu=>?_) (λ_ q=>q) λ_ _ q=>q;rcases Xi with z|z
  .subst z;exact WG b' o hb u hu
  .exact WG b' _ z u hu
def Ua{Wp:QQY}{σ:St}{H:Hp}{s:Sd}{e C:Addr}{tb dx:Option Addr}(I:Inv (vo (B5 P w) P w K mg base N qual scope f cd A outer s0 H0 E) Wp σ H s)(hx:NM s.heap e (.ref C) dx tb)(he:s0.heap.get? e=none)(hT:∀T,tb=some T->s0.heap.get? T=none/\H T=none)(hn:H e=none)(q:E (.ref C) dx H):
  (vo (B5 P w) P w K mg base N qual scope f cd A outer s0 H0 E).xe (.ref e) s:=
 Ow (base:=base) (outer:=outer) I.ok.frames I.stack rfl hx λh' T tn k1 k2 x'=>MY I he hT hn q ⟨F9 (show Un (vZ outer) [] H0 H s0.heap s.heap from I.base) rfl tn,zb I.mR tn⟩ k1 k2 x'
end
section
variable {E:XK}
end
def Nj(d:Addr)(f:Str)(v:V)(h:Heap):Prop:=∃u,h.Ns1 d (λy=>if y=f then some u else none)/\qG v u
end L2
namespace L3
open L2
abbrev XR:=Addr->Option (Str×D)->Mp->Prop
abbrev Gd:=List D->Mp->DK->XR->Prop
def SZ(K:ql)(H:Hp)(dx:Option Addr)(y:Option (Str×D)):Prop:=(dx=none/\y=none)\/BK λd f z v=>dx=some d/\y=some (f,z)/\H d=some (.ext (Nj d f v))/\rH K H z v
def SJ(K:ql)(R:XR)(E:XK):Prop:=∀C dx H M y,HM K H M->SZ K H dx y->R C y M->E (.ref C) dx H
def Vb(K:ql)(sp:Gd):Sp:=λvs H Q' E=>BK λds M Q R=>qd K H ds vs/\HM K H M/\sp ds M Q R/\Up K H Q' Q/\SJ K R E
abbrev RB(P:Pg)(w:Wo)(K:ql)(mg:QQZ)(base:Heap)(k:Nat)(f:Addr)(fd:FuncData)(ps:QQQ)(sp:Gd):Prop:=xh P w K mg base (B5 P w) k f fd ps (Vb K sp)
variable {X:Cx}{x:Str}{p pos np Ww:Pos}{e:Expr}{es:List Expr}{t:xi}{k:Nat}{f C:Addr}{fd:FuncData}{ps:QQQ}{sp:Gd}{R:XR}{E:XK}{P:Pg}{w:Wo}{K:ql}{mg:QQZ}{base:Heap}{N:QQQ}{qual:Str}{scope:Scope}{cd:Vl}{A:Ar}{outer:List Env}{s0:Sd}{H0:Hp}{ta:xi}
def TK{x qual:Str}{st:Stmt}{f:Addr}{fd:FuncData}{N ps:QQQ}{k:Nat}{sp:Gd}(F:Of K x qual st f fd)(S:sR N ps (pY st))(len:∀ds M Q R,sp ds M Q R->ds.length=ps.length) (WN:∀(Wz:Vl) (A:Ar) (outer:List Env) (s:Sd) (H:Hp) (E:XK) (R:XR),rR k (A.deeper (envOfC qual (pY st) s.heap.objs.size f Wz))->SJ K R E->
   ∃t,GX (vo (B5 P w) P w K mg base N qual (pY st) f Wz A outer s H E) (rJ st) t/\∀ds M Q,sp ds M Q R->t {nx:=λ_ M'=>∃Wu,qw Wu M'/\Q .mM Wu,rt:=λd M'=>∃Wu,qw Wu M'/\Q d Wu} (wz N ds) M):RB P w K mg base (k+1) f fd ps sp:=by
 obtain⟨oc,od,kV,W2,pm,an,Wz,ct,Xd,rfl,lk,Xp⟩:=F.ex;refine Mq lk Xp S (λvs H Q E h=>?_) λA outer s H vs Q' E hr h=>?_
 .obtain⟨ds,M,Q,R,hd,_,hs,_⟩:=h;rw[<-hd.length];exact len ds M Q R hs
 .obtain⟨ds,M,Q,R,hd,hm,hs,k,hR⟩:=h;obtain⟨t,ht,hb⟩:=WN Wz A outer s H E R hr hR;exact⟨_,ht,wz N ds,M,_,Dm hd,hm,hb ds M Q hs,λσ' H' δ' M' _ x2 x3 _ ⟨Wu,y1,y2⟩=>k .mM H' .mM Wu .mM (x2.sub y1) x3 y2,λv H' d M' x1 x2 x3 ⟨Wu,y1,y2⟩=>k v H' d Wu x1 (x2.sub y1) x3 y2,λ_ _ _ _ _ _ _ _ z=>z,λ_ _ _ _ _ _ _ _ z=>z⟩
end L3
namespace L2
def TKept(H H':Hp):Prop:=(∀b xs,H b=some (.tup xs)->H' b=some (.tup xs))/\∀b o u,H b=some (.frz o u)->H' b=some (.frz o u)
def Vi(X:Cx)(Wp:QQY)(σ:St)(J:Hp->Prop)(E:XK)(ev:Vl)(s':Sd):Prop:=B1 λH s=>J H/\Inv X Wp σ H s/\B5 X.prog X.w X.stack H s E ev s'
def Ub(X:Cx)(Wp:QQY)(σ:St)(J:Hp->Prop)(E:XK)(ev:Vl)(s':Sd):Prop:=Sl λa C dx H' tb H1 s1=>ev=.ref a/\E (.ref C) dx H'/\Inv X Wp σ H' s'/\NM s'.heap a (.ref C) dx (some tb)/\H' a=none/\H' tb=none/\J H1/\TKept H1 H'/\Inv X Wp σ H1 s1/\s1.heap.get? a=none
def Rp{X:Cx}{M:Model}{E₁ E₂:QQX}{Wp:QQY}{σ:St}{J:Hp->Prop}{E:XK}{ev:Vl}{s':Sd}{outer:List Env}{L:Addr}(h:Vi X Wp σ J E ev s')(WJ:X.stack=X.env::outer)(hL:X.env.frame=some L):
  wpAny M X.A (noteFrame ev X.env) (λ_ s₂=>wpAny M X.A (setFlight ev none) (λ_ s₃=>Ub X Wp σ J E ev s₃) E₂ s₂) E₁ s':=by
 obtain⟨H,s,jH,I,e,C,dx,H',tb,rfl,q,os,bare,un,mR,x,he,ht,ne,nt⟩:=h;obtain⟨hh,g,d,t,Zf⟩:=s';obtain rfl:Zf=s.os:=os;have I':=I.call (h':=hh) (g':=g) (d':=d) (t':=t) (ch:=[]) un mR bare (λb z=>absurd z (by simp));have hF:=I'.stack;have Xb:=I'.nH;have Yp:=I.ok.frames;rw[WJ]at hF Yp;refine Ie (base:=X.base) (outer:=outer) Yp hF hL x λh' T tn k1 k2 x'=>?_;have WG:∀b o,H' b=some o->∀u,hh.get? b=some u->h'.get? b=some u:=λb o hb u hu=>k1 b u hu (λz=>by rw[Xb b (by rw[WJ];exact z)]at hb;cases hb) (λz=>by rw[z,ne]at hb;cases hb) (λz=>by cases z;rw[nt]at hb;cases hb);have un':Un (vZ X.stack) [] H H' s.heap h':=by
  refine⟨λb o hb h0 nf nx=>?_,λb o hb h0 hf nx=>?_,un.free,λb o hb nx=>?_,un.ny,un.nu,un.nG⟩
  .exact k1 b o (un.keep b o hb h0 nf nx) (λz=>nf (by rw[WJ];exact z)) (λz=>by rw[z,he]at hb;cases hb) λz=>by cases z;rw[ht]at hb;cases hb
  .obtain⟨sl,hs⟩:=un.slot b o hb h0 hf nx;obtain⟨XQ,h2⟩:=k2 b _ hs (by rw[<-WJ];exact hf);exact⟨XQ,h2⟩
  .obtain⟨o',hs⟩:=un.there b o hb nx;by_cases z:b∈vZ (X.env::outer)
   .obtain⟨sl,h2⟩:=k2 b o' hs z;exact⟨_,h2⟩
   .exact⟨o',k1 b o' hs z (λz=>by rw[z,he]at hb;cases hb) λz=>by cases z;rw[ht]at hb;cases hb⟩
 have Zk:ye X.prog X.w H' h':=λb o hb=>(mR b o hb).nk (λb' u Xi hu=>by
  rcases Xi with z|z
  .subst z;exact WG b' o hb u hu
  .exact WG b' _ z u hu) (λ_ q=>q) λ_ _ q=>q
 have I3:Inv X Wp σ H' {heap:=h',gens:=g,drawn:=d,toks:=t,os:=s.os}:=Inv.call (s:=s) (ch:=[]) I un' Zk bare (λb z=>absurd z (by simp));refine⟨e,C,dx,H',T,H,s,rfl,q,I3,x',ne,?_,jH,⟨un.ny,un.nu⟩,I,he⟩;cases z:H' T with
 | none=>rfl
 | some o=>obtain⟨ob,hob⟩:=xU (mR T o z);have tn:hh.get? T=none:=tn;rw[hob]at tn;cases tn
variable {X:Cx}{Wp:List (Addr × Obj)}{σ σ':St}{H H1:Hp}{s s1:Sd}{ev:Vl}{E':QQX}{a:Addr}
def Inv.adopt{o:HO}(I:Inv X Wp σ H s)(I1:Inv X Wp σ' H1 s1)(n1:s1.heap.get? a=none)(hn:H a=none)(ok:sf X.prog X.w (upd H a o) s.heap a o):Inv X Wp σ (upd H a o) s:=by
 have ne:∀b ob,s1.heap.get? b=some ob->b≠a:=λb ob e z=>by rw[z,n1]at e;cases e
 have nh:∀b ob,H b=some ob->b≠a:=λb ob e z=>by rw[z,hn]at e;cases e
 refine⟨I.ok,I.os,I.bare,⟨I.base.keep,I.base.slot,λb o' e h0 hb=>?_,I.base.there,λb xs e=>?_,λb o' u e=>?_,λb ps e=>?_⟩,I.loc,I.cell,?_,λx c e=>?_,λp hp=>?_,λb ob e=>?_,I.len⟩
 .obtain⟨o2,e2⟩:=I1.base.there b o' e hb;rw[pV (ne b o2 e2)];exact I.base.free b o' e h0 hb
 .have:=I.base.ny b xs e;rw[pV (nh b _ this)];exact this
 .have:=I.base.nu b o' u e;rw[pV (nh b _ this)];exact this
 .obtain⟨more,this⟩:=I.base.nG b ps e;exact⟨more,by rw[pV (nh b _ this)];exact this⟩
 .obtain⟨m,⟨o2,_,_,e2,_⟩,_⟩:=I1.loc;rw[pV (ne _ o2 e2)];exact I.free
 .obtain⟨v,o2,e2,_⟩:=I1.cell x c e;rw[pV (ne _ o2 e2)];exact I.mX x c e
 .obtain⟨e1,e2,e3,e4,e5⟩:=I.pin p hp;exact⟨e1,by rw[pV (ne _ _ (I1.pin p hp).1)];exact e2,e3,e4,e5⟩
 .by_cases z:b=a
  .subst z;rw[pZ]at e;cases e;exact ok
  .rw[pV z]at e;exact(I.mR b ob e).nk (λ_ _ _ q=>q) (λb' q=>by rw[pV (nh b' _ q)];exact q) λb' xs q=>by rw[pV (nh b' _ q)];exact q
def Inv.locs{h':Heap}{m':QQZ}(I:Inv X Wp σ H s)(hn:h'.Ns X.env.locals m')(hs:Heap.SameBut X.env.locals s.heap h')(hl:σ'.length=X.N.length) (hm:∀m,s.heap.Ns X.env.locals m->(∀(i:Nat) (x:Str) (v:V),X.N[i]?=some x->σ[i]?=some (some v)->RI X.env.scope x->∃u,qG v u/\Tr X.env s.heap m x u)->∀(i:Nat) (x:Str) (v:V),X.N[i]?=some x->σ'[i]?=some (some v)->RI X.env.scope x->∃u,qG v u/\((X.env.kindOf x=some .local/\m' x=some u)\/((X.env.kindOf x=some .cell\/X.env.kindOf x=some .free)/\∃c,X.env.cells.lookup x=some c/\s.heap.IsCell c (some u)))):Inv X Wp σ' H {s with heap:=h'}:=by
 obtain⟨m,hn0,hl0⟩:=id I.loc;obtain⟨oL,_,_,hoL,_⟩:=id hn0;have oW:=I.oW;refine⟨I.ok,I.os,I.bare,⟨λb o e n hb hx=>?_,λb o e n hb hx=>?_,I.base.free,λb o e hx=>?_,I.base.ny,I.base.nu,I.base.nG⟩,⟨_,hn,λj y v' e1 e2 e3=>?_⟩,λy c e=>?_,I.free,I.mX,λp hp=>?_,λb ob e=>?_,hl⟩
 .exact(hs.2 b (dH (dI (dz e) I.ok.above))).trans (I.base.keep b o e n hb hx)
 .obtain⟨sl,e1⟩:=I.base.slot b o e n hb hx;exact⟨sl,(hs.2 b (dH (dI (dz e) I.ok.above))).trans e1⟩
 .obtain⟨o',e1⟩:=I.base.there b o e hx;exact⟨o',(hs.2 b (dH (dI (dz e) I.ok.above))).trans e1⟩
 .obtain⟨u,r,q⟩:=hm m hn0 hl0 j y v' e1 e2 e3;refine⟨u,r,?_⟩;rcases q with q|⟨k,c,e,z⟩
  .exact .inl q
  .exact .inr ⟨k,c,e,z.sameBut hs (oW y c e)⟩
 .obtain⟨w',z⟩:=I.cell y c e;exact⟨w',z.sameBut hs (oW y c e)⟩
 .obtain⟨e,n,ne,nf,d⟩:=I.pin p hp;exact⟨(hs.2 p.1 ne).trans e,n,ne,nf,d⟩
 .refine(I.mR b ob e).nk (λc w' hc q=>(hs.2 c ?_).trans q) (λ_ q=>q) λ_ _ q=>q
  rintro rfl
  rcases hc with hc|hc
  .rw[<-hc,I.free]at e;cases e
  .rw[I.free]at hc;cases hc
def xX{M:Model}{A:Ar}{E:QQX}{i:Nat}{n:Str}{pos:Pos}{Q:Unit->Sd->Prop}(I:Inv X Wp σ H s)(hN:X.N.Nodup)(hi:X.N[i]?=some n)(hk:X.env.scope.names.lookup n=some .local) (h:∀s',Inv X Wp (σ.set i none) H s'->Q () s'):wpAny M A (do
   bindName X.env n Value.none
   unbindBehindTheSuite X.env n pos) Q E s:=by
 have hiσ:i<σ.length:=by rw[I.len];exact(cX.mp hi).1
 refine cU (wpAny_bindName (xj (v:=.mM) I hN hi (.inl hk) rfl (λs1 I1=>?_) (.inr hk)));have Zb:(X.env.scope.kind==.class||(X.env.scope.kind==.module&&X.env.locals != X.env.globals))=false:=by rw[I.ok.kind];rfl
 obtain⟨m,hn,hl⟩:=id I1.loc;obtain⟨u,ru,lk⟩:=hl i n .mM hi (by rw[eK hiσ]) (.inl hk);have em:m n=some u:=by
  rcases lk with⟨_,e⟩|⟨k,_⟩
  .exact e
  .have Zl:X.env.kindOf n=some .local:=hk;rw[Zl]at k;rcases k with k|k<;>cases k
 unfold unbindBehindTheSuite;refine iC (wpAny_unbindName_local hk hn em Zb λh' u' XZ hs=>h _ ?_);refine I1.locs XZ hs (by simpa using I.len) λm2 WI hl2 j y v' e1 e2 e3=>?_;have hj:j≠i:=λz=>by subst z;rw[eK hiσ]at e2;cases e2
 rw[eR (dJ hj)]at e2;obtain⟨u2,r2,q2⟩:=hl j y v' e1 (by rw[eR (dJ hj)];exact e2) e3;refine⟨u2,r2,?_⟩;rcases q2 with⟨k,e⟩|q2
 .refine .inl ⟨k,?_⟩;have:y≠n:=λe=>hj (BH hN e1 (e ▸ hi));simp[this,e]
 .exact .inr q2
def Cx.marked(X:Cx)(ev:Vl)(E:QQX):Cx:={X with A:=X.A.mark (some ev),calm:=false,xe:=E}
def Inv.mark(I:Inv X Wp σ H s):Inv (X.marked ev E') Wp σ H s:=
 ⟨⟨I.ok.mod,I.ok.kind,I.ok.glob,I.ok.blt,I.ok.above,I.ok.inj,I.ok.has,I.ok.oC,(λz=>by cases z),I.ok.frames,I.ok.oH,I.ok.oX,I.ok.bs,I.ok.nY,I.ok.nQ,I.ok.nX,I.ok.nA,I.ok.oi⟩,I.os,I.bare,I.base,I.loc,I.cell,I.free,I.mX,I.pin,I.mR,I.len⟩
def Inv.unmark(ok:X.Ok)(I:Inv (X.marked ev E') Wp σ H s):Inv X Wp σ H s:=⟨ok,I.os,I.bare,I.base,I.loc,I.cell,I.free,I.mX,I.pin,I.mR,I.len⟩
def SP.unmark(ok:X.Ok){D:Ea}{f:Flow}(h:SP (X.marked ev E') Wp D f s):SP X Wp D f s:=by
 cases f with
 | next=>obtain⟨a,b,I,q⟩:=h;exact⟨a,b,I.unmark ok,q⟩
 | brk=>obtain⟨a,b,I,q⟩:=h;exact⟨a,b,I.unmark ok,q⟩
 | cont=>obtain⟨a,b,I,q⟩:=h;exact⟨a,b,I.unmark ok,q⟩
 | ret v=>obtain⟨a,b,c,I,q⟩:=h;exact⟨a,b,c,I.unmark ok,q⟩
def Bq{M:Model}{h:Heap}{a:Addr}{o:Obj}(ho:h.get? a=some o):W.Looks M h (typeOf (.ref a)) o.cls:=by intro A Q E s k q;unfold typeOf;exact cU (wpAny_load (k a o ho) (de q))
def FP{M:Model}{A:Ar}{E:QQX}{a C T:Addr}{Q:Unit->Sd->Prop}{dx:Option Addr}(x:NM s.heap a (.ref C) dx (some T))(h:∀h':Heap,(∀b,h'.get? b=s.heap.get? b)->Q () {s with heap:=h'}):wpAny M A (setFlight (.ref a) none) Q E s:=by
 obtain⟨oe,vs,ho,hc,_,hd,h1,hv,hT⟩:=x;obtain⟨nTe,oT,ts,Xy,X3,h3,hn⟩:=hT T rfl;unfold setFlight;refine cU (fg ho hd hv ?_);rw[c9 (by rfl)];refine hW Xy X3 h3 (h _ λb=>?_);by_cases z:T=b
 .subst z;obtain⟨oc,od,Y1,Xd⟩:=oT;obtain rfl:Y1=.fields ts:=X3;rw[fE _ Xy rfl,Xy];show some (Obj.mk oc od (.fields (ts.setIfInBounds 3 .none)) Xd)=_;have:ts.setIfInBounds 3 .none=ts:=by
   apply Array.ext
   .simp
   .intro i h1 h2;rw[Array.getElem_setIfInBounds];split
    .rename_i e;subst e;rw[js h3]at hn;exact(dh hn).symm
    .rfl
  rw[this]
 .exact fV _ _ z
def Sn(X:Cx)(e:Expr)(t:St->Hp->VK->(Hp->Prop)->XK->Prop):Prop:=∀(Wp:QQY) (s:Sd) (σ:St) (H:Hp) (Q:VK) (J:Hp->Prop) (E:XK),Inv X Wp σ H s->t σ H Q J E->wpAny (model X.prog X.w) X.A (eval e X.env) (EP X Wp σ Q) (Vi X Wp σ J E) s
def VX(X:Cx)(st:Stmt)(t:Ea->St->Hp->(Hp->Prop)->XK->Prop):Prop:=∀(Wp:QQY) (s:Sd) (σ:St) (H:Hp) (D:Ea) (J:Hp->Prop) (E:XK),Inv X Wp σ H s->t D σ H J E->wpAny (model X.prog X.w) X.A (exec st X.env) (SP X Wp D) (Vi X Wp σ J E) s
def PL{X:Cx}{i:Nat}{x:Str}{e:Expr}{te:St->Hp->VK->(Hp->Prop)->XK->Prop}{pos Wy:Pos}(hN:X.N.Nodup)(hi:X.N[i]?=some x)(hx:Ki X.env.scope x)(he:Sn X e te)(hs:swapsWith e (some (.Name x Wy)) pos.line X.env=pure false:=by rfl)(hf:Kk X x:=by first|exact .inl rfl|exact .inr rfl|assumption):
  VX X (.Assign [.Name x Wy] e pos) (λD σ H J E=>te σ H (λv H'=>D.nx (σ.set i (some v)) H') J E):=by
 intro Wp s σ H D J E I h;refine lz (sr (he Wp s σ H _ J E I h) λv s1 zz=>x5 zz λy H1 I1 r1 q1=>?_) hs;exact xj I1 hN hi hx r1 (λs2 I2=>⟨_,H1,I2,q1⟩) hf
variable {k:Nat}{f C:Addr}{fd:FuncData}{ps:QQQ}{sp:Sp}{Xc:List V}{ds:List Vl}{m:Str}{p pos Ws:Pos}{e o:Expr}{es:List Expr}{t:TA}
section
variable {x:Str}
def Mf(F:xh X.prog X.w X.K X.mg X.base (B5 X.prog X.w) k f fd ps sp)(hr:rR k X.A)(hg:Gl X x)(hm:X.mg x=some (.ref f))(hk:W.keepIn X.K (.ref f)=true)(hb:uL X.K fd ps ds)(hd:qA Xc ds) (ha:PA (X.nW λ_ _=>False) (e::es) t) (WK:yP x:=by decide) (he:AL X e es:=by rfl) (WH:Cr X pos es:=by rfl):
  Sn X (.Call (.Name x p) (e::es) [] pos) (λσ H Q J E=>t σ H λvs H1=>J H1/\sp (vs++Xc) H1 Q E):=by
 intro Wp s σ H Q J E I h;refine gb (wG I hg hm ?_ WK);refine iI (h₀:=X.base) I.ok.mod.ou hk (d9 (ha pos Wp s σ H _ I.nW h) (λus s1 ⟨vs,H1,I1,r,jH,q⟩=>⟨I1.m7,?_⟩) λ_ _ z=>z.elim) he WH;have I1:=I1.xeOf;have r2:qA (vs++Xc) (us++ds):=r.append hd;have hl:(us++ds).length=ps.length:=by rw[<-r2.length];exact F.len _ _ _ _ q
 refine hZ (gh (F.run X.A X.stack s1 H1 ⟨us,[]⟩ (us++ds) (vs++Xc) Q E hr I1.og (hb s1 us I1.m7 hl) r2 q) λr s' hq=>?_);cases r with
 | error e=>exact⟨H1,s1,jH,I1,hq⟩
 | ok fl=>
  cases fl with
  | ret u=>exact I1.after hq
  | next=>exact False.elim hq
  | brk=>exact False.elim hq
  | cont=>exact False.elim hq
end
structure Me(K:ql)(C:Addr):Prop where
 hd:(W.clsIn K C).isSome=true
 ga:W.findIn K (.ref C) "__getattribute__"=some (some (.builtin "BaseException.__getattribute__"))
 gt:W.findIn K (.ref C) "__getattr__"=some none
 ha:W.findIn K (.ref C) "__class__"=some (some (.builtin "object.__class__"))
 hn:W.specialIn K (.builtin "object.__class__") "__get__"=some (some (.builtin "getset_descriptor.__get__"))
 htk:W.takesIn K (.builtin "object.__class__")=some true
 hm:W.mroIn K C (.type "object")=some true
 hb:W.mroIn K C (.type "BaseException")=some true
def NG:builtinKind "BaseException.__getattribute__"=some Manifest.AttrKind.slot:=by decide+kernel
def KI:splitId "BaseException.__getattribute__"=some ("BaseException","__getattribute__"):=by decide+kernel
variable {prog:Pg}{w:Wo}{A:Ar}{E:QQX}{K:ql}{ox:Obj}
section
variable {x:Addr}
def KY{Y2:Vl}{Q:Unit->Sd->Prop}{M:Model}(c:Me K C)(X:K.In s.heap)(hx:s.heap.get? x=some ox)(hc:ox.cls=.ref C)(hq:Q () s):wpAny M A (checkBuiltinCall "BaseException.__getattribute__" {pos:=[Value.ref x,Y2]}) Q E s:=by
 unfold checkBuiltinCall;simp only[NG,KI];unfold isInstance;refine cU (cU ?_);refine(Bq hx).at ?_;rw[hc];refine(W.looks_mroIn X c.hb).at ?_;rw[cY (by decide)];have ha:=F.args_bexc_ga (Value.ref x) Y2;unfold argsOk at ha;have:∀t:Sem Unit,t=pure ()->wpAny M A t Q E s:=λt z=>by rw[z];exact de hq
 exact this _ ha
end
end L2
namespace L3
open L2
theorem _root_.L2.TKept.ext{K:ql}{H H':Hp}(h:TKept H H'):qO K H H':=⟨λa xs q=>by
 rcases q with(q|⟨u,q⟩)|q
 .exact .inl (.inl (h.1 a xs q))
 .exact .inl (.inr ⟨u,h.2 a u _ q⟩)
 .exact .inr q,λa o xs q=>h.2 a o _ q⟩
abbrev SC:=uX->Mp->DK->XR->Prop
def V7(K:ql)(t:SC):St->Hp->VK->(Hp->Prop)->XK->Prop:=λσ H Q' J E=>BK λδ M Q R=>yG K H σ δ/\HM K H M/\t δ M Q R/\(∀v H' d M',rH K H' d v->HM K H' M'->qO K H H'->Q d M'->Q' v H')/\(∀H1,qO K H H1->J H1)/\SJ K R E
def VU(X:Cx)(e:Expr)(t:SC):Prop:=Sn X e (V7 X.K t)
def Sn.mono{X:Cx}{e:Expr}{t t':St->Hp->VK->(Hp->Prop)->XK->Prop}(h:Sn X e t)(m:∀σ H Q J E,t' σ H Q J E->t σ H Q J E):Sn X e t':=λWp s σ H Q J E I q=>h Wp s σ H Q J E I (m σ H Q J E q)
variable {X:Cx}{x:Str}{p pos np Ww:Pos}{e:Expr}{es:List Expr}{t:xi}{k:Nat}{f C:Addr}{fd:FuncData}{ps:QQQ}{sp:Gd}
def MZ(F:RB X.prog X.w X.K X.mg X.base k f fd ps sp)(hr:rR k X.A)(hg:Gl X x)(hm:X.mg x=some (.ref f))(hk:W.keepIn X.K (.ref f)=true)(hb:uL X.K fd ps [])(ha:A3 (X.nW λ_ _=>False) (e::es) t) (WK:yP x:=by decide) (he:AL X e es:=by rfl) (WH:Cr X pos es:=by rfl):
  VU X (.Call (.Name x p) (e::es) [] pos) (λδ M Q R=>t δ M λds M1=>sp ds M1 Q R):=Sn.mono (Mf F hr hg hm hk hb .nil ha WK he WH) λσ H Q' J E ⟨δ,M,Q,R,hs,hm,ht,k,kJ,kR⟩=>
 ⟨δ,M,_,hs,hm,ht,λvs H1 ds M1 hd Wr e1 q1=>⟨kJ H1 e1,ds,M1,Q,R,by rw[eS];exact hd,Wr,q1,vv e1 k,kR⟩⟩
variable {b₀:Stmt}{XJ:List Stmt}{cn n:Str}{cnp XW Ws Zx:Pos}{Cc L:Addr}{outer:List Env}{i ix:Nat}{te:SC}{th:xn}
def yG.unset{K:ql}{H:Hp}{σ:St}{δ:uX}{i:Nat}(h:yG K H σ δ):yG K H (σ.set i none) (δ.set i none):=λj e q=>by
 by_cases hj:j=i
 .subst hj;by_cases hl:j<δ.length
  .rw[eK hl]at q;cases q
  .rw[gz (by simpa using hl)]at q;cases q
 .rw[eR (dJ hj)]at q ⊢;exact h j e q
end L3
namespace L2
def BQ(es:Array DictEntry):Bool:=es.toList.all λe=>match e.key with|.str _ _=>true|_=>false
def By{es:Array DictEntry}(h:BQ es=true):StrKeys es:=λe he=>by
 have:=eM.mp h e (kh.mpr he);cases z:e.key with
 | str n t=>exact⟨n,t,rfl⟩
 | _=>rw[z]at this;cases this
abbrev KB:List Vl:=[.type "ValueError",.type "Exception",.type "BaseException",.type "object"]
def OE{K:ql}{t:Vl}{C:Addr}{cd:ClassData}{b:Bool}(q0:W.subIn K (.ref C) (.type "BaseException")=some true)(q1:W.clsIn K C=some cd)(q2:W.typeIn K (.ref C)=some (.type "type"))(s:W.subIn K t (.ref C)=some b):W.exmOne K t (.ref C)=some b:=by unfold W.exmOne;rw[q0,c9 (by rfl)];unfold W.kitCls;simp only;rw[q1,q2,c9 (by rfl)];exact s
end L2
namespace L3
open L2
end L3
namespace L2
theorem B8(self:Vl):∀own:QXQ,refuseLoop self "__setattr__" (own.map Value.ref++KB)=pure ()
 | []=>jF.passes self
 | c::r=>by show refuseLoop self "__setattr__" (.ref c::(r.map Value.ref++KB))=pure ();rw[refuseLoop_ref];exact B8 self r
variable {prog:Pg}{w:Wo}{A:Ar}{s:Sd}{K:ql}{x C:Addr}{ox:Obj}{own:QXQ}{name:Str}{v:Vl}
section
variable {E:QQX}{cd:ClassData}
def Nv{Q:Unit->Sd->Prop}(X:K.In s.heap)(I:W.InstAt s.heap x ox C none)(hs:W.findIn K (.ref C) "__setattr__"=some (some (.builtin "object.__setattr__")))(hc:W.clsIn K C=some cd)(hm:cd.mro=own.map Value.ref++KB)(ht:W.takerIn K C name=some none)(hd:cd.hasDict=true) (h:∀h' d t,(∀b o,b≠x->s.heap.get? b=some o->h'.get? b=some o)->h'.get? x=some {ox with dict:=some d}->s.heap.get? d=none->d≠x->h'.Ns1 d (λy=>if y=name then some v else none)->Q () {s with heap:=h',toks:=t}):wpAny (model prog w) A (setAttr (.ref x) name v) Q E s:=by
 refine W.set_plain X I hs ?_;have SF:=jF;have ne:cd.mro.isEmpty=false:=by rw[hm];cases own<;>rfl
 have has:cd.mro.contains (.type "object")=true:=by
  rw[hm,List.contains_eq_any_beq,jR];have:KB.any (Value.type "object"==·)=true:=by decide+kernel
  rw[this,lb]
 have sub:W.Looks (model prog w) s.heap (isInstance (.ref x) (.type "object")) true:=I.type.andThen (W.looks_mroIn X (by unfold W.mroIn;rw[hc,jG,cY (by rw[ne];decide),has]));refine ia SF.slot.plain SF.entry (@PySem.W.check_slot (model prog w) _ _ {s with toks:=s.toks+1} "object.__setattr__" "object" "__setattr__" (.ref x) [.str name s.toks,v] [] _ SF.kind SF.split sub (SF.args (.ref x) (.str name s.toks) v) ?_);obtain⟨attr,ha,hr⟩:=Option.bind_eq_some_iff.mp ht;have Zo:W.Looks (model prog w) s.heap (mroOf (.ref C)) cd.mro:=(ky X hc).andThen .now;have L3':W.Looks (model prog w) s.heap (Builtin.ObjectAttr.storeTaker? attr) none:=by
  cases attr with
  | none=>exact .now
  | some a=>
   obtain⟨b,hb,hr⟩:=iB.mp hr;refine(W.looks_takesIn X hb).andThen ?_;cases b
   .exact .now
   .cases hr
 rw[W.osa_eq,refuse_eq];refine cU (cU (I.type.here (s:={s with toks:=s.toks+1}) (cU (Zo.here (s:={s with toks:=s.toks+1}) ?_))));rw[hm,B8];refine de (cU (I.type.here (s:={s with toks:=s.toks+1}) (cU ((iY X ha).here (s:={s with toks:=s.toks+1}) (cU (L3'.here (s:={s with toks:=s.toks+1}) ?_))))));obtain⟨hx,Y0,hn,Yf⟩:=I;obtain⟨oc,odi,oda,Xd⟩:=ox;dsimp only at Y0 Yf;subst Y0;cases odi with
 | some _=>exact Yf.elim
 | none=>
  refine cU (de (cU (cU (wpAny_loadPart hx (cU (mv (s:={s with toks:=s.toks+1}) (ky X hc) ?_))))));rw[hd];rw[cY (by decide)];obtain⟨hh,g,dr,tk,os⟩:=s;dsimp only at hx h ⊢;rw[cY (by simp[typeHasDict])];split
  .cases hn
  .have y1:(hh.push W.emptyDict).get? x=some ⟨.ref C,none,oda,Xd⟩:=cZ _ hx;have nx:x≠hh.objs.size:=λz=>eZ _ (z ▸ dz hx);refine cU (wpAny_alloc' (cU (wpAny_update' y1 (de ?_))));have e0:((hh.push W.emptyDict).update x λo=>{o with dict:=some hh.objs.size}).Ns hh.objs.size (λ_=>none):=⟨W.emptyDict,#[],_,(kF _ _ _ _ nx.symm).trans (dE hh rfl),rfl,λe he=>absurd he (by simp),λ_=>rfl⟩;refine cU (de (cU (wpAny_nsSet1 (lB e0) λh' n1 sb=>?_)));obtain⟨oD,esD,epD,g1,g2,g3⟩:=n1.count (Within.cons name v Within.nil);refine cU (lP g1 (g2 ▸ lQ (dW g3 (by rw[dO,dP];decide))) (de (h h' hh.objs.size _ (λb o hb z=>?_) ?_ (gH (dg _)) nx.symm n1)))
   .exact(sb.2 b λy=>eZ _ (y ▸ dz z)).trans ((kF _ _ _ _ hb).trans (cZ _ z))
   .refine(sb.2 x nx).trans (fE _ y1 ?_);have fr:=(Heap.get?_some_iff.mp hx).2;cases oda with
    | _=>first|rfl|exact fr
end
variable {nm q:Str}{bs bm XM:List Vl}{hdct:Bool}{sn:QQQ}{sub:List Vl}{ab:Bool}{col:Option Bool}{dd:Option Addr}{k0 k1 k2 k3 k5:Option Vl}{B Bn newId nid WU ze:String}{bmN:List Vl}{h:Heap}{g:Array GenState}{d:Drawn}{t:Nat}{os:OsState}
section
variable {E:QQX}{N:Addr}
abbrev NX(C t:Addr):Obj:={cls:=.ref C,data:=.fields #[.ref t,.none,.none,.none,.bool false,.none]}
def AR(Fn:ExcBaseFacts Bn newId ze bmN)(hBn:XM.contains (.type Bn)=true)(F:ExcBaseFacts B nid WU XM)(T:OwnTail h XM bm){mN:QQZ}{us:List Vl}{fI:Addr}{oI:Obj}{Q:PySem.Fin->Sd->Prop} (hC:h.get? C=some (excClassObj nm q C N bs bm hdct sn sub ab col dd k0 k1 k2 k3 k5 newId)) (hn:h.Ns N mN) (hi:mN "__init__"=some (.ref fI)) (hf:h.get? fI=some oI) (hfc:oI.cls=.type "function") (Wv:us.length<=sizeLine) (hq:∀h' e,Heap.MadeExcOf h h' e (.ref C) us->wpAny (model prog w) A (call (.ref fI) (.ref e::us)) (λr s'=>r=.none/\Q (.done (.ret (.ref e))) s') E ⟨h',g,d,t,os⟩):
  wpAny (model prog w) A (Builtin.«type.__call__» ⟨.ref C::us,[]⟩) Q E ⟨h,g,d,t,os⟩:=by
 repeat (first|with_reducible refine hG hC ?_|with_reducible refine wpAny_madeBy_exc hC ?_|wp_step)
 refine codeAny_call_builtin_code (ip _ Fn.quiet) (wpAny_check_new_subU Fn hBn T hC (codeAny_exc_new_subU Fn hBn F T hC ?_ Wv));have kp:∀b o,h.get? b=some o->((h.push {cls:=.type "tuple",data:=.seq us.toArray}).push (NX C h.objs.size)).get? b=some o:=λb o z=>cZ _ (cZ _ z);have gE:((h.push {cls:=.type "tuple",data:=.seq us.toArray}).push (NX C h.objs.size)).get? (h.objs.size+1)=some (NX C h.objs.size):=by heap_get
 have hC2:=kp _ _ hC;have Zd:((h.push {cls:=.type "tuple",data:=.seq us.toArray}).push (NX C h.objs.size)).Ns N mN:=let⟨o,es,ep,e,r⟩:=hn;⟨o,es,ep,kp _ _ e,r⟩;have cC:(Value.ref C::bm).contains (.ref C)=true:=by rw[ir,eY,hU]
 have T2:=T.keeps kp;show wpAny _ _ _ _ _ _;unfold isInstance
 repeat (first|with_reducible refine hG gE ?_|(with_reducible refine kG hC2 ?_;rw[cC])|wp_step)
 show wpAny _ _ (typeLookup (.ref C) _) _ _ _;refine wpAny_typeLookup_tail hC2 Zd T2 F.mroIs F.init.lookup ?_;rw[hi];refine eD (cU ?_);unfold bindSpecial;refine cU (jA (T:="function") ⟨_,kp _ _ hf,hfc⟩ ?_);rw[c9 (by decide)];refine de (cU (d9 (hq _ (h.objs.size+1) ⟨kp,gH (gg _),h.objs.size,gE,gH (dg _),cZ _ (Heap.get?_push_at rfl rfl)⟩) (λr s' hr=>?_) λ_ _ z=>z));obtain⟨rfl,hQ⟩:=hr
 wp_walk
 exact hQ
def Hu(Fn:ExcBaseFacts Bn newId ze bmN)(hBn:XM.contains (.type Bn)=true)(F:ExcBaseFacts B nid WU XM)(T:OwnTail h XM bm){mN:QQZ}{us:List Vl}{fI:Addr}{oI:Obj}{Q:QQX} (hC:h.get? C=some (excClassObj nm q C N bs bm hdct sn sub ab col dd k0 k1 k2 k3 k5 newId)) (hn:h.Ns N mN) (hi:mN "__init__"=some (.ref fI)) (hf:h.get? fI=some oI) (hfc:oI.cls=.type "function") (Wv:us.length<=sizeLine) (hq:∀h' e,Heap.MadeExcOf h h' e (.ref C) us->wpAny (model prog w) (A.under (.builtin "type.__call__" ⟨.ref C::us,[]⟩)) (call (.ref fI) (.ref e::us)) (λr s'=>r=.none/\Q (.ref e) s') E ⟨h',g,d,t,os⟩):
  wpAny (model prog w) A (call (.ref C) us) Q E ⟨h,g,d,t,os⟩:=by
 have f1:=tc_lookup;have f2:=tc_bind (.ref C);have hT:(⟨h,g,d,t,os⟩:Sd).TypeIs (.ref C) "type":=⟨_,hC,rfl⟩;refine hZ (jP ?_);show wpAny _ _ (callAny (.ref C) _) _ _ _
 repeat (any_goals(first|assumption|with_reducible refine hG hC ?_|wp_step))
 exact⟨rfl,codeAny_call_builtin_at (ip _ (by decide+kernel)) entry_typeCall (wpAny_check_type_call_sub hC (AR Fn hBn F T hC hn hi hf hfc Wv hq))⟩
end
variable {M:Model}{env:Env}
section
variable {E:QQX}{N:Addr}
def Io(h:Heap)(e C:Addr)(dx:Option Addr):Prop:=B1 λt sl=>h.get? e=some ⟨.ref C,dx,.fields #[.ref t,.none,.none,.none,.bool false,.none],sl⟩
def FO{x:Sem Vl}{Q:Flow->Sd->Prop}(WE:bm.contains (.type "BaseException")=true)(hh:A.handled=none) (h:wpAny M A x (λv s₁=>∃e dx,v=.ref e/\s₁.heap.get? C=some (excClassObj nm q C N bs bm hdct sn sub ab col dd k0 k1 k2 k3 k5 newId)/\Io s₁.heap e C dx/\E (.ref e) s₁) E s):
  wpAny M A (raiseStmt env (some x) none) Q E s:=by
 have cB:(Value.ref C::bm).contains (.type "BaseException")=true:=by rw[ir,WE,lb]
 unfold raiseStmt;refine cU (d9 h (λv s₁ ⟨e,dx,ev,hC,⟨t,sl,he⟩,hE⟩=>?_) λ_ _ z=>z);subst ev;obtain⟨hp,g,d,tk,os⟩:=s₁
 repeat (first|with_reducible refine hG he ?_|with_reducible refine hG hC ?_|(with_reducible refine kG hC ?_;rw[cB])|wp_step)
 exact wpAny_raiseNew_none hh hE
def GC(Fn:ExcBaseFacts Bn newId ze bmN)(hBn:XM.contains (.type Bn)=true)(F:ExcBaseFacts B nid WU XM){mN:QQZ}{fI:Addr}{x:Str}{np Ww pos:Pos}{args:List Expr}{Q:Flow->Sd->Prop} (WE:bm.contains (.type "BaseException")=true) (hh:A.handled=none) (Wx:(backTo Ww (starEach args env)).any (·.1)=false) (hi:mN "__init__"=some (.ref fI)) (h:wpAny (model prog w) A (eval (.Name x np) env) (λf s₁=>f=.ref C/\wpAny (model prog w) A (evalArgs (.ref C) true (backTo Ww (starEach args env)) []) (λa s₂=>a.kw=[]/\a.pos.length<=sizeLine/\s₂.heap.get? C=some (excClassObj nm q C N bs bm hdct sn sub ab col dd k0 k1 k2 k3 k5 newId)/\s₂.heap.Ns N mN/\OwnTail s₂.heap XM bm/\(∃oI,s₂.heap.get? fI=some oI/\oI.cls=.type "function")/\
    ∀h' e,Heap.MadeExcOf s₂.heap h' e (.ref C) a.pos->wpAny (model prog w) (A.under (.builtin "type.__call__" ⟨.ref C::a.pos,[]⟩)) (call (.ref fI) (.ref e::a.pos))
     (λr s'=>r=.none/\∃dx,s'.heap.get? C=some (excClassObj nm q C N bs bm hdct sn sub ab col dd k0 k1 k2 k3 k5 newId)/\Io s'.heap e C dx/\E (.ref e) s') E {s₂ with heap:=h'}) E s₁) E s):
  wpAny (model prog w) A (exec (.Raise (some (.Call (.Name x np) args [] Ww)) none pos) env) Q E s:=by
 rw[arm_exec_Raise];refine cU (gR (FO (C:=C) (nm:=nm) (q:=q) (N:=N) (bs:=bs) (bm:=bm) (hdct:=hdct) (sn:=sn) (sub:=sub) (ab:=ab) (col:=col) (dd:=dd) (k0:=k0) (k1:=k1) (k2:=k2) (k3:=k3) (k5:=k5) (newId:=newId) WE hh ?_));refine cU (d9 (wpAny_Call_ofName (d9 h (λf s₁ ⟨ef,h₁⟩=>?_) λ_ _ z=>z)) (λv s₃ h₃=>cU (gR (de h₃))) λ_ _ z=>z);subst ef;unfold callWith;refine cU (eD (d9 h₁ (λa s₂ h₂=>cU (gR ?_)) λ_ _ z=>z));obtain⟨Ws,akw⟩:=a;obtain⟨hkw,Wv,hC,hn,T,⟨oI,hf,hfc⟩,h₂⟩:=h₂;obtain rfl:akw=[]:=hkw;obtain⟨hp,g,d,tk,os⟩:=s₂;simp only[Wx];refine cU (wpAny_keeperOf_exc hC (cU (Hu Fn hBn F T hC hn hi hf hfc Wv λh' e hm=>d9 (h₂ h' e hm) (λr s' ⟨z,dx,c1,c2,c3⟩=>⟨z,cU (eD (wpAny_point (de ⟨e,dx,rfl,c1,c2,c3⟩)))⟩) λ_ _ z=>z)))
end
def x0(a C:Addr)(h:Heap):Prop:=Io h a C none
def x1(a C d:Addr)(h:Heap):Prop:=Io h a C (some d)
structure yr(K:ql)(C:Addr)(f:Str):Prop where
 sa:W.findIn K (.ref C) "__setattr__"=some (some (.builtin "object.__setattr__"))
 cd:∃cd own,W.clsIn K C=some cd/\cd.mro=List.map Value.ref own++KB/\cd.hasDict=true
 tk:W.takerIn K C f=some none
variable {X:Cx}{Wp:List (Addr × Obj)}{σ σ':St}{H H1:Hp}{s1:Sd}{a:Addr}
section
variable {f:Str}
def Ge{A:Ar}{E:QQX}{y:V}{u:Vl}{Q:Unit->Sd->Prop}(I:Inv X Wp σ H s)(e:H a=some (.ext (x0 a C)))(ry:qG y u)(st:yr X.K C f)(h:∀d s',H d=none->d≠a->Inv X Wp σ (upd (upd H a (.ext (x1 a C d))) d (.ext (Nj d f y))) s'->Q () s'):wpAny (model X.prog X.w) A (setAttr (.ref a) f u) Q E s:=by obtain⟨⟨t,sl,ho⟩,_,_⟩:=I.mR a _ e;obtain⟨cd,own,c1,c2,c3⟩:=st.cd;refine Nv I.m7 ⟨ho,rfl,rfl,trivial⟩ st.sa c1 c2 st.tk c3 λh' d tk k1 k2 dn da n1=>h d _ (zb I.mR dn) da ?_;have I2:=I.write (t':=tk) (x:=a) (e:=a) (o:=.ext (x1 a C d)) (by rw[e];exact True.intro) (.inl rfl) k1 ⟨_,k2⟩ ⟨⟨t,sl,k2⟩,⟨_,k2⟩,λh1 h2 ⟨t',XQ,z⟩ kk=>⟨t',XQ,kk _ z⟩⟩;refine I2.adopt I dn (by rw[pV da];exact zb I.mR dn) ⟨⟨u,n1,ry⟩,?_,λh1 h2 ⟨u,n,r⟩ kk=>⟨u,n.at kk,r⟩⟩;obtain⟨o,_,_,z,_⟩:=n1;exact⟨o,z⟩
def Inv.drop{φ:Heap->Prop}(I:Inv X Wp σ H s)(ea:H a=some (.ext φ)):Inv X Wp σ (λb=>if b=a then none else H b) s:=by
 have less:∀b,H b=none->(if b=a then none else H b)=none:=λb e=>by split<;>first|rfl|exact e
 have keep:∀b o,H b=some o->(∀φ,o≠.ext φ)->(if b=a then none else H b)=some o:=λb o e n=>by
  rw[cY]
  .exact e
  .intro z;rw[z,ea]at e;exact n φ (dh e).symm
 refine⟨I.ok,I.os,I.bare,⟨I.base.keep,I.base.slot,λb o e h0 hb=>less b (I.base.free b o e h0 hb),I.base.there,λb xs e=>keep b _ (I.base.ny b xs e) (λ_ z=>nomatch z),λb o u e=>keep b _ (I.base.nu b o u e) (λ_ z=>nomatch z),λb ps e=>?_⟩,I.loc,I.cell,less _ I.free,λx c e=>less _ (I.mX x c e),λp hp=>⟨(I.pin p hp).1,less _ (I.pin p hp).2.1,(I.pin p hp).2.2⟩,λb ob e=>?_,I.len⟩
 .obtain⟨more,z⟩:=I.base.nG b ps e;exact⟨more,keep b _ z (λ_ z=>nomatch z)⟩
 .have e':H b=some ob:=by
   by_cases z:b=a
   .rw[c9 z]at e;cases e
   .rw[cY z]at e;exact e
  exact(I.mR b ob e').nk (λ_ _ _ q=>q) (λb' q=>keep b' _ q (λ_ z=>nomatch z)) λb' xs q=>keep b' _ q (λ_ z=>nomatch z)
end
def Nc(K:ql)(ta tv:TE)(f:Str):TS:=λD σ H=>tv σ H λy H1=>ta σ H1 λx H2=>∃a C,x=.ref a/\H2 a=some (.ext (x0 a C))/\yr K C f/\∀d,H2 d=none->d≠a->D.nx σ (upd (upd H2 a (.ext (x1 a C d))) d (.ext (Nj d f y)))
def Oe{X:Cx}{o value:Expr}{f:Str}{pos Wy:Pos}{ta tv:TE}(ha:PE X o ta)(hv:PE X value tv)(hs:swapsWith value (some (.Attribute o f Wy)) pos.line X.env=pure false:=by rfl):PS X (.Assign [.Attribute o f Wy] value pos) (Nc X.K ta tv f):=by intro Wp s σ H D I h;refine iH (sr (hv Wp s σ H _ I h) λu s1 zz=>x5 zz λy H1 I1 ry q=>sr (ha Wp s1 σ H1 _ I1 q) λov s2 zz=>?_) hs;obtain⟨x,H2,I2,rx,a,C,ex,ea,st,q2⟩:=zz;subst ex;obtain rfl:ov=Value.ref a:=rx;exact Ge I2 ea ry st λd s3 dn da I3=>⟨σ,_,I3,q2 d dn da⟩
def wc(K:ql)(f:Str):Sp:=λvs H Q _=>Df λe C y=>vs=[.ref e,y]/\H e=some (.ext (x0 e C))/\yr K C f/\∀d,H d=none->d≠e->Q .mM (upd (upd H e (.ext (x1 e C d))) d (.ext (Nj d f y)))
variable {qual:Str}{scope:Scope}{outer:List Env}{s0:Sd}{H0:Hp}{P:Pg}{mg:QQZ}{base:Heap}
section
def Mi{x qual y1 y2 fl:Str}{st:Stmt}{f:Addr}{fd:FuncData}(F:Of K x qual st f fd)(S:sR [y1,y2] [y1,y2] (pY st)) (hb:∀(Wz:Vl) (A:Ar) (outer:List Env) (s:Sd) (H:Hp) (E:XK),Cj (vo (B5 P w) P w K mg base [y1,y2] qual (pY st) f Wz A outer s H E) (rJ st) (Nc K (EZ 0) (EZ 1) fl)):xh P w K mg base (B5 P w) 1 f fd [y1,y2] (wc K fl):=by
 obtain⟨oc,od,kV,W2,pm,an,Wz,ct,Xd,rfl,lk,Xp⟩:=F.ex;refine Mq lk Xp S (λvs H Q E h=>?_) λA outer s H vs Q' E hr h=>⟨_,hb Wz A outer s H E,?_⟩
 .obtain⟨e,C,y,rfl,_⟩:=h;rfl
 .obtain⟨e,C,y,rfl,h1,h2,q⟩:=h;exact⟨y,rfl,.ref e,rfl,e,C,rfl,h1,h2,q⟩
def HZ(K:ql)(C fI:Addr):Prop:=
 ∃nm q N bs bm XM hdct sn sub ab col dd k0 k1 k2 k3 k5,∃B Bn newId nid WU ze:String,∃bmN,∃mN:QQZ,ExcBaseFacts Bn newId ze bmN/\XM.contains (Value.type Bn)=true/\ExcBaseFacts B nid WU XM/\bm.contains (Value.type "BaseException")=true/\mN "__init__"=some (.ref fI)/\
  ∀h:Heap,K.In h->h.get? C=some (excClassObj nm q C N bs bm hdct sn sub ab col dd k0 k1 k2 k3 k5 newId)/\h.Ns N mN/\OwnTail h XM bm/\∃oI,h.get? fI=some oI/\oI.cls=.type "function"
variable {N:QQQ}{f:Addr}{cd:Vl}{E:XK}
def Jo{X:Cx}(hX:X=vo (B5 P w) P w K mg base N qual scope f cd A outer s0 H0 E){C fI:Addr}{fdI:FuncData}{ps:QQQ}{fl:Str}{k:Nat}{x:Str}{np Ww pos:Pos}{e:Expr}{ta:TA}(hC:HZ X.K C fI)(F:xh X.prog X.w X.K X.mg X.base (B5 X.prog X.w) k fI fdI ps (wc X.K fl))(hr:rR (k+1) X.A)(hb:uL X.K fdI ps [])(st:yr X.K C fl) (hg:Gl X x) (hm:X.mg x=some (.ref C)) (ha:PA X [e] ta) (hs:starEach [e] X.env=[(false,eval e X.env)]:=by rfl) (WK:yP x:=by decide):
  PS X (.Raise (some (.Call (.Name x np) [e] [] Ww)) none pos) (λ_ σ H=>ta σ H λvs H1=>∃y,vs=[y]/\∀d,H1 d=none->E (.ref C) (some d) (upd H1 d (.ext (Nj d fl y)))):=by
 intro Wp s σ H D I h;obtain⟨nm,q,N',bs,bm,XM,hdct,sn,sub,ab,col,dd,k0,k1,k2,k3,k5,B,Bn,newId,nid,WU,ze,bmN,mN,f1,f2,f3,f4,f5,Yk⟩:=hC;have hcalm:X.A.handled=none:=I.ok.hd (by rw[hX];rfl);refine GC (nm:=nm) (q:=q) (N:=N') (bs:=bs) (hdct:=hdct) (sn:=sn) (sub:=sub) (ab:=ab) (col:=col) (dd:=dd) (k0:=k0) (k1:=k1) (k2:=k2) (k3:=k3) (k5:=k5) f1 f2 f3 f4 hcalm (by rw[hs];rfl) f5 (wG I hg hm ⟨rfl,?_⟩ WK);rw[hs];refine evalArgs_kwB rfl ?_;have X1:=ha Ww Wp s σ H _ I h;rw[hs]at X1;refine sr X1 λus s1 zz=>?_;obtain⟨vs,H1,I1,r1,y,ey,q1⟩:=zz;subst ey;obtain⟨u,rfl,ru⟩:=xN r1;refine wpAny_evalAll_nil ?_;obtain⟨c1,c2,c3,c4⟩:=Yk s1.heap I1.m7;refine⟨rfl,by show 1<=sizeLine;rw[dO];decide,c1,c2,c3,c4,λh' e' md=>?_⟩;obtain⟨mk,mn,t,mt,_⟩:=md;have hn:H1 e'=none:=zb I1.mR mn;have I2:Inv X Wp σ H1 {s1 with heap:=h'}:=I1.kept (t':=s1.toks) mk;have I3:Inv X Wp σ (upd H1 e' (.ext (x0 e' C))) {s1 with heap:=h'}:=I2.adopt I1 mn hn ⟨⟨t,_,mt⟩,⟨_,mt⟩,λh1 h2 ⟨t',XQ,z⟩ kk=>⟨t',XQ,kk _ z⟩⟩;have r2:qA [V.ref e',y] [Value.ref e',u]:=.cons rfl (.cons ru .nil);have XS:wc X.K fl [V.ref e',y] (upd H1 e' (.ext (x0 e' C))) (λv H2=>v=.mM/\∃d,d≠e'/\H1 d=none/\H2=upd (upd H1 e' (.ext (x1 e' C d))) d (.ext (Nj d fl y))) (λ_ _ _=>False):=⟨e',C,y,rfl,pZ,st,λd dn da=>⟨rfl,d,da,by rw[pV da]at dn;exact dn,by rw[Nt]⟩⟩;have hl:([Value.ref e',u]:List Vl).length=ps.length:=by rw[<-r2.length];exact F.len _ _ _ _ XS
 refine hZ (gh (F.run _ X.stack _ _ ⟨[Value.ref e',u],[]⟩ [Value.ref e',u] _ _ _ (hr.make C [u] []) (I3.og.make C [u] []) (hb _ [Value.ref e',u] I3.m7 hl) r2 XS) λr s' X5=>?_);cases r with
 | error ev=>obtain⟨_,_,_,_,_,_,z,_⟩:=X5;exact z.elim
 | ok fw=>
  cases fw with
  | ret uv=>
   obtain⟨v,H',I4,rv,ev,d,da,dn,eH⟩:=I3.after X5;subst ev eH;obtain⟨⟨t',XQ,md⟩,_,_⟩:=I4.mR e' _ (by rw[pV (dJ da)];exact pZ);have I5:Inv X Wp σ (upd H1 d (.ext (Nj d fl y))) _:=(funext λb=>by
    by_cases z:b=e'
    .subst z;rw[c9 rfl,pV (dJ da),hn]
    .rw[cY z];by_cases z2:b=d
     .subst z2;rw[pZ,pZ]
     .rw[pV z2,pV z2,pV z]:(λb=>if b=e' then none else upd (upd H1 e' (.ext (x1 e' C d))) d (.ext (Nj d fl y)) b)=upd H1 d (.ext (Nj d fl y))) ▸ I4.drop (a:=e') (φ:=x1 e' C d) (by rw[pV (dJ da)];exact pZ)
   refine⟨rv,some d,(Yk s'.heap I4.m7).1,⟨t',XQ,md⟩,?_⟩;subst hX;have WS:Un (vZ outer) [] H0 H1 s0.heap s1.heap:=I1.base;exact Ua I5 (tb:=none) ⟨_,_,md,rfl,rfl,rfl,(by show 1<6;decide),rfl,λT z=>by cases z⟩ (F9 WS rfl mn) (λT z=>by cases z) (by rw[pV (dJ da)];exact hn) (q1 d dn)
  | next=>exact False.elim X5
  | brk=>exact False.elim X5
  | cont=>exact False.elim X5
end
end L2
namespace L3
open L2
variable {P:Pg}{w:Wo}{K:ql}{mg:QQZ}{base:Heap}{N:QQQ}{qual:Str}{scope:Scope}{f:Addr}{cd:Vl}{A:Ar}{outer:List Env}{s0:Sd}{H0:Hp}{E:XK}{x:Str}{np Ww pos:Pos}{e:Expr}{C fI:Addr}{fdI:FuncData}{ps:QQQ}{fl:Str}{k:Nat}{R:XR}{ta:xi}
def ND(C:Addr)(R:XR)(f:Str)(ta:xi):xn:=λ_ δ M=>ta δ M λds M1=>∃z,ds=[z]/\R C (some (f,z)) M1
def Jw(hC:HZ K C fI)(F:xh P w K mg base (B5 P w) k fI fdI ps (wc K fl))(hr:rR (k+1) (vo (B5 P w) P w K mg base N qual scope f cd A outer s0 H0 E).A)(hb:uL K fdI ps [])(st:yr K C fl)(_:W.findIn K (.ref C) "__init__"=some (some (.ref fI)))(hg:Gl (vo (B5 P w) P w K mg base N qual scope f cd A outer s0 H0 E) x)(hm:mg x=some (.ref C))(hR:SJ K R E)(ha:A3 (vo (B5 P w) P w K mg base N qual scope f cd A outer s0 H0 E) [e] ta) (hs:starEach [e] (vo (B5 P w) P w K mg base N qual scope f cd A outer s0 H0 E).env=[(false,eval e (vo (B5 P w) P w K mg base N qual scope f cd A outer s0 H0 E).env)]:=by rfl) (WK:yP x:=by decide):
  S3 (vo (B5 P w) P w K mg base N qual scope f cd A outer s0 H0 E) (.Raise (some (.Call (.Name x np) [e] [] Ww)) none pos) (ND C R fl ta):=
 PS.mono (Jo rfl hC F hr hb st hg hm ha hs WK) λD' σ H ⟨δ,M,D,hs,hm,ht,_⟩=>⟨δ,M,_,hs,hm,ht,λvs H1 ds M1 hd Wr e1 q1=>by
  obtain⟨z,rfl,r⟩:=q1;obtain⟨v,rfl,hv⟩:=rQ hd;exact⟨v,rfl,λd dn=>hR C (some d) _ M1 _ (Wr.add dn) (.inr ⟨d,fl,z,v,rfl,rfl,pZ,hv.mono (.new dn)⟩) r⟩⟩
variable {X:Cx}{b₀:Stmt}{XJ:List Stmt}{cn:Str}{cnp XW epos:Pos}{Cc L:Addr}{te:SC}{th:xn}
end L3
namespace L2
def Lw{K:ql}{C C2 N fI:Addr}{nm q:Str}{bs sub:List Vl}{hdct ab:Bool}{sn:QQQ}{col:Option Bool}{dd od1 od2 dd2:Option Addr}{k0 k1 k2 k3 k5:Option Vl}{oc1 oc2 c0:Vl}{es1 es2:Array DictEntry}{ep1 ep2:Nat}{sl1 sl2 Vj:Array (Option Vl)}{cd2:ClassData}{oI:Obj} (l1:K.lookup C=some (excClassObj nm q C N bs (.ref C2::KB) hdct sn sub ab col dd k0 k1 k2 k3 k5 "ValueError.__new__")) (n1:K.lookup N=some ⟨oc1,od1,.dict es1 ep1,sl1⟩) (s1:BQ es1=true) (i1:nsFind es1 "__init__"=some (.ref fI)) (l2:K.lookup C2=some ⟨c0,dd2,.cls cd2,Vj⟩) (n2:K.lookup cd2.ns=some ⟨oc2,od2,.dict es2 ep2,sl2⟩) (s2:BQ es2=true) (i2:nsFind es2 "__init__"=none) (l3:K.lookup fI=some oI) (hf:W.isFn K (.ref fI)=true):HZ K C fI:=by
 have hc:oI.cls=.type "function":=by have hf:=fi.mp hf;unfold W.typeIn at hf;simp only at hf;rw[l3]at hf;exact dh hf
 refine⟨nm,q,N,bs,.ref C2::KB,KB,hdct,sn,sub,ab,col,dd,k0,k1,k2,k3,k5,"ValueError","ValueError","ValueError.__new__","ValueError.__new__","ValueError.__init__","ValueError.__init__",KB,λn=>nsFind es1 n,ku,by decide+kernel,ku,?_,i1,λh X=>⟨X C _ l1,⟨_,es1,ep1,X N _ n1,rfl,By s1,λ_=>rfl⟩,.own (X C2 _ l2) ⟨_,es2,ep2,X _ _ n2,rfl,By s2,λ_=>rfl⟩ i2 .base,oI,X fI _ l3,hc⟩⟩;rw[ir];have:KB.contains (.type "BaseException")=true:=by decide+kernel
 rw[this,lb]
def Jn{K:ql}{C C2 N:Addr}{nm q f:Str}{bs sub:List Vl}{ab:Bool}{sn:QQQ}{col:Option Bool}{dd:Option Addr}{k0 k1 k2 k3 k5:Option Vl}(l1:K.lookup C=some (excClassObj nm q C N bs (.ref C2::KB) true sn sub ab col dd k0 k1 k2 k3 k5 "ValueError.__new__"))(sa:W.findIn K (.ref C) "__setattr__"=some (some (.builtin "object.__setattr__")))(tk:W.findIn K (.ref C) f=some none):yr K C f:=by refine⟨sa,⟨_,[C,C2],by unfold W.clsIn;rw[l1],rfl,rfl⟩,?_⟩;unfold W.takerIn;rw[tk];rfl
end L2
namespace L3
open L2
def Rm(Wq:Array Vl)(x:Vl)(i:Nat)(_:Option PySem.Fin×Unit):Sem (ForInStep (Option PySem.Fin×Unit)):=match Wq[i]? with
 | some y=>do
  let b<-eqBool y x
  if b=true then do
   let v<-retInt ↑i
   pure (ForInStep.done (some v,()))
  else pure (ForInStep.yield (none,()))
 | _=>pure (ForInStep.yield (none,()))
def Dd(l:Addr)(Wq:Array Vl)(n:Nat)(dd:Option Addr)(sl:Array (Option Vl))(x:Vl)(e:Vl->Bool)(j:Nat)(hj:j<Wq.size)(hit:e Wq[j]=true)(hno:∀m (hm:m<Wq.size),m<j->e Wq[m]=false):
  Meets (Builtin.«tuple.index» ⟨[.ref l,x],[]⟩)
   (λA R s=>s.heap.get? l=some {cls:=.type "tuple",dict:=dd,data:=.seq Wq n,slots:=sl}/\(∀y,y∈Wq->SeqAt.EqAt A.in1 s y x (e y))/\R (.ok (.ret (.int j s.toks))) {s with toks:=s.toks+1}):=
 .of_wp λprog w A R s h=>by
  obtain⟨hp,g,d,tk,os⟩:=s;obtain⟨hl,he,h⟩:=h
  wp_walk using wpAny_loadPart' hl
  change wpAny _ _ (forIn ([:min Wq.size Wq.size]:Std.Legacy.Range) ((none,()):Option PySem.Fin×Unit) (Rm Wq x)) _ _ _;rw[kH];have hr:List.range' ([:min Wq.size Wq.size]:Std.Legacy.Range).start ([:min Wq.size Wq.size]:Std.Legacy.Range).size ([:min Wq.size Wq.size]:Std.Legacy.Range).step=List.range' 0 Wq.size 1:=by simp[Std.Legacy.Range.size]
  rw[hr];refine d9 (wpAny_forIn_list (Rm Wq x) (λrest b s'=>b.1=none/\s'=⟨hp,g,d,tk,os⟩/\∃i,i<=j/\rest=List.range' i (Wq.size - i) 1) (λb s'=>b.1=some (.done (.ret (.int j tk)))/\s'=⟨hp,g,d,tk+1,os⟩) ?_ ?_ _ _ ⟨rfl,rfl,0,eE _,rfl⟩) (λb s' hb=>?_) λ_ _ z=>z
  .rintro k rest b s' ⟨hb,rfl,i,hi,er⟩
   have hsz:Wq.size - i=(Wq.size - i - 1)+1:=by omega
   rw[hsz,List.range'_succ]at er;obtain⟨rfl,rfl⟩:=gD er;have hk:k<Wq.size:=by omega
   unfold Rm;rw[js hk];refine cU (he Wq[k] (Array.getElem_mem hk) prog w _ _ ?_);by_cases hkj:k<j
   .rw[hno k hk hkj];exact de ⟨rfl,rfl,k+1,hkj,by rw[Nat.sub_sub]⟩
   .have:k=j:=by omega
    subst this;rw[hit];refine cU ?_
    wp_walk
    exact⟨rfl,rfl⟩
  .rintro b s' ⟨_,_,i,hi,er⟩
   have:Wq.size - i≠0:=by omega
   have:=eP List.length er;rw[List.length_range']at this;simp at this;omega
  .obtain⟨h1,rfl⟩:=hb;obtain⟨b1,b2⟩:=b;simp only at h1;subst h1;exact de ⟨_,rfl,h⟩
variable {X:Cx}{pos Ws:Pos}{o e:Expr}{es:List Expr}{ta:T3}{t:xi}
def Kt(x:D)(ds:List D)(M:Mp)(Q:DK):Prop:=match x,ds with
 | .tup es,[y]=>uu y=true/\es.all uu=true/\(zS y es).elim False λj=>Q (.int (j:Nat)) M
 | _,_=>False
def Jk:M3 X "tuple.index" Kt:=by
 intro Wp s σ H vx vs v us Q' I rx rv h;obtain⟨x,ds,M,Q,hx,hd,hm,q,k⟩:=h;unfold Kt at q;split at q
 .rename_i es y;obtain⟨f1,f2,q⟩:=q;obtain⟨j,e1,q⟩:=qP q;obtain⟨a,xs,rfl,h1,h2⟩:=hx.mP;cases rx;obtain⟨w,rfl,hw⟩:=rQ hd;obtain⟨u,rfl,ru⟩:=xN rv;obtain⟨its,r,⟨ob,g1,g2,n,g3⟩,hz⟩:=I.tuple h1;obtain⟨hl,p1,p2⟩:=EU hw f1 h2 r f2 e1;obtain⟨oc,od,Y1,Xd⟩:=ob;cases g2;cases g3;refine iK F.slot_tuple_index ⟨_,g1,rfl⟩ F.entry_tuple_index (F.args_tuple_index_2 _ _) (Dd a its.toArray n od Xd u (Dt w) j (by simpa using hl) (by simpa using p1) λm hm WA=>by simpa using p2 m (by simpa using hm) WA) ⟨g1,?_,?_⟩
  .intro z YX;exact vm ru (xQ hw f1) r (Bc h2 f2) z (by simpa using YX)
  .exact⟨.int (j:Nat),H,I.tok _,⟨_,rfl⟩,k _ _ _ _ .int hm .refl q⟩
 .exact q.elim
def QR{id:String}{name:Str}{r:V->List V->Hp->VK->Prop}{to:TE}{ta:TA}(slot:Slot "tuple" name id)(hty:typeOf (.builtin id)=pure (.type "method_descriptor"))(hm:UV X id r)(ho:PE X o to)(ha:PA X (e::es) ta) (WE:attributeBase o name X.env (eval o X.env)=eval o X.env) (WY:((backTo pos (starEach (e::es) X.env)).all (λx=>!x.1)&&(backToKw pos (keywordEach [] X.env)).all (λx=>x.1.isSome)&&decide ((e::es).length+([]:List Keyword).length+(if ([]:List Keyword).isEmpty then 0 else 1)<30))=true) (WO:(Ws.endLine==pos.line)=true) (hs:starEach (e::es) X.env=(false,eval e X.env)::starEach es X.env) (Wx:(backTo pos (starEach es X.env)).any (·.1)=false):
  PE X (.Call (.Attribute o name Ws) (e::es) [] pos) (λσ H Q=>to σ H λx H1=>(∃p xs,x=.ref p/\uQ X.K H1 p xs)/\ta σ H1 λxs H2=>r x xs H2 Q):=by
 intro Wp s σ H Q I h;refine jZ WE WY WO rfl (sr (ho Wp s σ H _ I h) λv s1 ⟨x,H1,I1,r1,⟨p,xs,ex,hq⟩,q1⟩=>?_);subst ex;cases r1;obtain⟨its,_,⟨ob,g1,g2,_,g4⟩,_⟩:=I1.oy hq;refine⟨"tuple",id,PySem.F.plainAttrs_tuple,slot,hty,⟨ob,g1,g2⟩,λb z=>by cases z;exact⟨ob,g1,g4⟩,?_⟩;have hA:=ha pos Wp s1 σ H1 _ I1 q1;rw[hs]at hA ⊢;refine j3 (by show(false||(backTo pos (starEach es X.env)).any (·.1))=false;rw[Wx]<;>rfl) (km ?_);exact sr hA λus s2 zz=>x5 zz λvs H2 I2 r2 q2=>hm Wp s2 σ H2 (.ref p) vs (.ref p) us Q I2 rfl r2 q2
def Wk(r:D->List D->Mp->DK->Prop)(to:T3)(t:xi):T3:=λδ M Q=>to δ M λx M1=>match x with|.tup z=>t δ M1 λds M2=>r (.tup z) ds M2 Q|_=>False
def Ey(ho:E3 X o ta)(ha:A3 X (e::es) t)(WE:attributeBase o "index" X.env (eval o X.env)=eval o X.env:=by rfl)
  (WY:((backTo pos (starEach (e::es) X.env)).all (λx=>!x.1)&&(backToKw pos (keywordEach [] X.env)).all (λx=>x.1.isSome)&&decide ((e::es).length+([]:List Keyword).length+(if ([]:List Keyword).isEmpty then 0 else 1)<30))=true:=by rfl)
  (WO:(Ws.endLine==pos.line)=true:=by rfl) (hs:AL X e es:=by rfl) (Wx:Cr X pos es:=by rfl):
  E3 X (.Call (.Attribute o "index" Ws) (e::es) [] pos) (Wk Kt ta t):=PE.mono (QR PySem.F.slot_tuple_index PySem.F.type_tuple_index Jk ho ha WE WY WO hs Wx) λσ H Q' zz=>x7 zz λδ M Q hs hm ht k=>
 ⟨δ,M,_,hs,hm,ht,λv H1 x M1 hx Wr e1 q1=>by
  cases x with
  | tup z=>obtain⟨a,xs,ev,h1,h2⟩:=id hx.mP;exact⟨⟨a,xs,ev,h1⟩,δ,M1,_,hs.mono e1,Wr,q1,λvs H2 ds M2 Xq WI e2 q2=>⟨.tup z,ds,M2,Q,hx.mono e2,Xq,WI,q2,vv (e1.trans e2) k⟩⟩
  | _=>exact q1.elim⟩
structure FA where
 f:Addr
 d:FuncData
 p:QQQ
structure DG(K:ql)(st:Stmt)(py qual:Str)(ps:QQQ)(x:FA):Prop where
 pe:x.p=ps
 fn:Of K py qual st x.f x.d
 b:uL K x.d x.p []
 ty:W.isFn K (.ref x.f)=true
structure TG(K:ql)(mg:QQZ)(st:Stmt)(py:Str)(ps:QQQ)(x:FA):Prop extends DG K st py py ps x where
 mg:mg py=some (.ref x.f)
structure MG(K:ql)(C:Addr)(st:Stmt)(py qual:Str)(ps:QQQ)(x:FA):Prop extends DG K st py qual ps x where
 at_:W.findIn K (.ref C) py=some (some (.ref x.f))
structure CG(K:ql)(mg:QQZ)(nm:Str)(C:Addr):Prop extends Cls K C where
 mg:mg nm=some (.ref C)
def DG.kp{K:ql}{st:Stmt}{py qual:Str}{ps:QQQ}{x:FA}(h:DG K st py qual ps x):W.keepIn K (.ref x.f)=true:=h.fn.kp
def MG.nq{K:ql}{C:Addr}{st:Stmt}{py qual:Str}{ps:QQQ}{x:FA}(h:MG K C st py qual ps x):vA K C py x.f:=⟨h.at_,h.ty,h.toDG.kp⟩
def zD(K:ql)(C:Addr)(fs:QQQ):Prop:=∀f,fs.contains f=true->tX K C f
def sX{K:ql}{C:Addr}:zD K C []:=λf h=>by simp at h
def pO{K:ql}{C:Addr}{g:Str}{fs:QQQ}(h:W.findIn K (.ref C) g=some none)(r:zD K C fs):zD K C (g::fs):=λf q=>by
 rw[ir,gU]at q;rcases q with q|q
 .rw[eq_of_beq q];exact h
 .exact r f q
abbrev Fq(P:Pg)(w:Wo)(K:ql)(mg:QQZ)(base:Heap)(k:Nat)(x:FA)(sp:rh):Prop:=SH P w K mg base k x.f x.d x.p sp
abbrev U8(P:Pg)(w:Wo)(K:ql)(mg:QQZ)(base:Heap)(k:Nat)(x:FA)(sp:Gd):Prop:=RB P w K mg base k x.f x.d x.p sp
def QK(N P:QQQ)(sc:Scope):Bool:=sc.kind==.function&&(!sc.isCoroutine&&(!sc.isGenerator&&(decide N.Nodup&&(decide (N.take P.length=P)&&((P.all λx=>sc.names.lookup x==some .local||sc.names.lookup x==some .cell)&&sc.names.all λy=>!(y.2==.free))))))
def V6{N P:QQQ}{sc:Scope}(h:QK N P sc=true):sR N P sc:=by
 unfold QK at h;simp only[dU,gG,fi,eh]at h;obtain⟨h1,h2,h3,h4,h5,h6,h7⟩:=h;refine⟨h1,h2,h3,h4,h5,λx hx=>?_,λy hy e=>?_⟩
 .have:=eM.mp h6 x hx
  simpa using this
 .have:=eM.mp h7 y hy;rw[e]at this;simp at this
variable {P:Pg}{w:Wo}{K:ql}{mg:QQZ}{base:Heap}
def VA{x qual:Str}{st:Stmt}{fa:FA}{N ps:QQQ}{k:Nat}{sp:rh}(F:DG K st x qual ps fa)(S:sR N ps (pY st))(len:∀ds M Q,sp ds M Q->ds.length=ps.length) (WN:∀(Wz:Vl) (A:Ar) (outer:List Env) (s:Sd) (H:Hp) (E:XK),rR k (A.deeper (envOfC qual (pY st) s.heap.objs.size fa.f Wz))->
   ∃t,GX (vo Nk P w K mg base N qual (pY st) fa.f Wz A outer s H E).oq (rJ st) t/\∀ds M Q,sp ds M Q->t {nx:=λ_ M'=>∃Wu,qw Wu M'/\Q .mM Wu,rt:=λd M'=>∃Wu,qw Wu M'/\Q d Wu} (wz N ds) M):Fq P w K mg base (k+1) fa sp:=by
 unfold Fq;rw[F.pe];exact S6 F.fn S len WN
def S0{x qual:Str}{st:Stmt}{fa:FA}{N ps:QQQ}{k:Nat}{sp:Gd}(F:DG K st x qual ps fa)(S:sR N ps (pY st))(len:∀ds M Q R,sp ds M Q R->ds.length=ps.length) (WN:∀(Wz:Vl) (A:Ar) (outer:List Env) (s:Sd) (H:Hp) (E:XK) (R:XR),rR k (A.deeper (envOfC qual (pY st) s.heap.objs.size fa.f Wz))->SJ K R E->
   ∃t,GX (vo (B5 P w) P w K mg base N qual (pY st) fa.f Wz A outer s H E) (rJ st) t/\∀ds M Q,sp ds M Q R->t {nx:=λ_ M'=>∃Wu,qw Wu M'/\Q .mM Wu,rt:=λd M'=>∃Wu,qw Wu M'/\Q d Wu} (wz N ds) M):U8 P w K mg base (k+1) fa sp:=by
 unfold U8;rw[F.pe];exact TK F.fn S len WN
variable {k n:Nat}{f C:Addr}{fa:FA}{st:Stmt}{qual:Str}{ps:QQQ}{sp:rh}{x m:Str}{p:Pos}
def pI(F:Fq X.prog X.w X.K X.mg X.base k fa sp)(hr:rR n X.A)(T:TG X.K X.mg st x ps fa)(ha:A3 X (e::es) t)(hn:k<=n:=by first|decide|omega)(hg:Gl X x:=by rfl)
  (WK:yP x:=by decide) (he:AL X e es:=by rfl) (WH:Cr X pos es:=by rfl):
  E3 X (.Call (.Name x p) (e::es) [] pos) (DH sp t):=NN F (hr.mono hn) hg T.mg T.toDG.kp T.b ha WK he WH
def uZ(F:Fq X.prog X.w X.K X.mg X.base k fa sp)(hr:rR n X.A)(c:CG X.K X.mg x C)(i:Mk X.K C fa.f)(T:DG X.K st m qual ps fa)(ha:A3 X (e::es) t)(hn:k+1<=n:=by first|decide|omega)(hg:Gl X x:=by rfl)
  (WK:yP x:=by decide) (he:AL X e es:=by rfl) (WH:Cr X pos es:=by rfl):
  E3 X (.Call (.Name x p) (e::es) [] pos) (Qf C sp t):=Oc c.toCls i F (hr.mono hn) hg c.mg T.b ha WK he WH
def pU{pl:Sem Bool}(he:E3 X o ta)(c:Cls X.K C)(T:MG X.K C st m qual ps fa)(F:Fq X.prog X.w X.K X.mg X.base k fa sp)(hr:rR n X.A)(ha:A3 X (e::es) t)(hn:k<=n:=by first|decide|omega)
  (WJ:AL X e es:=by rfl) (WH:Cr X pos es:=by rfl)
  (ht:eval (.Call (.Attribute o m Ws) (e::es) [] pos) X.env=(do
   let ov<-eval o X.env
   standAt Ws.atName
   let(f,first)<-holding [ov] (getMethod ov m pl)
   callWith pos f first (backTo pos (starEach (e::es) X.env)) (backToKw pos (keywordEach [] X.env))):=by rfl):
  E3 X (.Call (.Attribute o m Ws) (e::es) [] pos) (An m (λD s=>D=C/\s=sp) ta t):=
 Ff (R:=λD s=>D=C/\s=sp) he (λD s ⟨e1,e2⟩=>by subst e1 e2;exact⟨c,_,_,_,T.nq,F,T.b⟩) (hr.mono hn) ha WJ WH ht
def xZ{pl:Sem Bool}(he:E3 X o ta)(c:Cls X.K C)(T:MG X.K C st m qual ps fa)(F:Fq X.prog X.w X.K X.mg X.base k fa sp)(hr:rR n X.A)(hn:k<=n:=by first|decide|omega)
  (ht:eval (.Call (.Attribute o m Ws) [] [] pos) X.env=(do
   let ov<-eval o X.env
   standAt Ws.atName
   let(f,first)<-holding [ov] (getMethod ov m pl)
   callWith pos f first (backTo pos (starEach [] X.env)) (backToKw pos (keywordEach [] X.env))):=by rfl):
  E3 X (.Call (.Attribute o m Ws) [] [] pos) (An m (λD s=>D=C/\s=sp) ta xy):=
 Bz (R:=λD s=>D=C/\s=sp) he (λD s ⟨e1,e2⟩=>by subst e1 e2;exact⟨c,_,_,_,T.nq,F,T.b⟩) (hr.mono hn) ht
def yC{pl:Sem Bool}(cm:Mj X.K C m fa.f)(F:Fq X.prog X.w X.K X.mg X.base k fa sp)(hr:rR n X.A)(c:CG X.K X.mg x C)(T:DG X.K st m qual ps fa)(ha:A3 X (e::es) t)(hn:k<=n:=by first|decide|omega)(hg:Gl X x:=by rfl)
  (WK:yP x:=by decide) (WJ:AL X e es:=by rfl) (WH:Cr X pos es:=by rfl)
  (ht:eval (.Call (.Attribute (.Name x p) m Ws) (e::es) [] pos) X.env=(do
   let ov<-eval (.Name x p) X.env
   standAt Ws.atName
   let(f,first)<-holding [ov] (getMethod ov m pl)
   callWith pos f first (backTo pos (starEach (e::es) X.env)) (backToKw pos (keywordEach [] X.env))):=by rfl):
  E3 X (.Call (.Attribute (.Name x p) m Ws) (e::es) [] pos) (DH sp t):=Ph cm F (hr.mono hn) hg c.mg T.kp T.b ha WK WJ WH ht
variable {h:Heap}{py:Str}{od an:Option Addr}{sl:Array (Option Vl)}{kv dc pm cd ct:Vl}
def Jc{fd:FuncData}{oc:Vl}(l:K.lookup f=some ⟨oc,od,.func fd,sl⟩):W.keepIn K (.ref f)=true:=by unfold W.keepIn;simp only;rw[l]
def NV{fd:FuncData}(l:K.lookup f=some ⟨.type "function",od,.func fd,sl⟩):W.isFn K (.ref f)=true:=by unfold W.isFn W.typeIn;simp only;rw[l];rfl
abbrev m9(py qual:Str)(st:Stmt)(ps:QQQ):Prop:=∀(kV W2 pm:Vl) (an:Option Addr) (Wz ct:Vl) (us:List Vl),us.length=ps.length->bindArgs (W.fnOf py qual (uc st) (rJ st) (pY st) .none kV W2 pm an Wz ct) ⟨us,[]⟩=pure (ps.zip us)
def Qc(l:K.lookup f=some ⟨.type "function",od,.func (W.fnOf py qual (uc st) (rJ st) (pY st) .none kv dc pm an cd ct),sl⟩)(k:W.codeIn K cd qual=true)(hb:m9 py qual st ps):
  DG K st py qual ps ⟨f,W.fnOf py qual (uc st) (rJ st) (pY st) .none kv dc pm an cd ct,ps⟩:=⟨rfl,L1 l k (Jc l),(L1 l k (Jc l)).binds hb,NV l⟩
def qm(X:K.In h)(G:h.Ns mainGlobals mg)(a:W.nsIn K mainGlobals py=some (some (.ref f)))(l:K.lookup f=some ⟨.type "function",od,.func (W.fnOf py py (uc st) (rJ st) (pY st) .none kv dc pm an cd ct),sl⟩)(k:W.codeIn K cd py=true)(hb:m9 py py st ps):
  TG K mg st py ps ⟨f,W.fnOf py py (uc st) (rJ st) (pY st) .none kv dc pm an cd ct,ps⟩:=⟨Qc l k hb,W.mg_of X G a⟩
def pW(a:W.findIn K (.ref C) py=some (some (.ref f)))(l:K.lookup f=some ⟨.type "function",od,.func (W.fnOf py qual (uc st) (rJ st) (pY st) .none kv dc pm an cd ct),sl⟩)(k:W.codeIn K cd qual=true)(hb:m9 py qual st ps):
  MG K C st py qual ps ⟨f,W.fnOf py qual (uc st) (rJ st) (pY st) .none kv dc pm an cd ct,ps⟩:=⟨Qc l k hb,a⟩
def wm(X:K.In h)(G:h.Ns mainGlobals mg)(a:W.nsIn K mainGlobals py=some (some (.ref C)))(h1:W.plainGet K C Str.empty=true)(h2:W.hasDictIn K C=true)(h3:W.plainOver K C=true)(h4:W.findIn K (.ref C) "__setattr__"=some (some (.builtin "object.__setattr__"))):CG K mg py C:=⟨⟨h1,h2,h3,h4⟩,W.mg_of X G a⟩
def SR(h1:(W.clsIn K C).isSome=true)(h2:W.findIn K (.ref C) "__getattribute__"=some (some (.builtin "BaseException.__getattribute__")))(h3:W.findIn K (.ref C) "__getattr__"=some none)(h4:W.findIn K (.ref C) "__class__"=some (some (.builtin "object.__class__"))) (h5:W.specialIn K (.builtin "object.__class__") "__get__"=some (some (.builtin "getset_descriptor.__get__"))) (h6:W.takesIn K (.builtin "object.__class__")=some true) (h7:W.mroIn K C (.type "object")=some true) (h8:W.mroIn K C (.type "BaseException")=some true):Me K C:=⟨h1,h2,h3,h4,h5,h6,h7,h8⟩
def On{x:Str}{a:Addr}{es:List DictEntry}{ep:Nat}{T:List (Str×QQQ)}(h:mg x=some (.ref a))(s:(a==sysModules)=false)(l:K.lookup a=some ⟨.type "dict",none,.dict es.toArray ep,#[]⟩) (r:KTD.Rows (λ(ss:QQQ) v=>∃t,v=Value.ref t/\uQ K (λ_=>none) t (ss.map V.str)) es T):Lg K mg x T:=⟨a,_,_,_,h,s,l,⟨rfl,rfl,rfl⟩,rfl,by simpa using r⟩
def MR{P:Pg}{w:Wo}{base:Heap}{x qual y1 y2 fl:Str}{st:Stmt}{fa:FA}(F:DG K st x qual [y1,y2] fa)(S:sR [y1,y2] [y1,y2] (pY st)) (hb:∀(Wz:Vl) (A:Ar) (outer:List Env) (s:Sd) (H:Hp) (E:XK),Cj (vo (B5 P w) P w K mg base [y1,y2] qual (pY st) fa.f Wz A outer s H E) (rJ st) (Nc K (EZ 0) (EZ 1) fl)):xh P w K mg base (B5 P w) 1 fa.f fa.d fa.p (wc K fl):=by
 rw[F.pe];exact Mi F.fn S hb
def S7(ds:List D)(M:Mp)(Q:DK):Prop:=match ds with
 | [.ref a]=>(oR M a).elim False λes=>(F8 es).elim False λbs=>Q (.bl (bs.any id)) M
 | _=>False
def RS(hc:X.calm=true):C3 X (.builtin "any") S7:=by
 intro Wp s σ H vs us Q' I rv h;obtain⟨ds,M,Q,hd,hm,q,k⟩:=h;unfold S7 at q;split at q
 .rename_i a;obtain⟨v,rfl,hv⟩:=rQ hd;obtain⟨es,e0,q⟩:=qP q;obtain⟨bs,e1,q⟩:=qP q;cases hv.mH;obtain⟨u,rfl,ru⟩:=xN rv;cases ru;obtain⟨xs,h1,h2,_⟩:=qo hm e0;obtain⟨its,r,pl,hz⟩:=I.list h1;have Zu:=D5 e1 h2 r;subst Zu;have WL:a≠s.heap.objs.size:=by obtain⟨o,_,e,_⟩:=pl;exact dH (dz e)
  refine call_any_walk (gF pl.isList ?_);refine⟨s.heap.objs.size,_,_,_,_,_,λi=>(bs[i]?).getD false,rfl,kr (A:=X.A.in1) (I.ok.hd hc) _ a WL (bs.map Value.bool).toArray,⟨⟨_,dE _ rfl,rfl,rfl⟩,?_⟩,λi v s' Q E hP hQ=>?_,λh' tk hk=>?_⟩
  .obtain⟨o,n,e,c,d,q⟩:=pl;exact⟨o,cZ _ e,c,n,q⟩
  .simp only[iF,dA]at hP;cases e2:bs[i]? with
   | none=>rw[e2]at hP;cases hP
   | some b=>rw[e2]at hP;cases hP;have hQ:Q ((bs[i]?).getD false) s':=hQ;rw[e2]at hQ;exact fh hQ
  .have ea:(List.range (bs.map Value.bool).toArray.size).any (λi=>(bs[i]?).getD false)=bs.any id:=by
    rw[dv,cT];rw[gi,gv,gv];constructor
    .rintro ⟨i,hi,z⟩
     have Ym:=gq.mp hi;rw[cW Ym]at z;exact⟨_,ib Ym,z⟩
    .rintro ⟨b,hb,z⟩
     obtain⟨i,hi,e⟩:=gO hb;refine⟨i,gq.mpr hi,?_⟩;rw[cW hi,e];exact z
   rw[ea];refine⟨.bl (bs.any id),H,?_,rfl,k _ _ _ _ .bl hm .refl q⟩;exact I.kept (h':=h') (t':=tk) λb o e=>hk b o (by simpa using dH (dz e)) (cZ _ e)
 .exact q.elim
def Sr:bootBuiltins "any"=some (.builtin "any"):=by decide+kernel
end L3
namespace L2
def JG(a C d:Addr)(h:Heap):Prop:=B1 λoe vs=>h.get? a=some oe/\oe.cls=.ref C/\oe.data=.fields vs/\oe.dict=some d
structure OV(K:ql)(C:Addr)(f:Str):Prop where
 ci:Me K C
 hh:W.hasDictIn K C=true
 tk:W.findIn K (.ref C) f=some none
def LN{h:Heap}{d:Addr}{m:QQZ}{f:Str}{u:Vl}(x:h.Ns1 d m)(e:m f=some u):∃od,h.get? d=some od/\W.lookIn f od=some (some u):=by obtain⟨o,es,ep,e1,e2,_,_,e3⟩:=x;refine⟨o,e1,?_⟩;have e3:=e3 f;rw[e]at e3;unfold nsFind findBy at e3;rw[<-kT]at e3;obtain⟨en,h1,h2⟩:=iB.mp e3;unfold W.lookIn;rw[e2];dsimp only;rw[h1];exact eP (λz=>some (some z)) h2
variable {prog:Pg}{w:Wo}{A:Ar}{E:QQX}{s:Sd}{K:ql}{x C:Addr}{ox od:Obj}{f:Str}{v:Vl}
def Ln{tk:Tok}{Q:PySem.Fin->Sd->Prop}(X:K.In s.heap)(I:W.InstAt s.heap x ox C (some od))(hf:W.findObj K C (some od) f=some (.value v))(h:Q (.done (.ret v)) s):wpAny (model prog w) A (Builtin.«object.__getattribute__» {pos:=[.ref x,.str f tk]}) Q E s:=by have L0:=I.type (M:=model prog w);unfold Builtin.«object.__getattribute__» slotArgs;refine cU ?_;rw[cY (by simp)];dsimp only;rw[cY (by simp)];refine de ?_;dsimp only;refine cU ?_;unfold Builtin.ObjectAttr.attrName;refine de (cU (L0.at (cU ((W.looks_find X I hf).at ?_))));exact de h
def P0{Zc:Bool}{Q:QQX}(c:OV K C f)(X:K.In s.heap)(I:W.InstAt s.heap x ox C (some od))(hl:W.lookIn f od=some (some v))(hv:W.handedIn v=true)(h:Q v {s with toks:=s.toks+1}):wpAny (model prog w) A (getAttr (.ref x) f Zc) Q E s:=by have L0:=I.type (M:=model prog w);unfold getAttr getAttrBy;refine cU (wpAny_mkText (eD (cU (L0.at (cU ((iY X c.ci.ga).at ?_))))));dsimp only;rw[cY (by simp)];unfold getAttrByItsOwn;refine cU ?_;unfold hookBefore;rw[c9 (by rfl)];refine(iY X c.ci.gt).at (cU (kB (eD ?_)));unfold callGetattribute;rw[cY (by simp;intro _;rfl)];unfold boundAndCalled;refine cU ?_;rw[ke.ga.bind (.ref x)];refine de ?_;refine hZ (ia ke.ga.plain F.entry_bexc_ga (KY c.ci X I.at_ I.cls ?_));exact Ln X I (W.findObj_own c.hh c.tk rfl hl) (W.handed_on hv h)
variable {X:Cx}{e:Expr}{pos:Pos}{ta:TE}
def Ku:V->Bool
 | .str _=>true
 | .int _=>true
 | .bl _=>true
 | .mM=>true
 | _=>false
def D3{v:V}{u:Vl}(r:qG v u)(p:Ku v=true):W.handedIn u=true:=by
 cases v<;>first
  | (cases r;rfl)
  | (obtain⟨t,rfl⟩:=r;rfl)
  | cases p
def LA(K:ql)(ta:TE)(f:Str):TE:=λσ H Q=>ta σ H λx H1=>BK λa C d v=>x=.ref a/\H1 a=some (.ext (JG a C d))/\H1 d=some (.ext (Nj d f v))/\OV K C f/\Ku v=true/\Q v H1
def OW(he:PE X e ta)(hb:attributeBase e f X.env (eval e X.env)=eval e X.env):PE X (.Attribute e f pos) (LA X.K ta f):=by intro Wp s σ H Q I h;refine Ik hb (sr (he Wp s σ H _ I h) λu s1 zz=>?_);obtain⟨x,H1,I1,rx,a,C,d,v,ex,ea,ed,c,p,q⟩:=zz;subst ex;obtain rfl:u=Value.ref a:=rx;obtain⟨⟨oe,vs,e1,e2,e3,e4⟩,_,_⟩:=I1.mR a _ ea;obtain⟨⟨u,n1,r⟩,_,_⟩:=I1.mR d _ ed;obtain⟨od,g1,g2⟩:=LN n1 (c9 rfl);exact P0 (ox:=oe) c I1.m7 ⟨e1,e2,by unfold W.notCls;rw[e3],by rw[e4];exact g1⟩ g2 (D3 r p) ⟨v,H1,I1.tok _,r,q⟩
def Np{P:Pg}{w:Wo}{H:Hp}{h:Heap}{a C d:Addr}(x:JG a C d h):sf P w H h a (.ext (JG a C d)):=by refine⟨x,?_,λh1 h2 ⟨oe,vs,e1,e2,e3,e4⟩ k=>⟨oe,vs,k oe e1,e2,e3,e4⟩⟩;obtain⟨oe,_,e,_⟩:=x;exact⟨oe,e⟩
def PC{X:Cx}{st b₀:Stmt}{XJ:List Stmt}{cn n:Str}{cnp XW pos:Pos}{Cc L:Addr}{outer:List Env}{i:Nat}{t:Ea->St->Hp->(Hp->Prop)->XK->Prop}{th:TS}(hb:VX X st t)(WJ:X.stack=X.env::outer)(hL:X.env.frame=some L)(hg:Gl X cn)(hm:X.mg cn=some (.ref Cc)) (hN:X.N.Nodup) (hi:X.N[i]?=some n) (hk:X.env.scope.names.lookup n=some .local) (hs:∀ev E',Cj (X.marked ev E') (b₀::XJ) th) (WK:yP cn:=by decide):
  PS X (.Try [st] [.ExceptHandler (some (.Name cn cnp)) (some n) (b₀::XJ) XW] [] [] pos) (λD σ H=>∃(J:Hp->Prop) (E:XK),t D σ H J E/\∀C dx H1 H',J H1->TKept H1 H'->E (.ref C) dx H'->∃d,dx=some d/\W.exmOne X.K (.ref C) (.ref Cc)=some true/\
   ∀a,H' a=none->th {nx:=λσ' H2=>D.nx (σ'.set i none) H2,rt:=D.rt,bk:=λσ' H2=>D.bk (σ'.set i none) H2,ct:=λσ' H2=>D.ct (σ'.set i none) H2} (σ.set i (some (.ref a))) (upd H' a (.ext (JG a C d)))):=by
 intro Wp s σ H D I ⟨J,E,h,hh⟩;refine wpAny_Try_except (d9 (Q:=λf s'=>SP X Wp D f s') (jw (sr (hb Wp s σ H D J E I h) λf s1 q=>?_)) (λf s1 q=>?_) λev s1 x=>?_)
 .cases f with
  | next=>exact gS q
  | brk=>exact q
  | cont=>exact q
  | ret v=>exact q
 .cases f with
  | next=>exact gS q
  | brk=>exact q
  | cont=>exact q
  | ret v=>exact q
 .refine d9 (Rp x WJ hL) (λ_ s2 y=>sr y λ_ s3 z=>?_) λ_ _ z=>z;obtain⟨a,C,dx,H',tb,H1,s1,rfl,q,I3,x3,na,nt,jH,tk,I1,n1⟩:=z;obtain⟨d,rfl,Wr,h1⟩:=hh C dx H1 H' jH tk q;refine wpAny_handleBy_cons (codeAny_handlers_test (wG (X:=X.marked (.ref a) λ_ _=>False) I3.mark hg hm ?_ WK)) (by intro z;cases z);obtain⟨oe,vs,ho,hc,Yf,hd,_⟩:=id x3;refine W.exm_one I3.m7 (Bq ho) (by rw[hc];exact Wr) _ _ _ _ (λ_ _ z=>z) ?_;refine codeAny_handlers_suite_as (FP x3 λh' hh'=>?_);have I4:Inv X Wp σ H' {s3 with heap:=h'}:=I3.kept (t':=s3.toks) λb u z=>by rw[hh' b];exact z
  have I5:Inv X Wp σ (upd H' a (.ext (JG a C d))) {s3 with heap:=h'}:=I4.adopt I1 n1 na (Np ⟨oe,vs,by show h'.get? a=_;rw[hh' a];exact ho,hc,hd,Yf⟩);refine xj (v:=.ref a) I5 hN hi (.inl hk) rfl (λs6 I6=>?_) (.inr hk);refine d9 (hs (.ref a) _ Wp _ _ _ _ I6.mark (h1 a na)) (λf s7 q7=>?_) λ_ _ z=>z;have q7:=SP.unmark I.ok q7;cases f with
  | next=>obtain⟨σ',H2,I7,q⟩:=q7;exact xX I7 hN hi hk λs8 I8=>⟨_,H2,I8,q⟩
  | brk=>obtain⟨σ',H2,I7,q⟩:=q7;exact xX I7 hN hi hk λs8 I8=>⟨_,H2,I8,q⟩
  | cont=>obtain⟨σ',H2,I7,q⟩:=q7;exact xX I7 hN hi hk λs8 I8=>⟨_,H2,I8,q⟩
  | ret v=>obtain⟨y,σ',H2,I7,r,q⟩:=q7;exact xX I7 hN hi hk λs8 I8=>⟨y,_,H2,I8,r,q⟩
end L2
namespace L3
open L2
variable {X:Cx}{cn n x:Str}{e:Expr}{cnp XW pos Ws Zx p1 p2 p3 p4:Pos}{Cc L:Addr}{outer:List Env}{i ix:Nat}{te:SC}{fl:Str}
def T8(K:ql)(ix i:Nat)(Cc:Addr)(fl:Str)(te:SC):xn:=λD δ M=>∃R,te δ M (λd M1=>D.nx (δ.set ix (some d)) M1) R/\∀C y M',R C y M'->W.exmOne K (.ref C) (.ref Cc)=some true/\OV K C fl/\∃z,y=some (fl,.str z)/\D.nx ((δ.set ix (some (.str z))).set i none) M'
def O8(he:VU X e te)(WJ:X.stack=X.env::outer)(hL:X.env.frame=some L)(hg:Gl X cn)(hm:X.mg cn=some (.ref Cc))(hN:X.N.Nodup)(YC:X.N[ix]?=some x)(hx:X.env.scope.names.lookup x=some .local)(hi:X.N[i]?=some n)(hk:X.env.scope.names.lookup n=some .local)(WL:ix≠i) (hd:yP n:=by decide) (Xp:(n==("__classdict__":Str))=false:=by decide) (hab:attributeBase (.Name n p2) fl X.env (eval (.Name n p2) X.env)=eval (.Name n p2) X.env:=by rfl) (hsw2:swapsWith (.Attribute (.Name n p2) fl p3) (some (.Name x p1)) p4.line X.env=pure false:=by rfl)
  (WK:yP cn:=by decide) (XT:swapsWith e (some (.Name x Zx)) Ws.line X.env=pure false:=by rfl):
  S3 X (.Try [.Assign [.Name x Zx] e Ws] [.ExceptHandler (some (.Name cn cnp)) (some n) [.Assign [.Name x p1] (.Attribute (.Name n p2) fl p3) p4] XW] [] [] pos) (T8 X.K ix i Cc fl te):=
 PS.nO (PC (th:=OF (LA X.K (EZ i) fl) (HJ ix)) (PL hN YC (.inl hx) he XT (.inr hx)) WJ hL hg hm hN hi hk (λev E'=>Ei (MT (X:=X.marked ev E') (te:=LA X.K (EZ i) fl) hN YC (.inl hx) (OW (X:=X.marked ev E') (Mv (X:=X.marked ev E') hi (.inl hk) hd Xp) hab) hsw2 (.inr hx))) WK) λD' σ H hl ⟨δ,M,D,hs,hm,⟨R,ht,hh⟩,k1,k2,k3,k4⟩=>by
  refine⟨λH1=>qO X.K H H1,λcv d H'=>∃C M' y,cv=.ref C/\HM X.K H' M'/\SZ X.K H' d y/\R C y M',⟨δ,M,_,R,hs,hm,ht,λv H1 d M1 hd Wr e1 q1=>?_,λ_ z=>z,λC dx H' M' y h1 h0 h2=>⟨C,M',y,rfl,h1,h0,h2⟩⟩,λC dx H1 H' jH tk ⟨C',M',y,ec,XU,Yf,r⟩=>?_⟩
  .exact k1 _ H1 _ M1 ((hs.mono e1).set hd (by rw[hl];exact(cX.mp YC).1)) Wr e1 (by simp) q1
  .cases ec;obtain⟨r1,c,z,ey,q⟩:=hh C y M' r;rcases Yf with⟨_,z⟩|⟨d,f,z',v,ed,ez,hd,hv⟩
   .rw[ey]at z;cases z
   .rw[ey]at ez;cases ez;have hiσ:i<σ.length:=by rw[hl];exact(cX.mp hi).1
    refine⟨d,ed,r1,λa na=>⟨.ref a,by rw[eK hiσ],a,C,d,v,rfl,pZ,?_,c,?_,?_⟩⟩
    .rw[pV]
     .exact hd
     .intro z;rw[z,na]at hd;cases hd
    .rw[hv.str_inv];rfl
    .have e1:qO X.K H H':=jH.trans (L2.TKept.ext tk);have e2:qO X.K H' (upd H' a (.ext (JG a C d))):=.new na;have s1:=(hs.mono (e1.trans e2)).set (i:=ix) (hv.mono e2) (by rw[hl];exact(cX.mp YC).1);have s2:=s1.unset (i:=i);refine k1 _ _ _ M' ?_ (XU.add na) (e1.trans e2) (by simp) q;rw[List.set_comm _ _ WL.symm,iP];exact s2
end L3
namespace L2
variable {prog:Pg}{w:Wo}{A:Ar}{E:QQX}{s:Sd}
theorem DD{it t:Addr}{Wq:Array Vl}(WL:t≠it):∀(n i:Nat) (s:Sd) (Q:List Vl->Sd->Prop),s.heap.IsListIter it t i->s.heap.IsList t Wq->i+n<=Wq.size->
  (∀h',h'.IsListIter it t (i+n)->Heap.SameBut it s.heap h'->Q ((Wq.toList.drop i).take n) {s with heap:=h'})->wpAny (model prog w) A (draw (.ref it) n) Q E s
 | 0,i,s,Q,hit,_,_,hQ=>by show wpAny _ _ (pure []) Q E s;exact de (by simpa using hQ s.heap hit (Heap.SameBut.refl ..))
 | n+1,i,s,Q,hit,ht,Zy,hQ=>by
  have WA:i<Wq.size:=by omega
  show wpAny _ _ (pyNext (.ref it)>>=_) Q E s;refine cU (jW hit ht (x:=Wq[i]) (by simp[WA]) λh₁ Zz hs₁=>?_);refine cU (eD (DD WL n (i+1) _ _ Zz (ht.extBut hs₁.extBut WL) (by omega) λh₂ hit₂ hs₂=>de ?_));have hd:Wq.toList.drop i=Wq[i]::Wq.toList.drop (i+1):=by simp[gI,WA]
  have:=hQ h₂ (by rw[show i+(n+1)=i+1+n by omega];exact hit₂) (hs₁.trans hs₂);rw[hd,List.take_succ_cons]at this;exact this
def zW{t:Addr}{Wq:Array Vl}{Q:List Vl->Sd->Prop}(hh:A.handled=none)(ht:s.heap.IsList t Wq) (hQ:∀h',Heap.ExtBut s.heap.objs.size s.heap h'->Q Wq.toList {s with heap:=h'}):wpAny (model prog w) A (unpackItems (.ref t) Wq.size none) Q E s:=by
 have WA:t≠s.heap.objs.size:=by obtain⟨o,ho,_⟩:=ht;exact dH (dz ho)
 unfold unpackItems;refine cU ?_
 .unfold notIterableAtAll;refine cU (iM ht.typeIs slot_list_iter.lookup ?_);refine de ?_;simp only[lh,kl];refine cU (eD (gF ht ?_));refine cU (eD (DD WA Wq.size 0 _ _ ⟨_,dE _ rfl,rfl,rfl⟩ (ht.push _) (by omega) λh₁ Zz hs₁=>?_));have W6:List.take Wq.size (List.drop 0 Wq.toList)=Wq.toList:=by rw[jb];exact gY (by simp)
  rw[W6];rw[cY (by simp)];have ht₁:h₁.IsList t Wq:=(ht.push _).extBut hs₁.extBut WA;refine cU (eD (j5 hh Zz ht₁ (by simp) λh₂ he₂=>?_));simp only[Option.isSome_none,lh,kl];refine de (hQ h₂ λb o hb e=>he₂ b o hb (hs₁.extBut b o hb (cZ _ e)))
def y0{env:Env}{WQ:List Expr}{x1}{pos:Pos}{t:Addr}{Wq:Array Vl}{Q:Unit->Sd->Prop}(hh:A.handled=none)(ht:s.heap.IsList t Wq) (hn:(assignEach WQ env).length=Wq.size) (hstar:(assignEach WQ env).findIdx? (·.1)=none) (h:∀h',Heap.ExtBut s.heap.objs.size s.heap h'->wpAny (model prog w) A (assignInOrder ((assignEach WQ env).map (·.2)) Wq.toList) Q E {s with heap:=h'}):
  wpAny (model prog w) A (assign (.Tuple WQ x1 pos) env (.ref t)) Q E s:=by
 rw[arm_assign_Tuple];refine cU (gR ?_);unfold unpack;rw[hn,hstar];exact cU (eD (zW hh ht h))
end L2
namespace L3
open L2
variable {X:Cx}{pos:Pos}
def R1(n:Nat)(t:CQ):C9:=λd δ M Q=>match d with|.ref a=>(oR M a).elim False λds=>ds.length=n/\t ds δ M Q|_=>False
def Ot{es:List Expr}{k:Nat}{t:CQ}{n:Nat}(hc:X.calm=true)(h:SK X es t)(hn:(assignEach es X.env).length=n:=by rfl)(WJ:(assignEach es X.env).findIdx? (·.1)=none:=by rfl):G3 X (.Tuple es k pos) (R1 n t):=by
 intro Wp s σ H v u Q' I r ⟨d,δ,M,Q,hd,hs,hm,ht,kq⟩;cases d with
 | ref a=>
  obtain⟨ds,e,hl,ht⟩:=qP ht;cases hd.mH;cases r;obtain⟨xs,h1,h2,_⟩:=qo hm e;obtain⟨its,rv,pl,hz⟩:=I.list h1;have hx:xs.length=n:=by rw[<-hl];exact h2.length.symm
  refine y0 (I.ok.hd hc) pl.isList (by simp[hn,<-hx,rv.length]) WJ λh' hx=>?_;have I1:Inv X Wp σ H {s with heap:=h'}:=I.kept (t':=s.toks) λb o e=>hx b o (dH (dz e)) e;exact h Wp _ σ H xs _ Q' I1 (by simpa using rv) ⟨ds,δ,M,Q,h2,hs,hm,ht,kq⟩
 | _=>exact ht.elim
end L3
namespace L3
open L2
def Nl(i:Nat){X:Cx}{pos:Pos}{x:Str}(h1:X.N[i]?=some x:=by rfl)(h2:RI X.env.scope x:=by first|exact Or.inl rfl|exact Or.inr (Or.inl rfl)|exact Or.inr (Or.inr rfl))(h3:yP x:=by decide)(h4:(x==("__classdict__":Str))=false:=by decide):E3 X (.Name x pos) (v3 i):=QX i (pv i h1 h2 h3 h4)
variable {X:Cx}{pos:Pos}
def Wf{N:QQQ}(h:decide N.Nodup=true):N.Nodup:=fv h
def pJ(i:Nat){x:Str}{e:Expr}{te:T3}{Wy:Pos}{ps:QQQ}{sc:Scope}(S:sR X.N ps sc)(he:E3 X e te)(hi:X.N[i]?=some x:=by rfl)(hx:Ki X.env.scope x:=by first|exact Or.inl rfl|exact Or.inr rfl)(XT:swapsWith e (some (.Name x Wy)) pos.line X.env=pure false:=by rfl)(hf:Kk X x:=by first|exact .inl rfl|exact .inr rfl|assumption):S3 X (.Assign [.Name x Wy] e pos) (EW te (sO i)):=Rn S.nd hi hx he XT hf
def qZ(i:Nat){x:Str}{ps:QQQ}{sc:Scope}(S:sR X.N ps sc)(hi:X.N[i]?=some x:=by rfl)(hx:Ki X.env.scope x:=by first|exact Or.inl rfl|exact Or.inr rfl)(hf:Kk X x:=by first|exact .inl rfl|exact .inr rfl|assumption):G3 X (.Name x pos) (sO i):=IC S.nd hi hx hf
def qF(i:Nat){x:Str}(hN:decide X.N.Nodup=true:=by kernel_rfl)(hi:X.N[i]?=some x:=by rfl)(hx:Ki X.env.scope x:=by first|exact Or.inl rfl|exact Or.inr rfl)(hf:Kk X x:=by first|exact .inl rfl|exact .inr rfl|assumption):G3 X (.Name x pos) (sO i):=IC (Wf hN) hi hx hf
abbrev Sc(n:Nat)(N:QQQ)(s:Stmt):=sR N (N.take n) (pY s)
def sk{n:Nat}{N:QQQ}{s:Stmt}(h:QK N (N.take n) (pY s)=true:=by decide+kernel):Sc n N s:=V6 h
def qc{X:Cx}{e0:Expr}{t0:T3}(h0:E3 X e0 t0)(g0:starEach [e0] X.env=(false,eval e0 X.env)::starEach [] X.env:=by rfl):A3 X [e0] (vc t0 xy):=(pR h0 sm g0)
def rW{X:Cx}{e0 e1:Expr}{t0 t1:T3}(h0:E3 X e0 t0)(h1:E3 X e1 t1)(g0:starEach [e0,e1] X.env=(false,eval e0 X.env)::starEach [e1] X.env:=by rfl)(g1:starEach [e1] X.env=(false,eval e1 X.env)::starEach [] X.env:=by rfl):A3 X [e0,e1] (vc t0 (vc t1 xy)):=(pR h0 (pR h1 sm g1) g0)
def qT{X:Cx}{e0 e1 e2:Expr}{t0 t1 t2:T3}(h0:E3 X e0 t0)(h1:E3 X e1 t1)(h2:E3 X e2 t2)(g0:starEach [e0,e1,e2] X.env=(false,eval e0 X.env)::starEach [e1,e2] X.env:=by rfl)(g1:starEach [e1,e2] X.env=(false,eval e1 X.env)::starEach [e2] X.env:=by rfl)(g2:starEach [e2] X.env=(false,eval e2 X.env)::starEach [] X.env:=by rfl):A3 X [e0,e1,e2] (vc t0 (vc t1 (vc t2 xy))):=(pR h0 (pR h1 (pR h2 sm g2) g1) g0)
abbrev v0:=@Nl 0
abbrev U1:=@Nl 1
abbrev U2:=@Nl 2
abbrev U3:=@Nl 3
abbrev v5:=@Nl 5
abbrev v4:=@Nl 4
abbrev v6:=@Nl 6
abbrev v7:=@Nl 7
abbrev v8:=@Nl 8
abbrev v9:=@Nl 9
variable {P:Pg}{w:Wo}{K:ql}{mg:QQZ}{base:Heap}
def fq{x qual:Str}{st:Stmt}{fa:FA}{N ps:QQQ}{k:Nat}{sp:rh}(F:DG K st x qual ps fa)(S:sR N ps (pY st)) (hb:∀{Wz:Vl} {A:Ar} {outer:List Env} {s:Sd} {H:Hp} {E:XK},rR k (A.deeper (envOfC qual (pY st) s.heap.objs.size fa.f Wz))->(A.deeper (envOfC qual (pY st) s.heap.objs.size fa.f Wz)).units+9<cLine->
   ∃t,GX (vo Nk P w K mg base N qual (pY st) fa.f Wz A outer s H E).oq (rJ st) t/\∀ds M Q,sp ds M Q->t {nx:=λ_ M'=>∃Wu,qw Wu M'/\Q .mM Wu,rt:=λd M'=>∃Wu,qw Wu M'/\Q d Wu} (wz N ds) M) (len:∀ds M Q,sp ds M Q->ds.length=ps.length:=by walk_at "l"):Fq P w K mg base (k+1) fa sp:=VA F S len λ_ _ _ _ _ _ h=>hb h (VZ h)
def yh{X:Cx}{scope:Scope}{ix:List (Option Nat)}{N':QQQ}(h:Hd X.env.scope X.N scope ix N'=true:=by kernel_rfl):rZ X scope ix N':=SQ h
end L3
namespace Z
open L2 L3
def ra(i:Nat):Stmt:=PySem.Challenge.pw_callboard_k43_calls_made.main.body.getD i (.Pass ⟨0,0,0,0⟩)
abbrev tm(i j:Nat):Stmt:=PU (ra i) j
def Bw:Sc 3 ["board","caller","target","wishes"] (ra 5):=sk
def sV:Sc 3 ["board","caller","target","free","members","place","in_turn"] (ra 6):=sk
def uS:Sc 3 ["board","caller","target","phones"] (ra 7):=sk
def Aa:Sc 2 ["wanted","target"] (ra 8):=sk
def wj:Sc 4 ["board","caller","target","way","come_to","steps","fits","wanted"] (ra 9):=sk
def yx:Sc 2 ["board","phone"] (ra 11):=sk
def wn:Sc 3 ["board","phone","target","word"] (ra 12):=sk
def Kq:Sc 3 ["word","phone","calls"] (ra 13):=sk
def tJ:Sc 4 ["board","word","phone","numbers","calls","due"] (ra 14):=sk
def yK:Sc 3 ["board","word","number"] (ra 15):=sk
def B':Sc 2 ["board","deed","word"] (ra 16):=sk
def tP:Sc 3 ["board","number","steps","last","target","fits"] (ra 17):=sk
def uF:Sc 4 ["board","number","target","phones","members","place"] (ra 18):=sk
def xm:Sc 3 ["board","number","target","talk","members"] (ra 19):=sk
def xw:Sc 3 ["board","number","end","word"] (ra 20):=sk
def we:Sc 2 ["board","number","call","told","end","steps","last"] (ra 21):=sk
def zy:Sc 3 ["board","phone","target","number"] (ra 22):=sk
def BB:Sc 3 ["board","phone","number","call"] (ra 23):=sk
def yp:Sc 2 ["board","call","wishes"] (ra 24):=sk
def B4:Sc 3 ["board","number","fits","wish"] (ra 25):=sk
def tE:Sc 1 ["board","number","call","fits"] (ra 26):=sk
def sY:Sc 2 ["board","deed","word","phone","number","call","kept","others"] (ra 27):=sk
def ML:Sc 2 ["board","deed","word"] (ra 28):=sk
def He:Sc 2 ["board","deed","word","begun"] (ra 29):=sk
def Ab:Sc 1 ["answers"] (ra 31):=sk
def GD:Sc 2 ["call","word"] (ra 33):=sk
def CH:Sc 2 ["call","phone"] (ra 34):=sk
def xl:Sc 2 ["call","event","word"] (ra 35):=sk
def GV:Sc 3 ["board","caller","target"] (ra 38):=sk
def Cm:Sc 1 ["told","word"] (ra 49):=sk
def NA:Sc 2 ["holds","words"] (ra 64):=sk
def GR:Sc 1 ["text"] (ra 65):=sk
def C6:Sc 1 ["things"] (ra 66):=sk
def Fy:Sc 3 ["chosen","known","most"] (ra 67):=sk
def tT:Sc 1 ["phones","name","lines","rank"] (ra 68):=sk
def tS:Sc 2 ["groups","phone_names","name","manner","members"] (ra 69):=sk
def CJ:Sc 4 ["kind","part","phone_names","names"] (ra 70):=sk
def tN:Sc 3 ["wish","phone_names","names","form","parts","kind","part"] (ra 71):=sk
def uO:Sc 3 ["wishes","phone_names","names","on","wish"] (ra 72):=sk
def vR:Sc 3 ["phones","groups","wishes","phone_names","names"] (ra 73):=sk
def JP:Sc 2 ["_law_script","_law_k"] (ra 76):=sk
def FJ:Sc 3 ["_law_cell","_law_factor","_law_many"] (ra 77):=sk
def tY:Sc 2 ["_law_seed","_law_which","_law_letters","_law_size","_law_place","_law_rest","_law_letter"] (ra 78):=sk
def xT:Sc 3 ["_law_row","_law_cell","_law_most","_law_first","_law_size"] (ra 79):=sk
def uG:Sc 2 ["_law_seed","_law_most","_law_phones_here","_law_k","_law_lines"] (ra 80):=sk
def uH:Sc 2 ["_law_seed","_law_own","_law_groups_here","_law_g","_law_manner"] (ra 81):=sk
def sZ:Sc 3 ["_law_cell","_law_own","_law_names_here","_law_a","_law_place","_law_b","_law_c","_law_pick","_law_first"] (ra 82):=sk
def se:Sc 2 ["_law_script","_law_most","_law_seed","_law_phones_here","_law_own","_law_groups_here","_law_names_here","_law_wishes","_law_k","_law_cell"] (ra 83):=sk
def Dg:Sc 1 ["_law_call"] (ra 84):=sk
def AE:Sc 2 ["_law_board","_law_states"] (ra 85):=sk
def rm:Sc 4 ["_law_board","_law_cell","_law_word_here","_law_states","_law_some_here","_law_k","_law_people_here","_law_a","_law_m"] (ra 86):=sk
def uC:Sc 4 ["_law_cell","_law_own","_law_names_here","_law_many","_law_a","_law_b","_law_k","_law_m","_law_some_here"] (ra 87):=sk
def rq:Sc 4 ["_law_board","_law_cell","_law_own","_law_names_here","_law_word_here","_law_states","_law_found","_law_a"] (ra 88):=sk
def vC:Sc 2 ["_law_script","_law_most","_law_phones_here","_law_groups_here","_law_wishes"] (ra 89):=sk
def zd:Sc 1 ["_law_board","_law_own"] (ra 90):=sk
def xI:Sc 2 ["_law_board","_law_deed_here","_law_told","e"] (ra 91):=sk
def uM:Sc 4 ["_law_board","_law_k","_law_target","_law_phones_here","_law_name","_law_manner","_law_members","_law_place"] (ra 92):=sk
def yJ:Sc 5 ["_law_board","_law_k","_law_caller","_law_end_here","_law_steps","_law_m","_law_last"] (ra 93):=sk
def uf:Sc 5 ["_law_board","_law_k","_law_caller","_law_target","_law_way","_law_end_here","_law_steps","_law_due","_law_j"] (ra 94):=sk
def vn:Sc 1 ["_law_script","_law_board","_law_own","_law_names_here","_law_cell","_law_deed_here","_law_due","_law_k","_law_told"] (ra 95):=sk
def Cp:Sc 2 ["self","word"] (tm 3 0):=sk
def CW:Sc 3 ["self","plan","hour"] (tm 36 0):=sk
def Em:Sc 4 ["self","phones","groups","wishes"] (tm 74 0):=sk
def zN:Sc 2 ["self","phone"] (tm 36 3):=sk
def GF:Sc 2 ["self","told"] (tm 40 0):=sk
def Fs:Sc 1 ["self"] (tm 40 1):=sk
def Fp:Sc 2 ["self","told"] (tm 41 0):=sk
def Cu:Sc 1 ["self"] (tm 41 1):=sk
def Aw:Sc 2 ["self","told"] (tm 42 0):=sk
def zL:Sc 1 ["self"] (tm 42 1):=sk
def CV:Sc 2 ["self","told"] (tm 44 0):=sk
def Ca:Sc 2 ["self","told"] (tm 46 0):=sk
def Ek:Sc 2 ["self","told"] (tm 47 0):=sk
def CD:Sc 1 ["self"] (tm 47 1):=sk
def BI:Sc 2 ["self","told"] (tm 48 0):=sk
def AU:Sc 1 ["self"] (tm 48 1):=sk
def F0:Sc 4 ["self","board","caller","target"] (tm 40 2):=sk
def Fj:Sc 4 ["self","board","caller","target"] (tm 41 2):=sk
def BE:Sc 4 ["self","board","caller","target"] (tm 43 0):=sk
def C7:Sc 4 ["self","board","caller","target"] (tm 44 2):=sk
def Fw:Sc 4 ["self","board","caller","target"] (tm 45 0):=sk
def Cs:Sc 4 ["self","board","caller","target"] (tm 46 1):=sk
def E1:Sc 4 ["self","board","caller","target"] (tm 47 2):=sk
def vj:Sc 4 ["self","board","caller","target","talk","members"] (tm 48 3):=sk
def yi:Sc 1 ["self"] (tm 74 2):=sk
def xB:Sc 2 ["self","event","word"] (tm 36 12):=sk
def Ex:Sc 2 ["self","told"] (tm 39 0):=sk
def zj:Sc 2 ["self","hour"] (tm 44 1):=sk
def zq:Sc 1 ["self"] (tm 36 8):=sk
def zE:Sc 2 ["self","phone"] (tm 36 6):=sk
def vh:Sc 3 ["self","plan","members","rank"] (tm 48 2):=sk
def zc:Sc 3 ["self","caller","target"] (tm 36 7):=sk
def BP:Sc 2 ["self","name"] (tm 74 6):=sk
def zB:Sc 2 ["self","name"] (tm 74 5):=sk
def Cw:Sc 1 ["self"] (tm 74 1):=sk
def zR:Sc 2 ["self","phone"] (tm 36 2):=sk
def Fo:Sc 2 ["self","caller"] (tm 32 0):=sk
def yz:Sc 2 ["self","phone"] (tm 32 2):=sk
def yD:Sc 2 ["self","phone"] (tm 32 5):=sk
def yg:Sc 2 ["self","phone"] (tm 32 4):=sk
def Ag:Sc 2 ["self","leg"] (tm 36 10):=sk
def xD:Sc 4 ["self","merged","kept","members","call"] (tm 36 11):=sk
def vd:Sc 1 ["self","call"] (tm 36 9):=sk
def yM:Sc 2 ["self","phone"] (tm 32 8):=sk
def DX:Sc 2 ["self","phone"] (tm 74 4):=sk
def B2:Sc 2 ["self","phone"] (tm 36 4):=sk
def zQ:Sc 2 ["self","phone"] (tm 36 5):=sk
def C5:Sc 2 ["self","phone"] (tm 36 1):=sk
def C1:Sc 2 ["self","phone"] (tm 74 3):=sk
def wB:Sc 2 ["self","phone"] (tm 32 7):=sk
def CN:Sc 2 ["self","phone"] (tm 32 6):=sk
def BX:Sc 2 ["self","call"] (tm 39 4):=sk
def zP:Sc 2 ["self","call"] (tm 46 2):=sk
def EE:Sc 1 ["self"] (tm 39 1):=sk
def CA:Sc 2 ["self","phone"] (tm 32 3):=sk
def Gw:Sc 2 ["self","phone"] (tm 32 1):=sk
noncomputable def J6:List (Str×QQQ):=[("bar",["phone","names"]),("shut",["name","phones"]),("always",["name","name"]),("night",["name","name","hour","hour"]),("busy",["name","name"]),("silent",["name","name","turns"]),("wait",["phone"]),("breaks",["phone"])]
set_option genInjectivity false in
structure Ad where
 (aO aP aQ aR aa ab aS aT aU aV aW aX aY aZ a0 ac a1 a2 a3 a4 a5 a6 a7 L M ad a8 a9 N ba m ae af O bb bc bd be bf bg P i ag Q bh bi bj bk bl bm bn bo bp bq br bs bt bu bv ah I ai aj J ak al am an A z ao ap aq ar au av aw ax ay az aA aB aC aD R k E bw bx bz bA aE aF S bB T aG U aH V bC bD bE aI aJ bF bG bH bI bJ aK q aL l bK bL:FA)
 (e c B r t X w n x u v o h b0 F:Addr)
structure Gl(K:ql)(mg:QQZ)(a:Ad):Prop where
 e:CG K mg "Call" a.e
 c:CG K mg "Board" a.c
 B:CG K mg "Wish" a.B
 r:CG K mg "Bar" a.r
 t:CG K mg "Shut" a.t
 X:CG K mg "Forward" a.X
 w:CG K mg "Always" a.w
 n:CG K mg "Night" a.n
 x:CG K mg "Busy" a.x
 u:CG K mg "Silent" a.u
 v:CG K mg "Wait" a.v
 o:CG K mg "Breaks" a.o
 h:CG K mg "Plan" a.h
 cS:mg "CallError"=some (.ref a.b0)
 bU:mg "NoDeed"=some (.ref a.F)
 aO:TG K mg (ra 5) "fitting" ["board","caller","target"] a.aO
 aP:TG K mg (ra 6) "rung_phones" ["board","caller","target"] a.aP
 aQ:TG K mg (ra 7) "end_without_wish" ["board","caller","target"] a.aQ
 aR:TG K mg (ra 8) "end_as_wanted" ["wanted","target"] a.aR
 aa:TG K mg (ra 9) "route" ["board","caller","target","way"] a.aa
 ab:TG K mg (ra 11) "word_for_idling" ["board","phone"] a.ab
 aS:TG K mg (ra 12) "word_for_call" ["board","phone","target"] a.aS
 aT:TG K mg (ra 13) "suits" ["word","phone","calls"] a.aT
 aU:TG K mg (ra 14) "word_for_numbers" ["board","word","phone","numbers"] a.aU
 aV:TG K mg (ra 15) "word_for_switch" ["board","word","number"] a.aV
 aW:TG K mg (ra 16) "refusal" ["board","deed"] a.aW
 aX:TG K mg (ra 17) "take_steps" ["board","number","steps"] a.aX
 aY:TG K mg (ra 18) "start_ringing" ["board","number","target","phones"] a.aY
 aZ:TG K mg (ra 19) "break_in" ["board","number","target"] a.aZ
 a0:TG K mg (ra 20) "come_to_end" ["board","number","end"] a.a0
 ac:TG K mg (ra 21) "go_on" ["board","number"] a.ac
 a1:TG K mg (ra 22) "make_call" ["board","phone","target"] a.a1
 a2:TG K mg (ra 23) "hang_up" ["board","phone","number"] a.a2
 a3:TG K mg (ra 24) "due_wishes" ["board","call"] a.a3
 a4:TG K mg (ra 25) "send_on" ["board","number","fits"] a.a4
 a5:TG K mg (ra 26) "let_turn_pass" ["board"] a.a5
 a6:TG K mg (ra 27) "event_of" ["board","deed"] a.a6
 a7:TG K mg (ra 28) "act" ["board","deed"] a.a7
 L:TG K mg (ra 29) "do" ["board","deed"] a.L
 M:TG K mg (ra 31) "place_of_true" ["answers"] a.M
 ad:TG K mg (ra 33) "end_call" ["call","word"] a.ad
 a8:TG K mg (ra 34) "drop_phone" ["call","phone"] a.a8
 a9:TG K mg (ra 35) "change_call" ["call","event"] a.a9
 N:TG K mg (ra 38) "is_busy" ["board","caller","target"] a.N
 ba:TG K mg (ra 49) "wish_of" ["told"] a.ba
 m:TG K mg (ra 64) "need" ["holds","words"] a.m
 ae:TG K mg (ra 65) "is_name" ["text"] a.ae
 af:TG K mg (ra 66) "all_unlike" ["things"] a.af
 O:TG K mg (ra 67) "is_choice" ["chosen","known","most"] a.O
 bb:TG K mg (ra 68) "check_phones" ["phones"] a.bb
 bc:TG K mg (ra 69) "check_groups" ["groups","phone_names"] a.bc
 bd:TG K mg (ra 70) "part_holds" ["kind","part","phone_names","names"] a.bd
 be:TG K mg (ra 71) "check_wish" ["wish","phone_names","names"] a.be
 bf:TG K mg (ra 72) "check_wishes" ["wishes","phone_names","names"] a.bf
 bg:TG K mg (ra 73) "check_plan" ["phones","groups","wishes"] a.bg
 P:TG K mg (ra 76) "_law_at" ["_law_script","_law_k"] a.P
 i:TG K mg (ra 77) "_law_draw" ["_law_cell","_law_factor","_law_many"] a.i
 ag:TG K mg (ra 78) "_law_word" ["_law_seed","_law_which"] a.ag
 Q:TG K mg (ra 79) "_law_some" ["_law_row","_law_cell","_law_most"] a.Q
 bh:TG K mg (ra 80) "_law_phones" ["_law_seed","_law_most"] a.bh
 bi:TG K mg (ra 81) "_law_groups" ["_law_seed","_law_own"] a.bi
 bj:TG K mg (ra 82) "_law_wish" ["_law_cell","_law_own","_law_names_here"] a.bj
 bk:TG K mg (ra 83) "_law_plan" ["_law_script","_law_most"] a.bk
 bl:TG K mg (ra 84) "_law_people" ["_law_call"] a.bl
 bm:TG K mg (ra 85) "_law_of_state" ["_law_board","_law_states"] a.bm
 bn:TG K mg (ra 86) "_law_on_call" ["_law_board","_law_cell","_law_word_here","_law_states"] a.bn
 bo:TG K mg (ra 87) "_law_any" ["_law_cell","_law_own","_law_names_here","_law_many"] a.bo
 bp:TG K mg (ra 88) "_law_deed" ["_law_board","_law_cell","_law_own","_law_names_here"] a.bp
 bq:TG K mg (ra 89) "_law_made" ["_law_script","_law_most"] a.bq
 br:TG K mg (ra 90) "_law_names" ["_law_board"] a.br
 bs:TG K mg (ra 91) "_law_done" ["_law_board","_law_deed_here"] a.bs
 bt:TG K mg (ra 92) "_law_rung" ["_law_board","_law_k","_law_target","_law_phones_here"] a.bt
 bu:TG K mg (ra 93) "_law_end" ["_law_board","_law_k","_law_caller","_law_end_here","_law_steps"] a.bu
 bv:TG K mg (ra 94) "_law_going" ["_law_board","_law_k","_law_caller","_law_target","_law_way"] a.bv
 ah:TG K mg (ra 95) "law" ["_law_script"] a.ah
 I:MG K a.F (tm 3 0) "__init__" "NoDeed.__init__" ["self","word"] a.I
 ai:MG K a.c (tm 36 0) "__init__" "Board.__init__" ["self","plan","hour"] a.ai
 aj:MG K a.h (tm 74 0) "__init__" "Plan.__init__" ["self","phones","groups","wishes"] a.aj
 J:MG K a.c (tm 36 3) "talk_of" "Board.talk_of" ["self","phone"] a.J
 ak:MG K a.r (tm 40 0) "__init__" "Bar.__init__" ["self","told"] a.ak
 al:MG K a.r (tm 40 1) "wants" "Bar.wants" ["self"] a.al
 am:MG K a.t (tm 41 0) "__init__" "Shut.__init__" ["self","told"] a.am
 an:MG K a.t (tm 41 1) "wants" "Shut.wants" ["self"] a.an
 A:MG K a.X (tm 42 0) "__init__" "Forward.__init__" ["self","told"] a.A
 z:MG K a.X (tm 42 1) "wants" "Forward.wants" ["self"] a.z
 ao:MG K a.n (tm 44 0) "__init__" "Night.__init__" ["self","told"] a.ao
 ap:MG K a.u (tm 46 0) "__init__" "Silent.__init__" ["self","told"] a.ap
 aq:MG K a.v (tm 47 0) "__init__" "Wait.__init__" ["self","told"] a.aq
 ar:MG K a.v (tm 47 1) "wants" "Wait.wants" ["self"] a.ar
 au:MG K a.o (tm 48 0) "__init__" "Breaks.__init__" ["self","told"] a.au
 av:MG K a.o (tm 48 1) "wants" "Breaks.wants" ["self"] a.av
 aw:MG K a.r (tm 40 2) "fits" "Bar.fits" ["self","board","caller","target"] a.aw
 ax:MG K a.t (tm 41 2) "fits" "Shut.fits" ["self","board","caller","target"] a.ax
 ay:MG K a.w (tm 43 0) "fits" "Always.fits" ["self","board","caller","target"] a.ay
 az:MG K a.n (tm 44 2) "fits" "Night.fits" ["self","board","caller","target"] a.az
 aA:MG K a.x (tm 45 0) "fits" "Busy.fits" ["self","board","caller","target"] a.aA
 aB:MG K a.u (tm 46 1) "fits" "Silent.fits" ["self","board","caller","target"] a.aB
 aC:MG K a.v (tm 47 2) "fits" "Wait.fits" ["self","board","caller","target"] a.aC
 aD:MG K a.o (tm 48 3) "fits" "Breaks.fits" ["self","board","caller","target"] a.aD
 R:MG K a.h (tm 74 2) "phone_names" "Plan.phone_names" ["self"] a.R
 k:MG K a.c (tm 36 12) "apply" "Board.apply" ["self","event"] a.k
 E:MG K a.B (tm 39 0) "__init__" "Wish.__init__" ["self","told"] a.E
 bw:MG K a.n (tm 44 1) "has_hour" "Night.has_hour" ["self","hour"] a.bw
 bx:MG K a.c (tm 36 8) "hour_now" "Board.hour_now" ["self"] a.bx
 bz:MG K a.c (tm 36 6) "waits_at" "Board.waits_at" ["self","phone"] a.bz
 bA:MG K a.o (tm 48 2) "outranks" "Breaks.outranks" ["self","plan","members"] a.bA
 aE:MG K a.c (tm 36 7) "ringable" "Board.ringable" ["self","caller","target"] a.aE
 aF:MG K a.h (tm 74 6) "manner" "Plan.manner" ["self","name"] a.aF
 S:MG K a.h (tm 74 5) "phones_of" "Plan.phones_of" ["self","name"] a.S
 bB:MG K a.h (tm 74 1) "names" "Plan.names" ["self"] a.bB
 T:MG K a.c (tm 36 2) "is_free" "Board.is_free" ["self","phone"] a.T
 aG:MG K a.e (tm 32 0) "__init__" "Call.__init__" ["self","caller"] a.aG
 U:MG K a.e (tm 32 2) "talks_with" "Call.talks_with" ["self","phone"] a.U
 aH:MG K a.e (tm 32 5) "waits_with" "Call.waits_with" ["self","phone"] a.aH
 V:MG K a.e (tm 32 4) "is_tried_by" "Call.is_tried_by" ["self","phone"] a.V
 bC:MG K a.c (tm 36 10) "add_leg" "Board.add_leg" ["self","leg"] a.bC
 bD:MG K a.c (tm 36 11) "merge" "Board.merge" ["self","merged","kept","members"] a.bD
 bE:MG K a.c (tm 36 9) "pass_turn" "Board.pass_turn" ["self"] a.bE
 aI:MG K a.e (tm 32 8) "other_than" "Call.other_than" ["self","phone"] a.aI
 aJ:MG K a.h (tm 74 4) "rank" "Plan.rank" ["self","phone"] a.aJ
 bF:MG K a.c (tm 36 4) "bound" "Board.bound" ["self","phone"] a.bF
 bG:MG K a.c (tm 36 5) "calling" "Board.calling" ["self","phone"] a.bG
 bH:MG K a.c (tm 36 1) "used" "Board.used" ["self","phone"] a.bH
 bI:MG K a.h (tm 74 3) "lines" "Plan.lines" ["self","phone"] a.bI
 bJ:MG K a.e (tm 32 7) "can_be_left_by" "Call.can_be_left_by" ["self","phone"] a.bJ
 aK:MG K a.e (tm 32 6) "pairs" "Call.pairs" ["self","phone"] a.aK
 q:MG K a.B (tm 39 4) "is_due" "Wish.is_due" ["self","call"] a.q
 aL:MG K a.u (tm 46 2) "is_due" "Silent.is_due" ["self","call"] a.aL
 l:MG K a.B (tm 39 1) "told" "Wish.told" ["self"] a.l
 bK:MG K a.e (tm 32 3) "binds" "Call.binds" ["self","phone"] a.bK
 bL:MG K a.e (tm 32 1) "has" "Call.has" ["self","phone"] a.bL
 b1:HZ K a.F a.I.f
 b2:yr K a.F "word"
 b3:OV K a.F "word"
 b4:W.exmOne K (.ref a.F) (.ref a.F)=some true
 b5:Mk K a.c a.ai.f
 b6:Mk K a.h a.aj.f
 b7:Mk K a.r a.ak.f
 b8:Mk K a.t a.am.f
 b9:Mk K a.w a.A.f
 ca:Mk K a.n a.ao.f
 cb:Mk K a.x a.A.f
 cc:Mk K a.u a.ap.f
 cd:Mk K a.v a.aq.f
 ce:Mk K a.o a.au.f
 cf:Mk K a.e a.aG.f
 cg:vA K a.w "wants" a.z.f
 ch:vA K a.n "wants" a.z.f
 ci:vA K a.x "wants" a.z.f
 cj:vA K a.u "wants" a.z.f
 ck:vA K a.r "is_due" a.q.f
 cl:vA K a.t "is_due" a.q.f
 cm:vA K a.w "is_due" a.q.f
 cn:vA K a.n "is_due" a.q.f
 co:vA K a.x "is_due" a.q.f
 cp:vA K a.v "is_due" a.q.f
 cq:vA K a.o "is_due" a.q.f
 cr:vA K a.r "told" a.l.f
 cs:vA K a.t "told" a.l.f
 ct:vA K a.w "told" a.l.f
 cu:vA K a.n "told" a.l.f
 cv:vA K a.x "told" a.l.f
 cw:vA K a.u "told" a.l.f
 cx:vA K a.v "told" a.l.f
 cy:vA K a.o "told" a.l.f
 aM:Mj K a.B "__init__" a.E.f
 bV:Mj K a.X "__init__" a.A.f
 C:zD K a.c ["plan","hour","turn","calls","legs","nexts","on","log"]
 Y:zD K a.h ["phones","groups","wishes","on","phone_rows","group_rows"]
 bO:zD K a.r ["form","phone","targets"]
 bP:zD K a.t ["form","target","callers"]
 bQ:zD K a.w ["form","target","goal"]
 aN:zD K a.n ["form","target","goal","first","last"]
 bR:zD K a.x ["form","target","goal"]
 bM:zD K a.u ["form","target","goal","turns"]
 bW:zD K a.v ["form","phone"]
 bX:zD K a.o ["form","phone"]
 j:zD K a.e ["state","caller","way","at","members","holder","since","word"]
 cz:W.kitOne K (.type "str") (.type "str")=some true
 cA:W.kitOne K (.type "list") (.type "str")=some false
 g:mg "len"=none
 cB:mg "isinstance"=none
 cC:mg "str"=none
 Z:mg "range"=none
 bS:mg "dict"=none
 y:mg "list"=none
 H:mg "tuple"=none
 bT:mg "enumerate"=none
 cD:mg "min"=none
 cE:mg "set"=none
 bN:mg "all"=none
 cF:mg "zip"=none
 cG:mg "any"=none
 cH:KD K mg "MOST_PHONES" (.int 8)
 cI:KD K mg "MOST_LINES" (.int 3)
 cJ:KD K mg "MOST_RANK" (.int 9)
 cK:KD K mg "MOST_GROUPS" (.int 3)
 cL:KD K mg "MANNERS" (.tup ((["all","turns"]:QQQ).map D.str))
 cM:KD K mg "MOST_MEMBERS" (.int 4)
 cN:KD K mg "MOST_WISHES" (.int 16)
 cO:KD K mg "MOST_SIGNS" (.int 6)
 cP:KD K mg "LETTERS" (.str "abcdefghijklmnopqrstuvwxyz")
 bY:Lg K mg "FORMS" J6
 bZ:KD K mg "MOST_LISTED" (.int 6)
 cQ:KD K mg "LAST_HOUR" (.int 23)
 cR:KD K mg "MOST_TURNS" (.int 9)
noncomputable def draw(c f m:Int):Int:=(c % 2147483647+5)*f % 2147483629 / 89 % m
def qR{c f m:Int}(h:0<m):0<=draw c f m:=eU _ (by omega)
def qL{c f m:Int}(h:0<m):draw c f m<m:=eN _ h
def IX:rh:=λds M Q=>Df λc f m=>ds=[.int c,.int f,.int m]/\0<m/\Q (.int (draw c f m)) M
noncomputable def ug:Str:="abcdefghijklmnopqrstuvwxyz"
noncomputable def tV(i:Int):Str:=⟨#[97+i.toNat]⟩
noncomputable def size(s:Int):Int:=1+s % 6
noncomputable def ub(s:Int):Int:=s / 6 % size s
noncomputable def xH(s v:Int):Str:=yE (tV (s / 36 % 26)) (ub s)++tV ((s / 936+v) % 26)++yE (tV (s / 36 % 26)) (size s - 1 - ub s)
def Py:rh:=λds M Q=>B1 λs v=>ds=[.int s,.int v]/\Q (.str (xH s v)) M
noncomputable def cell(ns:List Int)(i:Int):Int:=if 0<=i/\i<ns.length then ns.getD i.toNat 0 else 0
def T4:rh:=λds M Q=>B1 λns i=>ds=[.rl (ns.map D.int),.int i]/\Q (.int (cell ns i)) M
def FR(c:Int):0<size c:=by unfold size;have:=eU c (show(6:Int)≠0 by decide);omega
def HY(c:Int):size c<=6:=by unfold size;have:=eN c (show(0:Int)<6 by decide);omega
def FS(i n:Int):(yE (tV i) n).length=n.toNat:=by show((List.replicate n.toNat (tV i).cps).foldl (·++·) #[]:Array Nat).size=n.toNat;rw[Im];show n.toNat*1=n.toNat;omega
def Ak:ug.length<=sizeLine:=by decide+kernel
variable {P:Pg}{w:Wo}{K:ql}{mg:QQZ}{base:Heap}{a:Ad}(G:Gl K mg a)
def qI:Fq P w K mg base 1 a.i IX:=by
 refine fq G.i.toDG FJ (λr u=>⟨_,(pf (pA (pT (pT (pT (pT (pT (pT v0 pk) pk) U1) pk) pk) U2))),?_⟩)
 rintro ds M Q ⟨c,f,m,rfl,hm,q⟩
 refine⟨by decide,.inl ?_,by decide,⟨by decide,by decide⟩,hm,M,.refl,q⟩;have h1:0<=c % 2147483647:=eU _ (by decide);have h2:c % 2147483647<2147483647:=eN _ (by decide);exact⟨by omega,by omega⟩
def Dx{i:Int}(h0:0<=i)(h1:i<26):vD ug.cps.toList i=some (97+i.toNat):=by
 obtain⟨n,rfl⟩:=eA h0;have hn:n<26:=by omega
 have key:∀n:_root_.Fin 26,vD ug.cps.toList ((n.val:Nat):Int)=some (97+n.val):=by decide+kernel
 exact key ⟨n,hn⟩
def HN:Fq P w K mg base 1 a.ag Py:=by
 refine fq G.ag.toDG tY (λr u=>⟨_,(pb (pJ 2 tY pq)
 (pb (pJ 3 tY (pT pk (pT v0 pk)))
 (pb (pJ 4 tY (pT (pT v0 pk) U3))
 (pb (pJ 5 tY (pE U2 (pT (pT v0 pk) pk)))
 (pb (pJ 6 tY (pE U2 (pT (pT (pT v0 pk) U1) pk)))
 (pf (pA (pT (pT (pT v5 v4) v6) (pT v5 (pT (pT U3 pk) v4)))))))))),?_⟩)
 rintro ds M Q ⟨c,v,rfl,q⟩
 have hs:=FR c;have hs6:=HY c;have hp0:0<=ub c:=eU _ (by omega);have Yq:ub c<size c:=eN _ hs;have l1:=FS (c / 36 % 26) (ub c);have l2:=FS (c / 36 % 26) (size c - 1 - ub c);have hz:=dO;refine⟨by decide,⟨by decide,by decide⟩,hs,⟨by decide,by decide⟩,by decide,Ak,i' (Dx (eU _ (by decide)) (eN _ (by decide))) ?_⟩;refine⟨⟨by decide,by decide⟩,by decide,Ak,i' (Dx (eU _ (by decide)) (eN _ (by decide))) ?_⟩;refine⟨⟨?_,?_,?_⟩,?_,⟨?_,?_,?_⟩,?_,M,.refl,q⟩
 .show ub c<4096;omega
 .show -4096<ub c;omega
 .show(1:Nat)<4096;decide
 .show(yE (tV (c / 36 % 26)) (ub c)).length+1<=sizeLine;omega
 .show size c - 1 - ub c<4096;omega
 .show -4096<size c - 1 - ub c;omega
 .show(1:Nat)<4096;decide
 .show(yE (tV (c / 36 % 26)) (ub c)++tV ((c / 936+v) % 26)).length+(yE (tV (c / 36 % 26)) (size c - 1 - ub c)).length<=sizeLine;rw[PySem.size_cat];have:(tV ((c / 936+v) % 26)).length=1:=rfl;omega
def MK:Fq P w K mg base 1 a.P T4:=by
 refine fq G.P.toDG JP (λr u=>⟨_,(pb (pN (Gp u pk U1 (pQ qu rfl G.g qp (qc v0)))
 (pf (pA (pE v0 U1)))
 pH)
 (pf (pA pk))),?_⟩)
 rintro ds M Q ⟨ns,i,rfl,q⟩
 refine qD (λh0=>?_) (λh0=>?_)
 .have h0:0<=i:=fv h0;refine qD (λh1=>?_) (λh1=>?_)
  .have h1:i<((ns.map D.int).length:Int):=fv h1;rw[cT]at h1;have hi:i.toNat<ns.length:=by omega
   have e:vD (ns.map D.int) i=some (D.int (ns.getD i.toNat 0)):=by
    obtain⟨n,rfl⟩:=eA h0;have hn:n<ns.length:=by omega
    refine ur ?_;rw[dA,cW hn];simp[hn]
   refine i' e ⟨M,.refl,?_⟩;have:cell ns i=ns.getD i.toNat 0:=by unfold cell;rw[c9 ⟨h0,h1⟩]
   rw[<-this];exact q
  .have h1:¬i<((ns.map D.int).length:Int):=λz=>h1 (dR z);rw[cT]at h1;refine⟨M,.refl,?_⟩;have:cell ns i=0:=by unfold cell;rw[cY (λz=>h1 z.2)]
   rw[<-this];exact q
 .have h0:¬0<=i:=λz=>h0 (dR z);refine⟨M,.refl,?_⟩;have:cell ns i=0:=by unfold cell;rw[cY (λz=>h0 z.1)]
  rw[<-this];exact q
inductive Wi where
 | bar (x:Str) (ns:QQQ)|shut (x:Str) (ns:QQQ)|always (x y:Str)|night (x y:Str) (f l:Int)|busy (x y:Str)|silent (x y:Str) (n:Int)|wait (x:Str)|breaks (x:Str)
abbrev names(ns:QQQ):D:=.tup (ns.map D.str)
noncomputable def Wi.told:Wi->List D
 | .bar x ns=>[.str "bar",.str x,names ns]
 | .shut x ns=>[.str "shut",.str x,names ns]
 | .always x y=>[.str "always",.str x,.str y]
 | .night x y f l=>[.str "night",.str x,.str y,.int f,.int l]
 | .busy x y=>[.str "busy",.str x,.str y]
 | .silent x y n=>[.str "silent",.str x,.str y,.int n]
 | .wait x=>[.str "wait",.str x]
 | .breaks x=>[.str "breaks",.str x]
noncomputable def Wi.cls(a:Ad):Wi->Addr
 | .bar _ _=>a.r
 | .shut _ _=>a.t
 | .always _ _=>a.w
 | .night _ _ _ _=>a.n
 | .busy _ _=>a.x
 | .silent _ _ _=>a.u
 | .wait _=>a.v
 | .breaks _=>a.o
noncomputable def Wi.more:Wi->List (Str×D)
 | .bar x ns=>[("phone",.str x),("targets",names ns)]
 | .shut x ns=>[("target",.str x),("callers",names ns)]
 | .always x y=>[("target",.str x),("goal",.str y)]
 | .night x y f l=>[("target",.str x),("goal",.str y),("first",.int f),("last",.int l)]
 | .busy x y=>[("target",.str x),("goal",.str y)]
 | .silent x y n=>[("target",.str x),("goal",.str y),("turns",.int n)]
 | .wait x=>[("phone",.str x)]
 | .breaks x=>[("phone",.str x)]
noncomputable def Wi.nI(v:Wi):List (Str×D):=("form",.tup v.told)::v.more
abbrev Bl(ns:QQQ)(i:Int):Str:=ns.getD i.toNat Str.empty
noncomputable def xb(row:QQQ)(c m:Int):Nat:=(1+draw c 40692 (if (row.length:Int)<m then(row.length:Int)else m)).toNat
noncomputable def Uj(row:QQQ)(c:Int)(j:Nat):Str:=Bl row ((draw c 69621 row.length+(0+(j:Nat))) % row.length)
noncomputable def vJ(row:QQQ)(c m:Int):QQQ:=(List.range (xb row c m)).map (Uj row c)
def O5:rh:=λds M Q=>BK λr c m row=>ds=[.ref r,.int c,.int m]/\oR M r=some (row.map D.str)/\row≠[]/\0<m/\row.length<=64/\Q (names (vJ row c m)) M
def ID{row:QQQ}(h:row≠[])(x:Int):vD (row.map D.str) (x % row.length)=some (D.str (Bl row (x % row.length))):=by
 have hl:0<row.length:=fu.mpr h;have h0:0<=x % row.length:=eU _ (by omega);have h1:x % row.length<row.length:=eN _ (by omega);obtain⟨n,hn⟩:=eA h0;rw[hn]at h1 ⊢;have XZ:n<row.length:=by omega
 refine ur ?_;rw[dA,cW XZ];simp[Bl,XZ]
def xU:Fq P w K mg base 2 a.Q O5:=by
 refine fq G.Q.toDG xT (λr u=>⟨_,(pb (pJ 3 xT (pI (qI G) r G.i (qT U1 pk (pQ qu rfl G.g qp (qc v0)))))
 (pb (pJ 4 xT (pT pk (pI (qI G) r G.i (qT U1 pk (pQ (Sh rfl) rfl G.cD Rh (rW U2 (pQ qu rfl G.g qp (qc v0))))))))
 (pf (pA (qx ue rfl G.H ua (qc (qJ rfl (yh (ix:=[none,some 0,some 3]) (N':=["_law_j","_law_row","_law_first"])) (uY rfl G.Z (qc v4)) (qF 0) rO (pE U1 (pT (pT U2 v0) (pQ qu rfl G.g qp (qc U1))))))))))),?_⟩)
 rintro ds M Q ⟨r,c,m,row,rfl,hl,WL,hm,h64,q⟩
 have Wv:0<row.length:=fu.mpr WL;have hz:=dO;have el:((row.map D.str).length:Int)=row.length:=by rw[cT]
 refine i' hl ⟨c,69621,_,rfl,by rw[el];omega,?_⟩;refine i' hl ⟨c,40692,_,rfl,by rw[el];split<;>omega,?_⟩;rw[el];have d0:=qR (c:=c) (f:=40692) (m:=if (row.length:Int)<m then(row.length:Int)else m) (by split<;>omega);have d1:=qL (c:=c) (f:=40692) (m:=if (row.length:Int)<m then(row.length:Int)else m) (by split<;>omega);have d2:draw c 40692 (if (row.length:Int)<m then(row.length:Int)else m)<row.length+1:=by refine Int.lt_of_lt_of_le d1 ?_;split<;>omega
 refine⟨rfl,⟨?_,?_⟩,qX (f:=λd=>match d with|.int j=>D.str (Bl row ((draw c 69621 row.length+j) % row.length))|_=>.mM) trivial _ [] _ ?_ (λd hd k hk=>?_) λp hp=>?_⟩
 .show -(2 ^ 62)<=1+draw c 40692 (if (row.length:Int)<m then(row.length:Int)else m);omega
 .show 1+draw c 40692 (if (row.length:Int)<m then(row.length:Int)else m)<2 ^ 62;omega
 .rw[cT,eC];show 0+xb row c m<=sizeLine;unfold xb;omega
 .obtain⟨j,_,rfl⟩:=dB.mp hd;refine i' hl ⟨by rw[el];omega,i' hl ?_⟩;rw[el];exact i' (ID WL _) hk
 .refine i' (x:=(vJ row c m).map D.str) ?_ ⟨M,.new hp,q⟩;unfold oR;rw[pP];show some ([]++((List.range (xb row c m)).map λi=>D.int (0+(i:Nat))).map _)=_;rw[dY,d6];unfold vJ;rw[d6];rfl
noncomputable def wg(c:Int)(own all:QQQ):Wi:=
 let x:=Bl own (draw c 16807 own.length);let pl:=draw c 39373 all.length;let y:=Bl all pl;let z:=Bl all ((pl+1+draw c 742938285 ((all.length:Int) - 1)) % all.length);let k:=draw c 1226874159 12
 if k=0 then .bar x (vJ all c 3)
 else if k=1 then .shut y (vJ own c 3)
 else if k=2 then .always y z
 else if k<5 then .night y z (draw c 22695477 24) ((draw c 22695477 24+1+draw c 48271 23) % 24)
 else if k<7 then .busy y z
 else if k<9 then .silent y z ([1,1,2,3,9].getD (draw c 950706376 5).toNat 0)
 else if k=9 then .wait x
 else .breaks x
def Og:rh:=λds M Q=>GG λc o n own all=>ds=[.int c,.ref o,.ref n]/\oR M o=some (own.map D.str)/\oR M n=some (all.map D.str)/\own≠[]/\2<=all.length/\own.length<=64/\all.length<=64/\Q (.tup (wg c own all).told) M
def HA{row:QQQ}{x:Int}(h0:0<=x)(h1:x<row.length):vD (row.map D.str) x=some (D.str (Bl row x)):=by
 obtain⟨n,rfl⟩:=eA h0;have XZ:n<row.length:=by omega
 refine ur ?_;rw[dA,cW XZ];simp[Bl,XZ]
def Oi:Fq P w K mg base 3 a.bj Og:=by
 refine fq G.bj.toDG sZ (λr u=>⟨_,(pb (pJ 3 sZ (pE U1 (pI (qI G) r G.i (qT v0 pk (pQ qu rfl G.g qp (qc U1))))))
 (pb (pJ 4 sZ (pI (qI G) r G.i (qT v0 pk (pQ qu rfl G.g qp (qc U2)))))
 (pb (pJ 5 sZ (pE U2 v4))
 (pb (pJ 6 sZ (pE U2 (pT (pT (pT v4 pk) (pI (qI G) r G.i (qT v0 pk (pT (pQ qu rfl G.g qp (qc U2)) pk)))) (pQ qu rfl G.g qp (qc U2)))))
 (pb (pJ 7 sZ (pI (qI G) r G.i (qT v0 pk pk)))
 (pb (pN (pF u v7 pk)
 (pf (pA (pK (qT pq U3 (pI (xU G) r G.Q (qT U2 v0 pk))))))
 pH)
 (pb (pN (pF u v7 pk)
 (pf (pA (pK (qT pq v5 (pI (xU G) r G.Q (qT U1 v0 pk))))))
 pH)
 (pb (pN (pF u v7 pk)
 (pf (pA (pK (qT pq v5 v6))))
 pH)
 (pb (pN (pF u v7 pk)
 (pb (pJ 8 sZ (pI (qI G) r G.i (qT v0 pk pk)))
 (pf (pA (pK (pR pq (pR v5 (qT v6 v8 (pT (pT (pT v8 pk) (pI (qI G) r G.i (qT v0 pk pk))) pk))))))))
 pH)
 (pb (pN (pF u v7 pk)
 (pf (pA (pK (qT pq v5 v6))))
 pH)
 (pb (pN (pF u v7 pk)
 (pf (pA (pK (pR pq (qT v5 v6 (pE (pK (pR pk (pR pk (qT pk pk pk)))) (pI (qI G) r G.i (qT v0 pk pk))))))))
 pH)
 (pb (pN (pF u v7 pk)
 (pf (pA (pK (rW pq U3))))
 pH)
 (pf (pA (pK (rW pq U3)))))))))))))))),?_⟩)
 rintro ds M Q ⟨c,o,n,own,all,rfl,ho,hn,WL,h2,l1,l2,q⟩
 have Wv:0<own.length:=fu.mpr WL;have hne2:all≠[]:=λz=>by rw[z]at h2;simp at h2
 have e1:((own.map D.str).length:Int)=own.length:=by rw[cT]
 have e2:((all.map D.str).length:Int)=all.length:=by rw[cT]
 have p1:(0:Int)<own.length:=by omega
 have p2:(0:Int)<all.length:=by omega
 have p3:(0:Int)<(all.length:Int) - 1:=by omega
 refine i' ho ⟨c,_,_,rfl,by rw[e1];exact p1,?_⟩;rw[e1];refine i' ho (i' (HA (qR p1) (qL p1)) ?_);refine i' hn ⟨c,_,_,rfl,by rw[e2];exact p2,?_⟩;rw[e2];refine i' hn (i' (HA (qR p2) (qL p2)) ?_);refine i' hn ⟨c,_,_,rfl,by rw[e2];exact p3,?_⟩;rw[e2];refine i' hn ⟨by rw[e2];exact p2,?_⟩;rw[e2];refine i' hn (i' (ID hne2 _) ?_);refine⟨c,_,_,rfl,by decide,?_⟩;have Wt:∀t:List D,(wg c own all).told=t->∃Wu,qw Wu M/\Q (.tup t) Wu:=λt e=>⟨M,.refl,e ▸ q⟩;have k0:0<=draw c 1226874159 12:=qR (by decide);refine qD (λh=>?_) (λh=>?_)
 .have h:draw c 1226874159 12=0:=by simpa using h
  refine⟨n,c,3,all,rfl,hn,hne2,by decide,l2,oZ rfl,Wt _ ?_⟩;simp only[wg,c9 h,Wi.told]
 have h:¬draw c 1226874159 12=0:=by simpa using h
 refine qD (λg=>?_) (λg=>?_)
 .have g:draw c 1226874159 12=1:=by simpa using g
  refine⟨o,c,3,own,rfl,ho,WL,by decide,l1,oZ rfl,Wt _ ?_⟩;simp only[wg,cY h,c9 g,Wi.told]
 have g:¬draw c 1226874159 12=1:=by simpa using g
 refine qD (λi=>?_) (λi=>?_)
 .have i:draw c 1226874159 12=2:=by simpa using i
  refine⟨oZ rfl,Wt _ ?_⟩;simp only[wg,cY h,cY g,c9 i,Wi.told]
 have i:¬draw c 1226874159 12=2:=by simpa using i
 refine qD (λj=>?_) (λj=>?_)
 .have j:draw c 1226874159 12<5:=fv j;refine⟨c,_,_,rfl,by decide,c,_,_,rfl,by decide,by decide,oZ rfl,Wt _ ?_⟩;simp only[wg,cY h,cY g,cY i,c9 j,Wi.told]
 have j:¬draw c 1226874159 12<5:=λz=>j (dR z);refine qD (λl=>?_) (λl=>?_)
 .have l:draw c 1226874159 12<7:=fv l;refine⟨oZ rfl,Wt _ ?_⟩;simp only[wg,cY h,cY g,cY i,cY j,c9 l,Wi.told]
 have l:¬draw c 1226874159 12<7:=λz=>l (dR z);refine qD (λm=>?_) (λm=>?_)
 .have m:draw c 1226874159 12<9:=fv m;have d0:0<=draw c 950706376 5:=qR (by decide);have d1:draw c 950706376 5<5:=qL (by decide);have e:vD [D.int 1,.int 1,.int 2,.int 3,.int 9] (draw c 950706376 5)=some (D.int ([1,1,2,3,9].getD (draw c 950706376 5).toNat 0)):=by
   obtain⟨t,ht⟩:=eA d0;rw[ht]at d1 ⊢;have:t<5:=by omega
   match t,this with
   | 0,_=>rfl
   | 1,_=>rfl
   | 2,_=>rfl
   | 3,_=>rfl
   | 4,_=>rfl
  refine⟨oZ rfl,c,_,_,rfl,by decide,i' e ⟨oZ rfl,Wt _ ?_⟩⟩;simp only[wg,cY h,cY g,cY i,cY j,cY l,c9 m,Wi.told]
 have m:¬draw c 1226874159 12<9:=λz=>m (dR z);refine qD (λr=>?_) (λr=>?_)
 .have r:draw c 1226874159 12=9:=by simpa using r
  refine⟨oZ rfl,Wt _ ?_⟩;simp only[wg,cY h,cY g,cY i,cY j,cY l,cY m,c9 r,Wi.told]
 have r:¬draw c 1226874159 12=9:=by simpa using r
 refine⟨oZ rfl,Wt _ ?_⟩;simp only[wg,cY h,cY g,cY i,cY j,cY l,cY m,cY r,Wi.told]
def Mc(K:ql):rh:=λds M Q=>Df λp d C=>ds=[.ref p,d]/\M p=some (.ins C [])/\tX K C "form"/\Q .mM (pD M p (.ins C [("form",d)]))
def Nd(K:ql):rh:=λds M Q=>GG λp t x y C=>ds=[.ref p,.tup t]/\vD t 1=some x/\vD t 2=some y/\M p=some (.ins C [])/\tX K C "form"/\tX K C "target"/\tX K C "goal"/\Q .mM (pD M p (.ins C [("form",.tup t),("target",x),("goal",y)]))
def x9(a:Ad)(k:Wi->Prop):rh:=λds M Q=>B1 λp v=>ds=[.ref p,.tup (Wi.told v)]/\k v/\M p=some (.ins (v.cls a) [])/\Q .mM (pD M p (.ins (v.cls a) v.nI))
def xF:Fq P w K mg base 1 a.E (Mc K):=by
 refine fq G.E.toDG Ex (λr u=>⟨_,(pf (pX v0 U1)),?_⟩)
 rintro ds M Q ⟨p,d,C,rfl,hp,na,q⟩
 exact pj hp ⟨na,by decide,_,.refl,q⟩
def zw:Fq P w K mg base 2 a.A (Nd K):=by
 refine fq G.A.toDG Aw (λr u=>⟨_,(pb (pM (yC G.aM (xF G) r G.B G.E.toDG (rW v0 U1)))
 (pb (pX v0 (pE U1 pk))
 (pf (pX v0 (pE U1 pk))))),?_⟩)
 rintro ds M Q ⟨p,t,x,y,C,rfl,e1,e2,hp,n1,n2,n3,q⟩
 refine⟨p,_,C,rfl,hp,n1,i' e1 (pj pP ⟨n2,by show 1<1000;decide,?_⟩)⟩;refine i' e2 (pj pP ⟨n3,by show 2<1000;decide,_,?_,q⟩);rw[rE,rE];exact .refl
def Q0:Fq P w K mg base 2 a.ak (x9 a λv=>∃x ns,v=.bar x ns):=by
 refine fq G.ak.toDG GF (λr u=>⟨_,(pb (pM (yC G.aM (xF G) r G.B G.E.toDG (rW v0 U1)))
 (pb (pX v0 (pE U1 pk))
 (pf (pX v0 (pE U1 pk))))),?_⟩)
 rintro ds M Q ⟨p,v,rfl,⟨x,ns,rfl⟩,hp,q⟩
 refine⟨p,_,_,rfl,hp,(G.bO "form" rfl),pj pP ⟨(G.bO "phone" rfl),by show 1<1000;decide,?_⟩⟩;refine pj pP ⟨(G.bO "targets" rfl),by show 2<1000;decide,_,?_,q⟩;rw[rE,rE];exact .refl
def Pi:Fq P w K mg base 2 a.am (x9 a λv=>∃x ns,v=.shut x ns):=by
 refine fq G.am.toDG Fp (λr u=>⟨_,(pb (pM (yC G.aM (xF G) r G.B G.E.toDG (rW v0 U1)))
 (pb (pX v0 (pE U1 pk))
 (pf (pX v0 (pE U1 pk))))),?_⟩)
 rintro ds M Q ⟨p,v,rfl,⟨x,ns,rfl⟩,hp,q⟩
 refine⟨p,_,_,rfl,hp,(G.bP "form" rfl),pj pP ⟨(G.bP "target" rfl),by show 1<1000;decide,?_⟩⟩;refine pj pP ⟨(G.bP "callers" rfl),by show 2<1000;decide,_,?_,q⟩;rw[rE,rE];exact .refl
def Ll:Fq P w K mg base 3 a.ao (x9 a λv=>∃x y f l,v=.night x y f l):=by
 refine fq G.ao.toDG CV (λr u=>⟨_,(pb (pM (yC G.bV (zw G) r G.X G.A.toDG (rW v0 U1)))
 (pb (pX v0 (pE U1 pk))
 (pf (pX v0 (pE U1 pk))))),?_⟩)
 rintro ds M Q ⟨p,v,rfl,⟨x,y,f,l,rfl⟩,hp,q⟩
 refine⟨p,_,_,_,_,rfl,rfl,rfl,hp,(G.aN "form" rfl),(G.aN "target" rfl),(G.aN "goal" rfl),pj pP ⟨(G.aN "first" rfl),by show 3<1000;decide,?_⟩⟩;refine pj pP ⟨(G.aN "last" rfl),by show 4<1000;decide,_,?_,q⟩;rw[rE,rE];exact .refl
def JB:Fq P w K mg base 3 a.ap (x9 a λv=>∃x y n,v=.silent x y n):=by
 refine fq G.ap.toDG Ca (λr u=>⟨_,(pb (pM (yC G.bV (zw G) r G.X G.A.toDG (rW v0 U1)))
 (pf (pX v0 (pE U1 pk)))),?_⟩)
 rintro ds M Q ⟨p,v,rfl,⟨x,y,n,rfl⟩,hp,q⟩
 refine⟨p,_,_,_,_,rfl,rfl,rfl,hp,(G.bM "form" rfl),(G.bM "target" rfl),(G.bM "goal" rfl),pj pP ⟨(G.bM "turns" rfl),by show 3<1000;decide,_,?_,q⟩⟩;rw[rE];exact .refl
def Nz:Fq P w K mg base 2 a.aq (x9 a λv=>∃x,v=.wait x):=by
 refine fq G.aq.toDG Ek (λr u=>⟨_,(pb (pM (yC G.aM (xF G) r G.B G.E.toDG (rW v0 U1)))
 (pf (pX v0 (pE U1 pk)))),?_⟩)
 rintro ds M Q ⟨p,v,rfl,⟨x,rfl⟩,hp,q⟩
 refine⟨p,_,_,rfl,hp,(G.bW "form" rfl),pj pP ⟨(G.bW "phone" rfl),by show 1<1000;decide,_,?_,q⟩⟩;rw[rE];exact .refl
def Jx:Fq P w K mg base 2 a.au (x9 a λv=>∃x,v=.breaks x):=by
 refine fq G.au.toDG BI (λr u=>⟨_,(pb (pM (yC G.aM (xF G) r G.B G.E.toDG (rW v0 U1)))
 (pf (pX v0 (pE U1 pk)))),?_⟩)
 rintro ds M Q ⟨p,v,rfl,⟨x,rfl⟩,hp,q⟩
 refine⟨p,_,_,rfl,hp,(G.bX "form" rfl),pj pP ⟨(G.bX "phone" rfl),by show 1<1000;decide,_,?_,q⟩⟩;rw[rE];exact .refl
def Ho(a:Ad):rh:=λds M Q=>∃v:Wi,ds=[.tup v.told]/\∀p,M p=none->Q (.ref p) (pD M p (.ins (v.cls a) v.nI))
def IR(a:Ad):rh:=λds M Q=>B1 λp (v:Wi)=>ds=[.ref p]/\M p=some (.ins (v.cls a) v.nI)/\Q (.tup v.told) M
def G9:rh:=λds M Q=>∃p,ds=[.ref p]/\Q (.tup [.str "end"]) M
def MQ:rh:=λds M Q=>∃p,ds=[.ref p]/\Q (.tup [.str "break"]) M
def P7:rh:=λds M Q=>BK λp C fs y=>ds=[.ref p]/\M p=some (.ins C fs)/\fs.lookup ("goal":Str)=some y/\Q (.tup [.str "to",y]) M
def Qe:rh:=λds M Q=>BK λp C fs y=>ds=[.ref p]/\M p=some (.ins C fs)/\fs.lookup ("phone":Str)=some y/\Q (.tup [.str "wait",y]) M
def Ls(a:Ad):Addr->rh->Prop:=λC sp=>(∃v:Wi,C=v.cls a)/\sp=IR a
def Iu(a:Ad):Addr->rh->Prop:=λC sp=>((C=a.r\/C=a.t)/\sp=G9)\/((C=a.w\/C=a.n\/C=a.x\/C=a.u)/\sp=P7)\/(C=a.v/\sp=Qe)\/(C=a.o/\sp=MQ)
def G0:Fq P w K mg base 5 a.ba (Ho a):=by
 refine fq G.ba.toDG Cm (λr u=>⟨_,(pb (pJ 1 Cm (pE v0 pk))
 (pb (pN (pF u U1 pq)
 (pf (pA (uZ (Q0 G) r G.r G.b7 G.ak.toDG (qc v0))))
 pH)
 (pb (pN (pF u U1 pq)
 (pf (pA (uZ (Pi G) r G.t G.b8 G.am.toDG (qc v0))))
 pH)
 (pb (pN (pF u U1 pq)
 (pf (pA (uZ (zw G) r G.w G.b9 G.A.toDG (qc v0))))
 pH)
 (pb (pN (pF u U1 pq)
 (pf (pA (uZ (Ll G) r G.n G.ca G.ao.toDG (qc v0))))
 pH)
 (pb (pN (pF u U1 pq)
 (pf (pA (uZ (zw G) r G.x G.cb G.A.toDG (qc v0))))
 pH)
 (pb (pN (pF u U1 pq)
 (pf (pA (uZ (JB G) r G.u G.cc G.ap.toDG (qc v0))))
 pH)
 (pb (pN (pF u U1 pq)
 (pf (pA (uZ (Nz G) r G.v G.cd G.aq.toDG (qc v0))))
 pH)
 (pb (pN (pF u U1 pq)
 (pf (pA (uZ (Jx G) r G.o G.ce G.au.toDG (qc v0))))
 pH)
 (pf FF)))))))))),?_⟩)
 rintro ds M Q ⟨v,rfl,q⟩
 have Wt:∀(x:Addr) (c0 c1:uN) (C:Addr) (fs:List (Str×D)),M x=none->Q (.ref x) (pD M x c1)->∃Wu,qw Wu (pD (pD M x c0) x c1)/\Q (.ref x) Wu:=λx c0 c1 C fs hx q=>⟨_,by rw[rE];exact .refl,q⟩;cases v with
 | bar x ns=>exact λp hp=>⟨p,.bar x ns,rfl,⟨_,_,rfl⟩,pP,rfl,Wt p _ _ 0 [] hp (q p hp)⟩
 | shut x ns=>exact λp hp=>⟨p,.shut x ns,rfl,⟨_,_,rfl⟩,pP,rfl,Wt p _ _ 0 [] hp (q p hp)⟩
 | always x y=>exact λp hp=>⟨p,_,_,_,_,rfl,rfl,rfl,pP,(G.bQ "form" rfl),(G.bQ "target" rfl),(G.bQ "goal" rfl),rfl,Wt p _ _ 0 [] hp (q p hp)⟩
 | night x y f l=>exact λp hp=>⟨p,.night x y f l,rfl,⟨_,_,_,_,rfl⟩,pP,rfl,Wt p _ _ 0 [] hp (q p hp)⟩
 | busy x y=>exact λp hp=>⟨p,_,_,_,_,rfl,rfl,rfl,pP,(G.bR "form" rfl),(G.bR "target" rfl),(G.bR "goal" rfl),rfl,Wt p _ _ 0 [] hp (q p hp)⟩
 | silent x y n=>exact λp hp=>⟨p,.silent x y n,rfl,⟨_,_,_,rfl⟩,pP,rfl,Wt p _ _ 0 [] hp (q p hp)⟩
 | wait x=>exact λp hp=>⟨p,.wait x,rfl,⟨_,rfl⟩,pP,rfl,Wt p _ _ 0 [] hp (q p hp)⟩
 | breaks x=>exact λp hp=>⟨p,.breaks x,rfl,⟨_,rfl⟩,pP,rfl,Wt p _ _ 0 [] hp (q p hp)⟩
def OM:Fq P w K mg base 1 a.l (IR a):=by
 refine fq G.l.toDG EE (λr u=>⟨_,(pf (pA (pB v0))),?_⟩)
 rintro ds M Q ⟨p,v,rfl,hp,q⟩
 exact pj hp (i' rfl ⟨M,.refl,q⟩)
def OP:Fq P w K mg base 1 a.al G9:=by
 refine fq G.al.toDG Fs (λr u=>⟨_,(pf (pA (pK (qc pq)))),?_⟩)
 rintro ds M Q ⟨p,rfl,q⟩
 exact⟨oZ rfl,M,.refl,q⟩
def Mr:Fq P w K mg base 1 a.an G9:=by
 refine fq G.an.toDG Cu (λr u=>⟨_,(pf (pA (pK (qc pq)))),?_⟩)
 rintro ds M Q ⟨p,rfl,q⟩
 exact⟨oZ rfl,M,.refl,q⟩
def vK:Fq P w K mg base 1 a.z P7:=by
 refine fq G.z.toDG zL (λr u=>⟨_,(pf (pA (pK (rW pq (pB v0))))),?_⟩)
 rintro ds M Q ⟨p,C,fs,y,rfl,hp,e,q⟩
 exact pj hp (i' e ⟨oZ rfl,M,.refl,q⟩)
def MM:Fq P w K mg base 1 a.ar Qe:=by
 refine fq G.ar.toDG CD (λr u=>⟨_,(pf (pA (pK (rW pq (pB v0))))),?_⟩)
 rintro ds M Q ⟨p,C,fs,y,rfl,hp,e,q⟩
 exact pj hp (i' e ⟨oZ rfl,M,.refl,q⟩)
def G6:Fq P w K mg base 1 a.av MQ:=by
 refine fq G.av.toDG AU (λr u=>⟨_,(pf (pA (pK (qc pq)))),?_⟩)
 rintro ds M Q ⟨p,rfl,q⟩
 exact⟨oZ rfl,M,.refl,q⟩
def QS:∀C sp,Ls a C sp->xM P w K mg base 1 "told" C (Nn K sp):=by
 rintro C sp ⟨⟨v,rfl⟩,rfl⟩
 have F:=OM (P:=P) (w:=w) (base:=base) G;cases v with
 | bar _ _=>exact⟨G.r.toCls,_,_,_,G.cr,F,G.l.b⟩
 | shut _ _=>exact⟨G.t.toCls,_,_,_,G.cs,F,G.l.b⟩
 | always _ _=>exact⟨G.w.toCls,_,_,_,G.ct,F,G.l.b⟩
 | night _ _ _ _=>exact⟨G.n.toCls,_,_,_,G.cu,F,G.l.b⟩
 | busy _ _=>exact⟨G.x.toCls,_,_,_,G.cv,F,G.l.b⟩
 | silent _ _ _=>exact⟨G.u.toCls,_,_,_,G.cw,F,G.l.b⟩
 | wait _=>exact⟨G.v.toCls,_,_,_,G.cx,F,G.l.b⟩
 | breaks _=>exact⟨G.o.toCls,_,_,_,G.cy,F,G.l.b⟩
def PQ:∀C sp,Iu a C sp->xM P w K mg base 1 "wants" C (Nn K sp):=by
 rintro C sp (⟨rfl|rfl,rfl⟩|⟨rfl|rfl|rfl|rfl,rfl⟩|⟨rfl,rfl⟩|⟨rfl,rfl⟩)
 .exact⟨G.r.toCls,_,_,_,G.al.nq,OP G,G.al.b⟩
 .exact⟨G.t.toCls,_,_,_,G.an.nq,Mr G,G.an.b⟩
 .exact⟨G.w.toCls,_,_,_,G.cg,vK G,G.z.b⟩
 .exact⟨G.n.toCls,_,_,_,G.ch,vK G,G.z.b⟩
 .exact⟨G.x.toCls,_,_,_,G.ci,vK G,G.z.b⟩
 .exact⟨G.u.toCls,_,_,_,G.cj,vK G,G.z.b⟩
 .exact⟨G.v.toCls,_,_,_,G.ar.nq,MM G,G.ar.b⟩
 .exact⟨G.o.toCls,_,_,_,G.av.nq,G6 G,G.av.b⟩
noncomputable def uo(x:Str):Bool:=decide ((1:Int)<=x.length)&&(decide ((x.length:Int)<=6)&&x.cps.toList.all λc=>Cz ⟨#[c]⟩ ug)
def GM:rh:=λds M Q=>∃x:Str,ds=[.str x]/\x.length<=1000/\Q (.bl (uo x)) M
def Ia:rh:=λds M Q=>∃w,ds=[.bl true,w]/\Q .mM M
noncomputable def wU(ss:QQQ):Bool:=((sL ss).length:Int)==(ss.length:Int)
def RO(M:Mp)(x:D)(ss:QQQ):Prop:=x=.tup (ss.map D.str)\/∃a,x=.ref a/\oR M a=some (ss.map D.str)
def JZ:rh:=λds M Q=>B1 λx ss=>ds=[x]/\RO M x ss/\ss.length<4000/\Q (.bl (wU ss)) M
def zC{α:Type}(f:α->Bool)(l:List α):(l.map f).all id=l.all f:=by rw[my];rfl
def rP(x:Str)(ss:QQQ):inD (.str x) (ss.map D.str)=ss.any (·==x):=by unfold inD;rw[jI];rfl
theorem qk:∀ss:QQQ,(ss.map D.str).all uu=true
 | []=>rfl
 | _::r=>by rw[dS,fk,qk r];rfl
noncomputable def su(cs ks:QQQ)(m:Int):Bool:=decide ((1:Int)<=cs.length)&&(decide ((cs.length:Int)<=m)&&(wU cs&&cs.all λc=>ks.any (·==c)))
def JC:rh:=λds M Q=>BK λcs ks k m=>ds=[.tup (cs.map D.str),.ref k,.int m]/\oR M k=some (ks.map D.str)/\cs.length<4000/\Q (.bl (su cs ks m)) M
def Cf:Fq P w K mg base 1 a.ae GM:=by
 refine fq G.ae.toDG GR (λr u=>⟨_,(pf (pA (sU (uj u pk (pQ qu rfl G.g qp (qc v0)) (sy rfl G.cO)) (sH (pQ (E4 rfl) rfl G.bN Fe (qc (qJ rfl (yh (ix:=[none]) (N':=["sign"])) (qH v0) (qF 0) rO (qh u v0 (sy rfl G.cP))))))))),?_⟩)
 rintro ds M Q ⟨x,rfl,hl,q⟩
 have hz:=dO;refine⟨by omega,qD (λh1=>?_) (λh1=>?_)⟩
 .refine qD (λh2=>?_) (λh2=>?_)
  .refine qX (f:=λd=>match d with|.str z=>D.bl (Cz z ug)|_=>.mM) trivial _ [] _ ?_ (λd hd k hk=>?_) λp hp=>?_
   .rw[cT];have:x.cps.toList.length=x.length:=by simp[Str.length]
    simp only[dM];omega
   .obtain⟨c,_,rfl⟩:=dB.mp hd;exact hk
   .refine i' pC ?_;have e:([]++(x.cps.toList.map λc=>D.str ⟨#[c]⟩).map λd=>match d with|.str z=>D.bl (Cz z ug)|_=>.mM)=x.cps.toList.map λc=>D.bl (Cz ⟨#[c]⟩ ug):=by rw[dY,d6];rfl
    rw[e];refine i' (x8 (λc=>Cz ⟨#[c]⟩ ug) x.cps.toList) ⟨M,.new hp,?_⟩;rw[zC];have:uo x=x.cps.toList.all λc=>Cz ⟨#[c]⟩ ug:=by unfold uo;rw[h1,h2];rfl
    rw[<-this];exact q
  .refine⟨M,.refl,?_⟩;have:uo x=false:=by
    unfold uo;have h2:decide ((x.length:Int)<=6)=false:=by simpa using h2
    rw[h2];simp
   rw[<-this];exact q
 .refine⟨M,.refl,?_⟩;have:uo x=false:=by
   unfold uo;have h1:decide ((1:Int)<=x.length)=false:=by simpa using h1
   rw[h1];rfl
  rw[<-this];exact q
def sJ:Fq P w K mg base 1 a.m Ia:=by
 refine fq G.m.toDG NA (λr u=>⟨_,(pf (pN (xG (vp v0))
 (pf FF)
 pH)),?_⟩)
 rintro ds M Q ⟨x,rfl,q⟩
 exact⟨M,.refl,q⟩
def Du:Fq P w K mg base 1 a.af JZ:=by
 refine fq G.af.toDG C6 (λr u=>⟨_,(pf (pA (qh u (Ke rfl v0 rfl G.g rfl G.cE qp QQ) (pQ qu rfl G.g qp (qc v0))))),?_⟩)
 rintro ds M Q ⟨x,ss,rfl,hx,hl,q⟩
 have key:((ss.map D.str).length:Int)=ss.length:=by rw[cT]
 rcases hx with rfl|⟨b,rfl,hb⟩
 .refine i' (L3.Bu ss) ⟨hl,M,.refl,?_⟩;rw[key];exact q
 .refine i' hb (i' (L3.Bu ss) ⟨hl,i' hb ⟨M,.refl,?_⟩⟩);rw[key];exact q
def zJ:Fq P w K mg base 2 a.O JC:=by
 refine fq G.O.toDG Fy (λr u=>⟨_,(pf (pA (sU (uj u pk (pQ qu rfl G.g qp (qc v0)) U2) (sU (pI (Du G) r G.af (qc v0)) (sH (pQ (E4 rfl) rfl G.bN Fe (qc (qJ rfl (yh (ix:=[none,some 1]) (N':=["name","known"])) (qH v0) (qF 0) rO (qh u v0 U1))))))))),?_⟩)
 rintro ds M Q ⟨cs,ks,k,m,rfl,hk,hl,q⟩
 have hz:=dO;have key:((cs.map D.str).length:Int)=cs.length:=by rw[cT]
 have ZA:∀b:Bool,su cs ks m=b->∃Wu,qw Wu M/\Q (.bl b) Wu:=λb e=>⟨M,.refl,e ▸ q⟩;refine qD (λh1=>?_) (λh1=>?_)
 .have h1:decide ((1:Int)<=cs.length)=true:=by rw[<-key];exact h1
  refine qD (λh2=>?_) (λh2=>?_)
  .have h2:decide ((cs.length:Int)<=m)=true:=by rw[<-key];exact h2
   refine⟨_,cs,rfl,.inl rfl,hl,qD (λh3=>?_) (λh3=>?_)⟩
   .refine qX (f:=λd=>match d with|.str z=>D.bl (ks.any (·==z))|_=>.mM) trivial _ [] _ ?_ (λd hd k0 hk0=>?_) λp hp=>?_
    .rw[cT];simp only[dM];omega
    .obtain⟨c,_,rfl⟩:=dB.mp hd;refine i' hk ⟨rfl,qk ks,?_⟩;show k0 (.bl (inD (.str c) (ks.map D.str))) M;rw[rP];exact hk0
    .refine i' pC ?_;have e:([]++(cs.map D.str).map λd=>match d with|.str z=>D.bl (ks.any (·==z))|_=>.mM)=cs.map λc=>D.bl (ks.any (·==c)):=by rw[dY,d6];rfl
     rw[e];refine i' (x8 (λc=>ks.any (·==c)) cs) ⟨M,.new hp,?_⟩;rw[zC];have:su cs ks m=cs.all λc=>ks.any (·==c):=by unfold su;rw[h1,h2,h3];rfl
     rw[<-this];exact q
   .refine ZA _ ?_;unfold su;have h3:wU cs=false:=by simpa using h3
    rw[h3];simp
  .refine ZA _ ?_;unfold su;have h2:decide ((cs.length:Int)<=m)=false:=by
    rw[<-key]
    simpa using h2
   rw[h2];simp
 .refine ZA _ ?_;unfold su;have h1:decide ((1:Int)<=cs.length)=false:=by
   rw[<-key]
   simpa using h1
  rw[h1];rfl
abbrev uA:=Str×Int×Int
abbrev tW:=Str×Str×QQQ
abbrev vq:=Bool×Wi
noncomputable def qV(p:uA):D:=.tup [.str p.1,.int p.2.1,.int p.2.2]
noncomputable def qY(g:tW):D:=.tup [.str g.1,.str g.2.1,names g.2.2]
noncomputable def xf(w:vq):D:=.tup [.bl w.1,.tup w.2.told]
structure Eo(p:uA):Prop where
 len:p.1.length<=1000
 nm:uo p.1=true
 l1:1<=p.2.1
 l2:p.2.1<=3
 r1:0<=p.2.2
 r2:p.2.2<=9
structure Er(pn:QQQ)(g:tW):Prop where
 len:g.1.length<=1000
 nm:uo g.1=true
 man:g.2.1="all"\/g.2.1="turns"
 oZ:g.2.2.length<4000
 mem:su g.2.2 pn 4=true
def xt(ss:QQQ)(x:Str):Prop:=ss.any (·==x)=true
def Bp(pn nm:QQQ):Wi->Prop
 | .bar x ns=>xt pn x/\ns.length<4000/\su ns nm 6=true
 | .shut x ns=>xt nm x/\ns.length<4000/\su ns pn 6=true
 | .always x y=>xt nm x/\xt nm y/\x≠y
 | .night x y f l=>xt nm x/\xt nm y/\x≠y/\(0<=f/\f<=23)/\(0<=l/\l<=23)/\f≠l
 | .busy x y=>xt nm x/\xt nm y/\x≠y
 | .silent x y n=>xt nm x/\xt nm y/\x≠y/\1<=n/\n<=9
 | .wait x=>xt pn x
 | .breaks x=>xt pn x
inductive xo(pn nm:QQQ):Str->D->Prop
 | m8 (x:Str) (h:xt pn x):xo pn nm "phone" (.str x)
 | name (x:Str) (h:xt nm x):xo pn nm "name" (.str x)
 | mJ (cs:QQQ) (l:cs.length<4000) (h:su cs pn 6=true):xo pn nm "phones" (names cs)
 | names (cs:QQQ) (l:cs.length<4000) (h:su cs nm 6=true):xo pn nm "names" (names cs)
 | hour (i:Int) (h0:0<=i) (h1:i<=23):xo pn nm "hour" (.int i)
 | turns (i:Int) (h0:1<=i) (h1:i<=9):xo pn nm "turns" (.int i)
def IB:rh:=λds M Q=>Ji λk d pl nl (pn nm:QQQ)=>ds=[.str k,d,.ref pl,.ref nl]/\oR M pl=some (pn.map D.str)/\oR M nl=some (nm.map D.str)/\xo pn nm k d/\Q (.bl true) M
def AH:rh:=λds M Q=>B1 λr (ps:List uA)=>ds=[.ref r]/\oR M r=some (ps.map qV)/\1<=ps.length/\ps.length<=8/\(∀p∈ps,Eo p)/\Q .mM M
def Ax:rh:=λds M Q=>BK λr (gs:List tW) pl (pn:QQQ)=>ds=[.ref r,.ref pl]/\oR M r=some (gs.map qY)/\oR M pl=some (pn.map D.str)/\gs.length<=3/\(∀g∈gs,Er pn g)/\Q .mM M
def CZ:rh:=λds M Q=>GG λv pl nl (pn nm:QQQ)=>ds=[.tup (Wi.told v),.ref pl,.ref nl]/\oR M pl=some (pn.map D.str)/\oR M nl=some (nm.map D.str)/\Bp pn nm v/\Q .mM M
def AV:rh:=λds M Q=>Ji λr (ws:List vq) pl nl (pn nm:QQQ)=>ds=[.ref r,.ref pl,.ref nl]/\oR M r=some (ws.map xf)/\oR M pl=some (pn.map D.str)/\oR M nl=some (nm.map D.str)/\ws.length<=16/\(∀w∈ws,Bp pn nm w.2)/\Q .mM M
def VS{ss:QQQ}{x:Str}(h:xt ss x):inD (.str x) (ss.map D.str)=true:=by rw[rP];exact h
def Px:Fq P w K mg base 3 a.bd IB:=by
 refine fq G.bd.toDG CJ (λr u=>⟨_,(pb (pN (pF u v0 pq)
 (pf (pA (qh u U1 U2)))
 pH)
 (pb (pN (pF u v0 pq)
 (pf (pA (qh u U1 U3)))
 pH)
 (pb (pN (pF u v0 pq)
 (pf (pA (pI (zJ G) r G.O (qT U1 U2 (sy rfl G.bZ)))))
 pH)
 (pb (pN (pF u v0 pq)
 (pf (pA (pI (zJ G) r G.O (qT U1 U3 (sy rfl G.bZ)))))
 pH)
 (pb (pN (pF u v0 pq)
 (pf (pA (uj u pk U1 (sy rfl G.cQ))))
 pH)
 (pf (pA (uj u pk U1 (sy rfl G.cR))))))))),?_⟩)
 rintro ds M Q ⟨k,d,pl,nl,pn,nm,rfl,hp,hn,ok,q⟩
 cases ok with
 | m8 x h=>refine i' hp ⟨rfl,qk pn,M,.refl,?_⟩;show Q (.bl (inD (.str x) (pn.map D.str))) M;rw[VS h];exact q
 | name x h=>refine i' hn ⟨rfl,qk nm,M,.refl,?_⟩;show Q (.bl (inD (.str x) (nm.map D.str))) M;rw[VS h];exact q
 | mJ cs l h=>exact⟨cs,pn,pl,6,rfl,hp,l,M,.refl,by rw[h];exact q⟩
 | names cs l h=>exact⟨cs,nm,nl,6,rfl,hn,l,M,.refl,by rw[h];exact q⟩
 | hour i h0 h1=>refine Au (c:=decide (0<=i)) (dR h0) ⟨M,.refl,?_⟩;show Q (.bl (decide (i<=23))) M;rw[dR h1];exact q
 | turns i h0 h1=>refine Au (c:=decide (1<=i)) (dR h0) ⟨M,.refl,?_⟩;show Q (.bl (decide (i<=9))) M;rw[dR h1];exact q
def AQ:Fq P w K mg base 2 a.bb AH:=by
 refine fq G.bb.toDG tT (λr u=>⟨_,(pb (pM (pI (sJ G) r G.m (rW (uj u pk (pQ qu rfl G.g qp (qc v0)) (sy rfl G.cH)) pq)))
 (pf (uB e9 rfl (qH v0) (uz (n:=3) rfl (qe (qZ 1 tT) (qe (qZ 2 tT) (qe (qZ 3 tT) sS))))
 (pb (pM (pI (sJ G) r G.m (rW (pI (Cf G) r G.ae (qc U1)) pq)))
 (pb (pM (pI (sJ G) r G.m (rW (uj u pk U2 (sy rfl G.cI)) pq)))
 (pf (pM (pI (sJ G) r G.m (rW (uj u pk U3 (sy rfl G.cJ)) pq))))))))),?_⟩)
 rintro ds M Q ⟨r,ps,rfl,Xa,h1,h8,mR,q⟩
 have el:((ps.map qV).length:Int)=ps.length:=by rw[cT]
 refine i' Xa (Au (c:=decide ((1:Int)<=(ps.map qV).length)) (dR (by omega)) ⟨_,by rw[dR (show((ps.map qV).length:Int)<=8 by omega)],i' Xa ?_⟩);refine A7 (λδ M'=>M=M'/\∃x y z,δ=[some (.ref r),x,y,z]) (λδ M' j=>by rw[<-j.1];exact Xa) _ _ _ ⟨rfl,none,none,none,rfl⟩ ?_ ?_
 .rintro d hd δ M' ⟨rfl,x,y,z,rfl⟩ nx WB
  obtain⟨p,hp,rfl⟩:=dB.mp hd;have o:=mR p hp;refine⟨rfl,⟨p.1,rfl,o.len,_,by rw[o.nm],?_⟩⟩;refine Au (c:=decide ((1:Int)<=p.2.1)) (dR o.l1) ⟨_,by rw[dR (show p.2.1<=3 from o.l2)],?_⟩;refine Au (c:=decide ((0:Int)<=p.2.2)) (dR o.r1) ⟨_,by rw[dR (show p.2.2<=9 from o.r2)],?_⟩;exact WB _ _ ⟨rfl,_,_,_,rfl⟩
 .rintro δ M' ⟨rfl,x,y,z,rfl⟩
  exact⟨M,.refl,q⟩
def AF:Fq P w K mg base 3 a.bc Ax:=by
 refine fq G.bc.toDG tS (λr u=>⟨_,(pb (pM (pI (sJ G) r G.m (rW (qh u (pQ qu rfl G.g qp (qc v0)) (sy rfl G.cK)) pq)))
 (pf (uB e9 rfl (qH v0) (uz (n:=3) rfl (qe (qZ 2 tS) (qe (qZ 3 tS) (qe (qZ 4 tS) sS))))
 (pb (pM (pI (sJ G) r G.m (rW (pI (Cf G) r G.ae (qc U2)) pq)))
 (pb (pM (pI (sJ G) r G.m (rW (qh u U3 (sy rfl G.cL)) pq)))
 (pf (pM (pI (sJ G) r G.m (rW (pI (zJ G) r G.O (qT v4 U1 (sy rfl G.cM))) pq))))))))),?_⟩)
 rintro ds M Q ⟨r,gs,pl,pn,rfl,Xa,hp,h3,mR,q⟩
 have el:((gs.map qY).length:Int)=gs.length:=by rw[cT]
 refine i' Xa ⟨_,by rw[dR (show((gs.map qY).length:Int)<=3 by omega)],i' Xa ?_⟩;refine A7 (λδ M'=>M=M'/\∃x y z,δ=[some (.ref r),some (.ref pl),x,y,z]) (λδ M' j=>by rw[<-j.1];exact Xa) _ _ _ ⟨rfl,none,none,none,rfl⟩ ?_ ?_
 .rintro d hd δ M' ⟨rfl,x,y,z,rfl⟩ nx WB
  obtain⟨g,hg,rfl⟩:=dB.mp hd;have o:=mR g hg;refine⟨rfl,⟨g.1,rfl,o.len,_,by rw[o.nm],?_⟩⟩;have hm:inD (.str g.2.1) [.str "all",.str "turns"]=true:=by rcases o.man with e|e<;>(rw[e];rfl)
  refine⟨rfl,rfl,.str "a group's manner is all or turns",eP (λb=>[D.bl b,D.str "a group's manner is all or turns"]) hm,?_⟩;refine⟨g.2.2,pn,pl,4,rfl,hp,o.oZ,_,by rw[o.mem],?_⟩;exact WB _ _ ⟨rfl,_,_,_,rfl⟩
 .rintro δ M' ⟨rfl,x,y,z,rfl⟩
  exact⟨M,.refl,q⟩
def CF:Fq P w K mg base 4 a.be CZ:=by
 refine fq G.be.toDG tN (λr u=>⟨_,(pb (pM (pI (sJ G) r G.m (rW (L8 G.bY rfl (pE v0 pk)) pq)))
 (pb (pJ 3 tN (Kh G.bY rfl (pE v0 pk)))
 (pb (pJ 4 tN (sj v0 (sI pk) tD))
 (pb (pM (pI (sJ G) r G.m (rW (qh u (pQ qu rfl G.g qp (qc v4)) (pQ qu rfl G.g qp (qc U3))) pq)))
 (pb (uB e9 rfl (RQ rfl G.cF (rW U3 v4)) (uz (n:=2) rfl (qe (qZ 5 tN) (qe (qZ 6 tN) sS)))
 (pf (pM (pI (sJ G) r G.m (rW (pI (Px G) r G.bd (pR v5 (qT v6 U1 U2))) pq)))))
 (pb (pN (pF u (sj U3 tD (sI pk)) (pK (rW pq pq)))
 (pf (pM (pI (sJ G) r G.m (rW (qh u (pE v4 pk) (pE v4 pk)) pq))))
 pH)
 (pf (pN (pF u (sj U3 (sI pk) tD) (pK (rW pq pq)))
 (pf (pM (pI (sJ G) r G.m (rW (qh u (pE v4 pk) (pE v4 pk)) pq))))
 pH)))))))),?_⟩)
 rintro ds M Q ⟨v,pl,nl,pn,nm,rfl,hp,hn,ok,q⟩
 have part:∀{k:Str} {d:D} {C:DK},xo pn nm k d->C (.bl true) M->IB [.str k,d,.ref pl,.ref nl] M C:=λo c=>⟨_,_,pl,nl,pn,nm,rfl,hp,hn,o,c⟩;have need:∀{x:D} {C:DK},C .mM M->Ia [.bl true,x] M C:=λc=>⟨_,rfl,c⟩;have ne:∀{x y:Str},x≠y->(!(x==y))=true:=λh=>by simpa using h
 have nei:∀{x y:Int},x≠y->(!(x==y))=true:=λh=>by simpa using h
 have Wt:∃Wu,qw Wu M/\Q .mM Wu:=⟨M,.refl,q⟩;cases v with
 | bar x ns=>obtain⟨h1,h2,h3⟩:=ok;refine⟨_,rfl,_,rfl,?_⟩;refine⟨rfl,_,_,pl,nl,pn,nm,rfl,hp,hn,.m8 x h1,_,rfl,trivial,⟨rfl,_,_,pl,nl,pn,nm,rfl,hp,hn,.names ns h2 h3,_,rfl,trivial,?_⟩⟩;exact⟨oZ rfl,oZ rfl,Wt⟩
 | shut x ns=>obtain⟨h1,h2,h3⟩:=ok;refine⟨_,rfl,_,rfl,?_⟩;refine⟨rfl,_,_,pl,nl,pn,nm,rfl,hp,hn,.name x h1,_,rfl,trivial,⟨rfl,_,_,pl,nl,pn,nm,rfl,hp,hn,.mJ ns h2 h3,_,rfl,trivial,?_⟩⟩;exact⟨oZ rfl,oZ rfl,Wt⟩
 | always x y=>obtain⟨h1,h2,h3⟩:=ok;refine⟨_,rfl,_,rfl,?_⟩;refine⟨rfl,_,_,pl,nl,pn,nm,rfl,hp,hn,.name x h1,_,rfl,trivial,⟨rfl,_,_,pl,nl,pn,nm,rfl,hp,hn,.name y h2,_,rfl,trivial,?_⟩⟩;refine⟨oZ rfl,⟨_,by rw[ne h3],?_⟩⟩;exact⟨oZ rfl,Wt⟩
 | night x y f l=>obtain⟨h1,h2,h3,h4,h5,h6⟩:=ok;refine⟨_,rfl,_,rfl,?_⟩;refine⟨rfl,_,_,pl,nl,pn,nm,rfl,hp,hn,.name x h1,_,rfl,trivial,⟨rfl,_,_,pl,nl,pn,nm,rfl,hp,hn,.name y h2,_,rfl,trivial,⟨rfl,_,_,pl,nl,pn,nm,rfl,hp,hn,.hour f h4.1 h4.2,_,rfl,trivial,⟨rfl,_,_,pl,nl,pn,nm,rfl,hp,hn,.hour l h5.1 h5.2,_,rfl,trivial,?_⟩⟩⟩⟩;refine⟨oZ rfl,⟨_,by rw[ne h3],?_⟩⟩;refine⟨oZ rfl,⟨_,by rw[nei h6],?_⟩⟩;exact Wt
 | busy x y=>obtain⟨h1,h2,h3⟩:=ok;refine⟨_,rfl,_,rfl,?_⟩;refine⟨rfl,_,_,pl,nl,pn,nm,rfl,hp,hn,.name x h1,_,rfl,trivial,⟨rfl,_,_,pl,nl,pn,nm,rfl,hp,hn,.name y h2,_,rfl,trivial,?_⟩⟩;refine⟨oZ rfl,⟨_,by rw[ne h3],?_⟩⟩;exact⟨oZ rfl,Wt⟩
 | silent x y n=>obtain⟨h1,h2,h3,h4,h5⟩:=ok;refine⟨_,rfl,_,rfl,?_⟩;refine⟨rfl,_,_,pl,nl,pn,nm,rfl,hp,hn,.name x h1,_,rfl,trivial,⟨rfl,_,_,pl,nl,pn,nm,rfl,hp,hn,.name y h2,_,rfl,trivial,⟨rfl,_,_,pl,nl,pn,nm,rfl,hp,hn,.turns n h4 h5,_,rfl,trivial,?_⟩⟩⟩;refine⟨oZ rfl,⟨_,by rw[ne h3],?_⟩⟩;exact⟨oZ rfl,Wt⟩
 | wait x=>refine⟨_,rfl,_,rfl,?_⟩;refine⟨rfl,_,_,pl,nl,pn,nm,rfl,hp,hn,.m8 x ok,_,rfl,trivial,?_⟩;exact⟨oZ rfl,oZ rfl,Wt⟩
 | breaks x=>refine⟨_,rfl,_,rfl,?_⟩;refine⟨rfl,_,_,pl,nl,pn,nm,rfl,hp,hn,.m8 x ok,_,rfl,trivial,?_⟩;exact⟨oZ rfl,oZ rfl,Wt⟩
def AC:Fq P w K mg base 5 a.bf AV:=by
 refine fq G.bf.toDG uO (λr u=>⟨_,(pb (pM (pI (sJ G) r G.m (rW (qh u (pQ qu rfl G.g qp (qc v0)) (sy rfl G.cN)) pq)))
 (pf (uB e9 rfl (qH v0) (uz (n:=2) rfl (qe (qZ 3 uO) (qe (qZ 4 uO) sS)))
 (pf (pM (pI (CF G) r G.be (qT v4 U1 U2))))))),?_⟩)
 rintro ds M Q ⟨r,ws,pl,nl,pn,nm,rfl,Xa,hp,hn,h16,mR,q⟩
 have el:((ws.map xf).length:Int)=ws.length:=by rw[cT]
 refine i' Xa ⟨_,by rw[dR (show((ws.map xf).length:Int)<=16 by omega)],i' Xa ?_⟩;refine A7 (λδ M'=>M=M'/\∃x y,δ=[some (.ref r),some (.ref pl),some (.ref nl),x,y]) (λδ M' j=>by rw[<-j.1];exact Xa) _ _ _ ⟨rfl,none,none,rfl⟩ ?_ ?_
 .rintro d hd δ M' ⟨rfl,x,y,rfl⟩ nx WB
  obtain⟨v,hv,rfl⟩:=dB.mp hd;exact⟨rfl,⟨v.2,pl,nl,pn,nm,rfl,hp,hn,mR v hv,WB _ _ ⟨rfl,_,_,rfl⟩⟩⟩
 .rintro δ M' ⟨rfl,x,y,rfl⟩
  exact⟨M,.refl,q⟩
structure pG where
 mJ:List uA
 groups:List tW
 mI:List vq
noncomputable def pG.pn(l:pG):QQQ:=l.mJ.map (·.1)
noncomputable def pG.gn(l:pG):QQQ:=l.groups.map (·.1)
noncomputable def pG.nm(l:pG):QQQ:=l.pn++l.gn
structure rM(l:pG):Prop where
 p1:1<=l.mJ.length
 p8:l.mJ.length<=8
 po:∀p∈l.mJ,Eo p
 g3:l.groups.length<=3
 go:∀g∈l.groups,Er l.pn g
 nd:l.nm.Nodup
 w16:l.mI.length<=16
 wo:∀w∈l.mI,Bp l.pn l.nm w.2
def DC{ss:QQQ}(h:ss.Nodup):wU ss=true:=by unfold wU;rw[HF ss h];simp
def C0:rh:=λds M Q=>BK λr1 r2 r3 (l:pG)=>ds=[.ref r1,.ref r2,.ref r3]/\oR M r1=some (l.mJ.map qV)/\oR M r2=some (l.groups.map qY)/\oR M r3=some (l.mI.map xf)/\rM l/\Q .mM M
noncomputable def AO:D->D
 | .tup (x::_)=>x
 | _=>.mM
def wR(ps:List uA):(ps.map qV).map AO=(ps.map (·.1)).map D.str:=by rw[d6,d6];rfl
def wJ(ps:List tW):(ps.map qY).map AO=(ps.map (·.1)).map D.str:=by rw[d6,d6];rfl
def CS:Fq P w K mg base 6 a.bg C0:=by
 refine fq G.bg.toDG vR (λr u=>⟨_,(pb (pM (pI (AQ G) r G.bb (qc v0)))
 (pb (vt (i:=3) vR.nd rfl (Or.inl rfl) rfl (yh (ix:=[none]) (N':=["phone"])) (qH v0) (qF 0) rO (pE v0 pk))
 (pb (pM (pI (AF G) r G.bc (rW U1 U3)))
 (pb (pJ 4 vR (pT U3 (qJ rfl (yh (ix:=[none]) (N':=["group"])) (qH U1) (qF 0) rO (pE v0 pk))))
 (pb (pM (pI (sJ G) r G.m (rW (pI (Du G) r G.af (qc v4)) pq)))
 (pf (pM (pI (AC G) r G.bf (qT U2 U3 v4))))))))),?_⟩)
 rintro ds M Q ⟨r1,r2,r3,l,rfl,h1,h2,h3,ok,q⟩
 have hz:=dO;have l1:=ok.p8;have l2:=ok.g3;refine⟨r1,l.mJ,rfl,h1,ok.p1,ok.p8,ok.po,i' h1 ?_⟩;refine qX (f:=AO) h1 _ [] _ (by rw[cT];simp only[dM];omega) (λd hd k hk=>?_) λp hp=>?_
 .obtain⟨x,_,rfl⟩:=dB.mp hd;exact hk
 rw[dY,wR];have s1:=qw.new (c:=.lst ((l.mJ.map (·.1)).map D.str)) hp;have lp:oR (pD M p (.lst ((l.mJ.map (·.1)).map D.str))) p=some (l.pn.map D.str):=pC;generalize pD M p (.lst ((l.mJ.map (·.1)).map D.str))=M1 at s1 lp ⊢;refine⟨r2,l.groups,p,l.pn,rfl,s1.lst h2,lp,ok.g3,ok.go,?_⟩;refine i' (s1.lst h2) (qX (f:=AO) (s1.lst h2) _ [] _ (by rw[cT];simp only[dM];omega) (λd hd k hk=>?_) λp2 WD=>?_)
 .obtain⟨x,_,rfl⟩:=dB.mp hd;exact hk
 rw[dY,wJ];have s2:=qw.new (c:=.lst ((l.groups.map (·.1)).map D.str)) WD;refine i' (s2.lst lp) (i' pC ⟨?_,λp3 hp3=>?_⟩)
 .rw[cT,cT,cT];show(l.mJ.map (·.1)).length+_<=_;rw[cT];omega
 have en:l.pn.map D.str++(l.groups.map (·.1)).map D.str=l.nm.map D.str:=by unfold pG.nm;rw[dF];rfl
 rw[en];have s3:=s2.trans (qw.new (c:=.lst (l.nm.map D.str)) hp3);have l3:=@pC (pD M1 p2 (.lst ((l.groups.map (·.1)).map D.str))) p3 (l.nm.map D.str);generalize pD (pD M1 p2 (.lst ((l.groups.map (·.1)).map D.str))) p3 (.lst (l.nm.map D.str))=M3 at s3 l3 ⊢;have ln:l.nm.length<4000:=by unfold pG.nm pG.pn pG.gn;rw[cV,cT,cT];omega
 refine⟨_,l.nm,rfl,.inr ⟨p3,rfl,l3⟩,ln,_,by rw[DC ok.nd],?_⟩;exact⟨r3,l.mI,p,p3,l.pn,l.nm,rfl,s3.lst (s1.lst h3),s3.lst lp,l3,ok.w16,ok.wo,M,s1.trans s3,q⟩
noncomputable def Qs(ph gr ws on pr gd:Addr):List (Str×D):=[("phones",.ref ph),("groups",.ref gr),("wishes",.ref ws),("on",.ref on),("phone_rows",.ref pr),("group_rows",.ref gd)]
noncomputable def RK(l:pG):List (rf×D):=l.mJ.map λp=>(Sum.inr p.1,qV p)
noncomputable def Hw(l:pG):List (rf×D):=l.groups.map λg=>(Sum.inr g.1,qY g)
def sE(a:Ad)(M:Mp)(rs:QXQ)(ws:List vq):Prop:=rs.length=ws.length/\∀(i:Nat) (r:Addr) (v:vq),rs[i]?=some r->ws[i]?=some v->M r=some (.ins (v.2.cls a) v.2.nI)
def sW(a:Ad)(M:Mp)(p:Addr)(l:pG):Prop:=Sl λph gr ws on pr gd (rs:QXQ)=>M p=some (.ins a.h (Qs ph gr ws on pr gd))/\oR M ph=some (l.mJ.map qV)/\oR M gr=some (l.groups.map qY)/\
 oR M ws=some (rs.map D.ref)/\oR M on=some (l.mI.map λw=>D.bl w.1)/\zG M pr=some (RK l)/\zG M gd=some (Hw l)/\sE a M rs l.mI
def sE.keep{a:Ad}{M M':Mp}{p:Addr}{rs:QXQ}{ws:List vq}(h:sE a M rs ws)(k:rV p M M')(n:∀r∈rs,r≠p):sE a M' rs ws:=⟨h.1,λi r v e1 e2=>k r _ (n r (fO e1)) (h.2 i r v e1 e2)⟩
def sE.sub{a:Ad}{M M':Mp}{rs:QXQ}{ws:List vq}(h:sE a M rs ws)(k:qw M M'):sE a M' rs ws:=⟨h.1,λi r v e1 e2=>k r _ (h.2 i r v e1 e2)⟩
def sW.sub{a:Ad}{M M':Mp}{p:Addr}{l:pG}(h:sW a M p l)(s:qw M M'):sW a M' p l:=by obtain⟨ph,gr,ws,on,pr,gd,rs,h1,h2,h3,h4,h5,h6,h7,h8⟩:=h;exact⟨ph,gr,ws,on,pr,gd,rs,s _ _ h1,s.lst h2,s.lst h3,s.lst h4,s.lst h5,s.dk h6,s.dk h7,h8.sub s⟩
def Nq(a:Ad):rh:=λds M Q=>GG λp r1 r2 r3 (l:pG)=>ds=[.ref p,.ref r1,.ref r2,.ref r3]/\M p=some (.ins a.h [])/\oR M r1=some (l.mJ.map qV)/\oR M r2=some (l.groups.map qY)/\oR M r3=some (l.mI.map xf)/\rM l/\
 ∀M',rV p M M'->sW a M' p l->(∀Wu,(∀b c,(b=p\/M b=none)->M' b=some c->Wu b=some c)->sW a Wu p l)->Q .mM M'
def rF{M N:Mp}{p x:Addr}{c:uN}(k:rV p M N)(hp:N p=some c)(h:N x=none):M x=none:=by
 cases e:M x with
 | none=>rfl
 | some d=>
  have n:x≠p:=λz=>by rw[z,hp]at h;cases h
  rw[k x d n e]at h;cases h
def zv{M:Mp}{a:Addr}{es:List (rf×D)}(h:zG M a=some es):M a=some (.dk es):=by
 unfold zG at h;split at h
 .rename_i e;rw[e];cases h;rfl
 .cases h
theorem wA{α:Type}(f:α->Str)(g:α->D):∀l:List α,wN (l.map λx=>D.tup [.str (f x),g x])=some (l.map λx=>(Sum.inr (f x),g x))
 | []=>rfl
 | x::r=>by show(wN (r.map λx=>D.tup [.str (f x),g x])).map ((Sum.inr (f x),g x)::·)=_;rw[wA f g r];rfl
def Ju{ss:QQQ}(h:ss.Nodup):(ss.map λx=>(Sum.inr x:rf)).Nodup:=by
 induction ss with
 | nil=>exact eI
 | cons x r ih=>obtain⟨h1,h2⟩:=dQ.mp h;rw[dS];refine dQ.mpr ⟨λz=>h1 ?_,ih h2⟩;obtain⟨y,hy,e⟩:=dB.mp z;cases e;exact hy
def yH{α:Type}{f:α->Str}{g:α->D}{l:List α}(h:(l.map f).Nodup):((l.map λx=>((Sum.inr (f x):rf),g x)).map (·.1)).Nodup:=by rw[d6];have:=Ju h;rw[d6]at this;exact this
noncomputable def A9(d:D):D:=.tup [AO d,d]
noncomputable def VR:D->D
 | .tup (x::_)=>x
 | _=>.mM
def QF(ws:List vq):(ws.map xf).map VR=ws.map λw=>D.bl w.1:=by rw[d6];rfl
def FY(ps:List uA):(ps.map qV).map A9=ps.map λp=>D.tup [.str p.1,qV p]:=by rw[d6];rfl
def FZ(ps:List tW):(ps.map qY).map A9=ps.map λp=>D.tup [.str p.1,qY p]:=by rw[d6];rfl
def sE.snoc{a:Ad}{M:Mp}{rs:QXQ}{ws:List vq}{r:Addr}{v:vq}(h:sE a M rs ws)(n:M r=none):sE a (pD M r (.ins (v.2.cls a) v.2.nI)) (rs++[r]) (ws++[v]):=by
 refine⟨by rw[cV,cV,h.1];rfl,λi r' v' e1 e2=>?_⟩;by_cases hi:i<rs.length
 .rw[eO hi]at e1;rw[eO (by rw[<-h.1];exact hi)]at e2;have:=h.2 i r' v' e1 e2;rw[uq (OI this n)];exact this
 .have Ym:i=rs.length:=by have:=(cX.mp e1).1;rw[cV,dP]at this;omega
  subst Ym;rw[eB (dg _)]at e1;rw[h.1,eB (dg _)]at e2;simp only[fW,iA,jo]at e1 e2;subst e1 e2;exact pP
def Ob:Fq P w K mg base 7 a.aj (Nq a):=by
 refine fq G.aj.toDG Em (λr u=>⟨_,(pb (pM (pI (CS G) r G.bg (qT U1 U2 U3)))
 (pb (pX v0 (qx tU rfl G.y tQ (qc U1)))
 (pb (pX v0 (qx tU rfl G.y tQ (qc U2)))
 (pb (pX v0 (qJ rfl (yh (ix:=[none,none]) (N':=["on","wish"])) (qH U3) (uz (n:=2) rfl (qe (qF 0) (qe (qF 1) sS))) rO (pI (G0 G) r G.ba (qc U1))))
 (pb (pX v0 (qJ rfl (yh (ix:=[none,none]) (N':=["on","wish"])) (qH U3) (uz (n:=2) rfl (qe (qF 0) (qe (qF 1) sS))) rO v0))
 (pb (pX v0 (qx (E8 rfl) rfl G.bS EO (qc (qJ rfl (yh (ix:=[none]) (N':=["phone"])) (qH U1) (qF 0) rO (pK (rW (pE v0 pk) v0))))))
 (pf (pX v0 (qx (E8 rfl) rfl G.bS EO (qc (qJ rfl (yh (ix:=[none]) (N':=["group"])) (qH U2) (qF 0) rO (pK (rW (pE v0 pk) v0))))))))))))),?_⟩)
 rintro ds M Q ⟨p,r1,r2,r3,l,rfl,hp,h1,h2,h3,ok,q⟩
 have hz:=dO;have l1:=ok.p8;have l2:=ok.g3;have l3:=ok.w16;refine⟨r1,r2,r3,l,rfl,h1,h2,h3,ok,?_⟩;refine i' h1 λph hph=>?_;obtain⟨n1,e1,k1,c1,p1⟩:=sQ (fs':=[("phones",.ref ph)]) (c:=.lst (l.mJ.map qV)) hp hph;refine pj e1 ⟨(G.Y "phones" rfl),by show 0<1000;decide,?_⟩;show ud _ _ _ _ (pD (pD M ph (.lst (l.mJ.map qV))) p (.ins a.h [("phones",.ref ph)]));generalize pD (pD M ph (.lst (l.mJ.map qV))) p (.ins a.h [("phones",.ref ph)])=N1 at k1 c1 p1 ⊢;have W9:=k1.lst (pS h1 hp) h1;have h2':=k1.lst (pS h2 hp) h2;have Y3:=k1.lst (pS h3 hp) h3;have f1:oR N1 ph=some (l.mJ.map qV):=sG c1;refine i' h2' λgr hgr=>?_;obtain⟨n2,e2,k2,c2,p2⟩:=sQ (fs':=[("phones",.ref ph),("groups",.ref gr)]) (c:=.lst (l.groups.map qY)) p1 hgr;refine pj e2 ⟨(G.Y "groups" rfl),by show 1<1000;decide,?_⟩;show ud _ _ _ _ (pD (pD N1 gr (.lst (l.groups.map qY))) p (.ins a.h [("phones",.ref ph),("groups",.ref gr)]));generalize pD (pD N1 gr (.lst (l.groups.map qY))) p (.ins a.h [("phones",.ref ph),("groups",.ref gr)])=N2 at k2 c2 p2 ⊢;have g1:=k2.lst (pS W9 p1) W9;have g2:=k2.lst (pS h2' p1) h2';have g3:=k2.lst (pS Y3 p1) Y3;have f2:=k2.lst (pS f1 p1) f1;have f3:oR N2 gr=some (l.groups.map qY):=sG c2;have kk2:=k1.trans k2;have m2:M gr=none:=rF k1 p1 hgr;clear W9 h2' Y3 f1 c1 c2 k1 k2 e1 e2;refine i' g3 ?_;refine D0 (l.mI.map xf) (λpre acc δ Mx=>(∃x y,δ=[x,y])/\qw N2 Mx/\∃rs:QXQ,acc=rs.map D.ref/\(∀r∈rs,N2 r=none)/\sE a Mx rs (l.mI.take pre.length)) (λpre acc δ Mx j=>j.2.1.lst g3) _ [] [] _ _ rfl (by rw[cT];simp only[dM];omega) ⟨⟨none,none,rfl⟩,.refl,[],rfl,λr hr=>absurd hr (dC),rfl,λi r v e=>by simp at e⟩ ?_ ?_
 .rintro pre d post e acc δ Mx ⟨⟨x,y,rfl⟩,sx,rs,rfl,fr,wa⟩ k hk
  obtain⟨v,hv,rfl⟩:∃v,l.mI[pre.length]?=some v/\d=xf v:=by
   have:(l.mI.map xf)[pre.length]?=some d:=by rw[<-e];simp
   rw[dA]at this;cases z:l.mI[pre.length]? with
   | none=>rw[z]at this;cases this
   | some v=>rw[z]at this;exact⟨v,rfl,(dh this).symm⟩
  refine⟨rfl,⟨v.2,rfl,λr hr=>hk _ _ _ ⟨⟨_,_,rfl⟩,sx.trans (.new hr),rs++[r],?_,λr' hr'=>?_,?_⟩⟩⟩
  .rw[dF];rfl
  .rcases dX.mp hr' with z|z
   .exact fr r' z
   .rw[dq.mp z];exact sx.none hr
  .rw[cV,dP,gj,hv];exact wa.snoc hr
 rintro acc δ Mx ⟨⟨x,y,rfl⟩,sx,rs,rfl,fr,wa⟩ ws hws
 have wa:sE a Mx rs l.mI:=by rw[cT,fD]at wa;exact wa
 obtain⟨n3,e3,k3,c3,p3⟩:=sQ (fs':=[("phones",.ref ph),("groups",.ref gr),("wishes",.ref ws)]) (c:=.lst (rs.map D.ref)) (sx _ _ p2) hws;refine pj e3 ⟨(G.Y "wishes" rfl),by show 2<1000;decide,?_⟩;show ud _ _ _ _ (pD (pD Mx ws (.lst (rs.map D.ref))) p (.ins a.h [("phones",.ref ph),("groups",.ref gr),("wishes",.ref ws)]));generalize pD (pD Mx ws (.lst (rs.map D.ref))) p (.ins a.h [("phones",.ref ph),("groups",.ref gr),("wishes",.ref ws)])=N3 at k3 c3 p3 ⊢;have px:=sx _ _ p2;have i1:=k3.lst (pS (sx.lst g1) px) (sx.lst g1);have i2:=k3.lst (pS (sx.lst g2) px) (sx.lst g2);have i3:=k3.lst (pS (sx.lst g3) px) (sx.lst g3);have f4:=k3.lst (pS (sx.lst f2) px) (sx.lst f2);have f5:=k3.lst (pS (sx.lst f3) px) (sx.lst f3);have f6:oR N3 ws=some (rs.map D.ref):=sG c3;have rp:∀r∈rs,r≠p:=λr hr z=>by have:=fr r hr;rw[z,p2]at this;cases this
 have w3:=wa.keep k3 rp;have kk3:=(kk2.trans sx.keep).trans k3;have m3:M ws=none:=rF (kk2.trans sx.keep) px hws;have mr:∀r∈rs,M r=none:=λr hr=>rF kk2 p2 (fr r hr);clear g1 g2 g3 f2 f3 c3 k3 e3 wa px kk2;refine i' i3 (BM (f:=VR) (λδ=>∃x y,δ=[x,y]) i3 _ [] _ ⟨none,none,rfl⟩ (by rw[cT];simp only[dM];omega) (λd hd δ hj k hk=>?_) λon ZC=>?_)
 .obtain⟨x,y,rfl⟩:=hj;obtain⟨v,_,rfl⟩:=dB.mp hd;exact⟨rfl,hk _ ⟨_,_,rfl⟩⟩
 rw[dY,QF];obtain⟨n4,e4,k4,c4,p4⟩:=sQ (fs':=[("phones",.ref ph),("groups",.ref gr),("wishes",.ref ws),("on",.ref on)]) (c:=.lst (l.mI.map λw=>D.bl w.1)) p3 ZC;refine pj e4 ⟨(G.Y "on" rfl),by show 3<1000;decide,?_⟩;show ud _ _ _ _ (pD (pD N3 on (.lst (l.mI.map λw=>D.bl w.1))) p (.ins a.h [("phones",.ref ph),("groups",.ref gr),("wishes",.ref ws),("on",.ref on)]));generalize pD (pD N3 on (.lst (l.mI.map λw=>D.bl w.1))) p (.ins a.h [("phones",.ref ph),("groups",.ref gr),("wishes",.ref ws),("on",.ref on)])=N4 at k4 c4 p4 ⊢;have j1:=k4.lst (pS i1 p3) i1;have j2:=k4.lst (pS i2 p3) i2;have f7:=k4.lst (pS f4 p3) f4;have f8:=k4.lst (pS f5 p3) f5;have f9:=k4.lst (pS f6 p3) f6;have fa:oR N4 on=some (l.mI.map λw=>D.bl w.1):=sG c4;have w4:=w3.keep k4 rp;have Yr:=kk3.trans k4;have m4:M on=none:=rF kk3 p3 ZC;clear i1 i2 i3 f4 f5 f6 c4 k4 e4 w3 kk3;refine i' j1 (qX (f:=A9) j1 _ [] _ (by rw[cT];simp only[dM];omega) (λd hd k hk=>?_) λq1 Xl=>?_)
 .obtain⟨v,_,rfl⟩:=dB.mp hd;exact⟨oZ rfl,hk⟩
 rw[dY,FY];have Y4:=qw.new (c:=.lst (l.mJ.map λp=>D.tup [.str p.1,qV p])) Xl;refine i' pC (i' (wA (λp:uA=>p.1) qV l.mJ) ⟨yH (iu (List.sublist_append_left _ _) ok.nd),λpr hpr=>?_⟩);obtain⟨n5,e5,k5,c5,p5⟩:=sQ (fs':=[("phones",.ref ph),("groups",.ref gr),("wishes",.ref ws),("on",.ref on),("phone_rows",.ref pr)]) (c:=.dk (l.mJ.map λx=>(Sum.inr x.1,qV x))) (Y4 _ _ p4) hpr;refine pj e5 ⟨(G.Y "phone_rows" rfl),by show 4<1000;decide,?_⟩;have k5:=Y4.keep.trans k5;have Yg:vT "phone_rows" (.ref pr) [("phones",.ref ph),("groups",.ref gr),("wishes",.ref ws),("on",.ref on)]=([("phones",.ref ph),("groups",.ref gr),("wishes",.ref ws),("on",.ref on),("phone_rows",.ref pr)]:List (Str×D)):=rfl;rw[Yg];generalize pD (pD (pD N4 q1 (.lst (l.mJ.map λp=>D.tup [.str p.1,qV p]))) pr (.dk (l.mJ.map λx=>(Sum.inr x.1,qV x)))) p (.ins a.h [("phones",.ref ph),("groups",.ref gr),("wishes",.ref ws),("on",.ref on),("phone_rows",.ref pr)])=N5 at k5 c5 p5 ⊢;have mm:=k5.lst (pS j2 p4) j2;have fb:=k5.lst (pS f7 p4) f7;have fc:=k5.lst (pS f8 p4) f8;have fd:=k5.lst (pS f9 p4) f9;have fe:=k5.lst (pS fa p4) fa;have ff:zG N5 pr=some (RK l):=DP c5;have w5:=w4.keep k5 rp;have Ys:=Yr.trans k5;have m5:M pr=none:=rF (Yr.trans Y4.keep) (Y4 _ _ p4) hpr;clear j1 j2 f7 f8 f9 fa c5 k5 e5 w4 Yr;refine i' mm (qX (f:=A9) mm _ [] _ (by rw[cT];simp only[dM];omega) (λd hd k hk=>?_) λq2 YJ=>?_)
 .obtain⟨v,_,rfl⟩:=dB.mp hd;exact⟨oZ rfl,hk⟩
 rw[dY,FZ];have sq2:=qw.new (c:=.lst (l.groups.map λg=>D.tup [.str g.1,qY g])) YJ;refine i' pC (i' (wA (λp:tW=>p.1) qY l.groups) ⟨yH (iu (jt _ _) ok.nd),λgd hgd=>?_⟩);obtain⟨n6,e6,k6,c6,p6⟩:=sQ (fs':=Qs ph gr ws on pr gd) (c:=.dk (Hw l)) (sq2 _ _ p5) hgd;have k6:=sq2.keep.trans k6;refine pj e6 ⟨(G.Y "group_rows" rfl),by show 5<1000;decide,_,.refl,?_⟩;have m6:M gd=none:=rF (Ys.trans sq2.keep) (sq2 _ _ p5) hgd;have w6:=w5.keep k6 rp;have y1:=k6.lst (pS fb p5) fb;have y2:=k6.lst (pS fc p5) fc;have y3:=k6.lst (pS fd p5) fd;have y4:=k6.lst (pS fe p5) fe;have y5:=k6.dk (BC ff p5) ff;refine q _ (Ys.trans k6) ⟨ph,gr,ws,on,pr,gd,rs,p6,y1,y2,y3,y4,y5,DP c6,w6⟩ λWu hs=>?_;exact⟨ph,gr,ws,on,pr,gd,rs,hs _ _ (.inl rfl) p6,sG (hs _ _ (.inr hph) (qg y1)),sG (hs _ _ (.inr m2) (qg y2)),sG (hs _ _ (.inr m3) (qg y3)),sG (hs _ _ (.inr m4) (qg y4)),DP (hs _ _ (.inr m5) (zv y5)),DP (hs _ _ (.inr m6) c6),w6.1,λi r v e1 e2=>hs _ _ (.inr (mr r (fO e1))) (w6.2 i r v e1 e2)⟩
theorem yc{α:Type}(f:α->Str)(g:α->D)(k:Str):∀l:List α,vw (l.map λx=>((Sum.inr (f x):rf),g x)) (Sum.inr k)=(l.find? λx=>decide (f x=k)).map g
 | []=>rfl
 | x::r=>by
  have ih:=yc f g k r;unfold vw at ih ⊢;rw[dS,fG,fG];by_cases h:f x=k
  .have h':decide ((Sum.inr (f x):rf)=Sum.inr k)=true:=dR (by rw[h]);simp[h]
  .have h':¬(Sum.inr (f x):rf)=Sum.inr k:=λz=>h (jV z);simp only[h,h',decide_false];exact ih
noncomputable def pG.m8(l:pG)(x:Str):Option uA:=l.mJ.find? λp=>decide (p.1=x)
noncomputable def pG.group(l:pG)(x:Str):Option tW:=l.groups.find? λg=>decide (g.1=x)
noncomputable def pG.mG(l:pG)(x:Str):QQQ:=(l.group x).elim [x] λg=>g.2.2
noncomputable def pG.mO(l:pG)(x:Str):Str:=(l.group x).elim "one" λg=>g.2.1
def FQ(l:pG)(x:Str):vw (RK l) (Sum.inr x)=(l.m8 x).map qV:=yc (λp:uA=>p.1) qV x l.mJ
def wb(l:pG)(x:Str):vw (Hw l) (Sum.inr x)=(l.group x).map qY:=yc (λp:tW=>p.1) qY x l.groups
def yt(a:Ad):rh:=λds M Q=>B1 λp (l:pG)=>ds=[.ref p]/\sW a M p l/\l.mJ.length<=100/\∀q,M q=none->Q (.ref q) (pD M q (.lst (l.pn.map D.str)))
def El(a:Ad):rh:=λds M Q=>B1 λp (l:pG)=>ds=[.ref p]/\sW a M p l/\l.mJ.length<=100/\l.groups.length<=100/\∀q,M q=none->Q (.ref q) (pD M q (.lst (l.nm.map D.str)))
def D4(a:Ad):rh:=λds M Q=>BK λp x v (l:pG)=>ds=[.ref p,.str x]/\sW a M p l/\l.m8 x=some v/\Q (.int v.2.1) M
def FE(a:Ad):rh:=λds M Q=>BK λp x v (l:pG)=>ds=[.ref p,.str x]/\sW a M p l/\l.m8 x=some v/\Q (.int v.2.2) M
def zO(a:Ad):rh:=λds M Q=>Df λp x (l:pG)=>ds=[.ref p,.str x]/\sW a M p l/\∀q,M q=none->Q (.ref q) (pD M q (.lst ((l.mG x).map D.str)))
def CY(a:Ad):rh:=λds M Q=>Df λp x (l:pG)=>ds=[.ref p,.str x]/\sW a M p l/\Q (.str (l.mO x)) M
def tK:Fq P w K mg base 1 a.R (yt a):=by
 refine fq G.R.toDG yi (λr u=>⟨_,(pf (pA (qJ rfl (yh (ix:=[none]) (N':=["phone"])) (qH (pB v0)) (qF 0) rO (pE v0 pk)))),?_⟩)
 rintro ds M Q ⟨p,l,rfl,hp,hl,q⟩
 have hz:=dO;obtain⟨ph,gr,ws,on,pr,gd,rs,h1,h2,h3,h4,h5,h6,h7,h8⟩:=hp;refine pj h1 (i' rfl (i' h2 ?_));refine qX (f:=AO) h2 _ [] _ (by rw[cT];simp only[dM];omega) (λd hd k hk=>?_) λq1 Xl=>?_
 .obtain⟨x,_,rfl⟩:=dB.mp hd;exact hk
 rw[dY,wR];exact⟨_,.refl,q q1 Xl⟩
def CK:Fq P w K mg base 2 a.bB (El a):=by
 refine fq G.bB.toDG Cw (λr u=>⟨_,(pf (pA (pT (xZ v0 G.h.toCls G.R (tK G) r) (qJ rfl (yh (ix:=[none]) (N':=["group"])) (qH (pB v0)) (qF 0) rO (pE v0 pk))))),?_⟩)
 rintro ds M Q ⟨p,l,rfl,hp,hl,hl2,q⟩
 have hz:=dO;have WH:=hp;obtain⟨ph,gr,ws,on,pr,gd,rs,h1,h2,h3,h4,h5,h6,h7,h8⟩:=hp;refine pj h1 ⟨rfl,_,⟨rfl,rfl⟩,p,l,rfl,WH,hl,λq1 Xl=>?_⟩;have s1:=qw.new (c:=.lst (l.pn.map D.str)) Xl;have e1:=@pC M q1 (l.pn.map D.str);generalize pD M q1 (.lst (l.pn.map D.str))=M1 at s1 e1 ⊢;have Y3:=s1.lst h3;refine pj (s1 _ _ h1) (i' rfl (i' Y3 ?_));refine qX (f:=AO) Y3 _ [] _ (by rw[cT];simp only[dM];omega) (λd hd k hk=>?_) λq2 YJ=>?_
 .obtain⟨x,_,rfl⟩:=dB.mp hd;exact hk
 rw[dY,wJ];have s2:=qw.new (c:=.lst ((l.groups.map (·.1)).map D.str)) YJ;refine i' (s2.lst e1) (i' pC ⟨?_,λq3 hq3=>?_⟩)
 .rw[cT,cT,cT];show(l.mJ.map (·.1)).length+_<=_;rw[cT];omega
 have en:l.pn.map D.str++(l.groups.map (·.1)).map D.str=l.nm.map D.str:=by unfold pG.nm;rw[dF];rfl
 rw[en];exact⟨_,(s1.trans s2).upd,q q3 ((s1.trans s2).none hq3)⟩
def De:Fq P w K mg base 1 a.bI (D4 a):=by
 refine fq G.bI.toDG C1 (λr u=>⟨_,(pf (pA (pE (yX u (pB v0) U1) pk))),?_⟩)
 rintro ds M Q ⟨p,x,v,l,rfl,hp,hv,q⟩
 obtain⟨ph,gr,ws,on,pr,gd,rs,h1,h2,h3,h4,h5,h6,h7,h8⟩:=hp;exact pj h1 (i' rfl (i' rfl (i' h6 (i' (x:=qV v) (by rw[FQ,hv];rfl) ⟨M,.refl,q⟩))))
def zp:Fq P w K mg base 1 a.aJ (FE a):=by
 refine fq G.aJ.toDG DX (λr u=>⟨_,(pf (pA (pE (yX u (pB v0) U1) pk))),?_⟩)
 rintro ds M Q ⟨p,x,v,l,rfl,hp,hv,q⟩
 obtain⟨ph,gr,ws,on,pr,gd,rs,h1,h2,h3,h4,h5,h6,h7,h8⟩:=hp;exact pj h1 (i' rfl (i' rfl (i' h6 (i' (x:=qV v) (by rw[FQ,hv];rfl) ⟨M,.refl,q⟩))))
def ui:Fq P w K mg base 1 a.S (zO a):=by
 refine fq G.S.toDG zB (λr u=>⟨_,(pb (pN (Mh u U1 (pB v0))
 (pf (pA (qx tU rfl G.y tQ (qc (pE (yX u (pB v0) U1) pk)))))
 pH)
 (pf (pA (qB (qc U1))))),?_⟩)
 rintro ds M Q ⟨p,x,l,rfl,hp,q⟩
 obtain⟨ph,gr,ws,on,pr,gd,rs,h1,h2,h3,h4,h5,h6,h7,h8⟩:=hp;refine pj h1 (i' rfl (i' h7 ?_));cases e:l.group x with
 | none=>refine Lb (c:=(vw (Hw l) (Sum.inr x)).isSome) (by rw[wb,e];rfl) ⟨oZ rfl,λq1 Xl=>⟨_,.refl,?_⟩⟩;have:=q q1 Xl;unfold pG.mG at this;rw[e]at this;exact this
 | some g=>refine Au (c:=(vw (Hw l) (Sum.inr x)).isSome) (by rw[wb,e];rfl) (pj h1 (i' rfl (i' rfl (i' h7 (i' (x:=qY g) (by rw[wb,e];rfl) λq1 Xl=>⟨_,.refl,?_⟩)))));have:=q q1 Xl;unfold pG.mG at this;rw[e]at this;exact this
def xK:Fq P w K mg base 1 a.aF (CY a):=by
 refine fq G.aF.toDG BP (λr u=>⟨_,(pb (pN (Mh u U1 (pB v0))
 (pf (pA (pE (yX u (pB v0) U1) pk)))
 pH)
 (pf (pA pq))),?_⟩)
 rintro ds M Q ⟨p,x,l,rfl,hp,q⟩
 obtain⟨ph,gr,ws,on,pr,gd,rs,h1,h2,h3,h4,h5,h6,h7,h8⟩:=hp;refine pj h1 (i' rfl (i' h7 ?_));cases e:l.group x with
 | none=>refine Lb (c:=(vw (Hw l) (Sum.inr x)).isSome) (by rw[wb,e];rfl) ⟨M,.refl,?_⟩;unfold pG.mO at q;rw[e]at q;exact q
 | some g=>refine Au (c:=(vw (Hw l) (Sum.inr x)).isSome) (by rw[wb,e];rfl) (pj h1 (i' rfl (i' rfl (i' h7 (i' (x:=qY g) (by rw[wb,e];rfl) ⟨M,.refl,?_⟩)))));unfold pG.mO at q;rw[e]at q;exact q
noncomputable def NI:List Int:=[1,1,2,2,3]
noncomputable def Pr:List Int:=[0,1,1,2,5,9]
noncomputable def NW:QQQ:=["all","turns"]
noncomputable def F2(t:List Int)(i:Int):Int:=t.getD i.toNat 0
noncomputable def vU(s:Int)(i:Nat):uA:=(xH s (0+(i:Nat)),F2 NI (draw (s+17*(0+(i:Nat))*(0+(i:Nat))) 16807 5),F2 Pr (draw (s+17*(0+(i:Nat))*(0+(i:Nat))) 39373 6))
noncomputable def rA(s m:Int):Nat:=(2+draw s 48271 (m - 1)).toNat
noncomputable def qv(s m:Int):List uA:=(List.range (rA s m)).map (vU s)
noncomputable def zK(s:Int)(own:QQQ)(i:Nat):tW:=(xH s (8+(0+(i:Nat))),Bl NW (draw (s+5*(0+(i:Nat))) 742938285 2),vJ own (s+11*(0+(i:Nat))) 4)
noncomputable def vL(s:Int):Nat:=(draw s 69621 3).toNat
noncomputable def qS(s:Int)(own:QQQ):List tW:=(List.range (vL s)).map (zK s own)
def Gf{ts:List Int}{i:Int}(h0:0<=i)(h1:i<ts.length):vD (ts.map D.int) i=some (D.int (F2 ts i)):=by
 obtain⟨n,rfl⟩:=eA h0;have XZ:n<ts.length:=by omega
 refine ur ?_;rw[dA,cW XZ];simp[F2,XZ]
def Cd{n:Nat}{pre post:List D}{d:D}(e:pre++d::post=(List.range n).map λi=>D.int (0+(i:Nat))):d=.int (0+(pre.length:Nat))/\pre.length<n:=by
 have h:((List.range n).map λi=>D.int (0+(i:Nat)))[pre.length]?=some d:=by rw[<-e];simp
 have hl:pre.length<n:=by
  have:=(cX.mp h).1
  simpa using this
 rw[dA,iW hl]at h;exact⟨(dh h).symm,hl⟩
def Bk{α β:Type}(f:Nat->α)(g:α->β)(n:Nat):((List.range n).map f).map g++[g (f n)]=((List.range (n+1)).map f).map g:=by rw[jS,dF,dF];rfl
def Hm:rh:=λds M Q=>B1 λs m=>ds=[.int s,.int m]/\2<=m/\m<=100/\∀q,M q=none->Q (.ref q) (pD M q (.lst ((qv s m).map qV)))
def GJ:rh:=λds M Q=>Df λs o own=>ds=[.int s,.ref o]/\oR M o=some (own.map D.str)/\own≠[]/\own.length<=64/\∀q,M q=none->Q (.ref q) (pD M q (.lst ((qS s own).map qY)))
def wM{s m:Int}(h2:2<=m)(h:m<=100):rA s m<=100/\2<=rA s m:=by have d0:=qR (c:=s) (f:=48271) (m:=m - 1) (by omega);have d1:=qL (c:=s) (f:=48271) (m:=m - 1) (by omega);unfold rA;omega
def ww{s:Int}:vL s<=3:=by have d0:=qR (c:=s) (f:=69621) (m:=3) (by decide);have d1:=qL (c:=s) (f:=69621) (m:=3) (by decide);unfold vL;omega
def GP:Fq P w K mg base 2 a.bh Hm:=by
 refine fq G.bh.toDG uG (λr u=>⟨_,(pb (pJ 2 uG (qB sm))
 (pb (uB e9 rfl (uY rfl G.Z (qc (pT pk (pI (qI G) r G.i (qT v0 pk (pT U1 pk)))))) (qZ 3 uG)
 (pb (pJ 4 uG (pE (pK (pR pk (pR pk (qT pk pk pk)))) (pI (qI G) r G.i (qT (pT v0 (pT (pT pk U3) U3)) pk pk))))
 (pf (pM (rb U2 (qc (pK (qT (pI (HN G) r G.ag (rW v0 U3)) v4 (pE (pK (pR pk (pR pk (pR pk (qT pk pk pk))))) (pI (qI G) r G.i (qT (pT v0 (pT (pT pk U3) U3)) pk pk)))))))))))
 (pf (pA U2)))),?_⟩)
 rintro ds M Q ⟨s,m,rfl,h2,ZD,q⟩
 have hz:=dO;have d0:=qR (c:=s) (f:=48271) (m:=m - 1) (by omega);have d1:=qL (c:=s) (f:=48271) (m:=m - 1) (by omega);have nl:=(wM (s:=s) h2 ZD).1;refine⟨oZ rfl,λr hr=>⟨s,_,_,rfl,by show 0<m - 1;omega,rfl,⟨?_,?_⟩,?_⟩⟩
 .show -(2 ^ 62)<=2+draw s 48271 (m - 1);omega
 .show 2+draw s 48271 (m - 1)<2 ^ 62;omega
 refine vP ((List.range (rA s m)).map λi=>D.int (0+(i:Nat))) (λpre δ M'=>M'=pD M r (.lst (((List.range pre.length).map (vU s)).map qV))/\∃x y,δ=[some (.int s),some (.int m),some (.ref r),x,y]) (λ_ _ _ _=>trivial) _ [] _ _ rfl ⟨rfl,none,none,rfl⟩ ?_ ?_
 .rintro pre d post e δ M' ⟨rfl,x,y,rfl⟩ nx WB
  obtain⟨rfl,WA⟩:=Cd e;generalize hi:pre.length=i at WA WB ⊢;have cm:CT (17*(0+(i:Int))) (0+(i:Int)):=.inr ⟨by omega,by omega⟩;have c17:CT 17 (0+(i:Int)):=.inl ⟨by decide,by decide⟩;have t5:vD [D.int 1,.int 1,.int 2,.int 2,.int 3] (draw (s+17*(0+(i:Int))*(0+(i:Int))) 16807 5)=some (.int (vU s i).2.1):=Gf (ts:=NI) (qR (by decide)) (qL (by decide));have t6:vD [D.int 0,.int 1,.int 1,.int 2,.int 5,.int 9] (draw (s+17*(0+(i:Int))*(0+(i:Int))) 39373 6)=some (.int (vU s i).2.2):=Gf (ts:=Pr) (qR (by decide)) (qL (by decide));refine⟨oZ rfl,c17,cm,_,_,_,rfl,by decide,i' t5 ?_⟩;refine⟨by show(oR _ r).isSome=true;rw[pC];rfl,s,_,rfl,oZ rfl,c17,cm,_,_,_,rfl,by decide,i' t6 ⟨oZ rfl,i' pC ⟨?_,?_⟩⟩⟩
  .rw[cT,cT,eC];omega
  .refine WB _ _ ⟨?_,_,_,rfl⟩;rw[rE,cV,hi];show pD M r (.lst (_++[qV (vU s i)]))=_;rw[Bk];rfl
 .rintro δ M' ⟨rfl,x,y,rfl⟩
  refine⟨_,.refl,?_⟩;rw[cT,eC];exact q r hr
def HD:Fq P w K mg base 3 a.bi GJ:=by
 refine fq G.bi.toDG uH (λr u=>⟨_,(pb (pJ 2 uH (qB sm))
 (pb (uB e9 rfl (uY rfl G.Z (qc (pI (qI G) r G.i (qT v0 pk pk)))) (qZ 3 uH)
 (pb (pJ 4 uH (pE (pK (rW pq pq)) (pI (qI G) r G.i (qT (pT v0 (pT pk U3)) pk pk))))
 (pf (pM (rb U2 (qc (pK (qT (pI (HN G) r G.ag (rW v0 (pT pk U3))) v4 (pI (xU G) r G.Q (qT U1 (pT v0 (pT pk U3)) pk))))))))))
 (pf (pA U2)))),?_⟩)
 rintro ds M Q ⟨s,o,own,rfl,ho,WL,h64,q⟩
 have hz:=dO;have d0:=qR (c:=s) (f:=69621) (m:=3) (by decide);have d1:=qL (c:=s) (f:=69621) (m:=3) (by decide);have nl:=ww (s:=s);refine⟨oZ rfl,λr hr=>⟨s,_,_,rfl,by decide,rfl,⟨?_,?_⟩,?_⟩⟩
 .show -(2 ^ 62)<=draw s 69621 3;omega
 .show draw s 69621 3<2 ^ 62;omega
 have nor:o≠r:=λz=>by rw[z]at ho;unfold oR at ho;rw[hr]at ho;cases ho
 refine vP ((List.range (vL s)).map λi=>D.int (0+(i:Nat))) (λpre δ M'=>M'=pD M r (.lst (((List.range pre.length).map (zK s own)).map qY))/\∃x y,δ=[some (.int s),some (.ref o),some (.ref r),x,y]) (λ_ _ _ _=>trivial) _ [] _ _ rfl ⟨rfl,none,none,rfl⟩ ?_ ?_
 .rintro pre d post e δ M' ⟨rfl,x,y,rfl⟩ nx WB
  obtain⟨rfl,WA⟩:=Cd e;generalize hi:pre.length=i at WA WB ⊢;have c5:CT 5 (0+(i:Int)):=.inl ⟨by decide,by decide⟩;have c11:CT 11 (0+(i:Int)):=.inl ⟨by decide,by decide⟩;have tm:vD [D.str "all",.str "turns"] (draw (s+5*(0+(i:Int))) 742938285 2)=some (.str (zK s own i).2.1):=HA (row:=NW) (qR (by decide)) (qL (by decide));have W5:oR (pD M r (.lst (((List.range i).map (zK s own)).map qY))) o=some (own.map D.str):=by unfold oR;rw[uq nor];exact ho
  refine⟨oZ rfl,c5,_,_,_,rfl,by decide,i' tm ?_⟩;refine⟨by show(oR _ r).isSome=true;rw[pC];rfl,s,_,rfl,c11,o,_,_,own,rfl,W5,WL,by decide,h64,oZ rfl,i' pC ⟨?_,?_⟩⟩
  .rw[cT,cT,eC];omega
  .refine WB _ _ ⟨?_,_,_,rfl⟩;rw[rE,cV,hi];show pD M r (.lst (_++[qY (zK s own i)]))=_;rw[Bk];rfl
 .rintro δ M' ⟨rfl,x,y,rfl⟩
  refine⟨_,.refl,?_⟩;rw[cT,eC];exact q r hr
noncomputable def HL(ns:List Int)(own nm:QQQ)(i:Nat):vq:=(decide (0<draw (cell ns (1+(0+(i:Nat)))+31*(0+(i:Nat))*(0+(i:Nat))) 22695477 6),wg (cell ns (1+(0+(i:Nat)))+31*(0+(i:Nat))*(0+(i:Nat))) own nm)
noncomputable def wX(s:Int):Nat:=(draw s 950706376 11).toNat
noncomputable def vf(ns:List Int)(m:Int):pG:=
 let s:=cell ns 0;let own:=(qv s m).map (·.1);let gs:=qS s own
 ⟨qv s m,gs,(List.range (wX s)).map (HL ns own (own++gs.map (·.1)))⟩
def Ms:rh:=λds M Q=>B1 λns m=>ds=[.rl (ns.map D.int),.int m]/\2<=m/\m<=8/\∀r1 r2 r3 M',qw M M'->oR M' r1=some ((vf ns m).mJ.map qV)->oR M' r2=some ((vf ns m).groups.map qY)->oR M' r3=some ((vf ns m).mI.map xf)->Q (.tup [.ref r1,.ref r2,.ref r3]) M'
def KP:Fq P w K mg base 4 a.bk Ms:=by
 refine fq G.bk.toDG se (λr u=>⟨_,(pb (pJ 2 se (pI (MK G) r G.P (rW v0 pk)))
 (pb (pJ 3 se (pI (GP G) r G.bh (rW U2 U1)))
 (pb (vt (i:=4) se.nd rfl (Or.inl rfl) rfl (yh (ix:=[none]) (N':=["_law_phone"])) (qH U3) (qF 0) rO (pE v0 pk))
 (pb (pJ 5 se (pI (HD G) r G.bi (rW U2 v4)))
 (pb (pJ 6 se (pT v4 (qJ rfl (yh (ix:=[none]) (N':=["_law_group"])) (qH v5) (qF 0) rO (pE v0 pk))))
 (pb (pJ 7 se (qB sm))
 (pb (uB e9 rfl (uY rfl G.Z (qc (pI (qI G) r G.i (qT U2 pk pk)))) (qZ 8 se)
 (pb (pJ 9 se (pT (pI (MK G) r G.P (rW v0 (pT pk v8))) (pT (pT pk v8) v8)))
 (pf (pM (rb v7 (qc (pK (rW (qh u (pI (qI G) r G.i (qT v9 pk pk)) pk) (pI (Oi G) r G.bj (qT v9 v4 v6))))))))))
 (pf (pA (pK (qT U3 v5 v7))))))))))),?_⟩)
 rintro ds M Q ⟨ns,m,rfl,h2,h8,q⟩
 have hz:=dO;have pl:=wM (s:=cell ns 0) h2 (by omega);have p8:rA (cell ns 0) m<=8:=by have d1:=qL (c:=cell ns 0) (f:=48271) (m:=m - 1) (by omega);unfold rA;omega
 have gl:=ww (s:=cell ns 0);have lp:(qv (cell ns 0) m).length=rA (cell ns 0) m:=by unfold qv;rw[cT,eC]
 refine⟨ns,0,rfl,cell ns 0,m,rfl,h2,by omega,λr1 Xa=>?_⟩;have s1:=qw.new (c:=.lst ((qv (cell ns 0) m).map qV)) Xa;have a1:=@pC M r1 ((qv (cell ns 0) m).map qV);generalize pD M r1 (.lst ((qv (cell ns 0) m).map qV))=M1 at s1 a1 ⊢;refine i' a1 (qX (f:=AO) a1 _ [] _ (by rw[cT];simp only[dM];omega) (λd hd k hk=>?_) λo ho=>?_)
 .obtain⟨x,_,rfl⟩:=dB.mp hd;exact hk
 rw[dY,wR];have s2:=s1.trans (qw.new (c:=.lst (((qv (cell ns 0) m).map (·.1)).map D.str)) ho);have b1:=(qw.new (c:=.lst (((qv (cell ns 0) m).map (·.1)).map D.str)) ho).lst a1;have bo:=@pC M1 o (((qv (cell ns 0) m).map (·.1)).map D.str);generalize pD M1 o (.lst (((qv (cell ns 0) m).map (·.1)).map D.str))=M2 at s2 b1 bo ⊢;have ol:((qv (cell ns 0) m).map (·.1)).length=rA (cell ns 0) m:=by rw[cT,lp]
 have one:(qv (cell ns 0) m).map (·.1)≠[]:=λz=>by rw[z]at ol;have:0=rA (cell ns 0) m:=ol;omega
 have WH:vf ns m=⟨qv (cell ns 0) m,qS (cell ns 0) ((qv (cell ns 0) m).map (·.1)),(List.range (wX (cell ns 0))).map (HL ns ((qv (cell ns 0) m).map (·.1)) ((qv (cell ns 0) m).map (·.1)++(qS (cell ns 0) ((qv (cell ns 0) m).map (·.1))).map (·.1)))⟩:=rfl;rw[WH]at q;generalize (qv (cell ns 0) m).map (·.1)=own at bo ol one q ⊢;refine⟨cell ns 0,o,own,rfl,bo,one,by omega,λr2 YK=>?_⟩;have t3:=qw.new (c:=.lst ((qS (cell ns 0) own).map qY)) YK;have c2:=@pC M2 r2 ((qS (cell ns 0) own).map qY);have c1:=t3.lst b1;have co:=t3.lst bo;have s3:=s2.trans t3;generalize pD M2 r2 (.lst ((qS (cell ns 0) own).map qY))=M3 at s3 c1 c2 co ⊢;have gll:(qS (cell ns 0) own).length=vL (cell ns 0):=by unfold qS;rw[cT,eC]
 refine i' c2 (qX (f:=AO) c2 _ [] _ (by rw[cT];simp only[dM];omega) (λd hd k hk=>?_) λx4 hx4=>?_)
 .obtain⟨x,_,rfl⟩:=dB.mp hd;exact hk
 rw[dY,wJ];have t4:=qw.new (c:=.lst (((qS (cell ns 0) own).map (·.1)).map D.str)) hx4;refine i' (t4.lst co) (i' pC ⟨?_,λn hn=>?_⟩)
 .rw[cT,cT,cT];omega
 have en:own.map D.str++((qS (cell ns 0) own).map (·.1)).map D.str=(own++(qS (cell ns 0) own).map (·.1)).map D.str:=by rw[dF]
 rw[en];have nl:(own++(qS (cell ns 0) own).map (·.1)).length=rA (cell ns 0) m+vL (cell ns 0):=by rw[cV,cT,ol,gll]
 have t5:=t4.trans (qw.new (c:=.lst ((own++(qS (cell ns 0) own).map (·.1)).map D.str)) hn);have en5:=@pC (pD M3 x4 (.lst (((qS (cell ns 0) own).map (·.1)).map D.str))) n ((own++(qS (cell ns 0) own).map (·.1)).map D.str);have e1:=t5.lst c1;have e2:=t5.lst c2;have eo:=t5.lst co;have s5:=s3.trans t5;generalize pD (pD M3 x4 (.lst (((qS (cell ns 0) own).map (·.1)).map D.str))) n (.lst ((own++(qS (cell ns 0) own).map (·.1)).map D.str))=M5 at s5 e1 e2 eo en5 ⊢;generalize own++(qS (cell ns 0) own).map (·.1)=nm at en5 nl q ⊢;have d0:=qR (c:=cell ns 0) (f:=950706376) (m:=11) (by decide);have d1:=qL (c:=cell ns 0) (f:=950706376) (m:=11) (by decide);refine⟨oZ rfl,λr3 Y5=>⟨_,_,_,rfl,by decide,rfl,⟨?_,?_⟩,?_⟩⟩
 .show -(2 ^ 62)<=draw (cell ns 0) 950706376 11;omega
 .show draw (cell ns 0) 950706376 11<2 ^ 62;omega
 have t6:=qw.new (c:=.lst []) Y5;have g3:=@pC M5 r3 [];have no:o≠r3:=λz=>by have:=qg eo;rw[z,Y5]at this;cases this
 have nn:n≠r3:=λz=>by have:=qg en5;rw[z,Y5]at this;cases this
 have n1:r1≠r3:=λz=>by have:=qg e1;rw[z,Y5]at this;cases this
 have n2:r2≠r3:=λz=>by have:=qg e2;rw[z,Y5]at this;cases this
 have f1:=t6.lst e1;have f2:=t6.lst e2;have fo:=t6.lst eo;have fn:=t6.lst en5;have k6:qw M (pD M5 r3 (.lst [])):=s5.trans t6;have nr:M r3=none:=s5.none Y5;generalize pD M5 r3 (.lst [])=M6 at f1 f2 fo fn k6 g3 ⊢;have wl:wX (cell ns 0)<=10:=by unfold wX;omega
 refine vP ((List.range (wX (cell ns 0))).map λi=>D.int (0+(i:Nat))) (λpre δ M'=>rV r3 M6 M'/\oR M' r3=some (((List.range pre.length).map (HL ns own nm)).map xf)/\∃x y,δ=[some (.rl (ns.map D.int)),some (.int m),some (.int (cell ns 0)),some (.ref r1),some (.ref o),some (.ref r2),some (.ref n),some (.ref r3),x,y]) (λp δ M' j=>trivial) _ [] _ _ rfl ⟨λ_ _ _ h=>h,g3,none,none,rfl⟩ ?_ ?_
 .rintro pre d post e δ M' ⟨kp,lr,x,y,rfl⟩ nx WB
  obtain⟨rfl,WA⟩:=Cd e;generalize hi:pre.length=i at WA WB lr ⊢;have c31:CT 31 (0+(i:Int)):=.inl ⟨by decide,by decide⟩;have cm:CT (31*(0+(i:Int))) (0+(i:Int)):=.inr ⟨by omega,by omega⟩;refine⟨ns,_,rfl,c31,cm,?_⟩;refine⟨by show(oR M' r3).isSome=true;rw[lr];rfl,_,_,_,rfl,by decide,_,o,n,own,nm,rfl,kp.lst no fo,kp.lst nn fn,one,by omega,by omega,by omega,oZ rfl,i' lr ⟨?_,?_⟩⟩
  .rw[cT,cT,eC];omega
  .refine WB _ _ ⟨kp.trans .put,?_,_,_,rfl⟩;rw[pC,cV,hi];show some (_++[xf (HL ns own nm i)])=_;rw[Bk];rfl
 .rintro δ M' ⟨kp,lr,x,y,rfl⟩
  rw[cT,eC]at lr;exact⟨oZ rfl,M',.refl,q r1 r2 r3 M' (λb c h=>kp b c (λz=>by rw[z,nr]at h;cases h) (k6 b c h)) (kp.lst n1 f1) (kp.lst n2 f2) lr⟩
theorem BY(x:Array Nat):∀(n:Nat) (acc:Array Nat),((List.replicate n x).foldl (·++·) acc).toList=acc.toList++(List.replicate n x.toList).flatten
 | 0,acc=>by simp
 | n+1,acc=>by rw[eG,fS,BY x n (acc++x),eG,fM,iX,eW]
theorem Gc(c:Nat):∀n:Nat,(List.replicate n [c]).flatten=List.replicate n c
 | 0=>rfl
 | n+1=>by rw[eG,fM,Gc c n,eG];rfl
def Dv(i n:Int):(yE (tV i) n).cps.toList=List.replicate n.toNat (97+i.toNat):=by show((List.replicate n.toNat (tV i).cps).foldl (·++·) #[]:Array Nat).toList=_;rw[BY];show[]++(List.replicate n.toNat [97+i.toNat]).flatten=_;rw[dY,Gc]
def xW(s v:Int):(xH s v).cps.toList=List.replicate (ub s).toNat (97+(s / 36 % 26).toNat)++(97+((s / 936+v) % 26).toNat)::List.replicate (size s - 1 - ub s).toNat (97+(s / 36 % 26).toNat):=by show((yE (tV (s / 36 % 26)) (ub s)).cps++(tV ((s / 936+v) % 26)).cps++(yE (tV (s / 36 % 26)) (size s - 1 - ub s)).cps).toList=_;rw[iX,iX,Dv,Dv];show _++[97+((s / 936+v) % 26).toNat]++_=_;rw[eW];rfl
def BD(s v:Int):1<=(xH s v).length/\(xH s v).length<=6:=by
 have e:(xH s v).length=(xH s v).cps.toList.length:=by simp[Str.length]
 rw[e,xW,cV,dZ,iE,iE];have h1:=FR s;have h2:=HY s;have h3:0<=ub s:=eU _ (by omega);have h4:ub s<size s:=eN _ h1;omega
def Md{i:Int}(h0:0<=i)(h1:i<26):Cz ⟨#[97+i.toNat]⟩ ug=true:=by
 obtain⟨n,rfl⟩:=eA h0;have hn:n<26:=by omega
 have key:∀n:_root_.Fin 26,Cz ⟨#[97+n.val]⟩ ug=true:=by decide+kernel
 exact key ⟨n,hn⟩
def Dh(s v:Int):uo (xH s v)=true:=by
 obtain⟨h1,h2⟩:=BD s v;unfold uo;rw[dR (show(1:Int)<=(xH s v).length by omega),dR (show((xH s v).length:Int)<=6 by omega),eJ,eJ,eM];intro c hc;rw[xW]at hc;have k1:=Md (eU (s / 36) (show(26:Int)≠0 by decide)) (eN (s / 36) (by decide));have k2:=Md (eU (s / 936+v) (show(26:Int)≠0 by decide)) (eN (s / 936+v) (by decide));rcases dX.mp hc with z|z
 .rw[jJ z];exact k1
 .rcases df.mp z with z|z
  .rw[z];exact k2
  .rw[jJ z];exact k1
def Br{s u v:Int}(hu:0<=u)(hu':u<26)(hv:0<=v)(hv':v<26)(e:xH s u=xH s v):u=v:=by
 have e':(xH s u).cps.toList=(xH s v).cps.toList:=by rw[e]
 rw[xW,xW]at e';have:=(List.append_cancel_left e');have:=(gD this).1;have a1:=eU (s / 936+u) (show(26:Int)≠0 by decide);have a2:=eU (s / 936+v) (show(26:Int)≠0 by decide);have h:(s / 936+u) % 26=(s / 936+v) % 26:=by omega
 omega
def Ej{ss:QQQ}{x:Str}(h:x∈ss):xt ss x:=gv.mpr ⟨x,h,by simp⟩
def AW{row:QQQ}{i:Int}(h0:0<=i)(h1:i<row.length):Bl row i∈row:=by
 obtain⟨n,rfl⟩:=eA h0;have hn:n<row.length:=by omega
 have:Bl row (n:Int)=row[n]:=by simp[Bl,hn]
 rw[this];exact ib hn
def HK{row:QQQ}{i j:Int}(nd:row.Nodup)(h0:0<=i)(h1:i<row.length)(g0:0<=j)(g1:j<row.length)(e:Bl row i=Bl row j):i=j:=by
 obtain⟨n,rfl⟩:=eA h0;obtain⟨k,rfl⟩:=eA g0;have hn:n<row.length:=by omega
 have hk:k<row.length:=by omega
 have e1:Bl row (n:Int)=row[n]:=by simp[Bl,hn]
 have e2:Bl row (k:Int)=row[k]:=by simp[Bl,hk]
 rw[e1,e2]at e;have pw:=ju.mp nd;rcases Nat.lt_trichotomy n k with z|z|z
 .exact absurd e (pw n k hn hk z)
 .rw[z]
 .exact absurd e.symm (pw k n hk hn z)
def zI{α:Type}(f:Nat->α)(n:Nat)(h:∀i j,i<n->j<n->f i=f j->i=j):((List.range n).map f).Nodup:=by refine ju.mpr λi j hi hj WA e=>?_;rw[cT,eC]at hi hj;rw[l8,l8,lj,lj]at e;have:=h i j hi hj e;omega
def BA{row:QQQ}{c m:Int}(hr:row≠[])(hm:0<m):1<=xb row c m/\(xb row c m:Int)<=m/\xb row c m<=row.length:=by
 have hl:0<row.length:=fu.mpr hr;have d0:=qR (c:=c) (f:=40692) (m:=if (row.length:Int)<m then(row.length:Int)else m) (by split<;>omega);have d1:=qL (c:=c) (f:=40692) (m:=if (row.length:Int)<m then(row.length:Int)else m) (by split<;>omega);unfold xb;by_cases h:(row.length:Int)<m
 .rw[c9 h]at d0 d1 ⊢;omega
 .rw[cY h]at d0 d1 ⊢;omega
def Cg{row:QQQ}{c:Int}(hr:row≠[])(j:Nat):0<=(draw c 69621 row.length+(0+(j:Nat))) % (row.length:Int)/\(draw c 69621 row.length+(0+(j:Nat))) % (row.length:Int)<row.length:=by have hl:0<row.length:=fu.mpr hr;exact⟨eU _ (by omega),eN _ (by omega)⟩
def IF{d n i j:Int}(hn:0<n)(hi:0<=i)(Ym:i<n)(hj:0<=j)(hj':j<n)(e:(d+i) % n=(d+j) % n):i=j:=by
 have h1:=kg (d+i) n;have h2:=kg (d+j) n;generalize (d+i) / n=a at h1;generalize (d+j) / n=b at h2;have h3:i - j=n*(a - b):=by rw[Int.mul_sub];omega
 rcases Int.lt_trichotomy (a - b) 0 with z|z|z
 .have:n*(a - b)<=n*(-1):=iV (by omega) (by omega);omega
 .rw[z]at h3;omega
 .have:n*1<=n*(a - b):=iV (by omega) (by omega);omega
def Ht{row:QQQ}{c m:Int}(nd:row.Nodup)(hr:row≠[])(hm:0<m):(vJ row c m).Nodup:=by have hl:0<row.length:=fu.mpr hr;obtain⟨_,_,l3⟩:=BA (c:=c) hr hm;refine zI _ _ λi j hi hj e=>?_;obtain⟨a0,a1⟩:=Cg (c:=c) hr i;obtain⟨b0,b1⟩:=Cg (c:=c) hr j;have e':=HK nd a0 a1 b0 b1 e;have:=IF (d:=draw c 69621 row.length) (n:=row.length) (i:=0+(i:Nat)) (j:=0+(j:Nat)) (by omega) (by omega) (by omega) (by omega) (by omega) e';omega
def xS{row:QQQ}{c m k:Int}(nd:row.Nodup)(hr:row≠[])(hm:0<m)(hk:m<=k):su (vJ row c m) row k=true:=by
 obtain⟨l1,l2,l3⟩:=BA (c:=c) hr hm;have el:(vJ row c m).length=xb row c m:=by unfold vJ;rw[cT,eC]
 unfold su;rw[el,dR (show(1:Int)<=xb row c m by omega),dR (show(xb row c m:Int)<=k by omega),DC (Ht nd hr hm),eJ,eJ,eJ,eM];intro x hx;unfold vJ at hx;obtain⟨j,_,rfl⟩:=dB.mp hx;obtain⟨a0,a1⟩:=Cg (c:=c) hr j;exact Ej (AW a0 a1)
def BZ{row:QQQ}{c m:Int}(hr:row≠[])(hm:0<m)(h:m<=100):(vJ row c m).length<4000:=by
 obtain⟨l1,l2,l3⟩:=BA (c:=c) hr hm;have el:(vJ row c m).length=xb row c m:=by unfold vJ;rw[cT,eC]
 omega
def Oa{c:Int}{own all:QQQ}(no:own.Nodup)(na:all.Nodup)(ho:own≠[])(ha:2<=all.length):Bp own all (wg c own all):=by
 have hl:(0:Int)<own.length:=by have:=fu.mpr ho;omega
 have ha0:all≠[]:=λz=>by rw[z]at ha;simp at ha
 have hx:=Ej (AW (qR (c:=c) (f:=16807) hl) (qL (c:=c) (f:=16807) hl));have p0:=qR (c:=c) (f:=39373) (m:=all.length) (by omega);have p1:=qL (c:=c) (f:=39373) (m:=all.length) (by omega);have e0:=qR (c:=c) (f:=742938285) (m:=(all.length:Int) - 1) (by omega);have e1:=qL (c:=c) (f:=742938285) (m:=(all.length:Int) - 1) (by omega);have z0:=eU (draw c 39373 all.length+1+draw c 742938285 ((all.length:Int) - 1)) (show(all.length:Int)≠0 by omega);have z1:=eN (draw c 39373 all.length+1+draw c 742938285 ((all.length:Int) - 1)) (show(0:Int)<all.length by omega);have hy:=Ej (AW p0 p1);have hzz:=Ej (AW z0 z1);have ne:Bl all (draw c 39373 all.length)≠Bl all ((draw c 39373 all.length+1+draw c 742938285 ((all.length:Int) - 1)) % all.length):=λz=>by
  have q:=HK na p0 p1 z0 z1 z;have q2:(draw c 39373 all.length+0) % (all.length:Int)=(draw c 39373 all.length+(1+draw c 742938285 ((all.length:Int) - 1))) % (all.length:Int):=by rw[Int.add_zero,Int.emod_eq_of_lt p0 p1,<-Int.add_assoc];exact q
  have:=IF (by omega) (by omega) (by omega) (by omega) (by omega) q2;omega
 have f0:=qR (c:=c) (f:=22695477) (m:=24) (by decide);have f1:=qL (c:=c) (f:=22695477) (m:=24) (by decide);have g0:=qR (c:=c) (f:=48271) (m:=23) (by decide);have g1:=qL (c:=c) (f:=48271) (m:=23) (by decide);have t0:=qR (c:=c) (f:=950706376) (m:=5) (by decide);have t1:=qL (c:=c) (f:=950706376) (m:=5) (by decide);unfold wg;simp only;split
 .exact⟨hx,BZ ha0 (by decide) (by decide),xS na ha0 (by decide) (by decide)⟩
 .split
  .exact⟨hy,BZ ho (by decide) (by decide),xS no ho (by decide) (by decide)⟩
  .split
   .exact⟨hy,hzz,ne⟩
   .split
    .refine⟨hy,hzz,ne,⟨f0,by omega⟩,⟨eU _ (by decide),?_⟩,?_⟩
     .have:=eN (draw c 22695477 24+1+draw c 48271 23) (show(0:Int)<24 by decide);omega
     .omega
    .split
     .exact⟨hy,hzz,ne⟩
     .split
      .refine⟨hy,hzz,ne,?_⟩;generalize draw c 950706376 5=d at t0 t1;have:d=0\/d=1\/d=2\/d=3\/d=4:=by omega
       rcases this with z|z|z|z|z<;>(subst z;decide)
      .split
       .exact hx
       .exact hx
def K5(s:Int)(i:Nat):Eo (vU s i):=by
 have t0:=qR (c:=s+17*(0+(i:Nat))*(0+(i:Nat))) (f:=16807) (m:=5) (by decide);have t1:=qL (c:=s+17*(0+(i:Nat))*(0+(i:Nat))) (f:=16807) (m:=5) (by decide);have u0:=qR (c:=s+17*(0+(i:Nat))*(0+(i:Nat))) (f:=39373) (m:=6) (by decide);have u1:=qL (c:=s+17*(0+(i:Nat))*(0+(i:Nat))) (f:=39373) (m:=6) (by decide);have a:1<=(vU s i).2.1/\(vU s i).2.1<=3:=by
  show 1<=F2 NI (draw (s+17*(0+(i:Nat))*(0+(i:Nat))) 16807 5)/\F2 NI (draw (s+17*(0+(i:Nat))*(0+(i:Nat))) 16807 5)<=3;generalize draw (s+17*(0+(i:Nat))*(0+(i:Nat))) 16807 5=d at t0 t1;have:d=0\/d=1\/d=2\/d=3\/d=4:=by omega
  rcases this with z|z|z|z|z<;>(subst z;decide)
 have b:0<=(vU s i).2.2/\(vU s i).2.2<=9:=by
  show 0<=F2 Pr (draw (s+17*(0+(i:Nat))*(0+(i:Nat))) 39373 6)/\F2 Pr (draw (s+17*(0+(i:Nat))*(0+(i:Nat))) 39373 6)<=9;generalize draw (s+17*(0+(i:Nat))*(0+(i:Nat))) 39373 6=d at u0 u1;have:d=0\/d=1\/d=2\/d=3\/d=4\/d=5:=by omega
  rcases this with z|z|z|z|z|z<;>(subst z;decide)
 exact⟨dW (BD s (0+(i:Nat))).2 (by decide),Dh _ _,a.1,a.2,b.1,b.2⟩
def Kr{s:Int}{own:QQQ}(nd:own.Nodup)(hr:own≠[])(i:Nat):Er own (zK s own i):=by
 have t0:=qR (c:=s+5*(0+(i:Nat))) (f:=742938285) (m:=2) (by decide);have t1:=qL (c:=s+5*(0+(i:Nat))) (f:=742938285) (m:=2) (by decide);refine⟨dW (BD s (8+(0+(i:Nat)))).2 (by decide),Dh _ _,?_,BZ hr (by decide) (by decide),xS nd hr (by decide) (by decide)⟩;show Bl NW (draw (s+5*(0+(i:Nat))) 742938285 2)="all"\/Bl NW (draw (s+5*(0+(i:Nat))) 742938285 2)="turns";generalize draw (s+5*(0+(i:Nat))) 742938285 2=d at t0 t1;have:d=0\/d=1:=by omega
 rcases this with z|z
 .subst z;exact .inl rfl
 .subst z;exact .inr rfl
def KA(s m:Int):(qv s m).map (·.1)=(List.range (rA s m)).map λi=>xH s (0+(i:Nat)):=by unfold qv;rw[d6];rfl
def Gh{s m:Int}(h2:2<=m)(h8:m<=8):((qv s m).map (·.1)).Nodup/\∀own,((qv s m).map (·.1)++(qS s own).map (·.1)).Nodup:=by
 have d1:=qL (c:=s) (f:=48271) (m:=m - 1) (by omega);have d0:=qR (c:=s) (f:=48271) (m:=m - 1) (by omega);have p8:rA s m<=8:=by unfold rA;omega
 have g3:=ww (s:=s);have a:((qv s m).map (·.1)).Nodup:=by rw[KA];refine zI _ _ λi j hi hj e=>?_;have:=Br (by omega) (by omega) (by omega) (by omega) e;omega
 refine⟨a,λown=>?_⟩;have ge:(qS s own).map (·.1)=(List.range (vL s)).map λi=>xH s (8+(0+(i:Nat))):=by unfold qS;rw[d6];rfl
 rw[fQ];refine⟨a,?_,λx hx y hy e=>?_⟩
 .rw[ge];refine zI _ _ λi j hi hj e=>?_;have:=Br (by omega) (by omega) (by omega) (by omega) e;omega
 .rw[KA]at hx;rw[ge]at hy;obtain⟨i,hi,rfl⟩:=dB.mp hx;obtain⟨j,hj,rfl⟩:=dB.mp hy;have hi:=gq.mp hi;have hj:=gq.mp hj;have:=Br (by omega) (by omega) (by omega) (by omega) e;omega
def NQ{ns:List Int}{m:Int}(h2:2<=m)(h8:m<=8):rM (vf ns m):=by
 obtain⟨n1,n2⟩:=Gh (s:=cell ns 0) h2 h8;have pl:=wM (s:=cell ns 0) h2 (by omega);have p8:rA (cell ns 0) m<=8:=by have d1:=qL (c:=cell ns 0) (f:=48271) (m:=m - 1) (by omega);unfold rA;omega
 have lp:(qv (cell ns 0) m).length=rA (cell ns 0) m:=by unfold qv;rw[cT,eC]
 have ol:((qv (cell ns 0) m).map (·.1)).length=rA (cell ns 0) m:=by rw[cT,lp]
 have one:(qv (cell ns 0) m).map (·.1)≠[]:=λz=>by rw[z]at ol;have:0=rA (cell ns 0) m:=ol;omega
 have gl:(qS (cell ns 0) ((qv (cell ns 0) m).map (·.1))).length=vL (cell ns 0):=by unfold qS;rw[cT,eC]
 refine⟨?_,?_,λp hp=>?_,?_,λg hg=>?_,n2 _,?_,λv hv=>?_⟩
 .show 1<=(qv (cell ns 0) m).length;omega
 .show(qv (cell ns 0) m).length<=8;omega
 .obtain⟨i,_,rfl⟩:=dB.mp hp;exact K5 _ i
 .show(qS (cell ns 0) ((qv (cell ns 0) m).map (·.1))).length<=3;rw[gl];exact ww
 .obtain⟨i,_,rfl⟩:=dB.mp hg;exact Kr n1 one i
 .show((List.range (wX (cell ns 0))).map _).length<=16;rw[cT,eC];have d1:=qL (c:=cell ns 0) (f:=950706376) (m:=11) (by decide);unfold wX;omega
 .obtain⟨i,hi,rfl⟩:=dB.mp hv;refine Oa n1 (n2 _) one ?_;show 2<=((qv (cell ns 0) m).map (·.1)++_).length;rw[cV,ol];omega
structure pz where
 st:Str
 cr:Str
 way:QQQ
 at_:QQQ
 ms:QQQ
 hd:Option Str
 si:Int
 wd:Option Str
structure rS where
 i:Nat
 f:Str
 g:Str
 y:Str
inductive Ev
 | new (n:Nat) (x:Str)
 | leg (v:rS)
 | asks (i:Nat) (z:Str) (ns:List Nat)
 | next (z:Str) (n:Int)
 | merge (i j:Nat) (ms:QQQ)
 | turn
 | sw (b:Bool) (i:Nat)
 | rings (i:Nat) (ps:QQQ)
 | quiet (i:Nat)
 | waits (i:Nat) (x:Str)
 | talks (i:Nat) (ms:QQQ)
 | held (i:Nat) (x:Str)
 | leaves (i:Nat) (x:Str)
 | over (i:Nat) (w:Str)
structure qr where
 p:Addr
 h:Int
 t:Int
 calls:List pz
 mU:List rS
 ps:List (Str×Int)
 on:List Bool
 log:List Ev
 fo:QXQ
noncomputable def va(ns:List Nat):D:=.tup (ns.map λn=>D.int (n:Nat))
noncomputable def rS.d(v:rS):D:=.tup [.int (v.i:Nat),.str v.f,.str v.g,.str v.y]
noncomputable def Uk(b:Bool):Str:=if b=true then "on" else "off"
noncomputable def Ev.d:Ev->D
 | .new n x=>.tup [.str "new",.int (n:Nat),.str x]
 | .leg v=>.tup [.str "leg",.int (v.i:Nat),.str v.f,.str v.g,.str v.y]
 | .asks i z ns=>.tup [.str "asks",.int (i:Nat),.str z,va ns]
 | .next z n=>.tup [.str "next",.str z,.int n]
 | .merge i j ms=>.tup [.str "merge",.int (i:Nat),.int (j:Nat),names ms]
 | .turn=>.tup [.str "turn"]
 | .sw b i=>.tup [.str (Uk b),.int (i:Nat)]
 | .rings i ps=>.tup [.str "rings",.int (i:Nat),names ps]
 | .quiet i=>.tup [.str "quiet",.int (i:Nat)]
 | .waits i x=>.tup [.str "waits",.int (i:Nat),.str x]
 | .talks i ms=>.tup [.str "talks",.int (i:Nat),names ms]
 | .held i x=>.tup [.str "held",.int (i:Nat),.str x]
 | .leaves i x=>.tup [.str "leaves",.int (i:Nat),.str x]
 | .over i w=>.tup [.str "over",.int (i:Nat),.str w]
noncomputable def hasS(ss:QQQ)(x:Str):Bool:=ss.any (·==x)
noncomputable def rC(ss:QQQ)(x:Str):QQQ:=ss.filter λy=>!(y==x)
noncomputable def wQ(x:Str):pz:=⟨"rings",x,[],[],[],none,0,none⟩
noncomputable def pz.over(c:pz)(w:Str):pz:={c with st:="over",wd:=some w,at_:=[],ms:=[],hd:=none}
noncomputable def pz.drop(c:pz)(x:Str):pz:={c with at_:=rC c.at_ x,ms:=rC c.ms x}
noncomputable def pz.ring(c:pz)(ps:QQQ):pz:={c with st:="rings",at_:=ps,si:=0}
noncomputable def pz.nj(c:pz)(ms:QQQ):pz:={c with st:="talks",ms:=ms,at_:=[],hd:=none}
noncomputable def pz.wait(c:pz)(x:Str):pz:={c with st:="waits",at_:=[x]}
noncomputable def pz.hold(c:pz)(x:Str):pz:={c with st:="held",hd:=some x}
noncomputable def pz.nJ(c:pz):pz:={c with at_:=[]}
noncomputable def pz.mem(c:pz)(ms:QQQ):pz:={c with ms:=ms}
noncomputable def pz.go(c:pz)(g:Str):pz:={c with way:=c.way++[g]}
noncomputable def pz.tick(c:pz):pz:=if (c.st=="rings")=true then{c with si:=c.si+1}else c
noncomputable def rS.to(m k:Nat)(v:rS):rS:=if v.i=m then{v with i:=k}else v
noncomputable def Bh(ps:List (Str×Int))(z:Str)(n:Int):List (Str×Int):=if ps.any (λp=>decide (p.1=z))=true then ps.map (λp=>if p.1=z then(p.1,n)else p)else ps++[(z,n)]
noncomputable def xA(V:qr)(i:Nat)(f:pz->pz):qr:={V with calls:=V.calls.modify i f}
noncomputable def qK(V:qr)(e:Ev):qr:={V with log:=V.log++[e]}
noncomputable def TJ(V:qr):Ev->qr
 | .new _ x=>{V with calls:=V.calls++[wQ x]}
 | .leg v=>{V with mU:=V.mU++[v],calls:=V.calls.modify v.i (·.go v.g)}
 | .asks _ _ _=>V
 | .next z n=>{V with ps:=Bh V.ps z n}
 | .merge i j ms=>{V with calls:=(V.calls.modify i (·.over "merged")).modify j (·.mem ms),mU:=V.mU.map (rS.to i j)}
 | .turn=>{V with t:=V.t+1,calls:=V.calls.map pz.tick}
 | .sw b i=>{V with on:=V.on.set i b}
 | .rings i ps=>xA V i (·.ring ps)
 | .quiet i=>xA V i pz.nJ
 | .waits i x=>xA V i (·.wait x)
 | .talks i ms=>xA V i (·.nj ms)
 | .held i x=>xA V i (·.hold x)
 | .leaves i x=>xA V i (·.drop x)
 | .over i w=>xA V i (·.over w)
noncomputable def qa(V:qr)(e:Ev):qr:=TJ (qK V e) e
noncomputable def qC(V:qr)(es:List Ev):qr:=es.foldl qa V
def Ev.ok(V:qr):Ev->Prop
 | .new _ _=>True
 | .leg v=>v.i<V.calls.length
 | .asks _ _ _=>True
 | .next _ _=>True
 | .merge i j ms=>i<V.calls.length/\j<V.calls.length/\i≠j/\ms.length<=100
 | .turn=>True
 | .sw _ i=>i<V.on.length
 | .rings i ps=>i<V.calls.length/\ps.length<=100
 | .quiet i=>i<V.calls.length
 | .waits i _=>i<V.calls.length
 | .talks i ms=>i<V.calls.length/\ms.length<=100
 | .held i _=>i<V.calls.length
 | .leaves i _=>i<V.calls.length
 | .over i _=>i<V.calls.length
def rD(V:qr)(es fs:List Ev):qC V (es++fs)=qC (qC V es) fs:=lD ..
theorem Iq:∀(es:List Ev) (V:qr),(qC V es).log=V.log++es
 | [],V=>(eS _).symm
 | e::r,V=>by
  show(qC (qa V e) r).log=_;rw[Iq r];have:(qa V e).log=V.log++[e]:=by cases e<;>rfl
  rw[this,eW];rfl
noncomputable def pz.mS(c:pz)(x:Str):Bool:=(c.st=="talks")&&hasS c.ms x
noncomputable def pz.hasB(c:pz)(x:Str):Bool:=if (c.st=="rings")=true then(x==c.cr)||hasS c.at_ x else if (c.st=="waits")=true then x==c.cr else(c.st=="talks"||c.st=="held")&&hasS c.ms x
noncomputable def pz.m9(c:pz)(x:Str):Bool:=if (c.st=="held")=true then hasS c.ms x&&!((c.hd==some x))else c.mS x
noncomputable def pz.mT(c:pz)(x:Str):Bool:=(c.st=="rings"||c.st=="waits")&&(x==c.cr)
noncomputable def pz.mQ(c:pz)(x:Str):Bool:=(c.st=="waits")&&hasS c.at_ x
noncomputable def pz.nC(c:pz)(x:Str):Bool:=c.mT x||(hasS c.at_ x||hasS c.ms x)
noncomputable def pz.mV(c:pz)(x:Str):Bool:=c.mS x&&(c.ms.length==2)
noncomputable def um(V:qr)(x:Str):Nat:=(V.calls.filter (·.hasB x)).length
noncomputable def wD(l:pG)(x:Str):Int:=(l.m8 x).elim 0 λv=>v.2.1
noncomputable def vM(l:pG)(x:Str):Int:=(l.m8 x).elim 0 λv=>v.2.2
noncomputable def tI(l:pG)(V:qr)(x:Str):Bool:=decide ((um V x:Int)<wD l x)
noncomputable def tG(l:pG)(V:qr)(c z:Str):QQQ:=(l.mG z).filter λx=>!(x==c)&&tI l V x
noncomputable def uT(l:pG)(V:qr)(c z:Str):Bool:=(tG l V c z).isEmpty
noncomputable def sD(V:qr)(x:Str):Option Nat:=V.calls.findIdx? (·.mS x)
noncomputable def Ew(V:qr)(x:Str):Option Nat:=V.calls.findIdx? (·.m9 x)
noncomputable def Ig(V:qr)(x:Str):Option Nat:=V.calls.findIdx? (·.mT x)
noncomputable def wZ(V:qr)(x:Str):Bool:=V.calls.any (·.mQ x)
noncomputable def NP:Option Nat->D
 | none=>.mM
 | some j=>.int (j:Nat)
noncomputable def AZ(f l h:Int):Bool:=if f<l then decide (f<=h)&&decide (h<l)else decide (h>=f)||decide (h<l)
noncomputable def Hq(l:pG)(x:Str)(ms:QQQ):Bool:=ms.all λm=>decide (vM l m<vM l x)
noncomputable def C4(l:pG)(V:qr)(x c z:Str):Bool:=if (!(c==x)||(z==x))=true then false else if (!(hasS l.pn z)||!(uT l V c z))=true then false else((sD V z).bind (V.calls[·]?)).elim false λk=>(k.ms.length==2)&&Hq l x k.ms
noncomputable def zo(l:pG)(V:qr)(c z:Str):Wi->Bool
 | .bar x ns=>(c==x)&&hasS ns z
 | .shut x ns=>(z==x)&&hasS ns c
 | .always x _=>z==x
 | .night x _ f m=>(z==x)&&AZ f m ((V.h+V.t) % 24)
 | .busy x _=>(z==x)&&uT l V c z
 | .silent _ _ _=>false
 | .wait x=>if (!(z==x)||(c==x))=true then false else uT l V c z&&!(wZ V z)
 | .breaks x=>C4 l V x c z
noncomputable def Gx(c:pz):Wi->Bool
 | .silent x _ n=>(c.way.getLast?==some x)&&decide (n<=c.si)
 | _=>false
noncomputable def F5(l:pG)(V:qr)(f:Wi->Bool):List Nat:=(List.range V.on.length).filter λi=>V.on.getD i false&&(l.mI[i]?).elim false λw=>f w.2
noncomputable def yV(l:pG)(V:qr)(c z:Str):List Nat:=F5 l V (zo l V c z)
noncomputable def uU(ms:QQQ)(n:Nat):QQQ:=ms.drop n++ms.take n
noncomputable def yk(V:qr)(z:Str):Nat:=((V.ps.find? λp=>decide (p.1=z)).elim 0 λp=>p.2).toNat
noncomputable def vI(l:pG)(V:qr)(c z:Str):QQQ:=if (l.mO z=="turns")=true then((uU (l.mG z) (yk V z)).filter λx=>hasS (tG l V c z) x).take 1 else tG l V c z
inductive uK
 | engaged (z:Str)
 | rings (z:Str) (ps:QQQ)
 | waits (z:Str)
 | breaks (z:Str)
 | barred
 | ring (ns:QQQ)
noncomputable def uK.d:uK->D
 | .engaged z=>.tup [.str "engaged",.str z]
 | .rings z ps=>.tup [.str "rings",.str z,names ps]
 | .waits z=>.tup [.str "waits",.str z]
 | .breaks z=>.tup [.str "breaks",.str z]
 | .barred=>.tup [.str "barred"]
 | .ring ns=>.tup [.str "ring",names ns]
noncomputable def CM(l:pG)(V:qr)(c z:Str):uK:=match vI l V c z with
 | []=>.engaged z
 | x::r=>.rings z (x::r)
noncomputable def Iv(z:Str):Wi->Sum uK Str
 | .bar _ _=>.inl .barred
 | .shut _ _=>.inl .barred
 | .always _ y=>.inr y
 | .night _ y _ _=>.inr y
 | .busy _ y=>.inr y
 | .silent _ y _=>.inr y
 | .wait _=>.inl (.waits z)
 | .breaks _=>.inl (.breaks z)
abbrev rT:=List (Str×List Nat)
noncomputable def uR(l:pG)(V:qr)(c:Str):Nat->Str->QQQ->rT->uK×rT
 | 0,_,_,st=>(.barred,st)
 | n+1,z,way,st=>if hasS way z=true then(.ring (way.drop (way.findIdx (·==z))),st)else
  match yV l V c z with
  | []=>(CM l V c z,st++[(z,[])])
  | i::r=>(l.mI[i]?).elim (.barred,st) λw=>match Iv z w.2 with
   | .inl e=>(e,st++[(z,i::r)])
   | .inr y=>uR l V c n y (way++[z]) (st++[(z,i::r)])
noncomputable def sv(l:pG)(V:qr)(c z:Str)(way:QQQ):uK×rT:=uR l V c (l.nm.length+1) z way []
noncomputable def qz(i:Nat):Option Str->rT->List Ev
 | _,[]=>[]
 | none,(z,fs)::r=>.asks i z fs::qz i (some z) r
 | some y,(z,fs)::r=>.leg ⟨i,y,z,y⟩::.asks i z fs::qz i (some z) r
noncomputable def PV(ms:QQQ)(x:Str):Int:=((ms.findIdx (·==x):Nat)+1) % (ms.length:Int)
noncomputable def so(l:pG)(V:qr)(i:Nat):uK->List Ev
 | .rings z ps=>(if (l.mO z=="turns")=true then[.next z (PV (l.mG z) (ps.headD Str.empty))]else[])++[.rings i ps]
 | .waits z=>[.waits i z]
 | .breaks z=>match sD V z,V.calls[i]? with
  | some j,some c=>[.merge i j ((V.calls[j]?).elim [] (·.ms)++[c.cr])]
  | _,_=>[]
 | .engaged _=>[.over i "engaged"]
 | .barred=>[.over i "barred"]
 | .ring _=>[.over i "ring"]
noncomputable def rG(i:Nat)(st:rT):uK->List Ev
 | .ring ns=>(st.getLast?).elim [] λs=>[.leg ⟨i,s.1,ns.headD Str.empty,s.1⟩]
 | _=>[]
noncomputable def vO(l:pG)(V:qr)(i:Nat):List Ev:=(V.calls[i]?).elim [] λc=>
 let r:=sv l V c.cr (c.way.getLastD Str.empty) c.way.dropLast
 qz i none r.2++(rG i r.2 r.1++so l V i r.1)
noncomputable def zh(l:pG)(V:qr)(y z:Str):List Ev:=
 let es:=[Ev.new V.calls.length y,.leg ⟨V.calls.length,y,z,y⟩]
 es++vO l (qC V es) V.calls.length
noncomputable def wK(V:qr)(x:Str)(i:Nat):List Ev:=(V.calls[i]?).elim [] λc=>if c.mT x=true then[.over i "left"]else if hasS c.at_ x=true then .leaves i x::(if rC c.at_ x=[]then[.over i "refused"]else[])else if 2<c.ms.length then[.leaves i x]else[.over i "done"]
noncomputable def tR(l:pG)(V:qr)(i:Nat)(fs:List Nat):List Ev:=match fs.head?.bind (l.mI[·]?)with
 | some (_,.silent x y _)=>
  let es:=[Ev.asks i x fs,.quiet i,.leg ⟨i,x,y,x⟩]
  es++vO l (qC V es) i
 | _=>[]
noncomputable def yW(l:pG)(V:qr)(i:Nat):List Nat:=(V.calls[i]?).elim [] λc=>if (c.st=="rings")=true then F5 l V (Gx c)else[]
noncomputable def rK(l:pG):List Nat->qr->List Ev
 | [],_=>[]
 | i::r,V=>tR l V i (yW l V i)++rK l r (qC V (tR l V i (yW l V i)))
noncomputable def E7(l:pG)(V:qr):List Ev:=.turn::rK l (List.range V.calls.length) (qa V .turn)
inductive tZ
 | call (y z:Str)
 | num (w x:Str) (ns:List Int)
 | turn
 | sw (b:Bool) (i:Int)
noncomputable def tZ.d:tZ->D
 | .call y z=>.tup [.str "call",.str y,.str z]
 | .num w x ns=>.tup (.str w::.str x::ns.map D.int)
 | .turn=>.tup [.str "turn"]
 | .sw b i=>.tup [.str (Uk b),.int i]
def tZ.nz:tZ->Prop
 | .num w _ ns=>((w="answer"\/w="hang"\/w="hold"\/w="back")/\ns.length=1)\/((w="hand"\/w="join")/\ns.length=2)
 | _=>True
noncomputable def ux(V:qr)(x:Str):Option Str:=if (Ew V x).isSome=true then some "bound" else if (Ig V x).isSome=true then some "calls" else none
noncomputable def ze(n:Nat)(i:Int):Bool:=decide (0<=i)&&decide (i<(n:Int))
noncomputable def HU(w x:Str):List pz->Bool
 | []=>false
 | c::r=>if (w=="answer")=true then hasS c.at_ x else if (w=="hang")=true then c.nC x else if (w=="hold")=true then c.mV x else if (w=="back")=true then c.hd==some x else(c.hd==some x)&&(r.head?.elim false λd=>d.mV x)
noncomputable def tz(V:qr)(ns:List Int):List pz:=ns.filterMap λi=>V.calls[i.toNat]?
noncomputable def Gr(l:pG)(V:qr)(y z:Str):Option Str:=if hasS l.nm z=false then some "name" else if ((ux V y).isNone&&!(tI l V y))=true then some "full" else ux V y
noncomputable def MW(l:pG)(V:qr)(w x:Str)(ns:List Int):Option Str:=if ns.all (ze V.calls.length)=false then some "call" else if HU w x (tz V ns)=false then some "call" else if (w=="answer"||w=="back")=false then none else
 if ((ux V x).isNone&&((tz V ns).head?.elim false (λc=>c.mQ x)&&!(tI l V x)))=true then some "full" else ux V x
noncomputable def Pn(V:qr)(b:Bool)(i:Int):Option Str:=if ze V.on.length i=false then some "wish" else if (V.on.getD i.toNat false==b)=true then some "wish" else none
noncomputable def xp(l:pG)(V:qr):tZ->Option Str
 | .turn=>none
 | .sw b i=>Pn V b i
 | .call y z=>if hasS l.pn y=false then some "name" else Gr l V y z
 | .num w x ns=>if hasS l.pn x=false then some "name" else MW l V w x ns
noncomputable def qy(c:pz)(x:Str):Str:=(rC c.ms x).headD Str.empty
noncomputable def ED(V:qr)(w x:Str)(i:Nat):Ev:=(V.calls[i]?).elim .turn λc=>if (w=="answer")=true then .talks i [c.cr,x]else if (w=="hold")=true then .held i x else .talks i c.ms
noncomputable def FC(V:qr)(w x:Str)(i j:Nat):Ev:=(V.calls[i]?).elim .turn λc=>(V.calls[j]?).elim .turn λd=>.merge i j (if (w=="hand")=true then[qy c x,qy d x]else[x,qy c x,qy d x])
noncomputable def vN(l:pG)(V:qr):tZ->List Ev
 | .call y z=>zh l V y z
 | .num w x [i]=>if (w=="hang")=true then wK V x i.toNat else[ED V w x i.toNat]
 | .num w x [i,j]=>[FC V w x i.toNat j.toNat]
 | .num _ _ _=>[]
 | .turn=>E7 l V
 | .sw b i=>[.sw b i.toNat]
structure rk where
 p:Addr
 wy:Addr
structure tH where
 b:Addr
 ca:Addr
 le:Addr
 nx:Addr
 on:Addr
 lo:Addr
 cs:List rk
noncomputable def F6:Option Str->D
 | none=>.mM
 | some x=>.str x
noncomputable def rg(c:pz)(wy ad md:Addr):List (Str×D):=[("state",.str c.st),("caller",.str c.cr),("way",.ref wy),("at",.ref ad),("members",.ref md),("holder",F6 c.hd),("since",.int c.si),("word",F6 c.wd)]
noncomputable def tL(p:D)(h t:Int)(ca le nx on lo:Addr):List (Str×D):=[("plan",p),("hour",.int h),("turn",.int t),("calls",.ref ca),("legs",.ref le),("nexts",.ref nx),("on",.ref on),("log",.ref lo)]
noncomputable def tj(ps:List (Str×Int)):List (rf×D):=ps.map λp=>((Sum.inr p.1:rf),D.int p.2)
noncomputable def tH.lists(A:tH):QXQ:=A.ca::A.le::A.on::A.lo::A.cs.map (·.wy)
noncomputable def tH.foot(A:tH):QXQ:=A.b::A.nx::(A.lists++A.cs.map (·.p))
def rN(a:Ad)(M:Mp)(L:QXQ)(k:rk)(c:pz):Prop:=B1 λad md=>M k.p=some (.ins a.e (rg c k.wy ad md))/\oR M k.wy=some (c.way.map D.str)/\oR M ad=some (c.at_.map D.str)/\oR M md=some (c.ms.map D.str)/\ad∉L/\md∉L
structure pL(a:Ad)(M:Mp)(A:tH)(V:qr):Prop where
 at_:M A.b=some (.ins a.c (tL (.ref V.p) V.h V.t A.ca A.le A.nx A.on A.lo))
 ca:oR M A.ca=some (A.cs.map λk=>D.ref k.p)
 le:oR M A.le=some (V.mU.map rS.d)
 nx:zG M A.nx=some (tj V.ps)
 on:oR M A.on=some (V.on.map D.bl)
 lo:oR M A.lo=some (V.log.map Ev.d)
 len:A.cs.length=V.calls.length
 cs:∀(i:Nat) k c,A.cs[i]?=some k->V.calls[i]?=some c->rN a M (A.lists++V.fo) k c
 nl:A.lists.Nodup
 np:(A.b::A.cs.map (·.p)).Nodup
 fo:∀x∈V.fo,∃c,M x=some c
def wY{F:QXQ}{M:Mp}{p:Addr}{c:uN}(h:∀x∈F,∃c,M x=some c):∀x∈F,∃d,pD M p c x=some d:=λx hx=>by
 by_cases z:x=p
 .exact⟨c,by rw[z];exact pP⟩
 .obtain⟨d,e⟩:=h x hx;exact⟨d,rV.put x d z e⟩
def rN.sub{a:Ad}{M M':Mp}{L:QXQ}{k:rk}{c:pz}(h:rN a M L k c)(s:qw M M'):rN a M' L k c:=by obtain⟨ad,md,h1,h2,h3,h4,h5⟩:=h;exact⟨ad,md,s _ _ h1,s.lst h2,s.lst h3,s.lst h4,h5⟩
def pL.sub{a:Ad}{M M':Mp}{A:tH}{V:qr}(h:pL a M A V)(s:qw M M'):pL a M' A V:=⟨s _ _ h.at_,s.lst h.ca,s.lst h.le,s.dk h.nx,s.lst h.on,s.lst h.lo,h.len,λi k c e1 e2=>(h.cs i k c e1 e2).sub s,h.nl,h.np,λx hx=>(h.fo x hx).imp λc e=>s x c e⟩
def rN.nU{a:Ad}{M M':Mp}{L:QXQ}{k:rk}{c:pz}{x:Addr}{ds:List D}(h:rN a M L k c)(kp:rV x M M')(hl:oR M x=some ds)(hx:x∈L)(hn:k.wy≠x):rN a M' L k c:=by obtain⟨ad,md,h1,h2,h3,h4,h5,h6⟩:=h;exact⟨ad,md,kp _ _ (λz=>by rw[z,qg hl]at h1;cases h1) h1,kp.lst hn h2,kp.lst (λz=>h5 (z ▸ hx)) h3,kp.lst (λz=>h6 (z ▸ hx)) h4,h5,h6⟩
def rN.n9{a:Ad}{M M':Mp}{L:QXQ}{k:rk}{c:pz}{x C:Addr}{fs:List (Str×D)}(h:rN a M L k c)(kp:rV x M M')(hi:M x=some (.ins C fs))(hn:k.p≠x):rN a M' L k c:=by obtain⟨ad,md,h1,h2,h3,h4,h5⟩:=h;exact⟨ad,md,kp _ _ hn h1,kp.lst (pS h2 hi) h2,kp.lst (pS h3 hi) h3,kp.lst (pS h4 hi) h4,h5⟩
def uP{M:Mp}{a p:Addr}{ds:List (rf×D)}{es:List D}(h:zG M a=some ds)(hp:oR M p=some es):a≠p:=λz=>by subst z;unfold zG at h;rw[qg hp]at h;cases h
def rN.oU{a:Ad}{M M':Mp}{L:QXQ}{k:rk}{c:pz}{x:Addr}{ds:List (rf×D)}(h:rN a M L k c)(kp:rV x M M')(hd:zG M x=some ds):rN a M' L k c:=by obtain⟨ad,md,h1,h2,h3,h4,h5⟩:=h;exact⟨ad,md,kp _ _ (λz=>by rw[z,zv hd]at h1;cases h1) h1,kp.lst (dJ (uP hd h2)) h2,kp.lst (dJ (uP hd h3)) h3,kp.lst (dJ (uP hd h4)) h4,h5⟩
def qU{α:Type}{l:List α}{i:Nat}{x:α}(h:l[i]?=some x):x∈l:=fO h
def pL.ne{a:Ad}{M:Mp}{A:tH}{V:qr}(h:pL a M A V):A.ca≠A.le/\A.ca≠A.on/\A.ca≠A.lo/\A.le≠A.on/\A.le≠A.lo/\A.on≠A.lo/\∀k∈A.cs,k.wy≠A.ca/\k.wy≠A.le/\k.wy≠A.on/\k.wy≠A.lo:=by
 have n:=h.nl;unfold tH.lists at n;obtain⟨n1,n⟩:=dQ.mp n;obtain⟨n2,n⟩:=dQ.mp n;obtain⟨n3,n⟩:=dQ.mp n;obtain⟨n4,n⟩:=dQ.mp n;have w:∀k∈A.cs,k.wy∈A.cs.map (·.wy):=λk hk=>dB.mpr ⟨k,hk,rfl⟩;refine⟨λz=>n1 (z ▸ by simp),λz=>n1 (z ▸ by simp),λz=>n1 (z ▸ by simp),λz=>n2 (z ▸ by simp),λz=>n2 (z ▸ by simp),λz=>n3 (z ▸ by simp),λk hk=>⟨λz=>n1 ?_,λz=>n2 ?_,λz=>n3 ?_,λz=>n4 ?_⟩⟩
 .rw[<-z];exact dD _ (dD _ (dD _ (w k hk)))
 .rw[<-z];exact dD _ (dD _ (w k hk))
 .rw[<-z];exact dD _ (w k hk)
 .rw[<-z];exact w k hk
def pL.oB{a:Ad}{M:Mp}{A:tH}{V:qr}(_:pL a M A V):A.ca∈A.lists/\A.le∈A.lists/\A.lo∈A.lists/\(∀k∈A.cs,k.wy∈A.lists)/\A.on∈A.lists:=by unfold tH.lists;refine⟨by simp,by simp,by simp,?_,by simp⟩;exact λk hk=>by simp;exact .inr (.inr (.inr (.inr ⟨k,hk,rfl⟩)))
def pL.oP{a:Ad}{M:Mp}{A:tH}{V:qr}(h:pL a M A V):A.ca∈A.lists++V.fo/\A.le∈A.lists++V.fo/\A.lo∈A.lists++V.fo/\(∀k∈A.cs,k.wy∈A.lists++V.fo)/\A.on∈A.lists++V.fo:=by obtain⟨h1,h2,h3,h4,h5⟩:=h.oB;exact⟨fB _ h1,fB _ h2,fB _ h3,λk hk=>fB _ (h4 k hk),fB _ h5⟩
def qQ(A:tH)(M:Mp)(A':tH)(M':Mp):Prop:=(∀x c,x∉A.foot->M x=some c->M' x=some c)/\(∀x∈A'.foot,x∈A.foot\/M x=none)/\(∀(i:Nat) k,A.cs[i]?=some k->A'.cs[i]?=some k)/\∀x c,M x=some c->∃d,M' x=some d
def Ec{M:Mp}{p y:Addr}{c d:uN}(h:M y=some d):∃e,pD M p c y=some e:=by
 by_cases z:y=p
 .exact⟨c,by rw[z];exact pP⟩
 .exact⟨d,rV.put y d z h⟩
def qQ.refl{A:tH}{M:Mp}:qQ A M A M:=⟨λ_ _ _ h=>h,λ_ h=>.inl h,λ_ _ h=>h,λ_ c h=>⟨c,h⟩⟩
def qQ.trans{A A1 A2:tH}{M M1 M2:Mp}(s:qQ A M A1 M1)(u:qQ A1 M1 A2 M2):qQ A M A2 M2:=by
 refine⟨λx c n h=>u.1 x c (λz=>?_) (s.1 x c n h),λx hx=>?_,λi k h=>u.2.2.1 i k (s.2.2.1 i k h),λx c h=>(s.2.2.2 x c h).elim λd e=>u.2.2.2 x d e⟩
 .rcases s.2.1 x z with y|y
  .exact n y
  .rw[y]at h;cases h
 .rcases u.2.1 x hx with z|z
  .exact s.2.1 x z
  .by_cases y:x∈A.foot
   .exact .inl y
   .refine .inr ?_;cases e:M x with
    | none=>rfl
    | some c=>rw[s.1 x c y e]at z;cases z
def qQ.keep{A:tH}{M:Mp}{x:Addr}{c:uN}(h:x∈A.foot)(k:rV x M (pD M x c)):qQ A M A (pD M x c):=⟨λy c n e=>k y c (λz=>n (z ▸ h)) e,λ_ h=>.inl h,λ_ _ h=>h,λ_ _ h=>Ec h⟩
def qQ.sub{A:tH}{M M':Mp}(s:qw M M'):qQ A M A M':=⟨λy c _ e=>s y c e,λ_ h=>.inl h,λ_ _ h=>h,λx c h=>⟨c,s x c h⟩⟩
def tH.mW(A:tH):A.b∈A.foot/\A.nx∈A.foot/\A.ca∈A.foot/\A.le∈A.foot/\A.lo∈A.foot/\(∀k∈A.cs,k.p∈A.foot)/\∀k∈A.cs,k.wy∈A.foot:=by unfold tH.foot tH.lists;exact⟨by simp,by simp,by simp,by simp,by simp,λk hk=>by simp;exact .inr (.inr (.inr (.inr (.inr (.inr (.inr ⟨k,hk,rfl⟩)))))),λk hk=>by simp;exact .inr (.inr (.inr (.inr (.inr (.inr (.inl ⟨k,hk,rfl⟩))))))⟩
def tH.nR(A:tH){x:Addr}(h:x∈A.lists):x∈A.foot:=by unfold tH.foot;exact dD _ (dD _ (dX.mpr (.inl h)))
variable {M M1:Mp}{A:tH}{V:qr}
def Fc{α:Type}{l:List α}{i j:Nat}{x y:α}(h:(l.set i x)[j]?=some y):(j=i/\y=x/\i<l.length)\/(j≠i/\l[j]?=some y):=by
 by_cases z:j=i
 .subst z;by_cases hl:j<l.length
  .rw[eK hl]at h;exact .inl ⟨rfl,(dh h).symm,hl⟩
  .rw[gz (by rw[ii];omega)]at h;cases h
 .rw[eR (dJ z)]at h;exact .inr ⟨z,h⟩
def LR{α β:Type}{f:α->β}{l:List α}{i j:Nat}{x y:α}(nd:(l.map f).Nodup)(h1:l[i]?=some x)(h2:l[j]?=some y)(e:f x=f y):i=j:=by
 have e1:(l.map f)[i]?=some (f x):=by rw[dA,h1];rfl
 have e2:(l.map f)[j]?=some (f y):=by rw[dA,h2];rfl
 obtain⟨l1,q1⟩:=cX.mp e1;obtain⟨l2,q2⟩:=cX.mp e2;exact(lO nd).mp (q1.trans (e.trans q2.symm))
def pL.nw(h:pL a M A V):(A.cs.map (·.wy)).Nodup:=(dQ.mp (dQ.mp (dQ.mp (dQ.mp h.nl).2).2).2).2
def pL.oO(h:pL a M A V):(A.cs.map (·.p)).Nodup/\∀k∈A.cs,k.p≠A.b:=⟨(dQ.mp h.np).2,λk hk z=>(dQ.mp h.np).1 (z ▸ dB.mpr ⟨k,hk,rfl⟩)⟩
def pL.oG(h:pL a M A V){es:List Ev}:pL a (pD M A.lo (.lst (es.map Ev.d))) A {V with log:=es}/\qQ A M A (pD M A.lo (.lst (es.map Ev.d))):=by have kp:rV A.lo M (pD M A.lo (.lst (es.map Ev.d))):=.put;obtain⟨n1,n2,n3,n4,n5,n6,nw⟩:=h.ne;exact⟨⟨kp _ _ (dJ (pS h.lo h.at_)) h.at_,kp.lst n3 h.ca,kp.lst n5 h.le,kp.dk (uP h.nx h.lo) h.nx,kp.lst n6 h.on,pC,h.len,λi k c e1 e2=>(h.cs i k c e1 e2).nU kp h.lo h.oP.2.2.1 (nw k (qU e1)).2.2.2,h.nl,h.np,wY h.fo⟩,.keep A.mW.2.2.2.2.1 kp⟩
def pL.oE(h:pL a M A V){es:List rS}:pL a (pD M A.le (.lst (es.map rS.d))) A {V with mU:=es}/\qQ A M A (pD M A.le (.lst (es.map rS.d))):=by have kp:rV A.le M (pD M A.le (.lst (es.map rS.d))):=.put;obtain⟨n1,n2,n3,n4,n5,n6,nw⟩:=h.ne;exact⟨⟨kp _ _ (dJ (pS h.le h.at_)) h.at_,kp.lst n1 h.ca,pC,kp.dk (uP h.nx h.le) h.nx,kp.lst (dJ n4) h.on,kp.lst (dJ n5) h.lo,h.len,λi k c e1 e2=>(h.cs i k c e1 e2).nU kp h.le h.oP.2.1 (nw k (qU e1)).2.1,h.nl,h.np,wY h.fo⟩,.keep A.mW.2.2.2.1 kp⟩
def pL.oQ(h:pL a M A V){bs:List Bool}:pL a (pD M A.on (.lst (bs.map D.bl))) A {V with on:=bs}/\qQ A M A (pD M A.on (.lst (bs.map D.bl))):=by have kp:rV A.on M (pD M A.on (.lst (bs.map D.bl))):=.put;obtain⟨n1,n2,n3,n4,n5,n6,nw⟩:=h.ne;exact⟨⟨kp _ _ (dJ (pS h.on h.at_)) h.at_,kp.lst n2 h.ca,kp.lst n4 h.le,kp.dk (uP h.nx h.on) h.nx,pC,kp.lst (dJ n6) h.lo,h.len,λi k c e1 e2=>(h.cs i k c e1 e2).nU kp h.on h.oP.2.2.2.2 (nw k (qU e1)).2.2.1,h.nl,h.np,wY h.fo⟩,.keep (A.nR h.oB.2.2.2.2) kp⟩
def pL.oS(h:pL a M A V){ps:List (Str×Int)}:pL a (pD M A.nx (.dk (tj ps))) A {V with ps:=ps}/\qQ A M A (pD M A.nx (.dk (tj ps))):=by have kp:rV A.nx M (pD M A.nx (.dk (tj ps))):=.put;exact⟨⟨kp _ _ (dJ (BC h.nx h.at_)) h.at_,kp.lst (dJ (uP h.nx h.ca)) h.ca,kp.lst (dJ (uP h.nx h.le)) h.le,DP pP,kp.lst (dJ (uP h.nx h.on)) h.on,kp.lst (dJ (uP h.nx h.lo)) h.lo,h.len,λi k c e1 e2=>(h.cs i k c e1 e2).oU kp h.nx,h.nl,h.np,wY h.fo⟩,.keep A.mW.2.1 kp⟩
def pL.putT(h:pL a M A V){t:Int}:pL a (pD M A.b (.ins a.c (tL (.ref V.p) V.h t A.ca A.le A.nx A.on A.lo))) A {V with t:=t}/\qQ A M A (pD M A.b (.ins a.c (tL (.ref V.p) V.h t A.ca A.le A.nx A.on A.lo))):=by have kp:rV A.b M (pD M A.b (.ins a.c (tL (.ref V.p) V.h t A.ca A.le A.nx A.on A.lo))):=.put;exact⟨⟨pP,kp.lst (pS h.ca h.at_) h.ca,kp.lst (pS h.le h.at_) h.le,kp.dk (BC h.nx h.at_) h.nx,kp.lst (pS h.on h.at_) h.on,kp.lst (pS h.lo h.at_) h.lo,h.len,λi k c e1 e2=>(h.cs i k c e1 e2).n9 kp h.at_ (h.oO.2 k (qU e1)),h.nl,h.np,wY h.fo⟩,.keep A.mW.1 kp⟩
def pL.oh(h:pL a M A V){i:Nat}{k:rk}{c c':pz}{ad md:Addr}(e1:A.cs[i]?=some k)(e2:V.calls[i]?=some c)(ew:c'.way=c.way)(la:oR M ad=some (c'.at_.map D.str))(lm:oR M md=some (c'.ms.map D.str))(na:ad∉A.lists++V.fo)(nm:md∉A.lists++V.fo):
  pL a (pD M k.p (.ins a.e (rg c' k.wy ad md))) A {V with calls:=V.calls.set i c'}/\qQ A M A (pD M k.p (.ins a.e (rg c' k.wy ad md))):=by
 have kp:rV k.p M (pD M k.p (.ins a.e (rg c' k.wy ad md))):=.put;obtain⟨_,_,h1,h2,_⟩:=h.cs i k c e1 e2;refine⟨⟨kp _ _ (dJ (h.oO.2 k (qU e1))) h.at_,kp.lst (pS h.ca h1) h.ca,kp.lst (pS h.le h1) h.le,kp.dk (BC h.nx h1) h.nx,kp.lst (pS h.on h1) h.on,kp.lst (pS h.lo h1) h.lo,by rw[h.len,ii],λj k' d f1 f2=>?_,h.nl,h.np,wY h.fo⟩,.keep (A.mW.2.2.2.2.2.1 k (qU e1)) kp⟩;rcases Fc f2 with⟨rfl,rfl,_⟩|⟨hj,f2⟩
 .rw[e1]at f1;cases f1;exact⟨ad,md,pP,by rw[ew];exact kp.lst (pS h2 h1) h2,kp.lst (pS la h1) la,kp.lst (pS lm h1) lm,na,nm⟩
 .exact(h.cs j k' d f1 f2).n9 kp h1 λz=>hj (LR h.oO.1 f1 e1 z)
def pL.oF(h:pL a M A V){i:Nat}{k:rk}{c:pz}{ws:QQQ}(e1:A.cs[i]?=some k)(e2:V.calls[i]?=some c):
  pL a (pD M k.wy (.lst (ws.map D.str))) A {V with calls:=V.calls.set i {c with way:=ws}}/\qQ A M A (pD M k.wy (.lst (ws.map D.str))):=by
 have kp:rV k.wy M (pD M k.wy (.lst (ws.map D.str))):=.put;obtain⟨ad,md,h1,h2,h3,h4,h5,h6⟩:=h.cs i k c e1 e2;obtain⟨n1,n2,n3,n4,n5,n6,nw⟩:=h.ne;obtain⟨w1,w2,w3,w4⟩:=nw k (qU e1);have kL:=h.oP.2.2.2.1 k (qU e1);refine⟨⟨kp _ _ (dJ (pS h2 h.at_)) h.at_,kp.lst (dJ w1) h.ca,kp.lst (dJ w2) h.le,kp.dk (uP h.nx h2) h.nx,kp.lst (dJ w3) h.on,kp.lst (dJ w4) h.lo,by rw[h.len,ii],λj k' d f1 f2=>?_,h.nl,h.np,wY h.fo⟩,.keep (A.mW.2.2.2.2.2.2 k (qU e1)) kp⟩;rcases Fc f2 with⟨rfl,rfl,_⟩|⟨hj,f2⟩
 .rw[e1]at f1;cases f1;exact⟨ad,md,kp _ _ (dJ (pS h2 h1)) h1,pC,kp.lst (λz=>h5 (z ▸ kL)) h3,kp.lst (λz=>h6 (z ▸ kL)) h4,h5,h6⟩
 .exact(h.cs j k' d f1 f2).nU kp h2 kL λz=>hj (LR h.nw f1 e1 z)
noncomputable def tH.add(A:tH)(k:rk):tH:={A with cs:=A.cs++[k]}
def Ae(A:tH)(k:rk):(A.add k).lists=A.lists++[k.wy]:=by unfold tH.add tH.lists;rw[dF];rfl
def pL.dom(h:pL a M A V):(∀x∈A.lists,∃ds,oR M x=some ds)/\∀x∈A.foot,∃c,M x=some c:=by
 have hc:∀k∈A.cs,(∃ds,oR M k.wy=some ds)/\∃c,M k.p=some c:=λk hk=>by
  obtain⟨i,hi,e⟩:=gO hk;have e1:A.cs[i]?=some k:=by rw[cW hi,e]
  have Xz:i<V.calls.length:=by rw[<-h.len];exact hi
  have e2:V.calls[i]?=some V.calls[i]:=cW Xz;obtain⟨ad,md,h1,h2,_⟩:=h.cs i k _ e1 e2;exact⟨⟨_,h2⟩,_,h1⟩
 have hl:∀x∈A.lists,∃ds,oR M x=some ds:=λx hx=>by
  unfold tH.lists at hx;simp only[df,dB]at hx;rcases hx with rfl|rfl|rfl|rfl|⟨k,hk,rfl⟩
  .exact⟨_,h.ca⟩
  .exact⟨_,h.le⟩
  .exact⟨_,h.on⟩
  .exact⟨_,h.lo⟩
  .exact(hc k hk).1
 refine⟨hl,λx hx=>?_⟩;unfold tH.foot at hx;simp only[df,dX,dB]at hx;rcases hx with rfl|rfl|hx|⟨k,hk,rfl⟩
 .exact⟨_,h.at_⟩
 .exact⟨_,zv h.nx⟩
 .obtain⟨ds,e⟩:=hl x hx;exact⟨_,qg e⟩
 .exact(hc k hk).2
def pL.nZ(h:pL a M A V){x:Addr}(hx:M x=none):x∉A.lists:=λz=>by obtain⟨ds,e⟩:=h.dom.1 x z;have:=qg e;rw[hx]at this;cases this
def pL.nv(h:pL a M A V){x:Addr}(hx:M x=none):x∉A.lists++V.fo:=λz=>by
 rcases dX.mp z with z|z
 .exact h.nZ hx z
 .obtain⟨c,e⟩:=h.fo x z;rw[hx]at e;cases e
def pL.nM(h:pL a M A V){x:Addr}(hx:M x=none):x∉A.foot:=λz=>by obtain⟨ds,e⟩:=h.dom.2 x z;rw[hx]at e;cases e
def pL.oa(h:pL a M A V)(s:qw M M1){p wy ad md:Addr}{c:pz}(hp:M p=none)(hw:M wy=none)(ha:M ad=none)(hm:M md=none)(h1:M1 p=some (.ins a.e (rg c wy ad md)))(h2:oR M1 wy=some (c.way.map D.str))(h3:oR M1 ad=some (c.at_.map D.str))(h4:oR M1 md=some (c.ms.map D.str))(n1:ad≠wy)(n2:md≠wy):
  pL a (pD M1 A.ca (.lst ((A.cs.map λk=>D.ref k.p)++[.ref p]))) (A.add ⟨p,wy⟩) {V with calls:=V.calls++[c]}/\qQ A M (A.add ⟨p,wy⟩) (pD M1 A.ca (.lst ((A.cs.map λk=>D.ref k.p)++[.ref p]))):=by
 have h':=h.sub s;have kp:rV A.ca M1 (pD M1 A.ca (.lst ((A.cs.map λk=>D.ref k.p)++[.ref p]))):=.put;obtain⟨m1,m2,m3,m4,m5,m6,nw⟩:=h.ne;have wL:wy∉A.lists:=h.nZ hw;have cL:=h.oP.1;have nl':∀x,x∉A.lists++V.fo->x≠wy->x∉(A.add ⟨p,wy⟩).lists++V.fo:=λx h1 h2=>by
  rw[Ae,dX,dX,dq]
  rintro ((z|z)|z)
  .exact h1 (fB _ z)
  .exact h2 z
  .exact h1 (eF _ z)
 have W8:∀x c,M x=some c->x≠wy:=λx c e z=>by rw[z,hw]at e;cases e
 refine⟨⟨kp _ _ (dJ (pS h'.ca h'.at_)) h'.at_,?_,kp.lst (dJ m1) h'.le,kp.dk (uP h'.nx h'.ca) h'.nx,kp.lst (dJ m2) h'.on,kp.lst (dJ m3) h'.lo,?_,λi k d e1 e2=>?_,?_,?_,wY h'.fo⟩,λx d n e=>kp x d (λz=>n (z ▸ A.mW.2.2.1)) (s x d e),λx hx=>?_,λi k e=>by show(A.cs++[(⟨p,wy⟩:rk)])[i]?=some k;rw[eO (cX.mp e).1];exact e,λx d e=>Ec (s x d e)⟩
 .show oR _ A.ca=some ((A.cs++[(⟨p,wy⟩:rk)]).map λk=>D.ref k.p);rw[dF];exact pC
 .show(A.cs++[(⟨p,wy⟩:rk)]).length=(V.calls++[c]).length;rw[cV,cV,h.len];rfl
 .have e1:(A.cs++[(⟨p,wy⟩:rk)])[i]?=some k:=e1;have e2:(V.calls++[c])[i]?=some d:=e2;by_cases hi:i<A.cs.length
  .rw[eO hi]at e1;rw[eO (by rw[<-h.len];exact hi)]at e2;obtain⟨ZE,ZF,g1,g2,g3,g4,g5,g6⟩:=(h.cs i k d e1 e2);refine⟨ZE,ZF,kp _ _ (λz=>by have:=s _ _ g1;rw[z,qg h'.ca]at this;cases this) (s _ _ g1),kp.lst (nw k (qU e1)).1 (s.lst g2),kp.lst (λz=>g5 (z ▸ cL)) (s.lst g3),kp.lst (λz=>g6 (z ▸ cL)) (s.lst g4),nl' _ g5 (W8 _ _ (qg g3)),nl' _ g6 (W8 _ _ (qg g4))⟩
  .have Ym:i=A.cs.length:=by have:=(cX.mp e1).1;rw[cV,dP]at this;omega
   subst Ym;rw[eB (dg _)]at e1;rw[h.len,eB (dg _)]at e2;simp only[fW,iA,jo]at e1 e2;subst e1 e2;have q1:p≠A.ca:=λz=>by rw[z,qg h'.ca]at h1;cases h1
   have q2:wy≠A.ca:=λz=>wL (z ▸ h.oB.1);exact⟨ad,md,kp p _ q1 h1,kp.lst (a:=wy) q2 h2,kp.lst (λz=>h.nv ha (z ▸ cL)) h3,kp.lst (λz=>h.nv hm (z ▸ cL)) h4,nl' _ (h.nv ha) n1,nl' _ (h.nv hm) n2⟩
 .rw[Ae];refine fQ.mpr ⟨h.nl,dQ.mpr ⟨dC,eI⟩,λx hx y hy=>?_⟩;rw[dq]at hy;subst hy;exact λz=>wL (z ▸ hx)
 .show(A.b::(A.cs++[(⟨p,wy⟩:rk)]).map (·.p)).Nodup;rw[dF,<-List.cons_append];refine fQ.mpr ⟨h.np,dQ.mpr ⟨dC,eI⟩,λx hx y hy=>?_⟩;rw[dS,iL,dq]at hy;subst hy;refine λz=>h.nM hp (z ▸ ?_);rcases df.mp hx with y|y
  .rw[y];exact A.mW.1
  .obtain⟨k,hk,rfl⟩:=dB.mp y;exact A.mW.2.2.2.2.2.1 k hk
 .unfold tH.foot at hx;rw[Ae]at hx;have hx:x∈A.b::A.nx::(A.lists++[wy]++(A.cs++[(⟨p,wy⟩:rk)]).map (·.p)):=hx;simp only[df,dX,dF,dS,iL,dC,eX]at hx;unfold tH.foot;simp only[df,dX];rcases hx with z|z|(z|z)|(z|z)
  .exact .inl (.inl z)
  .exact .inl (.inr (.inl z))
  .exact .inl (.inr (.inr (.inl z)))
  .exact .inr (by rw[z];exact hw)
  .exact .inl (.inr (.inr (.inr z)))
  .exact .inr (by rw[z];exact hp)
def pL.oz{a:Ad}{M:Mp}{A:tH}{V:qr}{p:Addr}{es:List rS}(h:pL a M A V)(hp:M p=none):
  pL a (pD (pD M p (.lst (es.map rS.d))) A.b (.ins a.c (tL (.ref V.p) V.h V.t A.ca p A.nx A.on A.lo))) {A with le:=p} {V with mU:=es}/\qQ A M {A with le:=p} (pD (pD M p (.lst (es.map rS.d))) A.b (.ins a.c (tL (.ref V.p) V.h V.t A.ca p A.nx A.on A.lo))):=by
 have t:=qw.new (c:=.lst (es.map rS.d)) hp;have lp:=@pC M p (es.map rS.d);have h1:=h.sub t;have np:p∉A.lists:=h.nZ hp;have nf:p∉A.foot:=h.nM hp;have W8:∀x c,M x=some c->x≠p:=λx c e z=>by rw[z,hp]at e;cases e
 generalize pD M p (.lst (es.map rS.d))=M1 at t lp h1 ⊢;have kp:rV A.b M1 (pD M1 A.b (.ins a.c (tL (.ref V.p) V.h V.t A.ca p A.nx A.on A.lo))):=.put;have sub:∀x,x∉A.lists++V.fo->x≠p->x∉({A with le:=p}:tH).lists++V.fo:=λx h1 h2 z=>by
  rcases dX.mp z with z|z
  rotate_left
  .exact h1 (eF _ z)
  have h1:x∉A.lists:=λy=>h1 (fB _ y);unfold tH.lists at h1 z;simp only[df,fH]at h1 z;rcases z with z|z|z|z|z
  .exact h1.1 z
  .exact h2 z
  .exact h1.2.2.1 z
  .exact h1.2.2.2.1 z
  .exact h1.2.2.2.2 z
 refine⟨⟨pP,kp.lst (pS h1.ca h1.at_) h1.ca,kp.lst (pS lp h1.at_) lp,kp.dk (BC h1.nx h1.at_) h1.nx,kp.lst (pS h1.on h1.at_) h1.on,kp.lst (pS h1.lo h1.at_) h1.lo,h.len,λi k c e1 e2=>?_,?_,h.np,wY h1.fo⟩,λx c n e=>kp x c (λz=>n (z ▸ A.mW.1)) (t x c e),λx hx=>?_,λi k e=>e,λx d e=>Ec (t x d e)⟩
 .obtain⟨ad,md,g1,g2,g3,g4,g5,g6⟩:=(h.cs i k c e1 e2);obtain⟨ZE,ZF,f1,f2,f3,f4,f5⟩:=((h.cs i k c e1 e2).sub t).n9 kp h1.at_ (h.oO.2 k (qU e1));have q1:=kp _ _ (λz=>h.oO.2 k (qU e1) z) (t _ _ g1);exact⟨ad,md,q1,f2,kp.lst (pS (t.lst g3) h1.at_) (t.lst g3),kp.lst (pS (t.lst g4) h1.at_) (t.lst g4),sub _ g5 (W8 _ _ (qg g3)),sub _ g6 (W8 _ _ (qg g4))⟩
 .have n:=h.nl;unfold tH.lists at n np ⊢;simp only[df,fH]at np;simp only[dQ,df,fH]at n ⊢;exact⟨⟨λz=>np.1 z.symm,n.1.2⟩,⟨np.2.2.1,np.2.2.2.1,np.2.2.2.2⟩,n.2.2⟩
 .by_cases z:x=p
  .exact .inr (z ▸ hp)
  .refine .inl ?_;unfold tH.foot tH.lists at hx ⊢;simp only[df,dX]at hx ⊢;rcases hx with y|y|(y|y|y|y|y)|y
   .exact .inl y
   .exact .inr (.inl y)
   .exact .inr (.inr (.inl (.inl y)))
   .exact absurd y z
   .exact .inr (.inr (.inl (.inr (.inr (.inl y)))))
   .exact .inr (.inr (.inl (.inr (.inr (.inr (.inl y))))))
   .exact .inr (.inr (.inl (.inr (.inr (.inr (.inr y))))))
   .exact .inr (.inr (.inr y))
def w9(x:D)(l:List D):vD (x::l) 0=some x:=by
 unfold vD;have:EG (x::l).length 0=some 0:=by unfold EG;rw[dZ];simp
 rw[this];rfl
def xJ(f:pz->Str->Bool)(a:Ad):rh:=λds M Q=>BK λL k c x=>ds=[.ref k.p,.str x]/\rN a M L k c/\Q (.bl (f c x)) M
abbrev GZ:=xJ pz.hasB
abbrev yZ:=xJ pz.mS
abbrev D9:=xJ pz.m9
abbrev yQ:=xJ pz.mT
abbrev vF:=xJ pz.mQ
abbrev Fl:=xJ pz.mV
abbrev xg:=xJ pz.nC
noncomputable def PM(x:Str):D->Bool
 | .str y=>!(y==x)
 | _=>false
def za(a:Ad):rh:=λds M Q=>Ji λL k c x y r=>ds=[.ref k.p,.str x]/\rN a M L k c/\c.ms.length<=100/\rC c.ms x=y::r/\Q (.str y) M
def Ce(ss:QQQ)(x:Str):[]++(List.filter (PM x) (ss.map D.str)).map id=(rC ss x).map D.str:=by rw[dY,jd,gW];rfl
def Do{M:Mp}{k:Addr}{ks:QQQ}{c:Str}{K:DK}(hk:oR M k=some (ks.map D.str))(h:K (.bl (hasS ks c)) M):Ra false (.str c) (.ref k) M K:=by refine i' hk ⟨rfl,qk ks,?_⟩;show K (.bl (inD (.str c) (ks.map D.str))) M;rw[rP];exact h
def VY(w x y:Str):inD (.str w) [.str x,.str y]=(w==x||w==y):=by rw[show[D.str x,D.str y]=[x,y].map D.str from rfl,rP,gi];simp only[fX,List.any_nil,kz,gU,fi];exact⟨λh=>h.imp mj mj,λh=>h.imp mj mj⟩
def RD:Fq P w K mg base 1 a.bL (GZ a):=by
 refine fq G.bL.toDG Gw (λr u=>⟨_,(pb (pN (pF u (pB v0) pq)
 (pf (pA (HV (qh u U1 (pB v0)) (sH (qh u U1 (pB v0))))))
 pH)
 (pb (pN (pF u (pB v0) pq)
 (pf (pA (qh u U1 (pB v0))))
 pH)
 (pf (pA (sU (qh u (pB v0) (pK (rW pq pq))) (sH (qh u U1 (pB v0)))))))),?_⟩)
 rintro ds M Q ⟨L,k,c,x,rfl,⟨ad,md,h1,h2,h3,h4,_⟩,q⟩
 unfold pz.hasB at q;refine pj h1 (i' rfl ?_);refine qD (c:=c.st=="rings") (λg=>?_) (λg=>?_)
 .rw[c9 g]at q;refine pj h1 (i' rfl (qD (c:=x==c.cr) (λg2=>?_) (λg2=>?_)))
  .rw[g2]at q;exact⟨M,.refl,q⟩
  .rw[show(x==c.cr)=false from dG.mpr g2,fL]at q;exact pj h1 (i' rfl (Do h3 ⟨M,.refl,q⟩))
 .rw[cY g]at q;refine pj h1 (i' rfl ?_);refine qD (c:=c.st=="waits") (λg2=>?_) (λg2=>?_)
  .rw[c9 g2]at q;exact pj h1 (i' rfl ⟨M,.refl,q⟩)
  .rw[cY g2]at q;refine pj h1 (i' rfl ⟨oZ rfl,rfl,rfl,?_⟩);show if inD (.str c.st) [.str "talks",.str "held"]=true then _ else _
   rw[VY];refine qD (λg3=>?_) (λg3=>?_)
   .rw[g3,eJ]at q;exact pj h1 (i' rfl (Do h4 ⟨M,.refl,q⟩))
   .rw[show(c.st=="talks"||c.st=="held")=false from dG.mpr g3,eV]at q;exact⟨M,.refl,q⟩
def vW:Fq P w K mg base 1 a.U (yZ a):=by
 refine fq G.U.toDG yz (λr u=>⟨_,(pf (pA (sU (qh u (pB v0) pq) (sH (qh u U1 (pB v0)))))),?_⟩)
 rintro ds M Q ⟨L,k,c,x,rfl,⟨ad,md,h1,h2,h3,h4,_⟩,q⟩
 unfold pz.mS at q;refine pj h1 (i' rfl (qD (c:=c.st=="talks") (λg=>?_) (λg=>?_)))
 .rw[g,eJ]at q;exact pj h1 (i' rfl (Do h4 ⟨M,.refl,q⟩))
 .rw[show(c.st=="talks")=false from dG.mpr g,eV]at q;exact⟨M,.refl,q⟩
def LH:Fq P w K mg base 2 a.bK (D9 a):=by
 refine fq G.bK.toDG CA (λr u=>⟨_,(pb (pN (pF u (pB v0) pq)
 (pf (pA (sU (qh u U1 (pB v0)) (sH (qh u U1 (pB v0))))))
 pH)
 (pf (pA (pU v0 G.e.toCls G.U (vW G) r (qc U1))))),?_⟩)
 rintro ds M Q ⟨L,k,c,x,rfl,hc,q⟩
 obtain⟨ad,md,h1,h2,h3,h4,_⟩:=id hc;unfold pz.m9 at q;refine pj h1 (i' rfl ?_);refine qD (c:=c.st=="held") (λg=>?_) (λg=>?_)
 .rw[c9 g]at q;refine pj h1 (i' rfl (i' h4 ⟨rfl,qk c.ms,?_⟩));show if inD (.str x) (c.ms.map D.str)=true then _ else _
  rw[rP];refine qD (c:=hasS c.ms x) (λg2=>?_) (λg2=>?_)
  .rw[g2,eJ]at q;refine pj h1 (i' rfl ?_);cases e:c.hd with
   | none=>rw[e]at q;exact⟨M,.refl,q⟩
   | some y=>
    rw[e]at q;refine⟨M,.refl,?_⟩;rw[show(!(some y==some x))=!(x==y)from by
     show(!(y==x))=_;rw[mo]]at q
    exact q
  .rw[show hasS c.ms x=false from dG.mpr g2,eV]at q;exact⟨M,.refl,q⟩
 .rw[cY g]at q;exact pj h1 ⟨rfl,_,⟨rfl,rfl⟩,L,k,c,x,rfl,hc,M,.refl,q⟩
def BS:Fq P w K mg base 1 a.V (yQ a):=by
 refine fq G.V.toDG yg (λr u=>⟨_,(pf (pA (sU (qh u (pB v0) (pK (rW pq pq))) (sH (qh u U1 (pB v0)))))),?_⟩)
 rintro ds M Q ⟨L,k,c,x,rfl,⟨ad,md,h1,h2,h3,h4,_⟩,q⟩
 unfold pz.mT at q;refine pj h1 (i' rfl ⟨oZ rfl,rfl,rfl,?_⟩);show if inD (.str c.st) [.str "rings",.str "waits"]=true then _ else _
 rw[VY];refine qD (λg3=>?_) (λg3=>?_)
 .rw[g3,eJ]at q;exact pj h1 (i' rfl ⟨M,.refl,q⟩)
 .rw[show(c.st=="rings"||c.st=="waits")=false from dG.mpr g3,eV]at q;exact⟨M,.refl,q⟩
def FH:Fq P w K mg base 1 a.aH (vF a):=by
 refine fq G.aH.toDG yD (λr u=>⟨_,(pf (pA (sU (qh u (pB v0) pq) (sH (qh u U1 (pB v0)))))),?_⟩)
 rintro ds M Q ⟨L,k,c,x,rfl,⟨ad,md,h1,h2,h3,h4,_⟩,q⟩
 unfold pz.mQ at q;refine pj h1 (i' rfl (qD (c:=c.st=="waits") (λg=>?_) (λg=>?_)))
 .rw[g,eJ]at q;exact pj h1 (i' rfl (Do h3 ⟨M,.refl,q⟩))
 .rw[show(c.st=="waits")=false from dG.mpr g,eV]at q;exact⟨M,.refl,q⟩
def LM:Fq P w K mg base 2 a.bJ (xg a):=by
 refine fq G.bJ.toDG wB (λr u=>⟨_,(pf (pA (HV (pU v0 G.e.toCls G.V (BS G) r (qc U1)) (HV (qh u U1 (pB v0)) (sH (qh u U1 (pB v0))))))),?_⟩)
 rintro ds M Q ⟨L,k,c,x,rfl,hc,q⟩
 obtain⟨ad,md,h1,h2,h3,h4,_⟩:=id hc;unfold pz.nC at q;refine pj h1 ⟨rfl,_,⟨rfl,rfl⟩,L,k,c,x,rfl,hc,qD (c:=c.mT x) (λg=>?_) (λg=>?_)⟩
 .rw[g]at q;exact⟨M,.refl,q⟩
 .rw[show c.mT x=false from dG.mpr g,fL]at q;refine pj h1 (i' rfl (i' h3 ⟨rfl,qk c.at_,?_⟩));show if inD (.str x) (c.at_.map D.str)=true then _ else _
  rw[rP];refine qD (c:=hasS c.at_ x) (λg2=>?_) (λg2=>?_)
  .rw[g2]at q;exact⟨M,.refl,q⟩
  .rw[show hasS c.at_ x=false from dG.mpr g2,fL]at q;exact pj h1 (i' rfl (Do h4 ⟨M,.refl,q⟩))
def Gi:Fq P w K mg base 2 a.aK (Fl a):=by
 refine fq G.aK.toDG CN (λr u=>⟨_,(pf (pA (sU (pU v0 G.e.toCls G.U (vW G) r (qc U1)) (sH (qh u (pQ qu rfl G.g qp (qc (pB v0))) pk))))),?_⟩)
 rintro ds M Q ⟨L,k,c,x,rfl,hc,q⟩
 obtain⟨ad,md,h1,h2,h3,h4,_⟩:=id hc;unfold pz.mV at q;refine pj h1 ⟨rfl,_,⟨rfl,rfl⟩,L,k,c,x,rfl,hc,qD (c:=c.mS x) (λg=>?_) (λg=>?_)⟩
 .rw[g,eJ]at q;refine pj h1 (i' rfl (i' h4 ⟨M,.refl,?_⟩));rw[cT];have:(((c.ms.length:Nat):Int)==2)=(c.ms.length==2):=by rw[gi,fi,fi];omega
  show Q (.bl (((c.ms.length:Nat):Int)==2)) M;rw[this];exact q
 .rw[show c.mS x=false from dG.mpr g,eV]at q;exact⟨M,.refl,q⟩
def FX:Fq P w K mg base 1 a.aI (za a):=by
 refine fq G.aI.toDG yM (λr u=>⟨_,(pf (pA (pE (qJ rfl (yh (ix:=[none,some 1]) (N':=["member","phone"])) (qH (pB v0)) (qF 0) (vQ (pF u v0 U1)) v0) pk))),?_⟩)
 rintro ds M Q ⟨L,k,c,x,y,r,rfl,hc,hl,e,q⟩
 have hz:=dO;obtain⟨ad,md,h1,h2,h3,h4,_⟩:=id hc;refine pj h1 (i' rfl (i' h4 (tw (f:=id) (t:=PM x) h4 _ [] _ (by rw[cT];simp only[dM];omega) (λd hd k0 hk=>?_) (λd hd _ k0 hk=>?_) λp hp=>?_)))
 .obtain⟨y,hy,rfl⟩:=dB.mp hd;exact hk
 .obtain⟨y,hy,rfl⟩:=dB.mp hd;exact hk
 rw[Ce,e];exact i' pC (i' (w9 _ _) ⟨M,.new hp,q⟩)
theorem Cq:∀bs:List Bool,zS (.bl true) (bs.map D.bl)=bs.findIdx? id
 | []=>rfl
 | b::r=>by rw[dS,List.findIdx?_cons];unfold zS;rw[Cq r];cases b<;>rfl
theorem Mw(x:D):∀ds:List D,(zS x ds).isSome=ds.any λd=>Ny d x
 | []=>rfl
 | d::r=>by
  unfold zS;rw[fX];by_cases h:Ny d x=true
  .rw[c9 h,h];rfl
  .rw[cY h,jn,Mw x r,show Ny d x=false from dG.mpr h,fL]
theorem B7:∀bs:List Bool,(bs.map D.bl).all uu=true
 | []=>rfl
 | _::r=>by rw[dS,fk,B7 r];rfl
structure Rd(a:Ad)(M:Mp)(A:tH)(V:qr)(l:pG):Prop where
 bd:pL a M A V
 k:V.calls.length<=1000000
 pl:sW a M V.p l
 ok:rM l
 on:V.on.length=l.mI.length
 ms:∀c∈V.calls,(∀x∈c.ms,x∈l.pn)/\c.ms.length<=100
def Rd.sub{a:Ad}{M M':Mp}{A:tH}{V:qr}{l:pG}(h:Rd a M A V l)(s:qw M M'):Rd a M' A V l:=⟨h.bd.sub s,h.k,h.pl.sub s,h.ok,h.on,h.ms⟩
def Kz:rh:=λds M Q=>B1 λr bs=>ds=[.ref r]/\oR M r=some (List.map D.bl bs)/\Q (NP (bs.findIdx? id)) M
def Je(f:qr->Str->D)(a:Ad):rh:=λds M Q=>Df λA V x=>ds=[.ref A.b,.str x]/\pL a M A V/\V.calls.length<=1000000/\Q (f V x) M
noncomputable def TU(V:qr)(x:Str):D:=.int (um V x:Nat)
noncomputable def LG(V:qr)(x:Str):D:=NP (Ew V x)
noncomputable def yo(V:qr)(x:Str):D:=NP (sD V x)
noncomputable def SV(V:qr)(x:Str):D:=NP (Ig V x)
noncomputable def SW(V:qr)(x:Str):D:=.bl (wZ V x)
abbrev Ed:=Je TU
abbrev C8:=Je LG
abbrev AN:=Je yo
abbrev AG:=Je SV
abbrev zY:=Je SW
def xc(a:Ad):rh:=λds M Q=>BK λA V l x=>ds=[.ref A.b,.str x]/\Rd a M A V l/\x∈l.pn/\Q (.bl (tI l V x)) M
def zT(a:Ad):rh:=λds M Q=>GG λA V l c z=>ds=[.ref A.b,.str c,.str z]/\Rd a M A V l/\z∈l.nm/\∀q M',qw M M'->M q=none->oR M' q=some ((tG l V c z).map D.str)->Q (.ref q) M'
def zM(a:Ad):rh:=λds M Q=>B1 λA V=>ds=[.ref A.b]/\pL a M A V/\Q (.int ((V.h+V.t) % 24)) M
def Nr(a:Ad):rh:=λds M Q=>GG λA V l c z=>ds=[.ref A.b,.str c,.str z]/\Rd a M A V l/\z∈l.nm/\Q (.bl (uT l V c z)) M
def IY{a:Ad}{M:Mp}{A:tH}{V:qr}(h:pL a M A V){pre post:List D}{d:D}(e:pre++d::post=A.cs.map λk=>D.ref k.p):∃k c,A.cs[pre.length]?=some k/\V.calls[pre.length]?=some c/\d=.ref k.p/\rN a M (A.lists++V.fo) k c/\V.calls.take (pre.length+1)=V.calls.take pre.length++[c]:=by
 have h1:(A.cs.map λk=>D.ref k.p)[pre.length]?=some d:=by rw[<-e];simp
 rw[dA]at h1;cases z:A.cs[pre.length]? with
 | none=>rw[z]at h1;cases h1
 | some k=>
  rw[z]at h1;have hi:pre.length<V.calls.length:=by rw[<-h.len];exact(cX.mp z).1
  have e2:V.calls[pre.length]?=some V.calls[pre.length]:=cW hi;refine⟨k,_,rfl,e2,(dh h1).symm,h.cs _ _ _ z e2,?_⟩;rw[gj,e2];rfl
def yN{l:pG}{x:Str}(h:x∈l.pn):∃v,l.m8 x=some v:=by
 obtain⟨p,hp,rfl⟩:=dB.mp h;unfold pG.m8;cases e:l.mJ.find? λq=>decide (q.1=p.1)with
 | some v=>exact⟨v,rfl⟩
 | none=>exact absurd (gX.mp e p hp) (by simp)
def qM{ss:QQQ}{x:Str}:hasS ss x=true↔x∈ss:=by unfold hasS;rw[gv];exact⟨λ⟨y,hy,e⟩=>eq_of_beq e ▸ hy,λh=>⟨x,h,eY _⟩⟩
def Jt{ss:QQQ}(h:wU ss=true):ss.Nodup:=by
 have h:(sL ss).length=ss.length:=by unfold wU at h;have:=fi.mp h;omega
 suffices key:∀r:QQQ,(sL r.reverse).length=r.reverse.length->r.reverse.Nodup by have:=key ss.reverse;rw[List.reverse_reverse]at this;exact this h
 intro r;induction r with
 | nil=>intro _;exact eI
 | cons k r ih=>
  intro h;rw[List.reverse_cons]at h ⊢;generalize r.reverse=l at ih h ⊢;rw[yd]at h;split at h
  .have:=IK l;rw[cV,dP]at h;omega
  .rename_i hk;rw[cV,cV,dP]at h;have h1:=ih (by omega);rw[LD]at hk;refine fQ.mpr ⟨h1,by simp,λx hx y hy=>?_⟩;rw[dq.mp hy];exact λz=>hk (z ▸ hx)
def Hj{cs ks:QQQ}{m:Int}(h:su cs ks m=true):cs≠[]/\(cs.length:Int)<=m/\cs.Nodup/\∀x∈cs,x∈ks:=by unfold su at h;simp only[dU,eh,eM]at h;obtain⟨h1,h2,h3,h4⟩:=h;refine⟨λz=>by rw[z]at h1;exact absurd h1 (by decide),h2,Jt h3,λx hx=>qM.mp (h4 x hx)⟩
def rM.of{l:pG}(ok:rM l){z:Str}(hz:z∈l.nm):(l.mG z≠[]/\(l.mG z).length<=4/\(l.mG z).Nodup/\∀x∈l.mG z,x∈l.pn)/\(z∈l.pn->l.mG z=[z]/\l.mO z="one"):=by
 have hd:=fQ.mp ok.nd;have h1:z∈l.pn->l.group z=none:=λh=>gX.mpr λg hg e=>hd.2.2 z h g.1 (dB.mpr ⟨g,hg,rfl⟩) (by simpa using e:g.1=z).symm;refine⟨?_,λh=>by unfold pG.mG pG.mO;rw[h1 h];exact⟨rfl,rfl⟩⟩;unfold pG.mG;cases e:l.group z with
 | none=>
  have hp:z∈l.pn:=by
   rcases dX.mp hz with h|h
   .exact h
   .obtain⟨g,hg,rfl⟩:=dB.mp h;exact absurd (gX.mp e g hg) (by simp)
  exact⟨fK _ _,by show 1<=4;decide,dQ.mpr ⟨dC,eI⟩,λx hx=>by rw[dq.mp hx];exact hp⟩
 | some g=>obtain⟨c1,c2,c3,c4⟩:=Hj (ok.go g (fN e)).mem;exact⟨c1,by show g.2.2.length<=4;omega,c3,c4⟩
def yb{a:Ad}{M:Mp}{A:tH}{V:qr}{f:pz->Str->Bool}{m x:Str}{Q:DK}{ok:Mp->Prop}(bd:pL a M A V)(hk:V.calls.length<=1000000)(mR:ok M)(hm:∀c wy ad md,(rg c wy ad md).lookup m=none)(q:∀p,M p=none->Q (.ref p) (pD M p (.lst ((V.calls.map λc=>f c x).map D.bl)))):
  uV (sO 0) Bf (An m (λC s=>C=a.e/\s=xJ f a) (v3 0) (vc (v3 1) xy)) ok Q (A.cs.map λk=>D.ref k.p) [] [none,some (.str x)] M:=by
 have hz:=dO;refine D0 (A.cs.map λk=>D.ref k.p) (λpre acc δ M'=>M=M'/\acc=((V.calls.take pre.length).map λc=>f c x).map D.bl/\∃y,δ=[y,some (.str x)]) (λ_ _ _ M' j=>by rw[<-j.1];exact mR) _ [] [] _ _ rfl ?_ ⟨rfl,rfl,none,rfl⟩ ?_ ?_
 .rw[cT,bd.len];simp only[dM];omega
 .rintro pre d post e acc δ M' ⟨rfl,rfl,y,rfl⟩ k hk
  obtain⟨ka,c,e1,e2,rfl,hc,et⟩:=IY bd e;obtain⟨_,_,g1,_⟩:=id hc;refine pj g1 ⟨hm _ _ _ _,_,⟨rfl,rfl⟩,_,ka,c,x,rfl,hc,hk _ _ _ ⟨rfl,?_,_,rfl⟩⟩;rw[cV,dP,et,dF,dF];rfl
 .rintro acc δ M' ⟨rfl,rfl,y,rfl⟩ p hp
  rw[cT,bd.len,fD];exact q p hp
def B6:Fq P w K mg base 1 a.M Kz:=by
 refine fq G.M.toDG Ab (λr u=>⟨_,(pb (pN (pF u yl v0)
 (pf (pA (xR v0 (qc yl))))
 pH)
 (pf (pA rL))),?_⟩)
 rintro ds M Q ⟨r,bs,rfl,hr,q⟩
 have ei:inD (.bl true) (bs.map D.bl)=(bs.findIdx? id).isSome:=by rw[<-Cq];exact(Mw _ _).symm
 refine i' hr ⟨rfl,B7 bs,?_⟩;show if inD (.bl true) (bs.map D.bl)=true then _ else _
 rw[ei];cases e:bs.findIdx? id with
 | none=>rw[e]at q;exact⟨M,.refl,q⟩
 | some j=>rw[e]at q;exact M9 ⟨by show(oR M r).isSome=true;rw[hr];rfl,i' hr ⟨rfl,B7 bs,i' ((Cq bs).trans e) ⟨M,.refl,q⟩⟩⟩
def NZ:Fq P w K mg base 2 a.bH (Ed a):=by
 refine fq G.bH.toDG C5 (λr u=>⟨_,(pf (pA (pQ qu rfl G.g qp (qc (qJ rfl (yh (ix:=[none,some 1]) (N':=["call","phone"])) (qH (pB v0)) (qF 0) (vQ (vp (pU v0 G.e.toCls G.bL (RD G) r (qc U1)))) v0))))),?_⟩)
 rintro ds M Q ⟨A,V,x,rfl,bd,WV,q⟩
 have hz:=dO;refine pj bd.at_ (i' rfl (i' bd.ca ?_));refine xY (A.cs.map λk=>D.ref k.p) (λpre acc δ M'=>M=M'/\acc.length=((V.calls.take pre.length).filter (·.hasB x)).length/\∃y,δ=[y,some (.str x)]) (λ_ _ _ M' j=>by rw[<-j.1];exact bd.ca) _ [] [] _ _ rfl ?_ ⟨rfl,rfl,none,rfl⟩ ?_ ?_
 .rw[cT,bd.len];simp only[dM];omega
 .rintro pre d post e acc δ M' ⟨rfl,ha,y,rfl⟩ k k2 hk XN
  obtain⟨ka,c,e1,e2,rfl,hc,et⟩:=IY bd e;rw[cV,dP,et,iw]at hk XN;obtain⟨_,_,g1,_⟩:=id hc;refine pj g1 ⟨rfl,_,⟨rfl,rfl⟩,_,ka,c,x,rfl,hc,?_⟩;refine qD (c:=c.hasB x) (λg=>?_) (λg=>?_)
  .refine hk _ _ _ ⟨rfl,?_,_,rfl⟩;rw[cV,cV,ha,iz (by exact g)];rfl
  .refine XN _ _ ⟨rfl,?_,_,rfl⟩;rw[cV,ha,gQ (by exact g)];rfl
 .rintro acc δ M' ⟨rfl,ha,y,rfl⟩ p hp
  refine i' pC ⟨M,.new hp,?_⟩;rw[cT,bd.len,fD]at ha;rw[ha];exact q
def KQ:Fq P w K mg base 3 a.bF (C8 a):=by
 refine fq G.bF.toDG B2 (λr u=>⟨_,(pf (pA (pI (B6 G) r G.M (qc (qJ rfl (yh (ix:=[none,some 1]) (N':=["call","phone"])) (qH (pB v0)) (qF 0) rO (pU v0 G.e.toCls G.bK (LH G) r (qc U1))))))),?_⟩)
 rintro ds M Q ⟨A,V,x,rfl,bd,WV,q⟩
 refine pj bd.at_ (i' rfl (i' bd.ca (yb bd WV bd.ca (λ_ _ _ _=>rfl) λp hp=>⟨p,_,rfl,pC,M,.new hp,?_⟩)));rw[hJ];exact q
def Ha:Fq P w K mg base 3 a.bG (AG a):=by
 refine fq G.bG.toDG zQ (λr u=>⟨_,(pf (pA (pI (B6 G) r G.M (qc (qJ rfl (yh (ix:=[none,some 1]) (N':=["call","phone"])) (qH (pB v0)) (qF 0) rO (pU v0 G.e.toCls G.V (BS G) r (qc U1))))))),?_⟩)
 rintro ds M Q ⟨A,V,x,rfl,bd,WV,q⟩
 refine pj bd.at_ (i' rfl (i' bd.ca (yb bd WV bd.ca (λ_ _ _ _=>rfl) λp hp=>⟨p,_,rfl,pC,M,.new hp,?_⟩)));rw[hJ];exact q
def wW:Fq P w K mg base 3 a.J (AN a):=by
 refine fq G.J.toDG zN (λr u=>⟨_,(pf (pA (pI (B6 G) r G.M (qc (qJ rfl (yh (ix:=[none,some 1]) (N':=["call","phone"])) (qH (pB v0)) (qF 0) rO (pU v0 G.e.toCls G.U (vW G) r (qc U1))))))),?_⟩)
 rintro ds M Q ⟨A,V,x,rfl,bd,WV,q⟩
 refine pj bd.at_ (i' rfl (i' bd.ca (yb bd WV bd.ca (λ_ _ _ _=>rfl) λp hp=>⟨p,_,rfl,pC,M,.new hp,?_⟩)));rw[hJ];exact q
def Gn:Fq P w K mg base 3 a.bz (zY a):=by
 refine fq G.bz.toDG zE (λr u=>⟨_,(pf (pA (pQ (RS rfl) rfl G.cG Sr (qc (qJ rfl (yh (ix:=[none,some 1]) (N':=["call","phone"])) (qH (pB v0)) (qF 0) rO (pU v0 G.e.toCls G.aH (FH G) r (qc U1))))))),?_⟩)
 rintro ds M Q ⟨A,V,x,rfl,bd,WV,q⟩
 refine pj bd.at_ (i' rfl (i' bd.ca (yb bd WV bd.ca (λ_ _ _ _=>rfl) λp hp=>i' pC ?_)));rw[d6];refine i' (x8 _ _) ⟨M,.new hp,?_⟩;rw[jI];exact q
def FM:Fq P w K mg base 1 a.bx (zM a):=by
 refine fq G.bx.toDG zq (λr u=>⟨_,(pf (pA (pT (pT (pB v0) (pB v0)) pk))),?_⟩)
 rintro ds M Q ⟨A,V,rfl,bd,q⟩
 exact pj bd.at_ (i' rfl (pj bd.at_ (i' rfl ⟨by decide,M,.refl,q⟩)))
def My{l:pG}{x:Str}{v:uA}(h:l.m8 x=some v):wD l x=v.2.1:=by unfold wD;rw[h];rfl
def yB:Fq P w K mg base 3 a.T (xc a):=by
 refine fq G.T.toDG zR (λr u=>⟨_,(pf (pA (qh u (pU v0 G.c.toCls G.bH (NZ G) r (qc U1)) (pU (pB v0) G.h.toCls G.bI (De G) r (qc U1))))),?_⟩)
 rintro ds M Q ⟨A,V,l,x,rfl,rd,hx,q⟩
 obtain⟨ph,gr,ws,XO,pr,gd,rs,i1,_⟩:=rd.pl;obtain⟨v,hv⟩:=yN hx;refine pj rd.bd.at_ ⟨rfl,_,⟨rfl,rfl⟩,A,V,x,rfl,rd.bd,rd.k,?_⟩;refine pj rd.bd.at_ (i' rfl (pj i1 ⟨rfl,_,⟨rfl,rfl⟩,V.p,x,v,l,rfl,rd.pl,hv,?_⟩));unfold tI at q;rw[My hv]at q;exact⟨M,.refl,q⟩
def Ap:Fq P w K mg base 4 a.aE (zT a):=by
 refine fq G.aE.toDG zc (λr u=>⟨_,(pf (pA (qJ rfl (yh (ix:=[none,some 1,some 0]) (N':=["phone","caller","self"])) (qH (pU (pB v0) G.h.toCls G.S (ui G) r (qc U2))) (qF 0) (vQ (W3.b3 (uE (pF u v0 U1) (uI (vp (pU U2 G.c.toCls G.T (yB G) r (qc v0))))))) v0))),?_⟩)
 rintro ds M Q ⟨A,V,l,c,z,rfl,rd,Xf,q⟩
 obtain⟨ph,gr,ws,XO,pr,gd,rs,i1,_⟩:=rd.pl;obtain⟨⟨_,p4,_,pin⟩,_⟩:=rd.ok.of Xf;refine pj rd.bd.at_ (i' rfl (pj i1 ⟨rfl,_,⟨rfl,rfl⟩,V.p,z,l,rfl,rd.pl,λq1 Xl=>i' pC ?_⟩));have s1:=qw.new (c:=.lst (List.map D.str (l.mG z))) Xl;have c1:=@pC M q1 (List.map D.str (l.mG z));generalize pD M q1 (.lst (List.map D.str (l.mG z)))=M1 at s1 c1 ⊢;have hz:=dO;have Yh:=rd.sub s1;refine tw (f:=id) (t:=λd=>match d with|.str x=>!(x==c)&&tI l V x|_=>false) c1 _ [] _ (by rw[cT];simp only[dM];omega) (λd hd k hk=>?_) (λd hd _ k hk=>?_) λq2 YJ=>?_
 .obtain⟨x,hx,rfl⟩:=dB.mp hd;have hk:k (!(x==c)&&tI l V x) M1:=hk;cases e:x==c with
  | true=>rw[e]at hk;refine Lb (c:=!(x==c)) (by rw[e];rfl) hk
  | false=>rw[e]at hk;refine Au (c:=!(x==c)) (by rw[e];rfl) (pj Yh.bd.at_ ⟨rfl,_,⟨rfl,rfl⟩,A,V,l,x,rfl,Yh,pin x hx,hk⟩)
 .obtain⟨x,hx,rfl⟩:=dB.mp hd;exact hk
 .have ef:[]++(List.filter (λd=>match d with|.str x=>!(x==c)&&tI l V x|_=>false) ((l.mG z).map D.str)).map id=(tG l V c z).map D.str:=by rw[dY,jd,gW];rfl
  rw[ef];have t2:=qw.new (c:=.lst ((tG l V c z).map D.str)) YJ;exact⟨_,.refl,q q2 _ (s1.trans t2) (s1.none YJ) pC⟩
def EM:Fq P w K mg base 5 a.N (Nr a):=by
 refine fq G.N.toDG GV (λr u=>⟨_,(pf (pA (qh u (pQ qu rfl G.g qp (qc (pU v0 G.c.toCls G.aE (Ap G) r (rW U1 U2)))) pk))),?_⟩)
 rintro ds M Q ⟨A,V,l,c,z,rfl,rd,tg,q⟩
 refine pj rd.bd.at_ ⟨rfl,_,⟨rfl,rfl⟩,A,V,l,c,z,rfl,rd,tg,λq1 M1 s1 Xl e1=>i' e1 ⟨M,s1,?_⟩⟩;have e:((((tG l V c z).map D.str).length:Int)==0)=uT l V c z:=by unfold uT;rw[cT,gi,fi,List.isEmpty_iff,<-gm];omega
 show Q (.bl ((((tG l V c z).map D.str).length:Int)==0)) M;rw[e];exact q
def wq(a:Ad)(v:Wi):rh:=λds M Q=>Ji λp A V l c z=>ds=[.ref p,.ref A.b,.str c,.str z]/\M p=some (.ins (v.cls a) v.nI)/\Rd a M A V l/\z∈l.nm/\Bp l.pn l.nm v/\Q (.bl (zo l V c z v)) M
def P5(a:Ad)(v:Wi):rh:=λds M Q=>BK λp L k c=>ds=[.ref p,.ref (rk.p k)]/\M p=some (.ins (v.cls a) v.nI)/\rN a M L k c/\Q (.bl (Gx c v)) M
def Gu:rh:=λds M Q=>B1 λx y=>ds=[x,y]/\Q (.bl false) M
def Lr(a:Ad):Addr->rh->Prop:=λC sp=>∃v:Wi,C=v.cls a/\sp=wq a v
noncomputable def MO(a:Ad):Wi->rh
 | .silent x y n=>P5 a (.silent x y n)
 | _=>Gu
def Gv(a:Ad):Addr->rh->Prop:=λC sp=>∃v:Wi,C=v.cls a/\sp=MO a v
def zX(a:Ad):rh:=λds M Q=>Ji λp x y f l h=>ds=[.ref p,.int h]/\M p=some (.ins a.n (Wi.night x y f l).nI)/\Q (.bl (AZ f l h)) M
def zA(a:Ad):rh:=λds M Q=>Ji λp x q l r ms=>ds=[.ref p,.ref q,.ref r]/\M p=some (.ins a.o (Wi.breaks x).nI)/\sW a M q l/\oR M r=some (List.map D.str ms)/\ms.length<=100/\x∈l.pn/\(∀m∈ms,m∈l.pn)/\Q (.bl (Hq l x ms)) M
def IV{l:pG}{x:Str}{v:uA}(h:l.m8 x=some v):vM l x=v.2.2:=by unfold vM;rw[h];rfl
def rc{ks:List rk}{i:Nat}{k:rk}(h:ks[i]?=some k):vD (ks.map λk=>D.ref k.p) (i:Nat)=some (.ref k.p):=ur (by rw[dA,h];rfl)
def Ma(ds:List D):L3.tM ds (some (-1:Int)) none=ds.drop (ds.length - 1):=by
 unfold L3.tM;have e:HT.sT ds.length 0 (some (-1:Int))=ds.length - 1:=by show(if (-1:Int)<0 then((-1:Int)+(ds.length:Int)).toNat else min (-1:Int).toNat ds.length)=ds.length - 1;rw[c9 (by decide)];omega
 rw[e];show(ds.drop (ds.length - 1)).take (ds.length - (ds.length - 1))=_;exact gY (by rw[fY];exact dg _)
theorem Ds{α:Type}:∀w:List α,w.drop (w.length - 1)=w.getLast?.toList
 | []=>rfl
 | [_]=>rfl
 | _::z::r=>by rw[List.getLast?_cons_cons,<-Ds (z::r)];rfl
def Pd{M:Mp}{p q:Addr}{w:QQQ}{x:Str}(h1:oR M p=some ((w.map D.str).drop ((w.map D.str).length - 1)))(h2:oR M q=some [D.str x]):yR M 9 (.ref p) (.ref q)=some (w.getLast?==some x):=by
 have e:(w.map D.str).drop ((w.map D.str).length - 1)=(w.getLast?.toList).map D.str:=by rw[cT,<-kC];rw[Ds]
 rw[e]at h1;show(oR M p).bind (λi=>(oR M q).bind λj=>if i.length=j.length then sA (yR M 8) i j else some false)=_;rw[h1,h2];cases w.getLast? with
 | none=>rfl
 | some y=>show((some (y==x)).bind λp=>(some true).map λq=>p&&q)=some (some y==some x);show some ((y==x)&&true)=_;rw[Bool.and_true];rfl
def MA(G:Gl K mg a)(x:Str)(ns:QQQ):Fq P w K mg base 6 a.aw (wq a (.bar x ns)):=by
 refine fq G.aw.toDG F0 (λr u=>⟨_,(pf (pA (sU (qh u U2 (pB v0)) (sH (qh u U3 (pB v0)))))),?_⟩)
 rintro ds M Q ⟨p,A,V,l,c,z,rfl,hp,_,_,_,q⟩
 refine pj hp ?_;refine qD (c:=c==x) (λg=>pj hp ⟨rfl,qk ns,M,.refl,?_⟩) (λg=>⟨M,.refl,?_⟩)
 .show Q (.bl (inD (.str z) (ns.map D.str))) M;rw[rP];dsimp only[zo]at q;rw[g,eJ]at q;exact q
 .dsimp only[zo]at q;rw[show(c==x)=false from dG.mpr g,eV]at q;exact q
def M7(G:Gl K mg a)(x:Str)(ns:QQQ):Fq P w K mg base 6 a.ax (wq a (.shut x ns)):=by
 refine fq G.ax.toDG Fj (λr u=>⟨_,(pf (pA (sU (qh u U3 (pB v0)) (sH (qh u U2 (pB v0)))))),?_⟩)
 rintro ds M Q ⟨p,A,V,l,c,z,rfl,hp,_,_,_,q⟩
 refine pj hp ?_;refine qD (c:=z==x) (λg=>pj hp ⟨rfl,qk ns,M,.refl,?_⟩) (λg=>⟨M,.refl,?_⟩)
 .show Q (.bl (inD (.str c) (ns.map D.str))) M;rw[rP];dsimp only[zo]at q;rw[g,eJ]at q;exact q
 .dsimp only[zo]at q;rw[show(z==x)=false from dG.mpr g,eV]at q;exact q
def L6(G:Gl K mg a)(x y:Str):Fq P w K mg base 6 a.ay (wq a (.always x y)):=by
 refine fq G.ay.toDG BE (λr u=>⟨_,(pf (pA (qh u U3 (pB v0)))),?_⟩)
 rintro ds M Q ⟨p,A,V,l,c,z,rfl,hp,_,_,_,q⟩
 exact pj hp ⟨M,.refl,q⟩
def FN:Fq P w K mg base 1 a.bw (zX a):=by
 refine fq G.bw.toDG zj (λr u=>⟨_,(pb (pN (pF u (pB v0) (pB v0))
 (pf (pA (uj u (pB v0) U1 (pB v0))))
 pH)
 (pf (pA (HV (qh u U1 (pB v0)) (sH (qh u U1 (pB v0))))))),?_⟩)
 rintro ds M Q ⟨p,x,y,f,l,h,rfl,hp,q⟩
 refine pj hp (pj hp ?_);show if (decide (f<l))=true then _ else _
 unfold AZ at q;by_cases z:f<l
 .rw[c9 z]at q;refine Au (dR z) (pj hp ?_);refine qD (c:=decide (f<=h)) (λg=>?_) (λg=>?_)
  .rw[g,eJ]at q;exact pj hp ⟨M,.refl,q⟩
  .rw[show decide (f<=h)=false from dG.mpr g,eV]at q;exact⟨M,.refl,q⟩
 .rw[cY z]at q;refine Lb (eQ z) (pj hp ?_);refine qD (c:=decide (h>=f)) (λg=>?_) (λg=>?_)
  .rw[g,hU]at q;exact⟨M,.refl,q⟩
  .rw[show decide (h>=f)=false from dG.mpr g,fL]at q;exact pj hp ⟨M,.refl,q⟩
def L'(G:Gl K mg a)(x y:Str)(f m:Int):Fq P w K mg base 6 a.az (wq a (.night x y f m)):=by
 refine fq G.az.toDG C7 (λr u=>⟨_,(pf (pA (sU (qh u U3 (pB v0)) (sH (pU v0 G.n.toCls G.bw (FN G) r (qc (xZ U1 G.c.toCls G.bx (FM G) r))))))),?_⟩)
 rintro ds M Q ⟨p,A,V,l,c,z,rfl,hp,rd,_,_,q⟩
 dsimp only[zo]at q;refine pj hp ?_;refine qD (c:=z==x) (λg=>?_) (λg=>?_)
 .rw[g,eJ]at q;exact pj hp ⟨rfl,_,⟨rfl,rfl⟩,pj rd.bd.at_ ⟨rfl,_,⟨rfl,rfl⟩,A,V,rfl,rd.bd,p,x,y,f,m,_,rfl,hp,M,.refl,q⟩⟩
 .rw[show(z==x)=false from dG.mpr g,eV]at q;exact⟨M,.refl,q⟩
def Nb(G:Gl K mg a)(x y:Str):Fq P w K mg base 6 a.aA (wq a (.busy x y)):=by
 refine fq G.aA.toDG Fw (λr u=>⟨_,(pf (pA (sU (qh u U3 (pB v0)) (sH (pI (EM G) r G.N (qT U1 U2 U3)))))),?_⟩)
 rintro ds M Q ⟨p,A,V,l,c,z,rfl,hp,rd,hz,_,q⟩
 dsimp only[zo]at q;refine pj hp ?_;refine qD (c:=z==x) (λg=>?_) (λg=>?_)
 .rw[g,eJ]at q;exact⟨A,V,l,c,z,rfl,rd,hz,M,.refl,q⟩
 .rw[show(z==x)=false from dG.mpr g,eV]at q;exact⟨M,.refl,q⟩
def Ko(G:Gl K mg a)(x y:Str)(n:Int):Fq P w K mg base 6 a.aB (wq a (.silent x y n)):=by
 refine fq G.aB.toDG Cs (λr u=>⟨_,(pf (pA yl)),?_⟩)
 rintro ds M Q ⟨p,A,V,l,c,z,rfl,hp,rd,hz,_,q⟩
 exact⟨M,.refl,q⟩
def Lm(G:Gl K mg a)(x:Str):Fq P w K mg base 6 a.aC (wq a (.wait x)):=by
 refine fq G.aC.toDG E1 (λr u=>⟨_,(pb (pN (W3.b3 (zg (pF u U3 (pB v0)) (yF (pF u U2 (pB v0)))))
 (pf (pA yl))
 pH)
 (pf (pA (sU (pI (EM G) r G.N (qT U1 U2 U3)) (sH (Sy (pU U1 G.c.toCls G.bz (Gn G) r (qc U3)))))))),?_⟩)
 rintro ds M Q ⟨p,A,V,l,c,z,rfl,hp,rd,hz,_,q⟩
 dsimp only[zo]at q;refine pj hp ?_;refine qD (c:=!(z==x)) (λg=>?_) (λg=>?_)
 .rw[g,hU]at q;exact⟨M,.refl,q⟩
 rw[show(!(z==x))=false from dG.mpr g,fL]at q;refine pj hp ?_;refine qD (c:=c==x) (λg=>?_) (λg=>?_)
 .rw[g]at q;exact⟨M,.refl,q⟩
 rw[cY g]at q;refine⟨A,V,l,c,z,rfl,rd,hz,?_⟩;refine qD (c:=uT l V c z) (λg=>?_) (λg=>?_)
 .rw[g,eJ]at q;exact pj rd.bd.at_ ⟨rfl,_,⟨rfl,rfl⟩,A,V,z,rfl,rd.bd,rd.k,M,.refl,q⟩
 .rw[show uT l V c z=false from dG.mpr g,eV]at q;exact⟨M,.refl,q⟩
def Gb:Fq P w K mg base 2 a.bA (zA a):=by
 refine fq G.bA.toDG vh (λr u=>⟨_,(pb (pJ 3 vh (pU U1 G.h.toCls G.aJ (zp G) r (qc (pB v0))))
 (pf (pA (pQ (E4 rfl) rfl G.bN Fe (qc (qJ rfl (yh (ix:=[none,some 1,some 3]) (N':=["member","plan","rank"])) (qH U2) (qF 0) rO (qh u (pU U1 G.h.toCls G.aJ (zp G) r (qc v0)) U2))))))),?_⟩)
 rintro ds M Q ⟨p,x,q,l,r,ms,rfl,hp,pl,lr,ZD,hx,hm,k⟩
 have hz:=dO;obtain⟨v,hv⟩:=yN hx;obtain⟨ph,gr,ws,XO,pr,gd,rs,i1,_⟩:=id pl;refine pj i1 ⟨rfl,_,⟨rfl,rfl⟩,pj hp (i' rfl ⟨q,x,v,l,rfl,pl,hv,?_⟩)⟩;refine i' lr (qX (f:=λd=>match d with|.str m=>.bl (decide (vM l m<vM l x))|_=>.mM) lr _ [] _ (by rw[cT];show 0+ms.length<=sizeLine;omega) (λd hd k0 hk=>?_) λp1 Yq=>?_)
 .obtain⟨m,hmm,rfl⟩:=dB.mp hd;obtain⟨u,hu⟩:=yN (hm m hmm);have hk:k0 (.bl (decide (vM l m<vM l x))) M:=hk;rw[IV hu,IV hv]at hk;exact pj i1 ⟨rfl,_,⟨rfl,rfl⟩,q,m,u,l,rfl,pl,hu,hk⟩
 .have em:[]++(ms.map D.str).map (λd=>match d with|.str m=>.bl (decide (vM l m<vM l x))|_=>.mM)=ms.map λm=>D.bl (decide (vM l m<vM l x)):=by rw[dY,d6];rfl
  rw[em];refine i' pC (i' (x8 (λm=>decide (vM l m<vM l x)) ms) ⟨M,.new Yq,?_⟩);unfold Hq at k;rw[zC];exact k
def Ng(G:Gl K mg a)(x:Str):Fq P w K mg base 6 a.aD (wq a (.breaks x)):=by
 refine fq G.aD.toDG vj (λr u=>⟨_,(pb (pN (W3.b3 (zg (pF u U2 (pB v0)) (yF (pF u U3 (pB v0)))))
 (pf (pA yl))
 pH)
 (pb (pN (W3.b3 (zg (pF u U3 (xZ (pB U1) G.h.toCls G.R (tK G) r)) (yF (xG (vp (pI (EM G) r G.N (qT U1 U2 U3)))))))
 (pf (pA yl))
 pH)
 (pb (pJ 4 vj (pU U1 G.c.toCls G.J (wW G) r (qc U3)))
 (pb (pN (pF u v4 rL)
 (pf (pA yl))
 pH)
 (pb (pJ 5 vj (pB (pE (pB U1) v4)))
 (pf (pA (sU (qh u (pQ qu rfl G.g qp (qc v5)) pk) (sH (pU v0 G.o.toCls G.bA (Gb G) r (rW (pB U1) v5))))))))))),?_⟩)
 rintro ds M Q ⟨p,A,V,l,c,z,rfl,hp,rd,Xf,hx,q⟩
 have hx:x∈l.pn:=qM.mp hx;obtain⟨ph,gr,ws,XO,pr,gd,rs,i1,_⟩:=rd.pl;have p8:=rd.ok.p8;dsimp only[zo,C4]at q;refine pj hp ?_;refine qD (c:=!(c==x)) (λh1=>?_) (λh1=>?_)
 .rw[h1,hU]at q;exact⟨M,.refl,q⟩
 rw[show(!(c==x))=false from dG.mpr h1,fL]at q;refine pj hp ?_;refine qD (c:=z==x) (λh2=>?_) (λh2=>?_)
 .rw[h2]at q;exact⟨M,.refl,q⟩
 rw[cY h2]at q;refine pj rd.bd.at_ (i' rfl (pj i1 ⟨rfl,_,⟨rfl,rfl⟩,V.p,l,rfl,rd.pl,by omega,λq1 Xl=>i' pC ⟨rfl,qk _,?_⟩⟩));have t:=qw.new (c:=.lst (l.pn.map D.str)) Xl;have WW:=rd.sub t;generalize pD M q1 (.lst (l.pn.map D.str))=M1 at t WW ⊢;show if (!(inD (.str z) (l.pn.map D.str)))=true then _ else _
 rw[rP];refine qD (c:=!(hasS l.pn z)) (λh3=>?_) (λh3=>?_)
 .rw[h3,hU]at q;exact⟨M,t,q⟩
 rw[show(!(hasS l.pn z))=false from dG.mpr h3,fL]at q;refine⟨A,V,l,c,z,rfl,WW,Xf,?_⟩;refine qD (c:=!(uT l V c z)) (λh4=>?_) (λh4=>?_)
 .rw[h4]at q;exact⟨M,t,q⟩
 rw[cY h4]at q;refine pj WW.bd.at_ ⟨rfl,_,⟨rfl,rfl⟩,A,V,z,rfl,WW.bd,WW.k,?_⟩;cases e:sD V z with
 | none=>rw[e]at q;rw[show yo V z=.mM from by unfold yo;rw[e];rfl];exact⟨M,t,q⟩
 | some j=>
  rw[show yo V z=.int (j:Nat)from by unfold yo;rw[e];rfl];have hj:j<V.calls.length:=(gK.mp e).1;have e2:V.calls[j]?=some V.calls[j]:=cW hj;rw[e]at q;generalize V.calls[j]=k at e2;have q:Q (.bl (((V.calls[j]?).elim false λk=>(k.ms.length==2)&&Hq l x k.ms))) M:=q;rw[e2]at q;have hj:j<A.cs.length:=by rw[rd.bd.len];exact hj
  have ek:A.cs[j]?=some A.cs[j]:=cW hj;obtain⟨ad,md,f1,f2,f3,f4,_⟩:=WW.bd.cs j _ k ek e2;refine pj WW.bd.at_ (i' rfl (i' rfl (i' WW.bd.ca (i' (rc ek) (pj f1 (i' rfl ?_))))));refine i' f4 ?_;have el:((((k.ms.map D.str).length:Nat):Int)==2)=(k.ms.length==2):=by rw[cT,gi,fi,fi];omega
  show if ((((k.ms.map D.str).length:Nat):Int)==2)=true then _ else _
  rw[el];have q:Q (.bl ((k.ms.length==2)&&Hq l x k.ms)) M:=q;refine qD (c:=k.ms.length==2) (λh5=>?_) (λh5=>?_)
  .rw[h5,eJ]at q;have hm:=rd.ms k (qU e2);refine pj (t _ _ hp) ⟨rfl,_,⟨rfl,rfl⟩,pj WW.bd.at_ (i' rfl ⟨p,x,V.p,l,md,k.ms,rfl,t _ _ hp,WW.pl,f4,hm.2,hx,hm.1,M,t,q⟩)⟩
  .rw[show(k.ms.length==2)=false from dG.mpr h5,eV]at q;exact⟨M,t,q⟩
def LP:Fq P w K mg base 1 a.q Gu:=by
 refine fq G.q.toDG BX (λr u=>⟨_,(pf (pA yl)),?_⟩)
 rintro ds M Q ⟨x,y,rfl,q⟩
 exact⟨M,.refl,q⟩
def R6(G:Gl K mg a)(x y:Str)(n:Int):Fq P w K mg base 1 a.aL (P5 a (.silent x y n)):=by
 refine fq G.aL.toDG zP (λr u=>⟨_,(pf (pA (sU (qh u (sj (pB U1) (sI (Bi pk)) tD) (qB (qc (pB v0)))) (sH (qh u (pB v0) (pB U1)))))),?_⟩)
 rintro ds M Q ⟨p,L,k,c,rfl,hp,⟨ad,md,h1,h2,h3,h4,_⟩,q⟩
 refine pj h1 (i' rfl (i' h2 λp1 Yq=>?_));have t1:=qw.new (c:=.lst (L3.tM (c.way.map D.str) (some (-1:Int)) none)) Yq;have l1:oR (pD M p1 (.lst (L3.tM (c.way.map D.str) (some (-1:Int)) none))) p1=some ((c.way.map D.str).drop ((c.way.map D.str).length - 1)):=by rw[pC,Ma]
 show Af (pD M p1 (.lst (L3.tM (c.way.map D.str) (some (-1:Int)) none)) p) _;generalize pD M p1 (.lst (L3.tM (c.way.map D.str) (some (-1:Int)) none))=M1 at t1 l1 ⊢;refine pj (t1 _ _ hp) ⟨oZ rfl,λp2 WD=>?_⟩;have t2:=qw.new (c:=.lst [D.str x]) WD;have l2:=@pC M1 p2 [D.str x];show Option.elim (yR (pD M1 p2 (.lst [D.str x])) 9 (.ref p1) (.ref p2)) False _;generalize pD M1 p2 (.lst [D.str x])=M2 at t2 l2 ⊢;have s2:=t1.trans t2;refine i' (Pd (t2.lst l1) l2) ?_;dsimp only[Gx]at q;refine qD (c:=c.way.getLast?==some x) (λg=>?_) (λg=>?_)
 .rw[g,eJ]at q;exact pj (s2 _ _ hp) (pj (s2 _ _ h1) ⟨M,s2,q⟩)
 .rw[show(c.way.getLast?==some x)=false from dG.mpr g,eV]at q;exact⟨M,s2,q⟩
def QA:∀C sp,Lr a C sp->xM P w K mg base 6 "fits" C (Nn K sp):=by
 rintro C sp ⟨v,rfl,rfl⟩
 cases v with
 | bar x ns=>exact⟨G.r.toCls,_,_,_,G.aw.nq,MA G x ns,G.aw.b⟩
 | shut x ns=>exact⟨G.t.toCls,_,_,_,G.ax.nq,M7 G x ns,G.ax.b⟩
 | always x y=>exact⟨G.w.toCls,_,_,_,G.ay.nq,L6 G x y,G.ay.b⟩
 | night x y f m=>exact⟨G.n.toCls,_,_,_,G.az.nq,L' G x y f m,G.az.b⟩
 | busy x y=>exact⟨G.x.toCls,_,_,_,G.aA.nq,Nb G x y,G.aA.b⟩
 | silent x y n=>exact⟨G.u.toCls,_,_,_,G.aB.nq,Ko G x y n,G.aB.b⟩
 | wait x=>exact⟨G.v.toCls,_,_,_,G.aC.nq,Lm G x,G.aC.b⟩
 | breaks x=>exact⟨G.o.toCls,_,_,_,G.aD.nq,Ng G x,G.aD.b⟩
def Ts:∀C sp,Gv a C sp->xM P w K mg base 1 "is_due" C (Nn K sp):=by
 rintro C sp ⟨v,rfl,rfl⟩
 have F:=LP (P:=P) (w:=w) (base:=base) G;cases v with
 | silent x y n=>exact⟨G.u.toCls,_,_,_,G.aL.nq,R6 G x y n,G.aL.b⟩
 | bar _ _=>exact⟨G.r.toCls,_,_,_,G.ck,F,G.q.b⟩
 | shut _ _=>exact⟨G.t.toCls,_,_,_,G.cl,F,G.q.b⟩
 | always _ _=>exact⟨G.w.toCls,_,_,_,G.cm,F,G.q.b⟩
 | night _ _ _ _=>exact⟨G.n.toCls,_,_,_,G.cn,F,G.q.b⟩
 | busy _ _=>exact⟨G.x.toCls,_,_,_,G.co,F,G.q.b⟩
 | wait _=>exact⟨G.v.toCls,_,_,_,G.cp,F,G.q.b⟩
 | breaks _=>exact⟨G.o.toCls,_,_,_,G.cq,F,G.q.b⟩
def I9{es pre post:List D}{d:D}(e:pre++d::post=uy 0 es):∃x,es[pre.length]?=some x/\d=.tup [.int (pre.length:Nat),x]:=by
 have h:(uy 0 es)[pre.length]?=some d:=by rw[<-e];simp
 rw[zt]at h;cases q:es[pre.length]? with
 | none=>rw[q]at h;cases h
 | some x=>rw[q]at h;refine⟨x,rfl,?_⟩;have:=(dh h).symm;rw[mz]at this;exact this
def vb(n:Nat):∀es:List D,(uy n es).length=es.length:=λes=>by
 have h:∀i:Nat,(uy n es)[i]?=none↔es[i]?=none:=λi=>by rw[zt];cases es[i]?<;>simp
 have a:=(h es.length).mpr (gz (dg _));have b:=(h (uy n es).length).mp (gz (dg _));rw[List.getElem?_eq_none_iff]at a b;omega
def IG{l:pG}{V:qr}{f:Wi->Bool}{tt:As}{ok:Mp->Prop}{Q:DK}{M:Mp}{rest:List (Option D)}(hl:V.on.length=l.mI.length)(h16:l.mI.length<=16)(mR:ok M) (ht:∀(i:Nat) (w:vq),l.mI[i]?=some w->∀(y:Option D) (k:Bool->Mp->Prop),k (f w.2) M->tt (some (.int (i:Nat))::y::rest) M k) (q:∀p,M p=none->Q (.ref p) (pD M p (.lst ((F5 l V f).map λn=>D.int (n:Nat))))):
  uV (Qr 2 (xk (sO 0) (xk (sO 1) BO))) (OO (b3 (v3 1)) tt) (v3 0) ok Q (uy 0 (V.on.map D.bl)) [] (none::none::rest) M:=by
 have hz:=dO;refine xY (uy 0 (V.on.map D.bl)) (λpre acc δ M'=>M=M'/\acc=((List.range pre.length).filter λi=>V.on.getD i false&&(l.mI[i]?).elim false λw=>f w.2).map (λn=>D.int (n:Nat))/\∃y1 y2,δ=y1::y2::rest) (λ_ _ _ M' j=>by rw[<-j.1];exact mR) _ [] [] _ _ rfl ?_ ⟨rfl,rfl,none,none,rfl⟩ ?_ ?_
 .rw[vb,cT,hl];simp only[dM];omega
 .rintro pre d post e acc δ M' ⟨rfl,rfl,y1,y2,rfl⟩ k k2 hk XN
  obtain⟨x,hx,rfl⟩:=I9 e;rw[cV,dP,jS,iw]at hk XN;rw[dA]at hx;cases eo:V.on[pre.length]? with
  | none=>rw[eo]at hx;cases hx
  | some b=>
   rw[eo]at hx;have hx:D.bl b=x:=dh hx;subst hx;have hi:pre.length<l.mI.length:=by rw[<-hl];exact(cX.mp eo).1
   have ew:l.mI[pre.length]?=some l.mI[pre.length]:=cW hi;generalize l.mI[pre.length]=w0 at ew;have eg:V.on.getD pre.length false=b:=by rw[gB,eo];rfl
   have no:(b&&f w0.2)=false->k2 (some (.int (pre.length:Nat))::some (.bl b)::rest) M:=λg=>by refine XN _ _ ⟨rfl,?_,_,_,rfl⟩;rw[gQ (by rw[eg,ew];show ¬(b&&f w0.2)=true;rw[g];exact dw),ij,eS]
   refine⟨rfl,?_⟩;show if b=true then _ else _
   cases b with
   | false=>exact NE (no rfl)
   | true=>
    refine M9 (ht _ _ ew _ _ ?_);cases g:f w0.2 with
    | false=>exact NE (no (by rw[g];rfl))
    | true=>refine M9 (hk _ _ _ ⟨rfl,?_,_,_,rfl⟩);rw[iz (by rw[eg,ew];show(true&&f w0.2)=true;rw[g];rfl),ij,dF];rfl
 .rintro acc δ M' ⟨rfl,rfl,y1,y2,rfl⟩ p hp
  rw[vb,cT];exact q p hp
def A5{a:Ad}{M:Mp}{rs:QXQ}{ws:List vq}(h:sE a M rs ws){i:Nat}{w:vq}(e:ws[i]?=some w):∃r,vD (rs.map D.ref) (i:Nat)=some (.ref r)/\M r=some (.ins (w.2.cls a) w.2.nI):=by
 have hi:i<rs.length:=by rw[h.1];exact(cX.mp e).1
 exact⟨rs[i],ur (by rw[dA,cW hi];rfl),h.2 i _ w (cW hi) e⟩
def MS(ds:List D)(m:Nat):L3.tM ds none (some (m:Int))=ds.take m:=by
 unfold L3.tM;rw[HT.BN,HT.Iz,jb,kZ];by_cases h:m<=ds.length
 .rw[jT h]
 .rw[Nat.min_eq_right (by omega),fD,gY (by omega)]
def Hy(ds:List D)(m:Nat)(h:m<=ds.length):L3.tM ds (some (m:Int)) none=ds.drop m:=by unfold L3.tM;rw[HT.BN,HT.Iz,jT h];exact gY (by rw[fY];exact dg _)
def uh(l:pG)(V:qr):Prop:=∀z∈l.nm,(l.mO z=="turns")=true->∃v,V.ps.find? (λp=>decide (p.1=z))=some v/\0<=v.2/\v.2<=((l.mG z).length:Int)
def Lh{l:pG}{V:qr}(h:uh l V){z:Str}(hz:z∈l.nm)(e:(l.mO z=="turns")=true):vw (tj V.ps) (.inr z)=some (.int (yk V z:Nat))/\yk V z<=(l.mG z).length:=by
 obtain⟨v,e1,e2,e3⟩:=h z hz e;have h1:yk V z=v.2.toNat:=by unfold yk;rw[e1];rfl
 have h2:vw (tj V.ps) (.inr z)=(V.ps.find? λp=>decide (p.1=z)).map λp=>D.int p.2:=yc (λp:Str×Int=>p.1) (λp=>D.int p.2) z V.ps;rw[h2,e1,h1];exact⟨by show some (D.int v.2)=some (.int (v.2.toNat:Nat));rw[Int.toNat_of_nonneg e2],by omega⟩
def HC(a:Ad):rh:=λds M Q=>GG λA V l c z=>ds=[.ref A.b,.str c,.str z]/\Rd a M A V l/\z∈l.nm/\Q (va (yV l V c z)) M
def Pe(a:Ad):rh:=λds M Q=>GG λA V l c z=>ds=[.ref A.b,.str c,.str z]/\Rd a M A V l/\z∈l.nm/\uh l V/\Q (names (vI l V c z)) M
def LJ(a:Ad):rh:=λds M Q=>GG λA V l c z=>ds=[.ref A.b,.str c,.str z]/\Rd a M A V l/\z∈l.nm/\uh l V/\Q (CM l V c z).d M
def Jz:rh:=λds M Q=>Df λx r z=>ds=[.tup (.str x::r),.str z]/\Q (if (x=="wait")=true then(uK.waits z).d else if (x=="break")=true then(uK.breaks z).d else uK.barred.d) M
noncomputable def qE(st:rT):List D:=st.map λs=>.tup [.str s.1,va s.2]
def MX(a:Ad):rh:=λds M Q=>Sl λA V l c z r way=>ds=[.ref A.b,.str c,.str z,.ref r]/\Rd a M A V l/\z∈l.nm/\uh l V/\oR M r=some (List.map D.str way)/\way.length<=8000000/\∀q M',qw M M'->M q=none->oR M' q=some (qE (sv l V c z way).2)->Q (.tup [(sv l V c z way).1.d,.ref q]) M'
def EY{l:pG}{V:qr}{f:Wi->Bool}{i:Nat}(h:i∈F5 l V f):∃w,l.mI[i]?=some w/\f w.2=true:=by
 have h:=(fF.mp h).2;rw[dU]at h;cases e:l.mI[i]? with
 | none=>rw[e]at h;cases h.2
 | some w=>rw[e]at h;exact⟨w,rfl,h.2⟩
noncomputable def I0(l:pG)(way:QQQ):Nat:=(l.nm.filter λx=>!(hasS way x)).length
def A6{l:pG}{way:QQQ}{z:Str}(hz:z∈l.nm)(h:hasS way z=false):I0 l (way++[z])<I0 l way:=by
 unfold I0;have e:(l.nm.filter λx=>!(hasS (way++[z]) x))=(l.nm.filter λx=>!(hasS way x)).filter λx=>!(x==z):=by rw[List.filter_filter];refine lJ λx _=>?_;unfold hasS;rw[jR];show(!(way.any (·==x)||((z==x)||false)))=_;rw[kz,Bool.not_or,Bool.and_comm,mo]
 rw[e];refine Nat.lt_of_le_of_ne (gA _ _) λg=>?_;have:=kI.mp (List.Sublist.eq_of_length fU g) z (fF.mpr ⟨hz,by rw[h];rfl⟩);simp at this
def BL{l:pG}(ok:rM l){w:vq}(hw:w∈l.mI){z y:Str}(h:Iv z w.2=.inr y):y∈l.nm:=by
 have o:=ok.wo w hw;cases e:w.2 with
 | bar _ _=>rw[e]at h;cases h
 | shut _ _=>rw[e]at h;cases h
 | always x u=>rw[e]at h o;cases h;exact qM.mp o.2.1
 | night x u f m=>rw[e]at h o;cases h;exact qM.mp o.2.1
 | busy x u=>rw[e]at h o;cases h;exact qM.mp o.2.1
 | silent x u n=>rw[e]at h o;cases h;exact qM.mp o.2.1
 | wait _=>rw[e]at h;cases h
 | breaks _=>rw[e]at h;cases h
theorem AX(x:Str):∀ss:QQQ,x∈ss->zS (.str x) (ss.map D.str)=some (ss.findIdx (·==x))
 | [],h=>by cases h
 | y::r,h=>by
  rw[dS,List.findIdx_cons];unfold zS;show(if (y==x)=true then some 0 else(zS (.str x) (r.map D.str)).map (·+1))=_;cases e:y==x with
  | true=>rfl
  | false=>
   rw[cY dw];have hr:x∈r:=by
    rcases df.mp h with g|g
    .rw[g,eY]at e;cases e
    .exact g
   rw[AX x r hr];rfl
def GN:Fq P w K mg base 7 a.aO (HC a):=by
 refine fq G.aO.toDG Bw (λr u=>⟨_,(pb (pJ 3 Bw (pB (pB v0)))
 (pf (pA (qx ue rfl G.H ua (qc (qJ rfl (yh (ix:=[none,none,some 3,some 0,some 1,some 2]) (N':=["i","on","wishes","board","caller","target"])) (wu rfl G.bT (qc (pB v0))) (uz (n:=2) rfl (qe (qF 0) (qe (qF 1) sS))) (vQ (W3.b3 (uE (vp U1) (uI (vp (Ff (R:=Lr a) (pE U2 v0) (QA G) (r.mono (by first|decide|omega)) (qT U3 v4 v5))))))) v0)))))),?_⟩)
 rintro ds M Q ⟨A,V,l,c,z,rfl,rd,hz,q⟩
 obtain⟨ph,gr,ws,XO,pr,gd,rs,i1,i2,i3,i4,i5,i6,i7,i8⟩:=rd.pl;refine pj rd.bd.at_ (i' rfl (pj i1 (i' rfl ?_)));refine pj rd.bd.at_ (i' rfl (i' rd.bd.on ?_));refine IG (rest:=[some (.ref ws),some (.ref A.b),some (.str c),some (.str z)]) rd.on rd.ok.w16 rd.bd.on (λi w0 ew y k hk=>?_) λp hp=>i' pC ⟨M,.new hp,q⟩;obtain⟨r,e1,e2⟩:=A5 i8 ew;refine i' i4 (i' e1 (pj e2 ⟨by cases w0.2<;>rfl,_,⟨w0.2,rfl,rfl⟩,r,A,V,l,c,z,rfl,e2,rd,hz,rd.ok.wo w0 (qU ew),hk⟩))
def Oq:Fq P w K mg base 5 a.aP (Pe a):=by
 refine fq G.aP.toDG sV (λr u=>⟨_,(pb (pJ 3 sV (pU v0 G.c.toCls G.aE (Ap G) r (rW U1 U2)))
 (pb (pN (pF u (pU (pB v0) G.h.toCls G.aF (xK G) r (qc U2)) pq)
 (pf (pA (qx ue rfl G.H ua (qc U3))))
 pH)
 (pb (pJ 4 sV (pU (pB v0) G.h.toCls G.S (ui G) r (qc U2)))
 (pb (pJ 5 sV (yX u (pB v0) U2))
 (pb (vt (i:=6) sV.nd rfl (Or.inl rfl) rfl (yh (ix:=[none,some 3]) (N':=["phone","free"])) (qH (pT (sj v4 (sI v5) tD) (sj v4 tD (sI v5)))) (qF 0) (vQ (pF u v0 U1)) v0)
 (pf (pA (qx ue rfl G.H ua (qc (sj v6 tD (sI pk))))))))))),?_⟩)
 rintro ds M Q ⟨A,V,l,c,z,rfl,rd,Xf,nx,q⟩
 have hz:=dO;have bd:=rd.bd;have pl:=rd.pl;obtain⟨ph,gr,ws,XO,pr,gd,rs,i1,_⟩:=rd.pl;obtain⟨⟨_,tf,_⟩,_⟩:=rd.ok.of Xf;refine pj bd.at_ ⟨rfl,_,⟨rfl,rfl⟩,A,V,l,c,z,rfl,rd,Xf,λq1 M1 s1 Xl e1=>?_⟩;refine pj (s1 _ _ bd.at_) (i' rfl (pj (s1 _ _ i1) ⟨rfl,_,⟨rfl,rfl⟩,V.p,z,l,rfl,pl.sub s1,?_⟩));unfold vI at q;cases e:l.mO z=="turns" with
 | false=>rw[e]at q;exact Au (c:=!(l.mO z=="turns")) (by rw[e];rfl) (i' e1 ⟨M,s1,q⟩)
 | true=>
  obtain⟨hn,nl⟩:=Lh nx Xf e;generalize yk V z=n at hn nl q;rw[e,c9 rfl]at q;refine Lb (c:=!(l.mO z=="turns")) (by rw[e];rfl) ?_;refine pj (s1 _ _ bd.at_) (i' rfl (pj (s1 _ _ i1) ⟨rfl,_,⟨rfl,rfl⟩,V.p,z,l,rfl,pl.sub s1,λq2 YJ=>?_⟩));have s2:=s1.trans (qw.new (c:=.lst ((l.mG z).map D.str)) YJ);have c2:=@pC M1 q2 ((l.mG z).map D.str);have e2:=(qw.new (c:=.lst ((l.mG z).map D.str)) YJ).lst e1;generalize pD M1 q2 (.lst ((l.mG z).map D.str))=M2 at s2 c2 e2 ⊢;refine pj (s2 _ _ bd.at_) (i' rfl (i' rfl (i' (s2.dk bd.nx) (i' hn ?_))));refine i' c2 λq3 hq3=>?_;rw[Hy _ n (by rw[cT];exact nl),<-kC];have t3:=qw.new (c:=.lst (((l.mG z).drop n).map D.str)) hq3;have c3':=@pC M2 q3 (((l.mG z).drop n).map D.str);generalize pD M2 q3 (.lst (((l.mG z).drop n).map D.str))=M3 at t3 c3' ⊢;refine i' (t3.lst c2) λq4 hq4=>?_;rw[MS,<-mq];have t4:=qw.new (c:=.lst (((l.mG z).take n).map D.str)) hq4;have c4:=@pC M3 q4 (((l.mG z).take n).map D.str);generalize pD M3 q4 (.lst (((l.mG z).take n).map D.str))=M4 at t4 c4 ⊢;refine i' (t4.lst c3') (i' c4 ?_);refine⟨by rw[cT,cT,fY,fm];omega,λq5 hq5=>i' pC ?_⟩;rw[<-dF];have t5:=qw.new (c:=.lst ((uU (l.mG z) n).map D.str)) hq5;have c5:=@pC M4 q5 ((uU (l.mG z) n).map D.str);show uV _ _ _ _ _ ((uU (l.mG z) n).map D.str) _ _ (pD M4 q5 (.lst ((uU (l.mG z) n).map D.str)));generalize pD M4 q5 (.lst ((uU (l.mG z) n).map D.str))=M5 at t5 c5 ⊢;have s5:=t3.trans (t4.trans t5);have e5:=s5.lst e2;have tl:(uU (l.mG z) n).length<=200:=by unfold uU;rw[cV,fY,fm];omega
  refine tw (f:=id) (t:=λd=>inD d ((tG l V c z).map D.str)) c5 _ [] _ (by rw[cT];simp only[dM];omega) (λd hd k hk=>?_) (λd hd _ k hk=>?_) λq6 hq6=>?_
  .obtain⟨x,hx,rfl⟩:=dB.mp hd;exact i' e5 ⟨rfl,qk _,hk⟩
  .obtain⟨x,hx,rfl⟩:=dB.mp hd;exact hk
  .have ef:[]++(List.filter (λd=>inD d ((tG l V c z).map D.str)) ((uU (l.mG z) n).map D.str)).map id=((uU (l.mG z) n).filter λx=>hasS (tG l V c z) x).map D.str:=by
    rw[dY,jd,gW];have:((λd=>inD d ((tG l V c z).map D.str))∘D.str)=λx=>hasS (tG l V c z) x:=by funext x;exact rP _ _
    rw[this]
   rw[ef];refine i' pC λq7 hq7=>i' pC ?_;rw[show L3.tM (((uU (l.mG z) n).filter λx=>hasS (tG l V c z) x).map D.str) none (some (1:Int))=(((uU (l.mG z) n).filter λx=>hasS (tG l V c z) x).take 1).map D.str from(MS _ 1).trans (mq).symm];exact⟨M,s2.trans (s5.trans ((qw.new hq6).trans (.new hq7))),q⟩
def Ml:Fq P w K mg base 6 a.aQ (LJ a):=by
 refine fq G.aQ.toDG uS (λr u=>⟨_,(pb (pJ 3 uS (pI (Oq G) r G.aP (qT v0 U1 U2)))
 (pb (pN (pF u (pQ qu rfl G.g qp (qc U3)) pk)
 (pf (pA (pK (rW pq U2))))
 pH)
 (pf (pA (pK (qT pq U2 U3)))))),?_⟩)
 rintro ds M Q ⟨A,V,l,c,z,rfl,rd,hz,nx,q⟩
 refine⟨A,V,l,c,z,rfl,rd,hz,nx,?_⟩;unfold CM at q;cases e:vI l V c z with
 | nil=>rw[e]at q;exact⟨oZ rfl,M,.refl,q⟩
 | cons x r=>rw[e]at q;exact⟨oZ rfl,M,.refl,q⟩
def J1:Fq P w K mg base 1 a.aR Jz:=by
 refine fq G.aR.toDG Aa (λr u=>⟨_,(pb (pN (pF u (pE v0 pk) pq)
 (pf (pA (pK (rW pq U1))))
 pH)
 (pb (pN (pF u (pE v0 pk) pq)
 (pf (pA (pK (rW pq U1))))
 pH)
 (pf (pA (pK (qc pq)))))),?_⟩)
 rintro ds M Q ⟨x,r,z,rfl,q⟩
 refine i' (w9 _ _) (qD (c:=x=="wait") (λg=>?_) (λg=>?_))
 .rw[c9 g]at q;exact⟨oZ rfl,M,.refl,q⟩
 rw[cY g]at q;refine i' (w9 _ _) (qD (c:=x=="break") (λg=>?_) (λg=>?_))
 .rw[c9 g]at q;exact⟨oZ rfl,M,.refl,q⟩
 rw[cY g]at q;exact⟨oZ rfl,M,.refl,q⟩
def FW:Fq P w K mg base 8 a.aa (MX a):=by
 refine fq G.aa.toDG wj (λr u=>⟨_,(pb (pJ 4 wj (qx tU rfl G.y tQ (qc U3)))
 (pb (pJ 5 wj (qB sm))
 (pb (MJ e9 (pF u U2 v4)
 (pb (pM (rb v4 (qc U2)))
 (pb (pJ 6 wj (pI (GN G) r G.aO (qT v0 U1 U2)))
 (pb (pM (rb v5 (qc (pK (rW U2 v6)))))
 (pb (pN (pF u (pQ qu rfl G.g qp (qc v6)) pk)
 (pf (pA (pK (rW (pI (Ml G) r G.aQ (qT v0 U1 U2)) v5))))
 pH)
 (pb (pJ 7 wj (Bz (R:=Iu a) (pE (pB (pB v0)) (pE v6 pk)) (PQ G) (r.mono (by first|decide|omega))))
 (pb (pN (pF u (pE v7 pk) pq)
 (pf (pA (pK (rW (pI (J1 G) r G.aR (rW v7 U2)) v5))))
 pH)
 (pf (pJ 2 wj (pE v7 pk))))))))))
 (pf (pA (pK (rW (pK (rW pq (qx ue rfl G.H ua (qc (sj v4 (sI (xR v4 (qc U2))) tD))))) v5))))))),?_⟩)
 rintro ds M Q ⟨A,V,l,c,z0,r,XE,rfl,rd,hz0,nx,YL,hw0,q⟩
 have hz:=dO;have p8:=rd.ok.p8;have g3:=rd.ok.g3;have nl:l.nm.length<=11:=by unfold pG.nm pG.pn pG.gn;rw[cV,cT,cT];omega
 refine i' YL λp1 Yq=>⟨oZ rfl,λp2 WD=>?_⟩;have t1:=qw.new (c:=.lst (XE.map D.str)) Yq;have t2:=qw.new (c:=.lst []) WD;have c1:oR (pD (pD M p1 (.lst (XE.map D.str))) p2 (.lst [])) p1=some (XE.map D.str):=t2.lst pC;have c2:=@pC (pD M p1 (.lst (XE.map D.str))) p2 [];have n12:p2≠p1:=λy=>by rw[y,pP]at WD;cases WD
 have m2:M p2=none:=t1.none WD;have s2:=t1.trans t2;generalize pD (pD M p1 (.lst (XE.map D.str))) p2 (.lst [])=M2 at c1 c2 s2 ⊢;refine⟨λm δ M'=>∃z way st,qw M M'/\oR M' p1=some (List.map D.str way)/\oR M' p2=some (qE st)/\z∈l.nm/\I0 l way<m/\way.length+m<=8000012/\st.length+m<=100/\uR l V c m z way st=sv l V c z0 XE/\∃y6 y7,δ=[some (.ref A.b),some (.str c),some (.str z),some (.ref r),some (.ref p1),some (.ref p2),y6,y7],⟨l.nm.length+1,z0,XE,[],s2,c1,c2,hz0,Nat.lt_succ_of_le (gA _ _),by omega,by show 0+(l.nm.length+1)<=100;omega,rfl,none,none,rfl⟩,?_⟩
 rintro m δ M' ⟨z,way,st,sM,l1,l2,Xf,WA,hwl,YE,er,y6,y7,rfl⟩
 obtain⟨m,rfl⟩:∃k,m=k+1:=⟨m - 1,by omega⟩;have q2:∀Wu,qw M Wu->oR Wu p2=some (qE (uR l V c (m+1) z way st).2)->Q (.tup [(uR l V c (m+1) z way st).1.d,.ref p2]) Wu:=λWu s ll=>by rw[er]at ll ⊢;exact q p2 Wu s m2 ll
 clear q;unfold uR at er q2;refine i' l1 ⟨rfl,qk way,?_⟩;show if (!(inD (.str z) (way.map D.str)))=true then _ else _
 rw[rP];refine qD (c:=!(hasS way z)) (λh1=>?_) (λh1=>?_)
 rotate_left
 .
  have h1:hasS way z=true:=by simpa using h1
  rw[c9 h1]at q2;refine⟨by show(oR M' p1).isSome=true;rw[l1];rfl,i' l1 ⟨rfl,qk _,i' (AX z way (qM.mp h1)) (i' l1 λp3 hp3=>?_)⟩⟩;have Zy:way.findIdx (·==z)<=(way.map D.str).length:=by rw[cT];exact List.findIdx_le_length
  rw[Hy _ _ Zy,<-kC];refine i' pC ⟨oZ rfl,oZ rfl,_,.refl,q2 _ (sM.trans (.new hp3)) ((qw.new hp3).lst l2)⟩
 have h1:hasS way z=false:=by simpa using h1
 rw[h1,cY dw]at er q2;refine⟨by show(oR M' p1).isSome=true;rw[l1];rfl,i' l1 ⟨by rw[cT];omega,?_⟩⟩;have k3:rV p1 M' (pD M' p1 (.lst (way.map D.str++[D.str z]))):=.put;have s3:qw M (pD M' p1 (.lst (way.map D.str++[D.str z]))):=λx d hx=>by rw[uq (OI hx Yq)];exact sM x d hx
 have c3:=k3.lst n12 l2;have l3:oR (pD M' p1 (.lst (way.map D.str++[D.str z]))) p1=some ((way++[z]).map D.str):=by rw[pC,dF];rfl
 generalize pD M' p1 (.lst (way.map D.str++[D.str z]))=M3 at s3 c3 l3 ⊢;refine⟨A,V,l,c,z,rfl,rd.sub s3,Xf,?_⟩;generalize hf:yV l V c z=fs at er q2 ⊢;refine⟨by show(oR M3 p2).isSome=true;rw[c3];rfl,oZ rfl,i' c3 ⟨by unfold qE;rw[cT];omega,?_⟩⟩;have es:qE st++[.tup [.str z,va fs]]=qE (st++[(z,fs)]):=by unfold qE;rw[dF];rfl
 rw[es];have s4:qw M (pD M3 p2 (.lst (qE (st++[(z,fs)])))):=λx d hx=>by rw[uq (OI hx m2)];exact s3 x d hx
 have c4:=@pC M3 p2 (qE (st++[(z,fs)]));have l4:oR (pD M3 p2 (.lst (qE (st++[(z,fs)])))) p1=some ((way++[z]).map D.str):=rV.lst .put (dJ n12) l3;generalize pD M3 p2 (.lst (qE (st++[(z,fs)])))=M4 at s4 c4 l4 ⊢;cases fs with
 | nil=>exact⟨A,V,l,c,z,rfl,rd.sub s4,Xf,nx,oZ rfl,M4,.refl,q2 M4 s4 c4⟩
 | cons i fr=>
  obtain⟨w0,ew,_⟩:=EY (l:=l) (V:=V) (f:=zo l V c z) (i:=i) (by show i∈yV l V c z;rw[hf];exact dN);dsimp only at er q2;rw[ew]at er q2;dsimp only[Option.elim]at er q2;obtain⟨ph,gr,ws,XO,pr,gd,rs,i1,i2,i3,i4,i5,i6,i7,i8⟩:=(rd.sub s4).pl;obtain⟨Y6,e1,e2⟩:=A5 i8 ew;have hwo:=rd.ok.wo w0 (qU ew);have Y7:∀y,Iv z w0.2=.inr y->y∈l.nm:=λy h=>BL rd.ok (qU ew) h;refine pj (s4 _ _ rd.bd.at_) (i' rfl (pj i1 (i' rfl (i' (w9 _ _) (i' i4 (i' e1 ?_))))));cases hv:w0.2 with
  | bar x ns=>rw[hv]at q2 e2;exact pj e2 ⟨rfl,_,.inl ⟨.inl rfl,rfl⟩,Y6,rfl,⟨"end",[],z,rfl,oZ rfl,M4,.refl,q2 M4 s4 c4⟩⟩
  | shut x ns=>rw[hv]at q2 e2;exact pj e2 ⟨rfl,_,.inl ⟨.inr rfl,rfl⟩,Y6,rfl,⟨"end",[],z,rfl,oZ rfl,M4,.refl,q2 M4 s4 c4⟩⟩
  | wait x=>rw[hv]at q2 e2;exact pj e2 ⟨rfl,_,.inr (.inr (.inl ⟨rfl,rfl⟩)),Y6,_,_,_,rfl,e2,rfl,⟨"wait",_,z,rfl,oZ rfl,M4,.refl,q2 M4 s4 c4⟩⟩
  | breaks x=>rw[hv]at q2 e2;exact pj e2 ⟨rfl,_,.inr (.inr (.inr ⟨rfl,rfl⟩)),Y6,rfl,⟨"break",_,z,rfl,oZ rfl,M4,.refl,q2 M4 s4 c4⟩⟩
  | always x y=>rw[hv]at er e2 Y7;exact pj e2 ⟨rfl,_,.inr (.inl ⟨.inl rfl,rfl⟩),Y6,_,_,_,rfl,e2,rfl,⟨m,fC _,y,way++[z],st++[(z,i::fr)],s4,l4,c4,Y7 y rfl,by have:=A6 Xf h1;omega,by rw[cV];show way.length+1+m<=_;omega,by rw[cV];show st.length+1+m<=_;omega,er,_,_,rfl⟩⟩
  | night x y f mm=>rw[hv]at er e2 Y7;exact pj e2 ⟨rfl,_,.inr (.inl ⟨.inr (.inl rfl),rfl⟩),Y6,_,_,_,rfl,e2,rfl,⟨m,fC _,y,way++[z],st++[(z,i::fr)],s4,l4,c4,Y7 y rfl,by have:=A6 Xf h1;omega,by rw[cV];show way.length+1+m<=_;omega,by rw[cV];show st.length+1+m<=_;omega,er,_,_,rfl⟩⟩
  | busy x y=>rw[hv]at er e2 Y7;exact pj e2 ⟨rfl,_,.inr (.inl ⟨.inr (.inr (.inl rfl)),rfl⟩),Y6,_,_,_,rfl,e2,rfl,⟨m,fC _,y,way++[z],st++[(z,i::fr)],s4,l4,c4,Y7 y rfl,by have:=A6 Xf h1;omega,by rw[cV];show way.length+1+m<=_;omega,by rw[cV];show st.length+1+m<=_;omega,er,_,_,rfl⟩⟩
  | silent x y n=>rw[hv]at er e2 Y7;exact pj e2 ⟨rfl,_,.inr (.inl ⟨.inr (.inr (.inr rfl)),rfl⟩),Y6,_,_,_,rfl,e2,rfl,⟨m,fC _,y,way++[z],st++[(z,i::fr)],s4,l4,c4,Y7 y rfl,by have:=A6 Xf h1;omega,by rw[cV];show way.length+1+m<=_;omega,by rw[cV];show st.length+1+m<=_;omega,er,_,_,rfl⟩⟩
noncomputable def yq(V:qr)(i:Nat)(c:pz):qr:={V with calls:=V.calls.set i c}
def rY(V:qr)(i:Nat)(c d:pz):yq (yq V i c) i d=yq V i d:=by unfold yq;rw[iP]
structure CI(a:Ad)(M:Mp)(A:tH)(V:qr)(i:Nat)(k:rk)(c:pz):Prop where
 bd:pL a M A V
 e1:A.cs[i]?=some k
 e2:V.calls[i]?=some c
noncomputable def cF(x:Str)(wy ad md:Addr)(k:Nat):List (Str×D):=List.take (α:=Str×D) k [("state",.str "rings"),("caller",.str x),("way",.ref wy),("at",.ref ad),("members",.ref md),("holder",.mM),("since",.int 0)]
variable {M':Mp}{i:Nat}
section
variable {k:rk}{c:pz}
def CI.cell(h:CI a M A V i k c):rN a M (A.lists++V.fo) k c:=h.bd.cs i k c h.e1 h.e2
def CI.sub(h:CI a M A V i k c)(s:qw M M'):CI a M' A V i k c:=⟨h.bd.sub s,h.e1,h.e2⟩
def CI.put(h:CI a M A V i k c)(c':pz){ad md:Addr}(ew:c'.way=c.way)(la:oR M ad=some (c'.at_.map D.str))(lm:oR M md=some (c'.ms.map D.str))(na:ad∉A.lists++V.fo)(nm:md∉A.lists++V.fo):
  CI a (pD M k.p (.ins a.e (rg c' k.wy ad md))) A (yq V i c') i k c'/\qQ A M A (pD M k.p (.ins a.e (rg c' k.wy ad md))):=by
 obtain⟨b,s⟩:=h.bd.oh h.e1 h.e2 ew la lm na nm;refine⟨⟨b,h.e1,?_⟩,s⟩;show(V.calls.set i c')[i]?=some c';rw[eK (cX.mp h.e2).1]
end
inductive Qb(i:Nat)(c:pz):Ev->pz->Prop
 | rings (ps:QQQ):Qb i c (.rings i ps) (c.ring ps)
 | quiet:Qb i c (.quiet i) c.nJ
 | waits (x:Str):Qb i c (.waits i x) (c.wait x)
 | talks (ms:QQQ):Qb i c (.talks i ms) (c.nj ms)
 | held (x:Str):Qb i c (.held i x) (c.hold x)
 | leaves (x:Str):Qb i c (.leaves i x) (c.drop x)
 | over (w:Str):Qb i c (.over i w) (c.over w)
def F7(a:Ad):rh:=λds M Q=>B1 λp x=>ds=[.ref p,.str x]/\M p=some (.ins a.e [])/\∀M' wy ad md,rV p M M'->M wy=none->M ad=none->M md=none->ad≠wy->md≠wy->M' p=some (.ins a.e (rg (wQ x) wy ad md))->oR M' wy=some []->oR M' ad=some []->oR M' md=some []->Q .mM M'
def O1(a:Ad):rh:=λds M Q=>Ji λA V i k c w=>ds=[.ref k.p,.str w]/\CI a M A V i k c/\∀M',qQ A M A M'->pL a M' A (yq V i (c.over w))->Q .mM M'
def LB(a:Ad):rh:=λds M Q=>Ji λA V i k c x=>ds=[.ref k.p,.str x]/\CI a M A V i k c/\c.at_.length<=100/\c.ms.length<=100/\∀M',qQ A M A M'->pL a M' A (yq V i (c.drop x))->Q .mM M'
def JJ(a:Ad):rh:=λds M Q=>Sl λA V i k c e c'=>ds=[.ref k.p,Ev.d e]/\CI a M A V i k c/\c.at_.length<=100/\c.ms.length<=100/\Qb i c e c'/\∀M',qQ A M A M'->pL a M' A (yq V i c')->Q .mM M'
def P3:Fq P w K mg base 1 a.aG (F7 a):=by
 refine fq G.aG.toDG Fo (λr u=>⟨_,(pb (pX v0 pq)
 (pb (pX v0 U1)
 (pb (pX v0 (qB sm))
 (pb (pX v0 (qB sm))
 (pb (pX v0 (qB sm))
 (pb (pX v0 rL)
 (pb (pX v0 pk)
 (pf (pX v0 rL))))))))),?_⟩)
 rintro ds M Q ⟨p,x,rfl,hb,q⟩
 refine pj hb ⟨(G.j "state" rfl),by show 0<1000;decide,?_⟩;have k1:rV p M (pD M p (.ins a.e [("state",.str "rings")])):=.put;have b1:pD M p (.ins a.e [("state",.str "rings")]) p=some (.ins a.e [("state",.str "rings")]):=pP;show ud _ _ _ _ (pD M p (.ins a.e [("state",.str "rings")]));generalize pD M p (.ins a.e [("state",.str "rings")])=N1 at k1 b1 ⊢;refine pj b1 ⟨(G.j "caller" rfl),by show 1<1000;decide,?_⟩;have k2:=k1.trans (rV.put (p:=p) (c:=.ins a.e [("state",.str "rings"),("caller",.str x)]));have b2:pD N1 p (.ins a.e [("state",.str "rings"),("caller",.str x)]) p=some (.ins a.e [("state",.str "rings"),("caller",.str x)]):=pP;show ud _ _ _ _ (pD N1 p (.ins a.e [("state",.str "rings"),("caller",.str x)]));generalize pD N1 p (.ins a.e [("state",.str "rings"),("caller",.str x)])=N2 at k2 b2 ⊢;refine⟨oZ rfl,λwy hwy=>?_⟩;obtain⟨n3,e3,k3,c3,b3⟩:=sQ (fs':=(cF x wy 0 0 3)) (c:=.lst []) b2 hwy;refine pj e3 ⟨(G.j "way" rfl),by show 2<1000;decide,?_⟩;show ud _ _ _ _ (pD (pD N2 wy (.lst [])) p (.ins a.e (cF x wy 0 0 3)));generalize pD (pD N2 wy (.lst [])) p (.ins a.e (cF x wy 0 0 3))=N3 at k3 c3 b3 ⊢;have z1:M wy=none:=rF k2 b2 hwy;have kk3:=k2.trans k3;have l3:oR N3 wy=some []:=sG c3;refine⟨oZ rfl,λad YI=>?_⟩;obtain⟨n4,e4,k4,c4,b4⟩:=sQ (fs':=(cF x wy ad 0 4)) (c:=.lst []) b3 YI;refine pj e4 ⟨(G.j "at" rfl),by show 3<1000;decide,?_⟩;show ud _ _ _ _ (pD (pD N3 ad (.lst [])) p (.ins a.e (cF x wy ad 0 4)));generalize pD (pD N3 ad (.lst [])) p (.ins a.e (cF x wy ad 0 4))=N4 at k4 c4 b4 ⊢;have z2:M ad=none:=rF kk3 b3 YI;have Yr:=kk3.trans k4;have naw:ad≠wy:=λz=>by rw[z,c3]at YI;cases YI
 have l4:=k4.lst (pS l3 b3) l3;have m4:oR N4 ad=some []:=sG c4;refine⟨oZ rfl,λmd hmd=>?_⟩;obtain⟨n5,e5,k5,c5,b5⟩:=sQ (fs':=(cF x wy ad md 5)) (c:=.lst []) b4 hmd;refine pj e5 ⟨(G.j "members" rfl),by show 4<1000;decide,?_⟩;show ud _ _ _ _ (pD (pD N4 md (.lst [])) p (.ins a.e (cF x wy ad md 5)));generalize pD (pD N4 md (.lst [])) p (.ins a.e (cF x wy ad md 5))=N5 at k5 c5 b5 ⊢;have z3:M md=none:=rF Yr b4 hmd;have Ys:=Yr.trans k5;have nmw:md≠wy:=λz=>by rw[z,qg l4]at hmd;cases hmd
 have l5:=k5.lst (pS l4 b4) l4;have m5:=k5.lst (pS m4 b4) m4;have o5:oR N5 md=some []:=sG c5;refine pj b5 ⟨(G.j "holder" rfl),by show 5<1000;decide,?_⟩;have k6:rV p N5 (pD N5 p (.ins a.e (cF x wy ad md 6))):=.put;have b6:pD N5 p (.ins a.e (cF x wy ad md 6)) p=some (.ins a.e (cF x wy ad md 6)):=pP;show ud _ _ _ _ (pD N5 p (.ins a.e (cF x wy ad md 6)));generalize pD N5 p (.ins a.e (cF x wy ad md 6))=N6 at k6 b6 ⊢;refine pj b6 ⟨(G.j "since" rfl),by show 6<1000;decide,?_⟩;have k7:=k6.trans (rV.put (p:=p) (c:=.ins a.e (cF x wy ad md 7)));have b7:pD N6 p (.ins a.e (cF x wy ad md 7)) p=some (.ins a.e (cF x wy ad md 7)):=pP;rw[show vT "since" (.int 0) (cF x wy ad md 6)=(cF x wy ad md 7)from rfl];generalize pD N6 p (.ins a.e (cF x wy ad md 7))=N7 at k7 b7 ⊢;refine pj b7 ⟨(G.j "word" rfl),by show 7<1000;decide,_,.refl,?_⟩;have k8:=k7.trans (rV.put (p:=p) (c:=.ins a.e (rg (wQ x) wy ad md)));exact q _ wy ad md (Ys.trans k8) z1 z2 z3 naw nmw pP (k8.lst (pS l5 b5) l5) (k8.lst (pS m5 b5) m5) (k8.lst (pS o5 b5) o5)
def HQ:Fq P w K mg base 1 a.ad (O1 a):=by
 refine fq G.ad.toDG GD (λr u=>⟨_,(pb (pX v0 pq)
 (pb (pX v0 U1)
 (pb (pX v0 (qB sm))
 (pb (pX v0 (qB sm))
 (pf (pX v0 rL)))))),?_⟩)
 rintro ds M Q ⟨A,V,i,k,c,w0,rfl,h,q⟩
 obtain⟨ad,md,h1,h2,h3,h4,n1,n2⟩:=h.cell;refine pj h1 ⟨(G.j "state" rfl),by show 8<1000;decide,?_⟩;obtain⟨g1,s1⟩:=h.put {c with st:="over"} rfl h3 h4 n1 n2;show ud _ _ _ _ (pD M k.p (.ins a.e (rg {c with st:="over"} k.wy ad md)));generalize pD M k.p (.ins a.e (rg {c with st:="over"} k.wy ad md))=M1 at g1 s1 ⊢;clear h1 h2 h3 h4 n1 n2;obtain⟨ad,md,h1,h2,h3,h4,n1,n2⟩:=g1.cell;refine pj h1 ⟨(G.j "word" rfl),by show 8<1000;decide,?_⟩;obtain⟨g2,s2⟩:=g1.put {c with st:="over",wd:=some w0} rfl h3 h4 n1 n2;show ud _ _ _ _ (pD M1 k.p (.ins a.e (rg {c with st:="over",wd:=some w0} k.wy ad md)));generalize pD M1 k.p (.ins a.e (rg {c with st:="over",wd:=some w0} k.wy ad md))=M2 at g2 s2 ⊢;clear h1 h2 h3 h4 n1 n2;refine⟨oZ rfl,λp hp=>?_⟩;have t3:=qw.new (c:=.lst []) hp;have lp:=@pC M2 p [];have np:=g2.bd.nv hp;have YM:=g2.sub t3;have s2':=s2.trans (.sub t3);generalize pD M2 p (.lst [])=M2' at t3 lp YM s2' ⊢;obtain⟨ad,md,h1,h2,h3,h4,n1,n2⟩:=YM.cell;refine pj h1 ⟨(G.j "at" rfl),by show 8<1000;decide,?_⟩;obtain⟨g3,s3⟩:=YM.put {c with st:="over",wd:=some w0,at_:=[]} rfl lp h4 np n2;show ud _ _ _ _ (pD M2' k.p (.ins a.e (rg {c with st:="over",wd:=some w0,at_:=[]} k.wy p md)));generalize pD M2' k.p (.ins a.e (rg {c with st:="over",wd:=some w0,at_:=[]} k.wy p md))=M3 at g3 s3 ⊢;clear h1 h2 h3 h4 n1 n2 lp t3 np g2 YM;refine⟨oZ rfl,λp2 WD=>?_⟩;have t4:=qw.new (c:=.lst []) WD;have lp:=@pC M3 p2 [];have np:=g3.bd.nv WD;have Y8:=g3.sub t4;have s3':=s3.trans (.sub t4);generalize pD M3 p2 (.lst [])=M3' at t4 lp Y8 s3' ⊢;obtain⟨ad,md,h1,h2,h3,h4,n1,n2⟩:=Y8.cell;refine pj h1 ⟨(G.j "members" rfl),by show 8<1000;decide,?_⟩;obtain⟨g4,s4⟩:=Y8.put {c with st:="over",wd:=some w0,at_:=[],ms:=[]} rfl h3 lp n1 np;rw[show vT "members" (.ref p2) (rg {c with st:="over",wd:=some w0,at_:=[]} k.wy ad md)=rg {c with st:="over",wd:=some w0,at_:=[],ms:=[]} k.wy ad p2 from rfl];generalize pD M3' k.p (.ins a.e (rg {c with st:="over",wd:=some w0,at_:=[],ms:=[]} k.wy ad p2))=M4 at g4 s4 ⊢;clear h1 h2 h3 h4 n1 n2 lp t4 np g3 Y8;obtain⟨ad,md,h1,h2,h3,h4,n1,n2⟩:=g4.cell;refine pj h1 ⟨(G.j "holder" rfl),by show 8<1000;decide,_,.refl,?_⟩;obtain⟨g5,s5⟩:=g4.put (c.over w0) rfl h3 h4 n1 n2;refine q _ ((s1.trans s2').trans (s3'.trans (s4.trans s5))) ?_;have:=g5.bd;rw[rY,rY,rY,rY]at this;exact this
def KL:Fq P w K mg base 1 a.a8 (LB a):=by
 refine fq G.a8.toDG CH (λr u=>⟨_,(pb (pX v0 (qJ rfl (yh (ix:=[none,some 1]) (N':=["other","phone"])) (qH (pB v0)) (qF 0) (vQ (pF u v0 U1)) v0))
 (pf (pX v0 (qJ rfl (yh (ix:=[none,some 1]) (N':=["other","phone"])) (qH (pB v0)) (qF 0) (vQ (pF u v0 U1)) v0)))),?_⟩)
 rintro ds M Q ⟨A,V,i,k,c,x,rfl,h,la,lm,q⟩
 have hz:=dO;obtain⟨ad,md,h1,h2,h3,h4,n1,n2⟩:=h.cell;refine pj h1 (i' rfl (i' h3 (tw (f:=id) (t:=PM x) h3 _ [] _ (by rw[cT];simp only[dM];omega) (λd hd k0 hk=>?_) (λd hd _ k0 hk=>?_) λp hp=>?_)))
 .obtain⟨y,hy,rfl⟩:=dB.mp hd;exact hk
 .obtain⟨y,hy,rfl⟩:=dB.mp hd;exact hk
 rw[Ce];have t1:=qw.new (c:=.lst ((rC c.at_ x).map D.str)) hp;have lp:=@pC M p ((rC c.at_ x).map D.str);have np:=h.bd.nv hp;have h':=h.sub t1;have s1:qQ A M A (pD M p (.lst ((rC c.at_ x).map D.str))):=.sub t1;generalize pD M p (.lst ((rC c.at_ x).map D.str))=M1 at t1 lp h' s1 ⊢;clear h1 h2 h3 h4 n1 n2;obtain⟨ad,md,h1,h2,h3,h4,n1,n2⟩:=h'.cell;refine pj h1 ⟨(G.j "at" rfl),by show 8<1000;decide,?_⟩;obtain⟨g2,s2⟩:=h'.put {c with at_:=rC c.at_ x} rfl lp h4 np n2;rw[show vT "at" (.ref p) (rg c k.wy ad md)=rg {c with at_:=rC c.at_ x} k.wy p md from rfl];generalize pD M1 k.p (.ins a.e (rg {c with at_:=rC c.at_ x} k.wy p md))=M2 at g2 s2 ⊢;clear h1 h2 h3 h4 n1 n2 lp np;obtain⟨ad,md,h1,h2,h3,h4,n1,n2⟩:=g2.cell;refine pj h1 (i' rfl (i' h4 (tw (f:=id) (t:=PM x) h4 _ [] _ (by rw[cT];simp only[dM];show 0+c.ms.length<=sizeLine;omega) (λd hd k0 hk=>?_) (λd hd _ k0 hk=>?_) λp2 WD=>?_)))
 .obtain⟨y,hy,rfl⟩:=dB.mp hd;exact hk
 .obtain⟨y,hy,rfl⟩:=dB.mp hd;exact hk
 rw[Ce];have t3:=qw.new (c:=.lst ((rC c.ms x).map D.str)) WD;have lp:=@pC M2 p2 ((rC c.ms x).map D.str);have np:=g2.bd.nv WD;have YM:=g2.sub t3;have s3:qQ A M2 A (pD M2 p2 (.lst ((rC c.ms x).map D.str))):=.sub t3;generalize pD M2 p2 (.lst ((rC c.ms x).map D.str))=M3 at t3 lp YM s3 ⊢;clear h1 h2 h3 h4 n1 n2;obtain⟨ad,md,h1,h2,h3,h4,n1,n2⟩:=YM.cell;refine pj h1 ⟨(G.j "members" rfl),by show 8<1000;decide,_,.refl,?_⟩;obtain⟨g4,s4⟩:=YM.put (c.drop x) rfl h3 lp n1 np;refine q _ ((s1.trans s2).trans (s3.trans s4)) ?_;have:=g4.bd;rw[rY]at this;exact this
def J3:Fq P w K mg base 2 a.a9 (JJ a):=by
 refine fq G.a9.toDG xl (λr u=>⟨_,(pb (pJ 2 xl (pE U1 pk))
 (pf (pN (pF u U2 pq)
 (pb (pX v0 pq)
 (pb (pX v0 (qx tU rfl G.y tQ (qc (pE U1 pk))))
 (pf (pX v0 pk))))
 (pf (pN (pF u U2 pq)
 (pf (pX v0 (qB sm)))
 (pf (pN (pF u U2 pq)
 (pb (pX v0 pq)
 (pf (pX v0 (qB (qc (pE U1 pk))))))
 (pf (pN (pF u U2 pq)
 (pb (pX v0 pq)
 (pb (pX v0 (qx tU rfl G.y tQ (qc (pE U1 pk))))
 (pb (pX v0 (qB sm))
 (pf (pX v0 rL)))))
 (pf (pN (pF u U2 pq)
 (pb (pX v0 pq)
 (pf (pX v0 (pE U1 pk))))
 (pf (pN (pF u U2 pq)
 (pf (pM (pI (KL G) r G.a8 (rW v0 (pE U1 pk)))))
 (pf (pN (pF u U2 pq)
 (pf (pM (pI (HQ G) r G.ad (rW v0 (pE U1 pk)))))
 pH))))))))))))))),?_⟩)
 rintro ds M Q ⟨A,V,i,k,c,e,c',rfl,h,la,lm,hc,q⟩
 cases hc with
 | over w0=>exact⟨A,V,i,k,c,w0,rfl,h,λM' s b=>⟨M',.refl,q M' s b⟩⟩
 | leaves x=>exact⟨A,V,i,k,c,x,rfl,h,la,lm,λM' s b=>⟨M',.refl,q M' s b⟩⟩
 | quiet=>refine⟨oZ rfl,λp hp=>?_⟩;have t3:=qw.new (c:=.lst []) hp;have lp:=@pC M p [];have np:=h.bd.nv hp;have g1:=h.sub t3;generalize pD M p (.lst [])=M1 at t3 lp g1 ⊢;obtain⟨ad,md,h1,h2,h3,h4,n1,n2⟩:=g1.cell;refine pj h1 ⟨(G.j "at" rfl),by show 8<1000;decide,_,.refl,?_⟩;obtain⟨g5,s5⟩:=g1.put c.nJ rfl lp h4 np n2;exact q _ ((qQ.sub t3).trans s5) g5.bd
 | waits x=>obtain⟨ad,md,h1,h2,h3,h4,n1,n2⟩:=h.cell;refine pj h1 ⟨(G.j "state" rfl),by show 8<1000;decide,?_⟩;obtain⟨g1,s1⟩:=h.put {c with st:="waits"} rfl h3 h4 n1 n2;show ud _ _ _ _ (pD M k.p (.ins a.e (rg {c with st:="waits"} k.wy ad md)));generalize pD M k.p (.ins a.e (rg {c with st:="waits"} k.wy ad md))=M1 at g1 s1 ⊢;clear h1 h2 h3 h4 n1 n2;refine⟨oZ rfl,λp hp=>?_⟩;have t3:=qw.new (c:=.lst [D.str x]) hp;have lp:=@pC M1 p [D.str x];have np:=g1.bd.nv hp;have Yi:=g1.sub t3;generalize pD M1 p (.lst [D.str x])=M1' at t3 lp Yi ⊢;obtain⟨ad,md,h1,h2,h3,h4,n1,n2⟩:=Yi.cell;refine pj h1 ⟨(G.j "at" rfl),by show 8<1000;decide,_,.refl,?_⟩;obtain⟨g5,s5⟩:=Yi.put (c.wait x) rfl lp h4 np n2;refine q _ (s1.trans ((qQ.sub t3).trans s5)) ?_;have:=g5.bd;rw[rY]at this;exact this
 | held x=>obtain⟨ad,md,h1,h2,h3,h4,n1,n2⟩:=h.cell;refine pj h1 ⟨(G.j "state" rfl),by show 8<1000;decide,?_⟩;obtain⟨g1,s1⟩:=h.put {c with st:="held"} rfl h3 h4 n1 n2;show ud _ _ _ _ (pD M k.p (.ins a.e (rg {c with st:="held"} k.wy ad md)));generalize pD M k.p (.ins a.e (rg {c with st:="held"} k.wy ad md))=M1 at g1 s1 ⊢;clear h1 h2 h3 h4 n1 n2;obtain⟨ad,md,h1,h2,h3,h4,n1,n2⟩:=g1.cell;refine pj h1 ⟨(G.j "holder" rfl),by show 8<1000;decide,_,.refl,?_⟩;obtain⟨g5,s5⟩:=g1.put (c.hold x) rfl h3 h4 n1 n2;refine q _ (s1.trans s5) ?_;have:=g5.bd;rw[rY]at this;exact this
 | rings ps=>obtain⟨ad,md,h1,h2,h3,h4,n1,n2⟩:=h.cell;refine pj h1 ⟨(G.j "state" rfl),by show 8<1000;decide,?_⟩;obtain⟨g1,s1⟩:=h.put {c with st:="rings"} rfl h3 h4 n1 n2;show ud _ _ _ _ (pD M k.p (.ins a.e (rg {c with st:="rings"} k.wy ad md)));generalize pD M k.p (.ins a.e (rg {c with st:="rings"} k.wy ad md))=M1 at g1 s1 ⊢;clear h1 h2 h3 h4 n1 n2;refine λp hp=>?_;have t3:=qw.new (c:=.lst (ps.map D.str)) hp;have lp:=@pC M1 p (ps.map D.str);have np:=g1.bd.nv hp;have Yi:=g1.sub t3;have s1':=s1.trans (.sub t3);generalize pD M1 p (.lst (ps.map D.str))=M1' at t3 lp Yi s1' ⊢;obtain⟨ad,md,h1,h2,h3,h4,n1,n2⟩:=Yi.cell;refine pj h1 ⟨(G.j "at" rfl),by show 8<1000;decide,?_⟩;obtain⟨g3,s3⟩:=Yi.put {c with st:="rings",at_:=ps} rfl lp h4 np n2;rw[show vT "at" (.ref p) (rg {c with st:="rings"} k.wy ad md)=rg {c with st:="rings",at_:=ps} k.wy p md from rfl];generalize pD M1' k.p (.ins a.e (rg {c with st:="rings",at_:=ps} k.wy p md))=M3 at g3 s3 ⊢;clear h1 h2 h3 h4 n1 n2 lp t3 np;obtain⟨ad,md,h1,h2,h3,h4,n1,n2⟩:=g3.cell;refine pj h1 ⟨(G.j "since" rfl),by show 8<1000;decide,_,.refl,?_⟩;obtain⟨g5,s5⟩:=g3.put (c.ring ps) rfl h3 h4 n1 n2;refine q _ (s1'.trans (s3.trans s5)) ?_;have:=g5.bd;rw[rY,rY]at this;exact this
 | talks ms=>obtain⟨ad,md,h1,h2,h3,h4,n1,n2⟩:=h.cell;refine pj h1 ⟨(G.j "state" rfl),by show 8<1000;decide,?_⟩;obtain⟨g1,s1⟩:=h.put {c with st:="talks"} rfl h3 h4 n1 n2;show ud _ _ _ _ (pD M k.p (.ins a.e (rg {c with st:="talks"} k.wy ad md)));generalize pD M k.p (.ins a.e (rg {c with st:="talks"} k.wy ad md))=M1 at g1 s1 ⊢;clear h1 h2 h3 h4 n1 n2;refine λp hp=>?_;have t3:=qw.new (c:=.lst (ms.map D.str)) hp;have lp:=@pC M1 p (ms.map D.str);have np:=g1.bd.nv hp;have Yi:=g1.sub t3;have s1':=s1.trans (.sub t3);generalize pD M1 p (.lst (ms.map D.str))=M1' at t3 lp Yi s1' ⊢;obtain⟨ad,md,h1,h2,h3,h4,n1,n2⟩:=Yi.cell;refine pj h1 ⟨(G.j "members" rfl),by show 8<1000;decide,?_⟩;obtain⟨g3,s3⟩:=Yi.put {c with st:="talks",ms:=ms} rfl h3 lp n1 np;show ud _ _ _ _ (pD M1' k.p (.ins a.e (rg {c with st:="talks",ms:=ms} k.wy ad p)));generalize pD M1' k.p (.ins a.e (rg {c with st:="talks",ms:=ms} k.wy ad p))=M3 at g3 s3 ⊢;clear h1 h2 h3 h4 n1 n2 lp t3 np;refine⟨oZ rfl,λp2 WD=>?_⟩;have t4:=qw.new (c:=.lst []) WD;have lp:=@pC M3 p2 [];have np:=g3.bd.nv WD;have Y8:=g3.sub t4;have s3':=s3.trans (.sub t4);generalize pD M3 p2 (.lst [])=M3' at t4 lp Y8 s3' ⊢;obtain⟨ad,md,h1,h2,h3,h4,n1,n2⟩:=Y8.cell;refine pj h1 ⟨(G.j "at" rfl),by show 8<1000;decide,?_⟩;obtain⟨g4,s4⟩:=Y8.put {c with st:="talks",ms:=ms,at_:=[]} rfl lp h4 np n2;rw[show vT "at" (.ref p2) (rg {c with st:="talks",ms:=ms} k.wy ad md)=rg {c with st:="talks",ms:=ms,at_:=[]} k.wy p2 md from rfl];generalize pD M3' k.p (.ins a.e (rg {c with st:="talks",ms:=ms,at_:=[]} k.wy p2 md))=M4 at g4 s4 ⊢;clear h1 h2 h3 h4 n1 n2 lp t4 np;obtain⟨ad,md,h1,h2,h3,h4,n1,n2⟩:=g4.cell;refine pj h1 ⟨(G.j "holder" rfl),by show 8<1000;decide,_,.refl,?_⟩;obtain⟨g5,s5⟩:=g4.put (c.nj ms) rfl h3 h4 n1 n2;refine q _ (s1'.trans (s3'.trans (s4.trans s5))) ?_;have:=g5.bd;rw[rY,rY,rY]at this;exact this
theorem sP{α:Type}{f:α->α}:∀{l:List α} {i:Nat} {c:α},l[i]?=some c->l.modify i f=l.set i (f c)
 | [],_,_,h=>by simp at h
 | _::_,0,_,h=>by cases h;rfl
 | x::r,i+1,c,h=>by rw[List.modify_succ_cons,ls,sP (l:=r) (by simpa using h)]
def HB(ps:List (Str×Int))(z:Str)(n:Int):Bd (tj ps) (.inr z) (.int n)=tj (Bh ps z n):=by
 have ea:((tj ps).any λkv=>decide (kv.1=(Sum.inr z:rf)))=ps.any λp=>decide (p.1=z):=by unfold tj;rw[jI];congr 1;funext p;have:((Sum.inr p.1:rf)=Sum.inr z)=(p.1=z):=propext ⟨λh=>jV h,λh=>by rw[h]⟩;simp only[Function.comp,this]
 unfold Bd Bh;rw[ea];by_cases h:(ps.any λp=>decide (p.1=z))=true
 .rw[c9 h,c9 h];unfold tj;rw[d6,d6];refine gP λp _=>?_;by_cases hp:p.1=z
  .simp[hp]
  .have:¬(Sum.inr p.1:rf)=Sum.inr z:=λy=>hp (jV y);simp[hp]
 .rw[cY h,cY h];unfold tj;rw[dF];rfl
def FG{α:Type}{l:List α}{i:Nat}{x:α}(h:l[i]?=some x):l.set i x=l:=by obtain⟨hi,e⟩:=cX.mp h;rw[<-e,List.set_getElem_self]
structure VP(V:qr):Prop where
 lo:V.log.length<10000000
 le:V.mU.length<10000000
 ca:V.calls.length<=1000000
 ps:V.ps.length<10000000
 cs:∀c∈V.calls,c.way.length<10000000/\c.at_.length<=100/\c.ms.length<=100
def AJ(a:Ad):rh:=λds M Q=>GG λA V k c v=>ds=[.ref A.b,rS.d v]/\CI a M A V v.i k c/\V.mU.length<10000000/\c.way.length<10000000/\∀M',qQ A M A M'->pL a M' A {yq V v.i (c.go v.g)with mU:=V.mU++[v]}->Q .mM M'
def CO(a:Ad):rh:=λds M Q=>P' λA V i j ki ci cj ms=>ds=[.ref A.b,.int (i:Nat),.int (j:Nat),names ms]/\CI a M A V i ki ci/\V.calls[j]?=some cj/\i≠j/\V.mU.length<10000000/\∀M' A',A'.b=A.b->qQ A M A' M'->pL a M' A' {yq (yq V i (ci.over "merged")) j (cj.mem ms)with mU:=V.mU.map (rS.to i j)}->Q .mM M'
def zr(a:Ad):rh:=λds M Q=>B1 λA V=>ds=[.ref A.b]/\pL a M A V/\∀M',qQ A M A M'->pL a M' A {V with t:=V.t+1,calls:=V.calls.map pz.tick}->Q .mM M'
def vY(a:Ad):rh:=λds M Q=>BK λb A V e=>ds=[.ref b,Ev.d e]/\A.b=b/\pL a M A V/\VP V/\e.ok V/\∀M' A',A'.b=A.b->qQ A M A' M'->pL a M' A' (qa V e)->Q .mM M'
noncomputable def R5(m k:Nat):D->D
 | .tup (.int i::r)=>if i=(m:Int)then .tup (.int (k:Nat)::r)else .tup (.int i::r)
 | d=>d
def RH(m k:Nat)(v:rS):R5 m k v.d=(v.to m k).d:=by
 show(if ((v.i:Nat):Int)=(m:Int)then _ else _)=_;unfold rS.to;by_cases h:v.i=m
 .rw[c9 h,c9 (by rw[h])];rfl
 .rw[cY h,cY (by omega)];rfl
def Hg:Fq P w K mg base 1 a.bC (AJ a):=by
 refine fq G.bC.toDG Ag (λr u=>⟨_,(pb (pM (rb (pB v0) (qc U1)))
 (pf (pM (rb (pB (pE (pB v0) (pE U1 pk))) (qc (pE U1 pk)))))),?_⟩)
 rintro ds M Q ⟨A,V,k,c,v,rfl,ci,l1,l2,q⟩
 have hz:=dO;have bd:=ci.bd;refine pj bd.at_ (i' rfl ⟨by show(oR M A.le).isSome=true;rw[bd.le];rfl,i' bd.le ⟨by rw[cT];omega,?_⟩⟩);obtain⟨b1,s1⟩:=bd.oE (es:=V.mU++[v]);rw[dF]at b1 s1;have b1:pL a (pD M A.le (.lst (V.mU.map rS.d++[v.d]))) A {V with mU:=V.mU++[v]}:=b1;have s1:qQ A M A (pD M A.le (.lst (V.mU.map rS.d++[v.d]))):=s1;generalize pD M A.le (.lst (V.mU.map rS.d++[v.d]))=M1 at b1 s1 ⊢;obtain⟨ad,md,h1,h2,h3,h4,n1,n2⟩:=b1.cs v.i k c ci.e1 ci.e2;refine pj b1.at_ (i' rfl (i' b1.ca (i' (rc ci.e1) (pj h1 (i' rfl ⟨by show(oR M1 k.wy).isSome=true;rw[h2];rfl,i' h2 ⟨by rw[cT];omega,?_⟩⟩)))));obtain⟨b2,s2⟩:=b1.oF (ws:=c.way++[v.g]) ci.e1 ci.e2;rw[dF]at b2 s2;exact⟨_,.refl,q _ (s1.trans s2) b2⟩
def Lc:Fq P w K mg base 2 a.bD (CO a):=by
 refine fq G.bD.toDG xD (λr u=>⟨_,(pb (pM (pI (HQ G) r G.ad (rW (pE (pB v0) U1) pq)))
 (pb (pX v0 (qJ rfl (yh (ix:=[none,some 1,some 2]) (N':=["leg","merged","kept"])) (qH (pB v0)) (qF 0) rO (Qh (pF u (pE v0 pk) U1) (pT (pK (qc U2)) (sj v0 (sI pk) tD)) v0)))
 (pb (pJ 4 xD (pE (pB v0) U2))
 (pf (pX v4 (qx tU rfl G.y tQ (qc U3))))))),?_⟩)
 rintro ds M Q ⟨A,V,i,j,ki,ci,cj,ms,rfl,hi,hj,Xm,l1,q⟩
 have hz:=dO;refine pj hi.bd.at_ (i' rfl (i' rfl (i' hi.bd.ca (i' (rc hi.e1) ⟨A,V,i,ki,ci,"merged",rfl,hi,λM1 s1 b1=>?_⟩))));have hj1:(yq V i (ci.over "merged")).calls[j]?=some cj:=by show(V.calls.set i _)[j]?=_;rw[eR Xm];exact hj
 have le1:oR M1 A.le=some (V.mU.map rS.d):=b1.le;refine pj b1.at_ (i' rfl (i' le1 (qX (f:=R5 i j) le1 _ [] _ (by rw[cT];simp only[dM];omega) (λd hd k hk=>?_) λp hp=>?_)))
 .obtain⟨v,_,rfl⟩:=dB.mp hd;refine i' rfl ?_;have hk:k (if ((v.i:Nat):Int)=(i:Int)then .tup [.int (j:Nat),.str v.f,.str v.g,.str v.y]else .tup [.int (v.i:Nat),.str v.f,.str v.g,.str v.y]) M1:=hk;refine qD (c:=((v.i:Nat):Int)==(i:Nat)) (λz=>?_) (λz=>?_)
  .rw[c9 (eq_of_beq z)]at hk;exact⟨oZ rfl,fK _ _,by show 1+3<=sizeLine;omega,hk⟩
  .rw[cY (λy=>z (by rw[y];exact eY _))]at hk;exact hk
 have em:[]++(V.mU.map rS.d).map (R5 i j)=(V.mU.map (rS.to i j)).map rS.d:=by rw[dY,d6,d6];exact gP λv _=>RH i j v
 rw[em];obtain⟨b2,s2⟩:=b1.oz (es:=V.mU.map (rS.to i j)) hp;have t:=qw.new (c:=.lst ((V.mU.map (rS.to i j)).map rS.d)) hp;refine pj (t _ _ b1.at_) ⟨(G.C "legs" rfl),by show 8<1000;decide,?_⟩;show ud _ _ _ _ (pD (pD M1 p (.lst ((V.mU.map (rS.to i j)).map rS.d))) A.b (.ins a.c (tL (.ref V.p) V.h V.t A.ca p A.nx A.on A.lo)));have b2:pL a (pD (pD M1 p (.lst ((V.mU.map (rS.to i j)).map rS.d))) A.b (.ins a.c (tL (.ref V.p) V.h V.t A.ca p A.nx A.on A.lo))) {A with le:=p} {yq V i (ci.over "merged")with mU:=V.mU.map (rS.to i j)}:=b2;have s2:qQ A M1 {A with le:=p} (pD (pD M1 p (.lst ((V.mU.map (rS.to i j)).map rS.d))) A.b (.ins a.c (tL (.ref V.p) V.h V.t A.ca p A.nx A.on A.lo))):=s2;generalize pD (pD M1 p (.lst ((V.mU.map (rS.to i j)).map rS.d))) A.b (.ins a.c (tL (.ref V.p) V.h V.t A.ca p A.nx A.on A.lo))=M2 at b2 s2 ⊢;have hjk:j<A.cs.length:=by rw[hi.bd.len];exact(cX.mp hj).1
 have ej:A.cs[j]?=some A.cs[j]:=cW hjk;generalize A.cs[j]=kj at ej;have cj2:CI a M2 {A with le:=p} _ j kj cj:=⟨b2,ej,hj1⟩;refine pj b2.at_ (i' rfl (i' rfl (i' b2.ca (i' (rc ej) ?_))));refine λr YL=>?_;have t3:=qw.new (c:=.lst (ms.map D.str)) YL;have lr:=@pC M2 r (ms.map D.str);have nr:=b2.nv YL;have cj3:=cj2.sub t3;generalize pD M2 r (.lst (ms.map D.str))=M3 at t3 lr cj3 ⊢;obtain⟨ad,md,h1,h2,h3,h4,n1,n2⟩:=cj3.cell;refine pj h1 ⟨(G.j "members" rfl),by show 8<1000;decide,_,.refl,?_⟩;obtain⟨g5,s5⟩:=cj3.put (cj.mem ms) rfl h3 lr n1 nr;exact q _ {A with le:=p} rfl (s1.trans (s2.trans ((qQ.sub t3).trans s5))) g5.bd
def E9:Fq P w K mg base 1 a.bE (zr a):=by
 refine fq G.bE.toDG vd (λr u=>⟨_,(pb (DO v0 pk)
 (pf (uB e9 rfl (qH (pB v0)) (qZ 1 vd)
 (pf (pN (pF u (pB U1) pq)
 (pf (DO U1 pk))
 pH))))),?_⟩)
 rintro ds M Q ⟨A,V,rfl,bd,q⟩
 refine pj bd.at_ ⟨(G.C "turn" rfl),i' rfl (i' rfl (pj bd.at_ ⟨rfl,by show 8<1000;decide,?_⟩))⟩;obtain⟨b1,s1⟩:=bd.putT (t:=V.t+1);rw[show vT "turn" (.int (V.t+1)) (tL (.ref V.p) V.h V.t A.ca A.le A.nx A.on A.lo)=tL (.ref V.p) V.h (V.t+1) A.ca A.le A.nx A.on A.lo from rfl];generalize pD M A.b (.ins a.c (tL (.ref V.p) V.h (V.t+1) A.ca A.le A.nx A.on A.lo))=M1 at b1 s1 ⊢;refine pj b1.at_ (i' rfl (i' b1.ca ?_));refine vP (A.cs.map λk=>D.ref k.p) (λpre δ M'=>pL a M' A {V with t:=V.t+1,calls:=(V.calls.take pre.length).map pz.tick++V.calls.drop pre.length}/\qQ A M A M'/\∃y,δ=[some (.ref A.b),y]) (λ_ _ M' j=>j.1.ca) _ [] _ _ rfl ⟨b1,s1,none,rfl⟩ ?_ ?_
 .rintro pre d post e δ M' ⟨b2,s2,y,rfl⟩ nx WB
  have hd:(A.cs.map λk=>D.ref k.p)[pre.length]?=some d:=by rw[<-e];simp
  rw[dA]at hd;cases ek:A.cs[pre.length]? with
  | none=>rw[ek]at hd;cases hd
  | some k=>
   rw[ek]at hd;have hd:D.ref k.p=d:=dh hd;subst hd;have hi:pre.length<V.calls.length:=by rw[<-bd.len];exact(cX.mp ek).1
   have ec:V.calls[pre.length]?=some V.calls[pre.length]:=cW hi;have ed:V.calls.drop pre.length=V.calls[pre.length]::V.calls.drop (pre.length+1):=gI hi;have et:V.calls.take (pre.length+1)=V.calls.take pre.length++[V.calls[pre.length]]:=by rw[gj,ec];rfl
   generalize V.calls[pre.length]=c at ec ed et;have hl:((V.calls.take pre.length).map pz.tick).length=pre.length:=by rw[cT,fm];omega
   have ec2:((V.calls.take pre.length).map pz.tick++V.calls.drop pre.length)[pre.length]?=some c:=by rw[eB (by rw[hl];exact dg _),hl,fW,ed];rfl
   rw[cV,dP,et]at WB;have en:((V.calls.take pre.length).map pz.tick++V.calls.drop pre.length).set pre.length c.tick=(V.calls.take pre.length++[c]).map pz.tick++V.calls.drop (pre.length+1):=by rw[iG _ _ (by rw[hl];exact dg _),hl,fW,ed,dF,eW];rfl
   have ci:CI a M' A _ pre.length k c:=⟨b2,ek,ec2⟩;obtain⟨ad,md,h1,h2,h3,h4,n1,n2⟩:=ci.cell;refine pj h1 (i' rfl ?_);have ht:c.tick=if (c.st=="rings")=true then{c with si:=c.si+1}else c:=rfl;refine qD (c:=c.st=="rings") (λg=>?_) (λg=>?_)
   .rw[c9 g]at ht;refine pj h1 ⟨(G.j "since" rfl),i' rfl (i' rfl (pj h1 ⟨rfl,by show 8<1000;decide,?_⟩))⟩;obtain⟨g5,s5⟩:=ci.put c.tick (by rw[ht]) (by rw[ht];exact h3) (by rw[ht];exact h4) n1 n2;have b5:=g5.bd;unfold yq at b5;rw[en]at b5;rw[ht]at b5 s5;exact WB _ _ ⟨b5,s2.trans s5,_,rfl⟩
   .rw[cY g]at ht;rw[ht,FG ec2]at en;rw[en]at b2;exact WB _ _ ⟨b2,s2,_,rfl⟩
 .rintro δ M' ⟨b2,s2,y,rfl⟩
  rw[cT,bd.len,fD,jD,eS]at b2;exact⟨M',.refl,q M' s2 b2⟩
def qW:Fq P w K mg base 3 a.k (vY a):=by
 refine fq G.k.toDG xB (λr u=>⟨_,(pb (pM (rb (pB v0) (qc U1)))
 (pb (pJ 2 xB (pE U1 pk))
 (pf (pN (pF u U2 pq)
 (pf (pM (rb (pB v0) (qc (uZ (P3 G) r G.e G.cf G.aG.toDG (qc (pE U1 pk)))))))
 (pf (pN (pF u U2 pq)
 (pf (pM (pU v0 G.c.toCls G.bC (Hg G) r (qc (sj U1 (sI pk) tD)))))
 (pf (pN (pF u U2 pq)
 (pf (NO u (pB v0) (pE U1 pk) (pE U1 pk)))
 (pf (pN (pF u U2 pq)
 (pf (pM (pU v0 G.c.toCls G.bD (Lc G) r (qT (pE U1 pk) (pE U1 pk) (pE U1 pk)))))
 (pf (pN (pF u U2 pq)
 (pf (pM (xZ v0 G.c.toCls G.bE (E9 G) r)))
 (pf (pN (pF u U2 (pK (rW pq pq)))
 (pf (E2 (qh u U2 pq) (Qz (pB v0) (pE U1 pk))))
 (pf (pN (pF u U2 pq)
 (pf (pM (pI (J3 G) r G.a9 (rW (pE (pB v0) (pE U1 pk)) U1))))
 pH)))))))))))))))),?_⟩)
 rintro ds M Q ⟨_,A,V,e,rfl,rfl,bd,lim,ev,q⟩
 have hz:=dO;have ll:=lim.lo;have lc:=lim.ca;have lp:=lim.ps;refine pj bd.at_ (i' rfl ⟨by show(oR M A.lo).isSome=true;rw[bd.lo];rfl,i' bd.lo ⟨by rw[cT];omega,?_⟩⟩);have hb:=bd.oG (es:=V.log++[e]);rw[dF]at hb;obtain⟨b1,s1⟩:pL a (pD M A.lo (.lst (V.log.map Ev.d++[e.d]))) A (qK V e)/\qQ A M A (pD M A.lo (.lst (V.log.map Ev.d++[e.d]))):=hb;show ud _ _ _ _ (pD M A.lo (.lst (V.log.map Ev.d++[e.d])));generalize pD M A.lo (.lst (V.log.map Ev.d++[e.d]))=M1 at b1 s1 ⊢;have Yt:∀i,i<V.calls.length->∃k c,A.cs[i]?=some k/\V.calls[i]?=some c/\c∈V.calls:=λi hi=>by
  have Xz:i<A.cs.length:=by rw[bd.len];exact hi
  exact⟨_,_,cW Xz,cW hi,ib hi⟩
 have ZG:∀(i:Nat) (k:rk) (c:pz) (c':pz) (f:pz->pz),A.cs[i]?=some k->V.calls[i]?=some c->f c=c'->qa V e=xA (qK V e) i f->∀(M2:Mp),qQ A M1 A M2->pL a M2 A (yq (qK V e) i c')->∃Wu,qw Wu M2/\Q .mM Wu:=λi k c c' f e1 e2 e3 e4 M2 s2 b2=>⟨M2,.refl,q M2 A rfl (s1.trans s2) (by
  rw[e4];unfold xA;rw[show(qK V e).calls=V.calls from rfl,sP e2,e3];exact b2)⟩
 cases e with
 | new n x=>refine pj b1.at_ (i' rfl ⟨by show(oR M1 A.ca).isSome=true;rw[b1.ca];rfl,λp hp=>⟨p,x,rfl,pP,λM2 wy ad md kp z1 z2 z3 n1 n2 h1 h2 h3 h4=>⟨rfl,?_⟩⟩⟩);have sp:=qw.new (c:=.ins a.e []) hp;have s2:qw M1 M2:=λy d hy=>kp y d (OI hy hp) (sp y d hy);refine i' (s2.lst b1.ca) ⟨by rw[cT,b1.len];show V.calls.length<sizeLine;omega,?_⟩;obtain⟨b3,s3⟩:=b1.oa s2 (c:=wQ x) hp (sp.none z1) (sp.none z2) (sp.none z3) h1 h2 h3 h4 n1 n2;exact⟨_,.refl,q _ (A.add ⟨p,wy⟩) rfl (s1.trans s3) b3⟩
 | leg v=>obtain⟨k,c,ek,ec,hc⟩:=Yt v.i ev;refine pj b1.at_ ⟨rfl,_,⟨rfl,rfl⟩,A,qK V (.leg v),k,c,v,rfl,⟨b1,ek,ec⟩,lim.le,(lim.cs c hc).1,λM2 s2 b2=>⟨M2,.refl,q M2 A rfl (s1.trans s2) ?_⟩⟩;show pL a M2 A {qK V (.leg v)with mU:=V.mU++[v],calls:=V.calls.modify v.i (·.go v.g)};rw[sP ec];exact b2
 | next z n=>refine pj b1.at_ (i' rfl (i' b1.nx ⟨by show(tj V.ps).length<sizeLine;unfold tj;rw[cT];omega,?_⟩));rw[HB];obtain⟨b2,s2⟩:=b1.oS (ps:=Bh V.ps z n);exact⟨_,.refl,q _ A rfl (s1.trans s2) b2⟩
 | merge i j ms=>obtain⟨hi,hj,hij,_⟩:=ev;obtain⟨ki,ci,eki,eci,hci⟩:=Yt i hi;obtain⟨kj,cj,ekj,ecj,hcj⟩:=Yt j hj;refine pj b1.at_ ⟨rfl,_,⟨rfl,rfl⟩,A,qK V (.merge i j ms),i,j,ki,ci,cj,ms,rfl,⟨b1,eki,eci⟩,ecj,hij,lim.le,λM2 A2 eb s2 b2=>⟨M2,.refl,q M2 A2 eb (s1.trans s2) ?_⟩⟩;show pL a M2 A2 {qK V (.merge i j ms)with calls:=(V.calls.modify i (·.over "merged")).modify j (·.mem ms),mU:=V.mU.map (rS.to i j)};rw[sP eci,sP (show(V.calls.set i _)[j]?=some cj by rw[eR hij];exact ecj)];exact b2
 | asks i z ns=>exact⟨oZ rfl,rfl,rfl,M1,.refl,q M1 A rfl s1 b1⟩
 | turn=>exact pj b1.at_ ⟨rfl,_,⟨rfl,rfl⟩,A,qK V .turn,rfl,b1,λM2 s2 b2=>⟨M2,.refl,q M2 A rfl (s1.trans s2) b2⟩⟩
 | sw b i=>
  have hi:i<V.on.length:=ev;obtain⟨b2,s2⟩:=b1.oQ (bs:=V.on.set i b);have es:(V.on.map D.bl).set i (.bl b)=(V.on.set i b).map D.bl:=(mB).symm;have ix:EG (V.on.map D.bl).length (i:Nat)=some i:=by rw[cT];unfold EG;simp[hi]
  have Wt:∃Wu,qw Wu (pD M1 A.on (.lst ((V.on.map D.bl).set i (.bl b))))/\Q .mM Wu:=by rw[es];exact⟨_,.refl,q _ A rfl (s1.trans s2) b2⟩
  cases b with
  | true=>exact⟨oZ rfl,rfl,rfl,pj b1.at_ (i' rfl (i' b1.on (i' ix Wt)))⟩
  | false=>exact⟨oZ rfl,rfl,rfl,pj b1.at_ (i' rfl (i' b1.on (i' ix Wt)))⟩
 | rings i ps=>obtain⟨k,c,ek,ec,hc⟩:=Yt i ev.1;exact⟨oZ rfl,rfl,rfl,pj b1.at_ (i' rfl (i' b1.ca (i' (rc ek) ⟨A,qK V _,i,k,c,_,_,rfl,⟨b1,ek,ec⟩,(lim.cs c hc).2.1,(lim.cs c hc).2.2,.rings ps,ZG i k c _ _ ek ec rfl rfl⟩)))⟩
 | quiet i=>obtain⟨k,c,ek,ec,hc⟩:=Yt i ev;exact⟨oZ rfl,rfl,rfl,pj b1.at_ (i' rfl (i' b1.ca (i' (rc ek) ⟨A,qK V _,i,k,c,_,_,rfl,⟨b1,ek,ec⟩,(lim.cs c hc).2.1,(lim.cs c hc).2.2,.quiet,ZG i k c _ _ ek ec rfl rfl⟩)))⟩
 | waits i x=>obtain⟨k,c,ek,ec,hc⟩:=Yt i ev;exact⟨oZ rfl,rfl,rfl,pj b1.at_ (i' rfl (i' b1.ca (i' (rc ek) ⟨A,qK V _,i,k,c,_,_,rfl,⟨b1,ek,ec⟩,(lim.cs c hc).2.1,(lim.cs c hc).2.2,.waits x,ZG i k c _ _ ek ec rfl rfl⟩)))⟩
 | talks i ms=>obtain⟨k,c,ek,ec,hc⟩:=Yt i ev.1;exact⟨oZ rfl,rfl,rfl,pj b1.at_ (i' rfl (i' b1.ca (i' (rc ek) ⟨A,qK V _,i,k,c,_,_,rfl,⟨b1,ek,ec⟩,(lim.cs c hc).2.1,(lim.cs c hc).2.2,.talks ms,ZG i k c _ _ ek ec rfl rfl⟩)))⟩
 | held i x=>obtain⟨k,c,ek,ec,hc⟩:=Yt i ev;exact⟨oZ rfl,rfl,rfl,pj b1.at_ (i' rfl (i' b1.ca (i' (rc ek) ⟨A,qK V _,i,k,c,_,_,rfl,⟨b1,ek,ec⟩,(lim.cs c hc).2.1,(lim.cs c hc).2.2,.held x,ZG i k c _ _ ek ec rfl rfl⟩)))⟩
 | leaves i x=>obtain⟨k,c,ek,ec,hc⟩:=Yt i ev;exact⟨oZ rfl,rfl,rfl,pj b1.at_ (i' rfl (i' b1.ca (i' (rc ek) ⟨A,qK V _,i,k,c,_,_,rfl,⟨b1,ek,ec⟩,(lim.cs c hc).2.1,(lim.cs c hc).2.2,.leaves x,ZG i k c _ _ ek ec rfl rfl⟩)))⟩
 | over i w0=>obtain⟨k,c,ek,ec,hc⟩:=Yt i ev;exact⟨oZ rfl,rfl,rfl,pj b1.at_ (i' rfl (i' b1.ca (i' (rc ek) ⟨A,qK V _,i,k,c,_,_,rfl,⟨b1,ek,ec⟩,(lim.cs c hc).2.1,(lim.cs c hc).2.2,.over w0,ZG i k c _ _ ek ec rfl rfl⟩)))⟩
noncomputable def KZ:QQQ:=["barred","ring","engaged","left","refused","done","merged"]
def Ql(o:Bool)(c:pz):Prop:=(c.st="rings"/\c.ms=[]/\c.hd=none/\c.wd=none/\(o=true->c.at_=[])/\(o=false->c.at_≠[]))\/(o=false/\((c.st="waits"/\c.ms=[]/\c.hd=none/\c.wd=none/\c.at_.length=1)\/(c.st="talks"/\(c.ms.length=2\/c.ms.length=3)/\c.hd=none/\c.wd=none/\c.at_=[])\/
 (∃x,c.st="held"/\c.ms.length=2/\c.hd=some x/\x∈c.ms/\c.wd=none/\c.at_=[])\/(c.st="over"/\c.ms=[]/\c.hd=none/\c.at_=[]/\∃w∈KZ,c.wd=some w)))
structure vV(l:pG)(o:Bool)(c:pz):Prop where
 sh:Ql o c
 cr:c.cr∈l.pn
 at_:∀x∈c.at_,x∈l.pn
 ms:∀x∈c.ms,x∈l.pn
 an:c.at_.Nodup
 mn:c.ms.Nodup
 ca:c.cr∉c.at_
 wy:c.way≠[]/\∀z∈c.way,z∈l.nm
def Ba(c:pz)(x:Str):Prop:=c.m9 x=true\/c.mT x=true
structure zH(l:pG)(V:qr)(o:Option Nat):Prop where
 ok:∀(i:Nat) c,V.calls[i]?=some c->vV l (o==some i) c
 un:∀(i j:Nat) ci cj x,V.calls[i]?=some ci->V.calls[j]?=some cj->Ba ci x->Ba cj x->i=j
 ln:∀x∈l.pn,(um V x:Int)<=wD l x
 wt:∀(i j:Nat) ci cj x,V.calls[i]?=some ci->V.calls[j]?=some cj->ci.mQ x=true->cj.mQ x=true->i=j
 nx:uh l V
abbrev WF(l:pG)(V:qr):Prop:=zH l V none
structure Sz(V:qr)(c n:Nat):Prop where
 lo:V.log.length<=n
 le:V.mU.length<=n
 ca:V.calls.length<=c
 ps:V.ps.length<=n
 cs:∀k∈V.calls,k.way.length<=n/\k.at_.length<=100/\k.ms.length<=100
def Sz.mono{V:qr}{c n c' n':Nat}(h:Sz V c n)(hc:c<=c')(hn:n<=n'):Sz V c' n':=⟨dW h.lo hn,dW h.le hn,dW h.ca hc,dW h.ps hn,λk hk=>⟨dW (h.cs k hk).1 hn,(h.cs k hk).2⟩⟩
noncomputable def Ev.nw:Ev->Nat
 | .new _ _=>1
 | _=>0
def LS(ps:List (Str×Int))(z:Str)(n:Int):(Bh ps z n).length<=ps.length+1:=by
 unfold Bh;split
 .rw[cT];omega
 .rw[cV];exact dg _
def Ic(ss:QQQ)(x:Str):(rC ss x).length<=ss.length:=gA _ _
def Fg{α:Type}{f:α->α}{l:List α}{i:Nat}{x:α}(h:x∈l.modify i f):x∈l\/∃y∈l,x=f y:=by
 cases e:l[i]? with
 | none=>rw[kK (by simpa using e)]at h;exact .inl h
 | some c=>
  rw[sP e]at h;rcases List.mem_or_eq_of_mem_set h with g|g
  .exact .inl g
  .exact .inr ⟨c,fO e,g⟩
def Sz.step{V:qr}{c n:Nat}{e:Ev}(h:Sz V c n)(ok:e.ok V):Sz (qa V e) (c+e.nw) (n+1):=by
 have h1:Sz (qK V e) c (n+1):=⟨by show(V.log++[e]).length<=n+1;rw[cV];exact ic h.lo,jp h.le,h.ca,jp h.ps,λk hk=>⟨jp (h.cs k hk).1,(h.cs k hk).2⟩⟩;have md:∀(i:Nat) (f:pz->pz),(∀k∈V.calls,(f k).way=k.way/\(f k).at_.length<=100/\(f k).ms.length<=100)->Sz (xA (qK V e) i f) c (n+1):=λi f hf=>⟨h1.lo,h1.le,by show(V.calls.modify i f).length<=c;rw[gc];exact h.ca,h1.ps,λk hk=>by
  rcases Fg hk with g|⟨y,hy,rfl⟩
  .exact h1.cs k g
  .obtain⟨a1,a2,a3⟩:=hf y hy;exact⟨by rw[a1];exact(h1.cs y hy).1,a2,a3⟩⟩
 cases e with
 | new m x=>
  refine⟨h1.lo,h1.le,by show(V.calls++[wQ x]).length<=c+1;rw[cV];exact ic h.ca,h1.ps,λk hk=>?_⟩;rcases dX.mp hk with g|g
  .exact h1.cs k g
  .rw[dq.mp g];exact⟨eE _,eE _,eE _⟩
 | leg v=>
  refine⟨h1.lo,by show(V.mU++[v]).length<=n+1;rw[cV];exact ic h.le,by show(V.calls.modify v.i _).length<=c;rw[gc];exact h.ca,h1.ps,λk hk=>?_⟩;rcases Fg (l:=V.calls) hk with g|⟨y,hy,rfl⟩
  .exact h1.cs k g
  .exact⟨by show(y.way++[v.g]).length<=n+1;rw[cV];exact ic (h.cs y hy).1,(h.cs y hy).2⟩
 | asks i z ns=>exact h1
 | next z m=>exact⟨h1.lo,h1.le,h1.ca,dW (LS _ _ _) (ic h.ps),h1.cs⟩
 | merge i j ms=>
  have m1:=md i (·.over "merged") λk hk=>⟨rfl,eE _,eE _⟩;refine⟨h1.lo,by show(V.mU.map _).length<=n+1;rw[cT];exact h1.le,by show((V.calls.modify i _).modify j _).length<=c;rw[gc,gc];exact h.ca,h1.ps,λk hk=>?_⟩;rcases Fg (l:=V.calls.modify i (·.over "merged")) hk with g|⟨y,hy,rfl⟩
  .exact m1.cs k g
  .exact⟨(m1.cs y hy).1,(m1.cs y hy).2.1,ok.2.2.2⟩
 | turn=>
  refine⟨h1.lo,h1.le,by show(V.calls.map pz.tick).length<=c;rw[cT];exact h.ca,h1.ps,λk hk=>?_⟩;obtain⟨y,hy,rfl⟩:=dB.mp hk;have e:y.tick.way=y.way/\y.tick.at_=y.at_/\y.tick.ms=y.ms:=by unfold pz.tick;split<;>exact⟨rfl,rfl,rfl⟩
  rw[e.1,e.2.1,e.2.2];exact h1.cs y hy
 | sw b i=>exact⟨h1.lo,h1.le,h1.ca,h1.ps,h1.cs⟩
 | rings i ps=>exact md i _ λk hk=>⟨rfl,ok.2,(h.cs k hk).2.2⟩
 | quiet i=>exact md i _ λk hk=>⟨rfl,eE _,(h.cs k hk).2.2⟩
 | waits i x=>exact md i _ λk hk=>⟨rfl,by show 1<=100;decide,(h.cs k hk).2.2⟩
 | talks i ms=>exact md i _ λk hk=>⟨rfl,eE _,ok.2⟩
 | held i x=>exact md i _ λk hk=>⟨rfl,(h.cs k hk).2.1,(h.cs k hk).2.2⟩
 | leaves i x=>exact md i _ λk hk=>⟨rfl,dW (Ic _ _) (h.cs k hk).2.1,dW (Ic _ _) (h.cs k hk).2.2⟩
 | over i w=>exact md i _ λk hk=>⟨rfl,eE _,eE _⟩
def QU(V:qr)(e:Ev):(qa V e).p=V.p/\(qa V e).h=V.h/\(qa V e).on.length=V.on.length:=by cases e<;>first|exact⟨rfl,rfl,rfl⟩|exact⟨rfl,rfl,ii⟩
structure ut(a:Ad)(M0 M:Mp)(b:Addr)(A:tH)(V:qr)(l:pG)(c n:Nat):Prop where
 bd:pL a M A V
 pl0:sW a M0 V.p l
 s0:qw M0 M
 fr:∀x∈A.foot,M0 x=none
 b:A.b=b
 sz:Sz V c n
 ok:rM l
 on:V.on.length=l.mI.length
variable {M0:Mp}{b:Addr}{A':tH}{V':qr}{l:pG}{n:Nat}
section
variable {c:Nat}
def ut.at_(h:ut a M0 M b A V l c n):M b=some (.ins a.c (tL (.ref V.p) V.h V.t A.ca A.le A.nx A.on A.lo)):=h.b ▸ h.bd.at_
def ut.sub(h:ut a M0 M b A V l c n)(s:qw M M'):ut a M0 M' b A V l c n:=⟨h.bd.sub s,h.pl0,h.s0.trans s,h.fr,h.b,h.sz,h.ok,h.on⟩
def ut.pl(h:ut a M0 M b A V l c n):sW a M V.p l:=h.pl0.sub h.s0
def ut.mono(h:ut a M0 M b A V l c n){c' n':Nat}(hc:c<=c')(hn:n<=n'):ut a M0 M b A V l c' n':=⟨h.bd,h.pl0,h.s0,h.fr,h.b,h.sz.mono hc hn,h.ok,h.on⟩
def ut.lim(h:ut a M0 M b A V l c n)(hc:c<=1000000)(hn:n<9000000):VP V:=⟨iy h.sz.lo (by omega),iy h.sz.le (by omega),dW h.sz.ca hc,iy h.sz.ps (by omega),λk hk=>⟨iy (h.sz.cs k hk).1 (by omega),(h.sz.cs k hk).2⟩⟩
def ut.rd(h:ut a M0 M b A V l c n)(hc:c<=1000000){o:Option Nat}(wf:zH l V o):Rd a M A V l:=⟨h.bd,dW h.sz.ca hc,h.pl,h.ok,h.on,λk hk=>by
 obtain⟨i,hi,e⟩:=gO hk;exact⟨(wf.ok i k (by rw[cW hi,e])).ms,(h.sz.cs k hk).2.2⟩⟩
def ut.call(h:ut a M0 M b A V l c n){i:Nat}{v:pz}(e:V.calls[i]?=some v):∃k,CI a M A V i k v:=by
 have hi:i<A.cs.length:=by rw[h.bd.len];exact(cX.mp e).1
 exact⟨A.cs[i],h.bd,cW hi,e⟩
def ut.after(h:ut a M0 M b A V l c n){e:Ev}(ok:e.ok V)(eb:A'.b=A.b)(st:qQ A M A' M')(bd:pL a M' A' (qa V e)):ut a M0 M' b A' (qa V e) l (c+e.nw) (n+1):=by
 obtain⟨p1,p2,p3⟩:=QU V e;refine⟨bd,p1 ▸ h.pl0,λx d hx=>st.1 x d (λz=>?_) (h.s0 x d hx),λx hx=>?_,eb.trans h.b,h.sz.step ok,h.ok,p3.trans h.on⟩
 .rw[h.fr x z]at hx;cases hx
 .rcases st.2.1 x hx with z|z
  .exact h.fr x z
  .exact h.s0.none z
end
def DE(l:pG)(V:qr)(c:Str):uK->Prop
 | .rings z ps=>z∈l.nm/\ps≠[]/\ps=vI l V c z
 | .breaks z=>∃x,x=c/\C4 l V x c z=true
 | .waits z=>z∈l.pn/\z≠c/\wZ V z=false
 | .ring ns=>ns≠[]
 | _=>True
def Cn{l:pG}{V:qr}{c z:Str}:(∀x∈vI l V c z,x∈tG l V c z/\x∈l.mG z)/\(vI l V c z).length<=(l.mG z).length:=by
 have hr:∀x∈tG l V c z,x∈l.mG z:=λx hx=>(fF.mp hx).1;unfold vI;split
 .refine⟨λx hx=>?_,?_⟩
  .have hx:=(fF.mp (iQ hx)).2;have hx:=qM.mp hx;exact⟨hx,hr x hx⟩
  .cases e:(uU (l.mG z) (yk V z)).filter λx=>hasS (tG l V c z) x with
   | nil=>exact eE _
   | cons y r=>
    have hy:y∈uU (l.mG z) (yk V z):=(fF.mp (by rw[e];exact dN)).1;have hy:y∈l.mG z:=by
     unfold uU at hy;rcases dX.mp hy with q|q
     .exact iR q
     .exact iQ q
    rw[fm];have:=j4 hy;omega
 .exact⟨λx hx=>⟨hx,hr x hx⟩,gA _ _⟩
def Nu{l:pG}{V:qr}{c z:Str}(hz:z∈l.nm):DE l V c (CM l V c z):=by
 unfold CM;split
 .trivial
 .rename_i x r e;exact⟨hz,fK _ _,e.symm⟩
structure wx(l:pG)(V:qr)(c:Str)(n:Nat)(st:rT)(r:uK×rT):Prop where
 e:DE l V c r.1
 len:r.2.length<=st.length+n
 nm:∀s∈r.2,s∈st\/s.1∈l.nm
 wy:∀ns,r.1=.ring ns->∀z∈ns,z∈l.nm
theorem xP{l:pG}{V:qr}{c:Str}(ok:rM l):∀(n:Nat) (z:Str) (way:QQQ) (st:rT),z∈l.nm->(∀x∈way,x∈l.nm)->wx l V c n st (uR l V c n z way st)
 | 0,z,way,st,_,_=>⟨trivial,dg _,λs hs=>.inl hs,λns h=>by cases h⟩
 | n+1,z,way,st,hz,hw=>by
  unfold uR;by_cases h:hasS way z=true
  .rw[c9 h];refine⟨?_,by show st.length<=_;omega,λs hs=>.inl hs,λns e y hy=>?_⟩
   .have h1:way.findIdx (·==z)<way.length:=List.findIdx_lt_length_of_exists ⟨z,qM.mp h,eY z⟩;show way.drop _≠[];intro g;have:=eP List.length g;rw[fY]at this;simp only[dM]at this;omega
   .cases e;exact hw y (iR hy)
  rw[cY h];have sn:∀(fs:List Nat),∀s∈st++[(z,fs)],s∈st\/s.1∈l.nm:=λfs s hs=>by
   rcases dX.mp hs with g|g
   .exact .inl g
   .rw[dq.mp g];exact .inr hz
  have sl:∀fs:List Nat,(st++[(z,fs)]).length=st.length+1:=λfs=>by rw[cV];rfl
  cases hf:yV l V c z with
  | nil=>refine⟨Nu hz,by show(st++[(z,[])]).length<=_;rw[sl];omega,sn [],λns e=>?_⟩;have e:CM l V c z=.ring ns:=e;unfold CM at e;split at e<;>cases e
  | cons i r=>
   obtain⟨w,ew,WZ⟩:=EY (l:=l) (V:=V) (f:=zo l V c z) (i:=i) (by show i∈yV l V c z;rw[hf];exact dN);dsimp only;rw[ew];dsimp only[Option.elim];have stop:∀e:uK,DE l V c e->(∀ns,e≠.ring ns)->wx l V c (n+1) st (e,st++[(z,i::r)]):=λe he WL=>⟨he,by show(st++[(z,i::r)]).length<=_;rw[sl];omega,sn _,λns g=>absurd g (WL ns)⟩
   have YN:∀y,Iv z w.2=.inr y->wx l V c (n+1) st (uR l V c n y (way++[z]) (st++[(z,i::r)])):=λy hy=>by
    have hr:=xP (V:=V) (c:=c) ok n y (way++[z]) (st++[(z,i::r)]) (BL ok (qU ew) hy) λx hx=>by
     rcases dX.mp hx with g|g
     .exact hw x g
     .rw[dq.mp g];exact hz
    refine⟨hr.e,by have:=hr.len;rw[sl]at this;omega,λs hs=>?_,hr.wy⟩;rcases hr.nm s hs with g|g
    .exact sn _ s g
    .exact .inr g
   cases hv:w.2 with
   | bar x ns=>exact stop _ trivial λns g=>by cases g
   | shut x ns=>exact stop _ trivial λns g=>by cases g
   | wait x=>
    rw[hv]at WZ;have hf2:(if (!(z==x)||(c==x))=true then false else uT l V c z&&!(wZ V z))=true:=WZ;have hx:xt l.pn x:=by have:=ok.wo w (qU ew);rw[hv]at this;exact this
    by_cases g:(!(z==x)||(c==x))=true
    .rw[c9 g]at hf2;cases hf2
    rw[cY g]at hf2;simp only[gU,gG,fH,jq,dU]at g hf2;have ezx:=eq_of_beq g.1;subst ezx;exact stop _ ⟨qM.mp hx,λy=>g.2 (by rw[y];exact eY _),hf2.2⟩ λns g=>by cases g
   | breaks x=>
    rw[hv]at WZ;refine stop _ ⟨x,?_,?_⟩ λns g=>by cases g
    .have WZ:C4 l V x c z=true:=WZ;unfold C4 at WZ;by_cases g:(!(c==x)||(z==x))=true
     .rw[c9 g]at WZ;cases WZ
     .simp only[gU,gG,fH,jq]at g;exact(eq_of_beq g.1).symm
    .exact WZ
   | always x y=>exact YN y (by rw[hv];rfl)
   | night x y f m=>exact YN y (by rw[hv];rfl)
   | busy x y=>exact YN y (by rw[hv];rfl)
   | silent x y m=>exact YN y (by rw[hv];rfl)
def Ci{l:pG}{V:qr}{x c z:Str}(h:C4 l V x c z=true):∃j k,sD V z=some j/\V.calls[j]?=some k/\k.st="talks"/\z∈k.ms/\k.ms.length=2/\z≠c:=by
 unfold C4 at h;by_cases g:(!(c==x)||(z==x))=true
 .rw[c9 g]at h;cases h
 rw[cY g]at h;simp only[gU,gG,fH,jq]at g;by_cases g2:(!(hasS l.pn z)||!(uT l V c z))=true
 .rw[c9 g2]at h;cases h
 rw[cY g2]at h;cases e:sD V z with
 | none=>rw[e]at h;cases h
 | some j=>obtain⟨hj,ht,_⟩:=gK.mp e;rw[e]at h;have h:((V.calls[j]?).elim false λk=>(k.ms.length==2)&&Hq l x k.ms)=true:=h;rw[cW hj]at h;have h:((V.calls[j].ms.length==2)&&Hq l x V.calls[j].ms)=true:=h;unfold pz.mS at ht;rw[dU]at h ht;refine⟨j,V.calls[j],rfl,cW hj,eq_of_beq ht.1,qM.mp ht.2,eq_of_beq h.1,λy=>?_⟩;rw[y]at g;have:=eq_of_beq g.1;rw[this,eY]at g;exact absurd rfl g.2
noncomputable def pz.bare(c:pz):pz:={c with way:=[]}
def tF(V V':qr):Prop:=V'.calls.map pz.bare=V.calls.map pz.bare
def tF.at_{V V':qr}(h:tF V V'){i:Nat}{c:pz}(e:V.calls[i]?=some c):∃c',V'.calls[i]?=some c'/\c'.bare=c.bare:=by
 have:=eP (·[i]?) h;simp only[dA,e]at this;cases e':V'.calls[i]? with
 | none=>rw[e']at this;cases this
 | some c'=>rw[e']at this;exact⟨c',rfl,dh this⟩
def zu(f:pz->Bool)(hf:∀c,f c.bare=f c)(cs:List pz):(cs.map pz.bare).findIdx? f=cs.findIdx? f:=by rw[hJ];congr 1;funext c;exact hf c
def tF.nj{V V':qr}(h:tF V V')(z:Str):sD V' z=sD V z:=by unfold sD;rw[<-zu _ (λ_=>rfl) V'.calls,h,zu _ (λ_=>rfl)]
def tF.ends{l:pG}{V V':qr}(h:tF V V')(i:Nat)(e:uK):so l V' i e=so l V i e:=by
 cases e with
 | breaks z=>
  unfold so;dsimp only;rw[h.nj];have key:∀j:Nat,(V'.calls[j]?).map pz.bare=(V.calls[j]?).map pz.bare:=λj=>by
   have:=eP (·[j]?) h
   simpa only [dA]using this
  have ki:=key i;cases sD V z with
  | none=>rfl
  | some j=>
   have kj:=key j;cases e1:V.calls[i]? with
   | none=>rw[e1]at ki;rw[show V'.calls[i]?=none by cases q:V'.calls[i]? with|none=>rfl|some _=>rw[q]at ki;cases ki]
   | some c=>
    rw[e1]at ki;cases e2:V'.calls[i]? with
    | none=>rw[e2]at ki;cases ki
    | some c'=>
     rw[e2]at ki;have k1:c'.cr=c.cr:=by have kb:c'.bare=c.bare:=dh ki;exact show c'.bare.cr=c.bare.cr by rw[kb]
     have k2:(V'.calls[j]?).elim [] pz.ms=(V.calls[j]?).elim [] pz.ms:=by
      cases e3:V.calls[j]? with
      | none=>rw[e3]at kj;rw[show V'.calls[j]?=none by cases q:V'.calls[j]? with|none=>rfl|some _=>rw[q]at kj;cases kj]
      | some d=>
       rw[e3]at kj;cases e4:V'.calls[j]? with
       | none=>rw[e4]at kj;cases kj
       | some d'=>rw[e4]at kj;exact show d'.bare.ms=d.bare.ms by rw[show d'.bare=d.bare from dh kj]
     dsimp only;rw[k1,k2]
 | _=>rfl
def tF.trans{V V1 V2:qr}(h:tF V V1)(g:tF V1 V2):tF V V2:=Eq.trans g h
def zi(V:qr)(v:rS):tF V (qa V (.leg v)):=by
 show(V.calls.modify v.i (·.go v.g)).map pz.bare=V.calls.map pz.bare;cases e:V.calls[v.i]? with
 | none=>rw[kK (by simpa using e)]
 | some c=>rw[sP e,mB,show(c.go v.g).bare=c.bare from rfl,FG (by rw[dA,e];rfl)]
def Dp(V:qr)(i:Nat)(z:Str)(ns:List Nat):tF V (qa V (.asks i z ns)):=rfl
def tF.len{V V':qr}(h:tF V V'):V'.calls.length=V.calls.length:=by
 have:=eP List.length h
 rwa [cT,cT]at this
noncomputable def yY:Option Str->rT->Option Str
 | o,[]=>o
 | _,(z,_)::r=>yY (some z) r
noncomputable def Ud(i:Nat)(z:Str)(fs:List Nat):Option Str->List Ev
 | none=>[.asks i z fs]
 | some y=>[.leg ⟨i,y,z,y⟩,.asks i z fs]
theorem wC(i:Nat)(z:Str)(fs:List Nat):∀(st:rT) (o:Option Str),qz i o (st++[(z,fs)])=qz i o st++Ud i z fs (yY o st)
 | [],none=>rfl
 | [],some _=>rfl
 | (y,gs)::r,none=>by show .asks i y gs::qz i (some y) (r++[(z,fs)])=_;rw[wC i z fs r];rfl
 | (y,gs)::r,some u=>by show .leg ⟨i,u,y,u⟩::.asks i y gs::qz i (some y) (r++[(z,fs)])=_;rw[wC i z fs r];rfl
theorem yL(z:Str)(fs:List Nat):∀(st:rT) (o:Option Str),yY o (st++[(z,fs)])=some z
 | [],_=>rfl
 | _::r,_=>yL z fs r _
def CB(st:rT):yY none st=(st.getLast?).map (·.1):=by
 rcases List.eq_nil_or_concat st with e|⟨r,s,e⟩
 .rw[e];rfl
 .rw[e,List.concat_eq_append,yL,List.getLast?_append];rfl
theorem vi(i:Nat):∀(st:rT) (o:Option Str) (V:qr),tF V (qC V (qz i o st))
 | [],_,V=>rfl
 | (y,gs)::r,none,V=>(Dp V i y gs).trans (vi i r (some y) _)
 | (y,gs)::r,some u,V=>((zi V ⟨i,u,y,u⟩).trans (Dp _ i y gs)).trans (vi i r (some y) _)
def NH(a:Ad):rh:=λds M Q=>Li λM0 b A V l c n i st r=>ds=[.ref b,.int ((i:Nat):Int),.ref r]/\ut a M0 M b A V l c n/\c<=1000000/\n<=8000000/\st.length<=100/\i<V.calls.length/\oR M r=some (qE st)/\r∉A.foot/\∀M' A',ut a M0 M' b A' (qC V (qz i none st)) l c (n+2*st.length)->qQ A M A' M'->Q .mM M'
def Lq(a:Ad):rh:=λds M Q=>Li λM0 b A V l c n i z ps=>ds=[.ref b,.int ((i:Nat):Int),.str z,names ps]/\ut a M0 M b A V l c n/\c<=1000000/\n<=8000000/\i<V.calls.length/\z∈l.nm/\ps≠[]/\(∀x∈ps,x∈l.mG z)/\ps.length<=100/\∀M' A',ut a M0 M' b A' (qC V (so l V i (.rings z ps))) l c (n+2)->qQ A M A' M'->Q .mM M'
def FK(l:pG)(V:qr)(i:Nat):uK->Prop
 | .rings z ps=>z∈l.nm/\ps≠[]/\(∀x∈ps,x∈l.mG z)/\ps.length<=100
 | .breaks z=>∃j k,sD V z=some j/\V.calls[j]?=some k/\i≠j/\k.ms.length=2
 | _=>True
def Le(a:Ad):rh:=λds M Q=>Te λM0 b A V l c n i z=>ds=[.ref b,.int ((i:Nat):Int),.str z]/\ut a M0 M b A V l c n/\c<=1000000/\n<=8000000/\i<V.calls.length/\FK l V i (.breaks z)/\∀M' A',ut a M0 M' b A' (qC V (so l V i (.breaks z))) l c (n+2)->qQ A M A' M'->Q .mM M'
def IH(a:Ad):rh:=λds M Q=>Te λM0 b A V l c n i e=>ds=[.ref b,.int ((i:Nat):Int),uK.d e]/\ut a M0 M b A V l c n/\c<=1000000/\n<=8000000/\i<V.calls.length/\FK l V i e/\∀M' A',ut a M0 M' b A' (qC V (so l V i e)) l c (n+2)->qQ A M A' M'->Q .mM M'
def NU(a:Ad):rh:=λds M Q=>Te λM0 b A V l c n i k=>ds=[.ref b,.int ((i:Nat):Int)]/\ut a M0 M b A V l c n/\c<=1000000/\n<=7000000/\zH l V (some i)/\V.calls[i]?=some k/\∀M' A',ut a M0 M' b A' (qC V (vO l V i)) l c (n+30)->qQ A M A' M'->Q .mM M'
def LO(a:Ad):rh:=λds M Q=>Te λM0 b A V l c n y z=>ds=[.ref b,.str y,.str z]/\ut a M0 M b A V l c n/\c<1000000/\n<=6000000/\zH l (qC V [.new V.calls.length y,.leg ⟨V.calls.length,y,z,y⟩]) (some V.calls.length)/\∀M' A',ut a M0 M' b A' (qC V (zh l V y z)) l (c+1) (n+32)->qQ A M A' M'->Q .mM M'
def LQ{st:rT}{pre post:List D}{d:D}(e:pre++d::post=qE st):∃z fs,st[pre.length]?=some (z,fs)/\d=.tup [.str z,va fs]/\st.take (pre.length+1)=st.take pre.length++[(z,fs)]:=by
 have h:(qE st)[pre.length]?=some d:=by rw[<-e];simp
 unfold qE at h;rw[dA]at h;cases q:st[pre.length]? with
 | none=>rw[q]at h;cases h
 | some s=>rw[q]at h;refine⟨s.1,s.2,rfl,(dh h).symm,?_⟩;rw[gj,q];rfl
noncomputable def UK:Option Str->D
 | none=>.mM
 | some x=>.str x
def PY{ss:QQQ}{x:Str}(h:ss.getLast?=some x):vD (ss.map D.str) (-1)=some (.str x):=by
 have hp:0<ss.length:=by cases ss with|nil=>cases h|cons _ _=>exact lu _
 unfold vD;have e:EG (ss.map D.str).length (-1)=some (ss.length - 1):=by
  rw[cT];unfold EG;have:¬((-1:Int)>=0):=by decide
  simp;omega
 rw[e];show(ss.map D.str)[ss.length - 1]?=_;rw[dA,<-gJ,h];rfl
def La(ds:List D):L3.tM ds none (some (-1:Int))=ds.dropLast:=by
 unfold L3.tM;have e:HT.sT ds.length ds.length (some (-1:Int))=ds.length - 1:=by show(if (-1:Int)<0 then((-1:Int)+(ds.length:Int)).toNat else min (-1:Int).toNat ds.length)=ds.length - 1;rw[c9 (by decide)];omega
 rw[e,HT.BN,jb,kZ,List.dropLast_eq_take]
def NC:Fq P w K mg base 4 a.aX (NH a):=by
 refine fq G.aX.toDG tP (λr u=>⟨_,(pb (pJ 3 tP rL)
 (pf (uB e9 rfl (qH U2) (uz (n:=2) rfl (qe (qZ 4 tP) (qe (qZ 5 tP) sS)))
 (pb (pN (pF u U3 rL)
 (pf (pM (pU v0 G.c.toCls G.k (qW G) r (qc (pK (pR pq (pR U1 (qT U3 v4 U3))))))))
 pH)
 (pb (pM (pU v0 G.c.toCls G.k (qW G) r (qc (pK (pR pq (qT U1 v4 v5))))))
 (pf (pJ 3 tP v4))))))),?_⟩)
 rintro ds M Q ⟨M0,b,A,V,l,c,n,i,st,r,rfl,cu,hc,hn,WJ,hi,lr,nf,q⟩
 refine i' lr (vP (qE st) (λpre δ M'=>(∃A',ut a M0 M' b A' (qC V (qz i none (st.take pre.length))) l c (n+2*pre.length)/\qQ A M A' M')/\∃y4 y5,δ=[some (.ref b),some (.int ((i:Nat):Int)),some (.ref r),some (UK (yY none (st.take pre.length))),y4,y5]) (λpre δ M' j=>?_) _ [] _ _ rfl ⟨⟨A,cu,.refl⟩,none,none,rfl⟩ ?_ ?_)
 .obtain⟨⟨A',c1,W4⟩,_⟩:=j;exact sG (W4.1 r _ nf (qg lr))
 .rintro pre d post e δ M' ⟨⟨A',c1,W4⟩,y4,y5,rfl⟩ nx WB
  obtain⟨z,fs,es,rfl,et⟩:=LQ e;have hp:pre.length<100:=dI (cX.mp es).1 WJ;rw[cV,dP,et,wC,yL]at WB;have len:∀es,tF V (qC V es)->i<(qC V es).calls.length:=λes h=>by rw[h.len];exact hi
  have X2:=len _ (vi i (st.take pre.length) none V);generalize hV:qC V (qz i none (st.take pre.length))=V1 at c1 X2;rw[rD,hV]at WB;refine⟨rfl,?_⟩;dsimp only[sO,xk,BO];have asks:∀(M2:Mp) (A2:tH) (V2:qr) (m:Nat) (y3:Option D),m<9000000->ut a M0 M2 b A2 V2 l c m->qQ A M A2 M2->(∀M3 A3,ut a M0 M3 b A3 (qa V2 (.asks i z fs)) l c (m+1)->qQ A M A3 M3->nx [some (.ref b),some (.int ((i:Nat):Int)),some (.ref r),some (.str z),some (.str z),some (va fs)] M3)->Af (M2 b) λC fs'=>fs'.lookup ("apply":Str)=none/\∃sp,(C=a.c/\sp=vY a)/\4<=sizeLine/\sp [.ref b,.tup [.str "asks",.int ((i:Nat):Int),.str z,va fs]] M2 λ_ M3=>nx [some (.ref b),some (.int ((i:Nat):Int)),some (.ref r),some (.str z),some (.str z),some (va fs)] M3:=λM2 A2 V2 m y3 hm c2 s2 k=>pj c2.at_ ⟨rfl,_,⟨rfl,rfl⟩,by rw[dO];decide,b,A2,V2,.asks i z fs,rfl,c2.b,c2.bd,c2.lim hc hm,trivial,λM3 A3 eb s3 bd=>k M3 A3 (c2.after trivial eb s3 bd) (s2.trans s3)⟩;cases hl:yY none (st.take pre.length)with
  | none=>rw[hl]at WB;refine asks M' A' V1 _ none (by omega) c1 W4 λM3 A3 c3 s3=>WB _ _ ⟨⟨A3,c3.mono (dg _) (by omega),s3⟩,_,_,rfl⟩
  | some y=>rw[hl]at WB;refine pj c1.at_ ⟨rfl,_,⟨rfl,rfl⟩,oZ rfl,b,A',V1,.leg ⟨i,y,z,y⟩,rfl,c1.b,c1.bd,c1.lim hc (by omega),X2,λM2 A2 eb s2 bd=>?_⟩;have c2:=c1.after (e:=.leg ⟨i,y,z,y⟩) X2 eb s2 bd;refine asks M2 A2 _ _ none (by omega) c2 (W4.trans s2) λM3 A3 c3 s3=>WB _ _ ⟨⟨A3,c3.mono (dg _) (by omega),s3⟩,_,_,rfl⟩
 .rintro δ M' ⟨⟨A',c1,W4⟩,_⟩
  have hl:(qE st).length=st.length:=by unfold qE;rw[cT]
  rw[hl,fD]at c1;exact⟨M',.refl,q M' A' c1 W4⟩
def MC:Fq P w K mg base 4 a.aY (Lq a):=by
 refine fq G.aY.toDG uF (λr u=>⟨_,(pb (pN (pF u (pU (pB v0) G.h.toCls G.aF (xK G) r (qc U2)) pq)
 (pb (pJ 4 uF (pU (pB v0) G.h.toCls G.S (ui G) r (qc U2)))
 (pb (pJ 5 uF (pT (pT (xR v4 (qc (pE U3 pk))) pk) (pQ qu rfl G.g qp (qc v4))))
 (pf (pM (pU v0 G.c.toCls G.k (qW G) r (qc (pK (qT pq U2 v5))))))))
 pH)
 (pf (pM (pU v0 G.c.toCls G.k (qW G) r (qc (pK (qT pq U1 U3))))))),?_⟩)
 rintro ds M Q ⟨M0,b,A,V,l,c,n,i,z,ps,rfl,cu,hc,hn,hi,hz,WL,hm,hps,q⟩
 obtain⟨ph,gr,ws,XO,pr,gd,rs,i1,_⟩:=cu.pl;have pl:=cu.pl;obtain⟨x,ps',rfl⟩:=fA WL;obtain⟨⟨pne,_⟩,_⟩:=cu.ok.of hz;refine Qq (t:=K6 _ _ _) (λδ M'=>(∃A',ut a M0 M' b A' (qC V (if (l.mO z=="turns")=true then[.next z (PV (l.mG z) x)]else[])) l c (n+1)/\qQ A M A' M')/\∃y1 y2,δ=[some (.ref b),some (.int ((i:Nat):Int)),some (.str z),some (names (x::ps')),y1,y2]) (λnx h=>?_) ?_
 .refine pj cu.at_ (i' rfl (pj i1 ⟨rfl,_,⟨rfl,rfl⟩,V.p,z,l,rfl,pl,?_⟩));refine qD (c:=l.mO z=="turns") (λg=>?_) (λg=>?_)
  .rw[c9 g]at h;refine pj cu.at_ (i' rfl (pj i1 ⟨rfl,_,⟨rfl,rfl⟩,V.p,z,l,rfl,pl,λp hp=>?_⟩));have t:=qw.new (c:=.lst ((l.mG z).map D.str)) hp;have lp:=@pC M p ((l.mG z).map D.str);have cu':=cu.sub t;have st0:qQ A M A (pD M p (.lst ((l.mG z).map D.str))):=.sub t;generalize pD M p (.lst ((l.mG z).map D.str))=M1 at t lp cu' st0 ⊢;have ej:=AX x (l.mG z) (hm x dN);have lpos:0<(l.mG z).length:=fu.mpr pne;have el:(((l.mG z).map D.str).length:Int)=(l.mG z).length:=by rw[cT]
   refine⟨by show(oR M1 p).isSome=true;rw[lp];rfl,i' (w9 _ _) (i' lp ⟨rfl,qk _,i' ej (i' lp ⟨by rw[el];omega,?_⟩)⟩)⟩;rw[el];refine pj cu'.at_ ⟨rfl,_,⟨rfl,rfl⟩,oZ rfl,b,A,V,.next z (PV (l.mG z) x),rfl,cu'.b,cu'.bd,cu'.lim hc (by omega),trivial,λM2 A2 eb st XX=>?_⟩;exact h _ _ ⟨⟨A2,cu'.after (e:=.next z (PV (l.mG z) x)) trivial eb st XX,st0.trans st⟩,_,_,rfl⟩
  .rw[cY g]at h;exact h _ _ ⟨⟨A,cu.mono (dg _) (by omega),.refl⟩,_,_,rfl⟩
 rintro δ M1 ⟨⟨A1,c1,W4⟩,y1,y2,rfl⟩
 have q:∀M' A',ut a M0 M' b A' (qC V ((if (l.mO z=="turns")=true then[.next z (PV (l.mG z) x)]else[])++[.rings i (x::ps')])) l c (n+2)->qQ A M A' M'->Q .mM M':=q;rw[rD]at q;have X2:i<(qC V (if (l.mO z=="turns")=true then[.next z (PV (l.mG z) x)]else[])).calls.length:=by
  split
  .exact hi
  .exact hi
 generalize qC V (if (l.mO z=="turns")=true then[.next z (PV (l.mG z) x)]else[])=V1 at c1 q X2;refine pj c1.at_ ⟨rfl,_,⟨rfl,rfl⟩,oZ rfl,b,A1,V1,.rings i (x::ps'),rfl,c1.b,c1.bd,c1.lim hc (by omega),⟨X2,hps⟩,λM2 A2 eb WP XX=>?_⟩;exact⟨M2,.refl,q M2 A2 (c1.after (e:=.rings i (x::ps')) ⟨X2,hps⟩ eb WP XX) (W4.trans WP)⟩
def MB:Fq P w K mg base 4 a.aZ (Le a):=by
 refine fq G.aZ.toDG xm (λr u=>⟨_,(pb (pJ 3 xm (pU v0 G.c.toCls G.J (wW G) r (qc U2)))
 (pb (pJ 4 xm (pT (qx ue rfl G.H ua (qc (pB (pE (pB v0) U3)))) (pK (qc (pB (pE (pB v0) U1))))))
 (pf (pM (pU v0 G.c.toCls G.k (qW G) r (qc (pK (pR pq (qT U1 U3 v4))))))))),?_⟩)
 rintro ds M Q ⟨M0,b,A,V,l,c,n,i,z,rfl,cu,hc,hn,hi,⟨j,k,ej,ek,Xm,XN⟩,q⟩
 have hz:=dO;have ei:V.calls[i]?=some V.calls[i]:=cW hi;generalize V.calls[i]=ci at ei;obtain⟨ka,qi⟩:=cu.call ei;obtain⟨kb,qj⟩:=cu.call ek;obtain⟨ad,md,h1,h2,h3,h4,_⟩:=qi.cell;obtain⟨ZE,ZF,g1,g2,g3,g4,_⟩:=qj.cell;have hee:so l V i (.breaks z)=[.merge i j (k.ms++[ci.cr])]:=by unfold so;dsimp only;rw[ej,ei];dsimp only;rw[ek];rfl
 rw[hee]at q;have ok:(Ev.merge i j (k.ms++[ci.cr])).ok V:=⟨hi,(cX.mp ek).1,Xm,by rw[cV,XN];show 3<=100;decide⟩;refine pj cu.at_ ⟨rfl,_,⟨rfl,rfl⟩,A,V,z,by rw[cu.b],cu.bd,dW cu.sz.ca hc,?_⟩;rw[show yo V z=.int (j:Nat)from by unfold yo;rw[ej];rfl];refine pj cu.at_ (i' rfl (i' rfl (i' cu.bd.ca (i' (rc qj.e1) (pj g1 (i' rfl (i' g4 ?_)))))));refine pj cu.at_ (i' rfl (i' rfl (i' cu.bd.ca (i' (rc qi.e1) (pj h1 (i' rfl ⟨oZ rfl,?_⟩))))));refine⟨(by intro y;rw[kM]at y;rw[y]at XN;cases XN),(by rw[cT,XN];show 2+1<=sizeLine;omega),?_⟩;rw[show k.ms.map D.str++[D.str ci.cr]=(k.ms++[ci.cr]).map D.str by rw[dF];rfl];refine pj cu.at_ ⟨rfl,_,⟨rfl,rfl⟩,oZ rfl,b,A,V,.merge i j (k.ms++[ci.cr]),rfl,cu.b,cu.bd,cu.lim hc (by omega),ok,λM2 A2 eb WP XX=>?_⟩;exact⟨M2,.refl,q M2 A2 ((cu.after ok eb WP XX).mono (dg _) (by omega)) WP⟩
def OC:Fq P w K mg base 5 a.a0 (IH a):=by
 refine fq G.a0.toDG xw (λr u=>⟨_,(pb (pJ 3 xw (pE U2 pk))
 (pf (pN (pF u U3 pq)
 (pf (pM (pI (MC G) r G.aY (pR v0 (qT U1 (pE U2 pk) (pE U2 pk))))))
 (pf (pN (pF u U3 pq)
 (pf (pM (pU v0 G.c.toCls G.k (qW G) r (qc (pK (qT pq U1 (pE U2 pk)))))))
 (pf (pN (pF u U3 pq)
 (pf (pM (pI (MB G) r G.aZ (qT v0 U1 (pE U2 pk)))))
 (pf (pM (pU v0 G.c.toCls G.k (qW G) r (qc (pK (qT pq U1 U3))))))))))))),?_⟩)
 rintro ds M Q ⟨M0,b,A,V,l,c,n,i,e,rfl,cu,hc,hn,hi,he,q⟩
 have one:∀(ev:Ev) (ok:ev.ok V),ev.nw=0->so l V i e=[ev]->∀M2 A2,A2.b=A.b->qQ A M A2 M2->pL a M2 A2 (qa V ev)->∃Wu,qw Wu M2/\Q .mM Wu:=λev ok h0 h1 M2 A2 eb WP XX=>by rw[h1]at q;have c2:=cu.after ok eb WP XX;rw[h0]at c2;exact⟨M2,.refl,q M2 A2 (c2.mono (dg _) (by omega)) WP⟩
 cases e with
 | rings z ps=>exact⟨M0,b,A,V,l,c,n,i,z,ps,rfl,cu,hc,hn,hi,he.1,he.2.1,he.2.2.1,he.2.2.2,λM' A' c1 st=>⟨M',.refl,q M' A' c1 st⟩⟩
 | waits z=>exact pj cu.at_ ⟨rfl,_,⟨rfl,rfl⟩,oZ rfl,b,A,V,.waits i z,rfl,cu.b,cu.bd,cu.lim hc (by omega),hi,one (.waits i z) hi rfl rfl⟩
 | breaks z=>exact⟨M0,b,A,V,l,c,n,i,z,rfl,cu,hc,hn,hi,he,λM' A' c1 st=>⟨M',.refl,q M' A' c1 st⟩⟩
 | engaged z=>exact pj cu.at_ ⟨rfl,_,⟨rfl,rfl⟩,oZ rfl,b,A,V,.over i "engaged",rfl,cu.b,cu.bd,cu.lim hc (by omega),hi,one (.over i "engaged") hi rfl rfl⟩
 | barred=>exact pj cu.at_ ⟨rfl,_,⟨rfl,rfl⟩,oZ rfl,b,A,V,.over i "barred",rfl,cu.b,cu.bd,cu.lim hc (by omega),hi,one (.over i "barred") hi rfl rfl⟩
 | ring ns=>exact pj cu.at_ ⟨rfl,_,⟨rfl,rfl⟩,oZ rfl,b,A,V,.over i "ring",rfl,cu.b,cu.bd,cu.lim hc (by omega),hi,one (.over i "ring") hi rfl rfl⟩
def LY{l:pG}{V:qr}{i:Nat}{k:pz}{e:uK}(ok:rM l)(wf:zH l V (some i))(hk:V.calls[i]?=some k)(h:DE l V k.cr e):FK l V i e:=by
 cases e with
 | rings z ps=>obtain⟨hz,WL,rfl⟩:=h;have h1:=(Cn (l:=l) (V:=V) (c:=k.cr) (z:=z));have h2:=(ok.of hz).1.2.1;exact⟨hz,WL,λx hx=>(h1.1 x hx).2,by have:=h1.2;omega⟩
 | breaks z=>
  obtain⟨x,rfl,hb⟩:=h;obtain⟨j,d,e1,e2,e3,e4,e5,_⟩:=Ci hb;refine⟨j,d,e1,e2,λy=>?_,e5⟩;subst y;rw[hk]at e2;cases e2;have sh:=(wf.ok i k hk).sh;rw[show(some i==some i)=true from eY _]at sh;rcases sh with g|g
  .rw[g.1]at e3;exact absurd e3 (by decide)
  .cases g.1
 | _=>trivial
def Ii:Fq P w K mg base 9 a.ac (NU a):=by
 refine fq G.ac.toDG we (λr u=>⟨_,(pb (pJ 2 we (pE (pB v0) U1))
 (pb (pJ 3 we (pI (FW G) r G.aa (pR v0 (qT (pB U2) (pE (pB U2) (Bi pk)) (sj (pB U2) tD (sI (Bi pk)))))))
 (pb (pJ 4 we (pE U3 pk))
 (pb (pJ 5 we (pE U3 pk))
 (pb (pM (pI (NC G) r G.aX (qT v0 U1 v5)))
 (pb (pN (W3.b3 (uE (pF u (pE v4 pk) pq) (uI (pF u (pQ qu rfl G.g qp (qc v5)) pk))))
 (pb (pJ 6 we (pE (pE v5 (Bi pk)) pk))
 (pf (pM (pU v0 G.c.toCls G.k (qW G) r (qc (pK (pR pq (pR U1 (qT v6 (pE (pE v4 pk) pk) v6)))))))))
 pH)
 (pf (pM (pI (OC G) r G.a0 (qT v0 U1 v4)))))))))),?_⟩)
 rintro ds M Q ⟨M0,b,A,V,l,c,n,i,k,rfl,cu,hc,hn,wf,hk,q⟩
 obtain⟨ka,ci⟩:=cu.call hk;obtain⟨ad,md,h1,h2,h3,h4,n1,n2⟩:=ci.cell;have Xs:=wf.ok i k hk;have hi:=(cX.mp hk).1;obtain⟨z,hz⟩:∃z,k.way.getLast?=some z:=by
  cases e:k.way.getLast? with
  | none=>exact absurd (gf.mp e) Xs.wy.1
  | some z=>exact⟨z,rfl⟩
 have Xf:z∈l.nm:=Xs.wy.2 z (iS hz);have hdn:∀x∈k.way.dropLast,x∈l.nm:=λx hx=>Xs.wy.2 x (iT _ hx);have hwl:=(cu.sz.cs k (qU hk)).1;have hev:vO l V i=qz i none (sv l V k.cr z k.way.dropLast).2++(rG i (sv l V k.cr z k.way.dropLast).2 (sv l V k.cr z k.way.dropLast).1++so l V i (sv l V k.cr z k.way.dropLast).1):=by
  unfold vO;rw[hk];have:k.way.getLastD Str.empty=z:=by rw[ik,hz];rfl
  dsimp only[Option.elim];rw[this]
 rw[hev]at q;have ro:wx l V k.cr (l.nm.length+1) [] (sv l V k.cr z k.way.dropLast):=xP cu.ok _ _ _ _ Xf hdn;have rl:=ro.len;have eo:=LY cu.ok wf hk ro.e;have nl:l.nm.length<=11:=by have p8:=cu.ok.p8;have g3:=cu.ok.g3;unfold pG.nm pG.pn pG.gn;rw[cV,cT,cT];omega
 have re:=ro.e;refine Qq (t:=EW _ _) (λδ M'=>M=M'/\δ=[some (.ref b),some (.int ((i:Nat):Int)),some (.ref ka.p),none,none,none,none]) (λnx0 h=>pj cu.at_ (i' rfl (i' rfl (i' ci.bd.ca (i' (rc ci.e1) (h _ _ ⟨rfl,rfl⟩)))))) ?_
 rintro δ _ ⟨rfl,rfl⟩
 refine Qq (t:=EW _ _) (λδ M'=>qw M M'/\∃r,M r=none/\oR M' r=some (qE (sv l V k.cr z k.way.dropLast).2)/\δ=[some (.ref b),some (.int ((i:Nat):Int)),some (.ref ka.p),some (.tup [(sv l V k.cr z k.way.dropLast).1.d,.ref r]),none,none,none]) (λnx0 h=>?_) ?_
 .refine pj h1 (i' rfl (pj h1 (i' rfl (i' h2 (i' (PY hz) (pj h1 (i' rfl (i' h2 λp hp=>?_))))))));rw[show L3.tM (k.way.map D.str) none (some (-1:Int))=k.way.dropLast.map D.str from(La _).trans (List.map_dropLast).symm];have t:=qw.new (c:=.lst (k.way.dropLast.map D.str)) hp;have lp:=@pC M p (k.way.dropLast.map D.str);refine⟨A,V,l,k.cr,z,p,k.way.dropLast,by rw[cu.b],(cu.rd hc wf).sub t,Xf,wf.nx,lp,by rw[List.length_dropLast];omega,λr M' s hr lr=>?_⟩;exact h _ _ ⟨t.trans s,r,t.none hr,lr,rfl⟩
 rintro δ M1 ⟨s1,r,hr,lr,rfl⟩
 generalize sv l V k.cr z k.way.dropLast=R at lr ro rl eo re q;obtain⟨e,st⟩:=R;have cu1:=cu.sub s1;have rl:st.length<=0+(l.nm.length+1):=rl;refine⟨M0,b,A,V,l,c,n,i,st,r,rfl,cu1,hc,by omega,by omega,hi,lr,cu.bd.nM hr,λM2 A2 c2 WP=>?_⟩;have same:=vi i st none V;have Xz:i<(qC V (qz i none st)).calls.length:=by rw[same.len];exact hi
 have Y9:oR M2 r=some (qE st):=sG (WP.1 r _ (cu.bd.nM hr) (qg lr));rw[rD,rD]at q;have hee:=λV' (h:tF V V')=>h.ends (l:=l) i e;have hat:∀V',tF V V'->FK l V' i e:=λV' h=>by
  cases e with
  | breaks z'=>obtain⟨j,d,a1,a2,a3,a4⟩:=eo;obtain⟨d',b1,b2⟩:=h.at_ a2;exact⟨j,d',by rw[h.nj];exact a1,b1,a3,by rw[show d'.ms=d.ms from show d'.bare.ms=d.bare.ms by rw[b2]];exact a4⟩
  | rings _ _=>exact eo
  | _=>trivial
 generalize qC V (qz i none st)=V2 at c2 Xz same q;have Xt:∀(M3:Mp) (A3:tH) (V3:qr),ut a M0 M3 b A3 V3 l c (n+2*st.length+1)->qQ A M A3 M3->tF V V3->i<V3.calls.length->V3=qC V2 (rG i st e)->IH a [.ref b,.int ((i:Nat):Int),e.d] M3 λ_ M'=>∃Wu,qw Wu M'/\Q .mM Wu:=λM3 A3 V3 c3 s3 Xu hi3 e3=>⟨M0,b,A3,V3,l,c,_,i,e,rfl,c3,hc,by omega,hi3,hat V3 Xu,λM4 A4 c4 s4=>⟨M4,.refl,q M4 A4 (by
  rw[<-e3];rw[hee V3 Xu]at c4;exact c4.mono (dg _) (by omega)) (s3.trans s4)⟩⟩
 have c2':=c2.mono (dg c) (show n+2*st.length<=n+2*st.length+1 by omega);have XF:=(qQ.sub s1 (A:=A)).trans WP;cases e with
 | ring ns=>
  obtain⟨x,ns',rfl⟩:=fA (show ns≠[]from re);refine i' Y9 ?_;cases hl:st.getLast? with
  | none=>have:st=[]:=gf.mp hl;subst this;exact Xt M2 A2 V2 c2' XF same Xz rfl
  | some s0=>
   have XW:0<st.length:=by cases st with|nil=>cases hl|cons _ _=>exact lu _
   have hd:decide ((0:Int)<((qE st).length:Int))=true:=dR (by unfold qE;rw[cT];omega);refine Au (c:=decide ((0:Int)<((qE st).length:Int))) hd ?_;have hat1:vD (qE st) (-1)=some (.tup [.str s0.1,va s0.2]):=by
    unfold vD;have e1:EG (qE st).length (-1)=some (st.length - 1):=by unfold qE;rw[cT];unfold EG;simp;omega
    rw[e1];show(qE st)[st.length - 1]?=_;unfold qE;rw[dA,<-gJ,hl];rfl
   have hrv:rG i st (.ring (x::ns'))=[.leg ⟨i,s0.1,x,s0.1⟩]:=by unfold rG;dsimp only;rw[hl];rfl
   rw[hrv]at Xt;refine i' Y9 (i' hat1 ?_);refine pj c2.at_ ⟨rfl,_,⟨rfl,rfl⟩,i' (w9 _ _) ⟨oZ rfl,b,A2,V2,.leg ⟨i,s0.1,x,s0.1⟩,rfl,c2.b,c2.bd,c2.lim hc (by omega),Xz,λM3 A3 eb Xj bd3=>?_⟩⟩;have Xu:=same.trans (zi V2 ⟨i,s0.1,x,s0.1⟩);exact Xt M3 A3 _ (c2.after (e:=.leg ⟨i,s0.1,x,s0.1⟩) Xz eb Xj bd3) (XF.trans Xj) Xu (by rw[Xu.len];exact hi) rfl
 | rings z' ps=>exact Xt M2 A2 V2 c2' XF same Xz rfl
 | waits z'=>exact Xt M2 A2 V2 c2' XF same Xz rfl
 | breaks z'=>exact Xt M2 A2 V2 c2' XF same Xz rfl
 | engaged z'=>exact Xt M2 A2 V2 c2' XF same Xz rfl
 | barred=>exact Xt M2 A2 V2 c2' XF same Xz rfl
def Mo:Fq P w K mg base 10 a.a1 (LO a):=by
 refine fq G.a1.toDG zy (λr u=>⟨_,(pb (pJ 3 zy (pQ qu rfl G.g qp (qc (pB v0))))
 (pb (pM (pU v0 G.c.toCls G.k (qW G) r (qc (pK (qT pq U3 U1)))))
 (pb (pM (pU v0 G.c.toCls G.k (qW G) r (qc (pK (pR pq (pR U3 (qT U1 U2 U1)))))))
 (pf (pM (pI (Ii G) r G.ac (rW v0 U3))))))),?_⟩)
 rintro ds M Q ⟨M0,b,A,V,l,c,n,y,z,rfl,cu,hc,hn,wf,q⟩
 have lc:((A.cs.map λk=>D.ref k.p).length:Int)=(V.calls.length:Nat):=by rw[cT,cu.bd.len]
 refine pj cu.at_ (i' rfl (i' cu.bd.ca ?_));rw[lc];refine pj cu.at_ ⟨rfl,_,⟨rfl,rfl⟩,oZ rfl,b,A,V,.new V.calls.length y,rfl,cu.b,cu.bd,cu.lim (by omega) (by omega),trivial,λM1 A1 eb1 W4 bd1=>?_⟩;have c1:=cu.after (e:=.new V.calls.length y) trivial eb1 W4 bd1;have ok2:(Ev.leg ⟨V.calls.length,y,z,y⟩).ok (qa V (.new V.calls.length y)):=by show V.calls.length<(V.calls++[wQ y]).length;rw[cV];exact fC _
 refine pj c1.at_ ⟨rfl,_,⟨rfl,rfl⟩,oZ rfl,b,A1,_,.leg ⟨V.calls.length,y,z,y⟩,rfl,c1.b,c1.bd,c1.lim (by show c+1<=_;omega) (by omega),ok2,λM2 A2 eb2 WP XX=>?_⟩;have c2:=c1.after ok2 eb2 WP XX;obtain⟨k,hk⟩:∃k,(qC V [.new V.calls.length y,.leg ⟨V.calls.length,y,z,y⟩]).calls[V.calls.length]?=some k:=by
  have:V.calls.length<(qC V [.new V.calls.length y,.leg ⟨V.calls.length,y,z,y⟩]).calls.length:=by show V.calls.length<((V.calls++[wQ y]).modify _ _).length;rw[gc];exact ok2
  exact⟨_,cW this⟩
 refine⟨M0,b,A2,_,l,c+1,n+2,V.calls.length,k,rfl,c2,by omega,by omega,wf,hk,λM3 A3 c3 Xj=>⟨M3,.refl,q M3 A3 ?_ (W4.trans (WP.trans Xj))⟩⟩;unfold zh;rw[rD];exact c3.mono (dg _) (by omega)
noncomputable def Eb(V:qr)(x:Str):D:=F6 (ux V x)
abbrev DS:=Je Eb
def K2(a:Ad):rh:=λds M Q=>GG λA V l x z=>ds=[.ref A.b,.str x,.str z]/\Rd a M A V l/\x∈l.pn/\Q (F6 (Gr l V x z)) M
inductive vH(a:Ad)(M:Mp)(L:QXQ):List rk->List pz->Prop
 | nil:vH a M L [] []
 | cons (k:rk) (c:pz) (ks:List rk) (cs:List pz) (h:rN a M L k c) (r:vH a M L ks cs):vH a M L (k::ks) (c::cs)
def tZ.nf(w:Str)(m:Nat):Prop:=((w="answer"\/w="hang"\/w="hold"\/w="back")/\m=1)\/((w="hand"\/w="join")/\m=2)
def K8(a:Ad):rh:=λds M Q=>Ji λwd x r L ks cs=>ds=[.str wd,.str x,.ref r]/\oR M r=some (List.map (λk:rk=>D.ref k.p) ks)/\vH a M L ks cs/\tZ.nf wd cs.length/\Q (.bl (HU wd x cs)) M
def HS(a:Ad):rh:=λds M Q=>Ji λA V l wd x ns=>ds=[.ref A.b,.str wd,.str x,.tup (List.map D.int ns)]/\Rd a M A V l/\x∈l.pn/\tZ.nf wd ns.length/\Q (F6 (MW l V wd x ns)) M
def RF(a:Ad):rh:=λds M Q=>BK λA V b i=>ds=[.ref A.b,.str (Uk b),.int i]/\pL a M A V/\Q (F6 (Pn V b i)) M
def Hn(a:Ad):rh:=λds M Q=>BK λA V l e=>ds=[.ref A.b,tZ.d e]/\Rd a M A V l/\e.nz/\Q (F6 (xp l V e)) M
noncomputable def VV(m:Nat):D->D
 | .int i=>.bl (ze m i)
 | _=>.bl false
noncomputable def VN(A:tH):D->D
 | .int i=>(A.cs[i.toNat]?).elim .mM λk=>.ref k.p
 | _=>.mM
theorem Qd{a:Ad}{M:Mp}{A:tH}{V:qr}(bd:pL a M A V):∀{ns:List Int},ns.all (ze V.calls.length)=true->∃ks,vH a M (A.lists++V.fo) ks (tz V ns)/\(ns.map D.int).map (VN A)=ks.map (λk:rk=>D.ref k.p)/\(tz V ns).length=ns.length/\∀i∈ns,∃k,0<=i/\A.cs[i.toNat]?=some k
 | [],_=>⟨[],.nil,rfl,rfl,λi hi=>by cases hi⟩
 | i::r,h=>by
  rw[fk,dU]at h;obtain⟨ks,h1,h2,h3,h4⟩:=Qd bd h.2;have hh:(decide (0<=i)&&decide (i<V.calls.length))=true:=h.1;rw[dU,eh,eh]at hh;have hi:i.toNat<V.calls.length:=by omega
  have hk:i.toNat<A.cs.length:=by rw[bd.len];exact hi
  have e1:A.cs[i.toNat]?=some A.cs[i.toNat]:=cW hk;have e2:V.calls[i.toNat]?=some V.calls[i.toNat]:=cW hi;have ec:tz V (i::r)=V.calls[i.toNat]::tz V r:=by unfold tz;rw[List.filterMap_cons_some (f:=λi:Int=>V.calls[i.toNat]?) e2]
  rw[ec];refine⟨A.cs[i.toNat]::ks,.cons _ _ _ _ (bd.cs _ _ _ e1 e2) h1,?_,eP Nat.succ h3,λj hj=>?_⟩
  .rw[dS,dS,h2];show(A.cs[i.toNat]?).elim _ _::_=_;rw[e1];rfl
  .rcases df.mp hj with rfl|hj
   .exact⟨_,hh.1,e1⟩
   .exact h4 j hj
def vH.sub{a:Ad}{M M':Mp}{L:QXQ}{ks:List rk}{cs:List pz}(h:vH a M L ks cs)(s:qw M M'):vH a M' L ks cs:=by
 induction h with
 | nil=>exact .nil
 | cons k c ks cs h r ih=>exact .cons k c ks cs (h.sub s) ih
def Qy{bs:List Bool}{i:Int}(h:ze bs.length i=true):vD (bs.map D.bl) i=some (.bl (bs.getD i.toNat false)):=by
 have hh:(decide (0<=i)&&decide (i<bs.length))=true:=h;rw[dU,eh,eh]at hh;obtain⟨n,rfl⟩:=eA hh.1;have hn:n<bs.length:=by omega
 refine ur ?_;rw[dA,cW hn];show some (D.bl bs[n])=some (.bl (bs.getD n false));rw[gB,cW hn];rfl
def Dq:Fq P w K mg base 4 a.ab (DS a):=by
 refine fq G.ab.toDG yx (λr u=>⟨_,(pb (pN (pF u (pU v0 G.c.toCls G.bF (KQ G) r (qc U1)) rL)
 (pf (pA pq))
 pH)
 (pb (pN (pF u (pU v0 G.c.toCls G.bG (Ha G) r (qc U1)) rL)
 (pf (pA pq))
 pH)
 (pf (pA rL)))),?_⟩)
 rintro ds M Q ⟨A,V,x,rfl,bd,hk,q⟩
 unfold Eb ux at q;refine pj bd.at_ ⟨rfl,_,⟨rfl,rfl⟩,A,V,x,rfl,bd,hk,?_⟩;unfold LG;cases e:Ew V x with
 | some j=>rw[e]at q;exact⟨M,.refl,q⟩
 | none=>
  rw[e]at q;refine pj bd.at_ ⟨rfl,_,⟨rfl,rfl⟩,A,V,x,rfl,bd,hk,?_⟩;unfold SV;cases e:Ig V x with
  | some j=>rw[e]at q;exact⟨M,.refl,q⟩
  | none=>rw[e]at q;exact⟨M,.refl,q⟩
def KM:Fq P w K mg base 5 a.aS (K2 a):=by
 refine fq G.aS.toDG wn (λr u=>⟨_,(pb (pN (pF u U2 (xZ (pB v0) G.h.toCls G.bB (CK G) r))
 (pf (pA pq))
 pH)
 (pb (pJ 3 wn (pI (Dq G) r G.ab (rW v0 U1)))
 (pb (pN (W3.b3 (uE (pF u U3 rL) (uI (xG (vp (pU v0 G.c.toCls G.T (yB G) r (qc U1)))))))
 (pf (pA pq))
 pH)
 (pf (pA U3))))),?_⟩)
 rintro ds M Q ⟨A,V,l,x,z,rfl,rd,hx,q⟩
 obtain⟨ph,gr,ws,XO,pr,gd,rs,i1,_⟩:=rd.pl;have p8:=rd.ok.p8;have g3:=rd.ok.g3;unfold Gr at q;refine pj rd.bd.at_ (i' rfl (pj i1 ⟨rfl,_,⟨rfl,rfl⟩,V.p,l,rfl,rd.pl,by omega,by omega,λp hp=>i' pC ⟨rfl,qk _,?_⟩⟩));have t:=qw.new (c:=.lst (l.nm.map D.str)) hp;have WW:=rd.sub t;generalize pD M p (.lst (l.nm.map D.str))=M1 at t WW ⊢;show if (!(inD (.str z) (l.nm.map D.str)))=true then _ else _
 rw[rP];refine qD (c:=!(hasS l.nm z)) (λg=>?_) (λg=>?_)
 .rw[c9 (by simpa using g)]at q;exact⟨M,t,q⟩
 rw[cY (by simpa using g)]at q;refine⟨A,V,x,rfl,WW.bd,WW.k,?_⟩;unfold Eb;cases e:ux V x with
 | some w0=>rw[e]at q;exact⟨M,t,q⟩
 | none=>
  rw[e]at q;refine pj WW.bd.at_ ⟨rfl,_,⟨rfl,rfl⟩,A,V,l,x,rfl,WW,hx,?_⟩;refine qD (c:=!(tI l V x)) (λg=>?_) (λg=>?_)
  .rw[g]at q;exact⟨M,t,q⟩
  .rw[show(!(tI l V x))=false from dG.mpr g]at q;exact⟨M,t,q⟩
def LZ:Fq P w K mg base 3 a.aT (K8 a):=by
 refine fq G.aT.toDG Kq (λr u=>⟨_,(pb (pN (pF u v0 pq)
 (pf (pA (qh u U1 (pB (pE U2 pk)))))
 pH)
 (pb (pN (pF u v0 pq)
 (pf (pA (pU (pE U2 pk) G.e.toCls G.bJ (LM G) r (qc U1))))
 pH)
 (pb (pN (pF u v0 pq)
 (pf (pA (pU (pE U2 pk) G.e.toCls G.aK (Gi G) r (qc U1))))
 pH)
 (pb (pN (pF u v0 pq)
 (pf (pA (qh u (pB (pE U2 pk)) U1)))
 pH)
 (pf (pA (sU (qh u (pB (pE U2 pk)) U1) (sH (pU (pE U2 pk) G.e.toCls G.aK (Gi G) r (qc U1)))))))))),?_⟩)
 rintro ds M Q ⟨wd,x,r,L,ks,cs,rfl,lr,YU,hw,q⟩
 cases YU with
 | nil=>rcases hw with⟨_,h⟩|⟨_,h⟩<;>cases h
 | cons k c ks cs hc Xa=>
 obtain⟨ad,md,h1,h2,h3,h4,_⟩:=id hc;have a0:=w9 (.ref k.p) (ks.map λk:rk=>D.ref k.p);have hold:∀K:DK,K (.bl (c.hd==some x)) M->Option.elim (yR M 9 (F6 c.hd) (.str x)) False λb=>K (.bl b) M:=λK hK=>by
  cases e:c.hd with
  | none=>rw[e]at hK;exact hK
  | some y=>rw[e]at hK;exact hK
 rcases hw with⟨rfl|rfl|rfl|rfl,h⟩|⟨hw,h⟩
 .exact i' lr (i' a0 (pj h1 (i' rfl (Do h3 ⟨M,.refl,q⟩))))
 .exact i' lr (i' a0 (pj h1 ⟨rfl,_,⟨rfl,rfl⟩,L,k,c,x,rfl,hc,M,.refl,q⟩))
 .exact i' lr (i' a0 (pj h1 ⟨rfl,_,⟨rfl,rfl⟩,L,k,c,x,rfl,hc,M,.refl,q⟩))
 .exact i' lr (i' a0 (pj h1 (i' rfl (hold _ ⟨M,.refl,q⟩))))
 .cases Xa with
  | nil=>cases h
  | cons k' d ks cs hd _=>
   obtain⟨ZE,ZF,f1,_⟩:=id hd;have a1:vD (.ref k.p::.ref k'.p::ks.map λk:rk=>D.ref k.p) 1=some (.ref k'.p):=ur (j:=1) rfl;have qq:Q (.bl ((c.hd==some x)&&d.mV x)) M:=by
    rcases hw with rfl|rfl
    .exact q
    .exact q
   rcases hw with rfl|rfl
   all_goals
    refine i' lr (i' a0 (pj h1 (i' rfl ?_)));cases e:c.hd with
    | none=>rw[e]at qq;exact⟨M,.refl,qq⟩
    | some y=>
     rw[e]at qq;have qq:Q (.bl ((y==x)&&d.mV x)) M:=qq;refine qD (c:=y==x) (λg=>?_) (λg=>?_)
     .rw[g,eJ]at qq;exact i' lr (i' a1 (pj f1 ⟨rfl,_,⟨rfl,rfl⟩,L,k',d,x,rfl,hd,M,.refl,qq⟩))
     .rw[show(y==x)=false from dG.mpr g,eV]at qq;exact⟨M,.refl,qq⟩
def Os:Fq P w K mg base 5 a.aU (HS a):=by
 refine fq G.aU.toDG tJ (λr u=>⟨_,(pb (pN (xG (vp (pQ (E4 rfl) rfl G.bN Fe (qc (qJ rfl (yh (ix:=[none,some 0]) (N':=["number","board"])) (qH U3) (qF 0) rO (uj u pk v0 (pQ qu rfl G.g qp (qc (pB U1)))))))))
 (pf (pA pq))
 pH)
 (pb (vt (i:=4) tJ.nd rfl (Or.inl rfl) rfl (yh (ix:=[none,some 0]) (N':=["number","board"])) (qH U3) (qF 0) rO (pE (pB U1) v0))
 (pb (pN (xG (vp (pI (LZ G) r G.aT (qT U1 U2 v4))))
 (pf (pA pq))
 pH)
 (pb (pN (pF u U1 (pK (rW pq pq)))
 (pf (pA rL))
 pH)
 (pb (pJ 5 tJ (pI (Dq G) r G.ab (rW v0 U2)))
 (pb (pN (W3.b3 (uE (pF u v5 rL) (uE (vp (pU (pE v4 pk) G.e.toCls G.aH (FH G) r (qc U2))) (uI (xG (vp (pU v0 G.c.toCls G.T (yB G) r (qc U2))))))))
 (pf (pA pq))
 pH)
 (pf (pA v5)))))))),?_⟩)
 rintro ds M Q ⟨A,V,l,wd,x,ns,rfl,rd,hx,hw,q⟩
 have hz:=dO;have Zd:ns.length<=2:=by rcases hw with⟨_,h⟩|⟨_,h⟩<;>omega
 have lca:((A.cs.map λk=>D.ref k.p).length:Int)=V.calls.length:=by rw[cT,rd.bd.len]
 unfold MW at q;refine qX (f:=VV V.calls.length) trivial _ [] _ (by rw[cT];simp only[dM];omega) (λd hd k hk=>?_) λp hp=>?_
 .obtain⟨i,_,rfl⟩:=dB.mp hd;have hk:k (.bl (decide (0<=i)&&decide (i<V.calls.length))) M:=hk;refine qD (c:=decide (0<=i)) (λg=>?_) (λg=>?_)
  .rw[g,eJ]at hk;refine pj rd.bd.at_ (i' rfl (i' rd.bd.ca ?_));rw[lca];exact hk
  .rw[show decide (0<=i)=false from dG.mpr g,eV]at hk;exact hk
 have em:[]++(ns.map D.int).map (VV V.calls.length)=ns.map λi=>D.bl (ze V.calls.length i):=by rw[dY,d6];rfl
 rw[em];have t:=qw.new (c:=.lst (ns.map λi=>D.bl (ze V.calls.length i))) hp;refine i' pC (i' (x8 (ze V.calls.length) ns) ?_);have WW:=rd.sub t;generalize pD M p (.lst (ns.map λi=>D.bl (ze V.calls.length i)))=M1 at t WW ⊢;rw[zC];refine qD (c:=!(ns.all (ze V.calls.length))) (λg=>?_) (λW6=>?_)
 .rw[c9 (by simpa using g)]at q;exact⟨M,t,q⟩
 have W6:ns.all (ze V.calls.length)=true:=by simpa using W6
 rw[cY (by rw[W6];exact Bool.noConfusion)]at q;obtain⟨ks,hks,eks,lcs,Yk⟩:=Qd WW.bd W6;refine qX (f:=VN A) trivial _ [] _ (by rw[cT];simp only[dM];omega) (λd hd k0 hk=>?_) λp2 WD=>?_
 .obtain⟨i,hi,rfl⟩:=dB.mp hd;obtain⟨k,i0,e1⟩:=Yk i hi;obtain⟨n,rfl⟩:=eA i0;have e1:A.cs[n]?=some k:=e1;have hk:k0 ((A.cs[n]?).elim .mM λk=>.ref k.p) M1:=hk;rw[e1]at hk;exact pj WW.bd.at_ (i' rfl (i' rfl (i' WW.bd.ca (i' (rc e1) hk))))
 rw[dY,eks];have t2:=qw.new (c:=.lst (ks.map λk:rk=>D.ref k.p)) WD;have l2:=@pC M1 p2 (ks.map λk:rk=>D.ref k.p);have Yu:=WW.sub t2;have s2:=t.trans t2;generalize pD M1 p2 (.lst (ks.map λk:rk=>D.ref k.p))=M2 at l2 Yu s2 t2 ⊢;have hks:=hks.sub t2;generalize tz V ns=cs at hks lcs q;refine⟨wd,x,p2,_,ks,cs,rfl,l2,hks,by rw[lcs];exact hw,?_⟩;refine qD (c:=!HU wd x cs) (λg=>?_) (λg=>?_)
 .rw[c9 (by simpa using g)]at q;exact⟨M,s2,q⟩
 rw[cY (by simpa using g)]at q;have two:∀wd:Str,(wd=="answer"||wd=="back")=true->Q (F6 (if ((ux V x).isNone&&(cs.head?.elim false (λc=>c.mQ x)&&!(tI l V x)))=true then some "full" else ux V x)) M->cs.length=1->DS a [.ref A.b,.str x] M2 λdue M3=>ud (K6 (OO (b3 (k3 .Is (v3 5) (c3 .mM))) (OO (b3 (An "waits_with" (λD s=>D=a.e/\s=vF a) (i3 (v3 4) (c3 (.int 0))) (vc (v3 2) xy))) (Tf (b3 (An "is_free" (λD s=>D=a.c/\s=xc a) (v3 0) (vc (v3 2) xy)))))) (Sx (c3 (.str "full"))) VB) (Sx (v3 5)) {nx:=λ_ M'=>∃Wu,qw Wu M'/\Q .mM Wu,rt:=λd M'=>∃Wu,qw Wu M'/\Q d Wu} [some (.ref A.b),some (.str wd),some (.str x),some (.tup (ns.map D.int)),some (.ref p2),some due] M3:=λwd _ q hl=>by
  cases hks with
  | nil=>cases hl
  | cons k c ks cs hc _=>
  have q:Q (F6 (if ((ux V x).isNone&&(c.mQ x&&!(tI l V x)))=true then some "full" else ux V x)) M:=q;obtain⟨ad,md,h1,_⟩:=id hc;refine⟨A,V,x,rfl,Yu.bd,Yu.k,?_⟩;unfold Eb;cases e:ux V x with
  | some w0=>rw[e]at q;exact⟨M,s2,q⟩
  | none=>
   rw[e]at q;refine i' l2 (i' (w9 _ _) (pj h1 ⟨rfl,_,⟨rfl,rfl⟩,_,k,c,x,rfl,hc,?_⟩));refine qD (c:=c.mQ x) (λg1=>?_) (λg1=>?_)
   .rw[g1]at q;refine pj Yu.bd.at_ ⟨rfl,_,⟨rfl,rfl⟩,A,V,l,x,rfl,Yu,hx,?_⟩;refine qD (c:=!(tI l V x)) (λg=>?_) (λg=>?_)
    .rw[g]at q;exact⟨M,s2,q⟩
    .rw[show(!(tI l V x))=false from dG.mpr g]at q;exact⟨M,s2,q⟩
   .rw[show c.mQ x=false from dG.mpr g1]at q;exact⟨M,s2,q⟩
 rcases hw with⟨rfl|rfl|rfl|rfl,h⟩|⟨rfl|rfl,h⟩
 .exact⟨oZ rfl,rfl,rfl,two "answer" rfl q (lcs.trans h)⟩
 .exact⟨oZ rfl,rfl,rfl,M,s2,q⟩
 .exact⟨oZ rfl,rfl,rfl,M,s2,q⟩
 .exact⟨oZ rfl,rfl,rfl,two "back" rfl q (lcs.trans h)⟩
 .exact⟨oZ rfl,rfl,rfl,M,s2,q⟩
 .exact⟨oZ rfl,rfl,rfl,M,s2,q⟩
def RT:Fq P w K mg base 1 a.aV (RF a):=by
 refine fq G.aV.toDG yK (λr u=>⟨_,(pb (pN (xG (Gp u pk U2 (pQ qu rfl G.g qp (qc (pB v0)))))
 (pf (pA pq))
 pH)
 (pb (pN (pF u (pE (pB v0) U2) (qh u U1 pq))
 (pf (pA pq))
 pH)
 (pf (pA rL)))),?_⟩)
 rintro ds M Q ⟨A,V,b,i,rfl,bd,q⟩
 unfold Pn at q;have Yk:ze V.on.length i=(decide (0<=i)&&decide (i<V.on.length)):=rfl;have lon:((V.on.map D.bl).length:Int)=V.on.length:=by rw[cT]
 have no:ze V.on.length i=false->Q (.str "wish") M:=λh=>by rw[c9 h]at q;exact q
 have yes:ze V.on.length i=true->Q (F6 (if (V.on.getD i.toNat false==b)=true then some "wish" else none)) M:=λh=>by rw[h,cY Bool.noConfusion]at q;exact q
 refine qD (c:=decide (0<=i)) (λg0=>?_) (λg0=>⟨M,.refl,no (by rw[Yk,show decide (0<=i)=false from dG.mpr g0];rfl)⟩);refine pj bd.at_ (i' rfl (i' bd.on ?_));rw[lon];refine qD (c:=!(decide (i<(V.on.length:Int)))) (λg1=>⟨M,.refl,no (by rw[Yk,g0,show decide (i<(V.on.length:Int))=false by simpa using g1];rfl)⟩) (λg1=>?_);have h:ze V.on.length i=true:=by rw[Yk,g0,show decide (i<(V.on.length:Int))=true by simpa using g1];rfl
 have q:=yes h;refine pj bd.at_ (i' rfl (i' rfl (i' bd.on (i' (Qy h) ?_))));have es:(Uk b=="on")=b:=by cases b<;>rfl
 show if (V.on.getD i.toNat false==(Uk b=="on"))=true then _ else _
 rw[es];refine qD (λg=>?_) (λg=>?_)
 .rw[c9 g]at q;exact⟨M,.refl,q⟩
 .rw[cY g]at q;exact⟨M,.refl,q⟩
def Hx:Fq P w K mg base 6 a.aW (Hn a):=by
 refine fq G.aW.toDG B' (λr u=>⟨_,(pb (pJ 2 B' (pE U1 pk))
 (pb (pN (pF u U2 pq)
 (pf (pA rL))
 pH)
 (pb (pN (pF u U2 (pK (rW pq pq)))
 (pf (pA (pI (RT G) r G.aV (qT v0 U2 (pE U1 pk)))))
 pH)
 (pb (pN (pF u (pE U1 pk) (xZ (pB v0) G.h.toCls G.R (tK G) r))
 (pf (pA pq))
 pH)
 (pb (pN (pF u U2 pq)
 (pf (pA (pI (KM G) r G.aS (qT v0 (pE U1 pk) (pE U1 pk)))))
 pH)
 (pf (pA (pI (Os G) r G.aU (pR v0 (qT U2 (pE U1 pk) (sj U1 (sI pk) tD))))))))))),?_⟩)
 rintro ds M Q ⟨A,V,l,e,rfl,rd,hf,q⟩
 obtain⟨ph,gr,ws,XO,pr,gd,rs,i1,_⟩:=rd.pl;have p8:=rd.ok.p8;cases e with
 | turn=>exact⟨M,.refl,q⟩
 | sw b i=>
  cases b with
  | true=>exact⟨oZ rfl,rfl,rfl,A,V,true,i,rfl,rd.bd,M,.refl,q⟩
  | false=>exact⟨oZ rfl,rfl,rfl,A,V,false,i,rfl,rd.bd,M,.refl,q⟩
 | call x z=>
  have q:Q (F6 (if hasS l.pn x=false then some "name" else Gr l V x z)) M:=q;refine⟨oZ rfl,rfl,rfl,?_⟩;refine pj rd.bd.at_ (i' rfl (pj i1 ⟨rfl,_,⟨rfl,rfl⟩,V.p,l,rfl,rd.pl,by omega,λp WD=>i' pC ⟨rfl,qk _,?_⟩⟩));have t:=qw.new (c:=.lst (l.pn.map D.str)) WD;have WW:=rd.sub t;generalize pD M p (.lst (l.pn.map D.str))=M1 at t WW ⊢;show if (!(inD (.str x) (l.pn.map D.str)))=true then _ else _
  rw[rP];refine qD (c:=!(hasS l.pn x)) (λg=>?_) (λg=>?_)
  .rw[c9 (by simpa using g)]at q;exact⟨M,t,q⟩
  .have g:hasS l.pn x=true:=by simpa using g
   rw[g,cY Bool.noConfusion]at q;exact⟨A,V,l,x,z,rfl,WW,qM.mp g,M,t,q⟩
 | num wd x ns=>
  have q:Q (F6 (if hasS l.pn x=false then some "name" else MW l V wd x ns)) M:=q;have hf:tZ.nf wd ns.length:=hf;have key:∀(M1:Mp),qw M M1->if (!(inD (.str x) (l.pn.map D.str)))=true then(∃Wu,qw Wu M1/\Q (.str "name") Wu)else HS a [.ref A.b,.str wd,.str x,.tup (ns.map D.int)] M1 λd M'=>∃Wu,qw Wu M'/\Q d Wu:=λM1 t=>by
   rw[rP];refine qD (c:=!(hasS l.pn x)) (λg=>?_) (λg=>?_)
   .rw[c9 (by simpa using g)]at q;exact⟨M,t,q⟩
   .have g:hasS l.pn x=true:=by simpa using g
    rw[g,cY Bool.noConfusion]at q;exact⟨A,V,l,wd,x,ns,rfl,rd.sub t,qM.mp g,hf,M,t,q⟩
  have one:ns.length=1->∃i,ns=[i]:=List.length_eq_one_iff.mp;have two:ns.length=2->∃i j,ns=[i,j]:=λh=>by
   match ns,h with
   | [i,j],_=>exact⟨i,j,rfl⟩
  rcases id hf with⟨rfl|rfl|rfl|rfl,h⟩|⟨rfl|rfl,h⟩
  .obtain⟨i,rfl⟩:=one h;exact⟨oZ rfl,rfl,rfl,pj rd.bd.at_ (i' rfl (pj i1 ⟨rfl,_,⟨rfl,rfl⟩,V.p,l,rfl,rd.pl,by omega,λp WD=>i' pC ⟨rfl,qk _,key _ (.new WD)⟩⟩))⟩
  .obtain⟨i,rfl⟩:=one h;exact⟨oZ rfl,rfl,rfl,pj rd.bd.at_ (i' rfl (pj i1 ⟨rfl,_,⟨rfl,rfl⟩,V.p,l,rfl,rd.pl,by omega,λp WD=>i' pC ⟨rfl,qk _,key _ (.new WD)⟩⟩))⟩
  .obtain⟨i,rfl⟩:=one h;exact⟨oZ rfl,rfl,rfl,pj rd.bd.at_ (i' rfl (pj i1 ⟨rfl,_,⟨rfl,rfl⟩,V.p,l,rfl,rd.pl,by omega,λp WD=>i' pC ⟨rfl,qk _,key _ (.new WD)⟩⟩))⟩
  .obtain⟨i,rfl⟩:=one h;exact⟨oZ rfl,rfl,rfl,pj rd.bd.at_ (i' rfl (pj i1 ⟨rfl,_,⟨rfl,rfl⟩,V.p,l,rfl,rd.pl,by omega,λp WD=>i' pC ⟨rfl,qk _,key _ (.new WD)⟩⟩))⟩
  .obtain⟨i,j,rfl⟩:=two h;exact⟨oZ rfl,rfl,rfl,pj rd.bd.at_ (i' rfl (pj i1 ⟨rfl,_,⟨rfl,rfl⟩,V.p,l,rfl,rd.pl,by omega,λp WD=>i' pC ⟨rfl,qk _,key _ (.new WD)⟩⟩))⟩
  .obtain⟨i,j,rfl⟩:=two h;exact⟨oZ rfl,rfl,rfl,pj rd.bd.at_ (i' rfl (pj i1 ⟨rfl,_,⟨rfl,rfl⟩,V.p,l,rfl,rd.pl,by omega,λp WD=>i' pC ⟨rfl,qk _,key _ (.new WD)⟩⟩))⟩
def CC(V:qr)(x:Str):Prop:=∀c∈V.calls,¬Ba c x
def EA{V:qr}{x:Str}(h:ux V x=none):CC V x:=by
 unfold ux at h;cases e1:Ew V x with
 | some j=>rw[e1]at h;cases h
 | none=>
  cases e2:Ig V x with
  | some j=>rw[e1,e2]at h;cases h
  | none=>
   intro c hc g;have h1:=jv.mp e1 c hc;have h2:=jv.mp e2 c hc;rcases g with g|g
   .rw[h1]at g;cases g
   .rw[h2]at g;cases g
def sC{c:pz}(h:c.st="rings"){x:Str}:Ba c x↔x=c.cr:=by unfold Ba pz.m9 pz.mT pz.mS;rw[h];simp(decide:=true)
def DF{c:pz}(h:c.st="waits"){x:Str}:Ba c x↔x=c.cr:=by unfold Ba pz.m9 pz.mT pz.mS;rw[h];simp(decide:=true)
def tq{c:pz}(h:c.st="talks"){x:Str}:Ba c x↔x∈c.ms:=by unfold Ba pz.m9 pz.mT pz.mS;rw[h,<-qM];simp(decide:=true)
def BF{c:pz}(h:c.st="held"){x:Str}:Ba c x↔x∈c.ms/\c.hd≠some x:=by unfold Ba pz.m9 pz.mT;rw[h,<-qM];simp(decide:=true)
def Gy{c:pz}(h:c.st="over"){x:Str}:¬Ba c x:=by unfold Ba pz.m9 pz.mT pz.mS;rw[h];simp(decide:=true)
def sF{c:pz}(h:c.st="rings"){x:Str}:c.hasB x=true↔x=c.cr\/x∈c.at_:=by unfold pz.hasB;rw[h,<-qM];simp(decide:=true)
def DB{c:pz}(h:c.st="waits"){x:Str}:c.hasB x=true↔x=c.cr:=by unfold pz.hasB;rw[h];simp(decide:=true)
def sN{c:pz}(h:c.st="talks"\/c.st="held"){x:Str}:c.hasB x=true↔x∈c.ms:=by unfold pz.hasB;rw[<-qM];rcases h with h|h<;>(rw[h];simp(decide:=true))
def FU{c:pz}(h:c.st="over"){x:Str}:c.hasB x=false:=by unfold pz.hasB;rw[h];simp(decide:=true)
def rX{c:pz}{x:Str}:c.mQ x=true↔c.st="waits"/\x∈c.at_:=by unfold pz.mQ;rw[dU,fi,qM]
theorem Eh{α:Type}(f:α->Bool):∀{l:List α} {i:Nat} {c:α} (c':α),l[i]?=some c->((l.set i c').filter f).length+(if f c=true then 1 else 0)=(l.filter f).length+(if f c'=true then 1 else 0)
 | [],_,_,_,h=>by simp at h
 | x::r,0,c,c',h=>by cases h;rw[List.set_cons_zero,gM,gM];split<;>split<;>simp
 | x::r,i+1,c,c',h=>by
  have ih:=Eh f (l:=r) (i:=i) (c:=c) c' (by simpa using h);rw[ls,gM,gM];split
  .rw[dZ,dZ];omega
  .exact ih
def zH.set{l:pG}{V V':qr}{o o':Option Nat}{i:Nat}{c c':pz}(h:zH l V o)(e:V'.calls=V.calls.set i c')(hc:V.calls[i]?=some c)(ho:∀j,j≠i->(o==some j)=(o'==some j))(ok:vV l (o'==some i) c')(he:∀x,Ba c' x->Ba c x\/CC V x)(hu:∀x,c'.hasB x=true->c.hasB x=true\/(um V x:Int)<wD l x)(hw:∀x,c'.mQ x=true->c.mQ x=true\/wZ V x=false)(nx:uh l V'):zH l V' o':=by
 have si:∀{j:Nat} {d:pz},V'.calls[j]?=some d->(j=i/\d=c')\/(j≠i/\V.calls[j]?=some d):=λ{j d} g=>by rw[e]at g;exact(Fc g).imp (λg=>⟨g.1,g.2.1⟩) id
 have key:∀(j:Nat) cj x,j≠i->V.calls[j]?=some cj->Ba c' x->Ba cj x->False:=λj cj x hj e1 g1 g2=>by
  rcases he x g1 with z|z
  .exact hj (h.un j i cj c x e1 hc g2 z)
  .exact z cj (qU e1) g2
 have keyw:∀(j:Nat) cj x,j≠i->V.calls[j]?=some cj->c'.mQ x=true->cj.mQ x=true->False:=λj cj x hj e1 g1 g2=>by
  rcases hw x g1 with z|z
  .exact hj (h.wt j i cj c x e1 hc g2 z)
  .unfold wZ at z;exact absurd g2 (by rw[lA.mp z cj (qU e1)|>dG.mpr];exact Bool.noConfusion)
 refine⟨λj d g=>?_,λm n cm cn x e1 e2 g1 g2=>?_,λx hx=>?_,λm n cm cn x e1 e2 g1 g2=>?_,nx⟩
 .rcases si g with⟨rfl,rfl⟩|⟨hj,g⟩
  .exact ok
  .rw[<-ho j hj];exact h.ok j d g
 .rcases si e1 with⟨rfl,rfl⟩|⟨hm,e1⟩<;>rcases si e2 with⟨rfl,rfl⟩|⟨hn,e2⟩
  .rfl
  .exact(key n cn x hn e2 g1 g2).elim
  .exact(key m cm x hm e1 g2 g1).elim
  .exact h.un m n cm cn x e1 e2 g1 g2
 .have cs:=Eh (λk:pz=>k.hasB x) c' hc;have hl:=h.ln x hx;unfold um at hl ⊢;rw[e];by_cases g:c'.hasB x=true
  .rw[c9 g]at cs;rcases hu x g with z|z
   .rw[c9 z]at cs;omega
   .unfold um at z;omega
  .rw[cY g]at cs;omega
 .rcases si e1 with⟨rfl,rfl⟩|⟨hm,e1⟩<;>rcases si e2 with⟨rfl,rfl⟩|⟨hn,e2⟩
  .rfl
  .exact(keyw n cn x hn e2 g1 g2).elim
  .exact(keyw m cm x hm e1 g2 g1).elim
  .exact h.wt m n cm cn x e1 e2 g1 g2
def zH.add{l:pG}{V V':qr}{c':pz}(h:WF l V)(e:V'.calls=V.calls++[c'])(ok:vV l true c')(he:∀x,Ba c' x->CC V x)(hu:∀x,c'.hasB x=true->(um V x:Int)<wD l x)(hw:∀x,c'.mQ x=false)(nx:uh l V'):zH l V' (some V.calls.length):=by
 have si:∀{j:Nat} {d:pz},V'.calls[j]?=some d->(j=V.calls.length/\d=c')\/(j≠V.calls.length/\V.calls[j]?=some d):=λ{j d} g=>by
  rw[e]at g;by_cases z:j<V.calls.length
  .rw[eO z]at g;exact .inr ⟨by omega,g⟩
  .have:=(cX.mp g).1;rw[cV,dP]at this;have z:j=V.calls.length:=by omega
   subst z;rw[eB (dg _)]at g;simp only[fW,iA,jo]at g;exact .inl ⟨rfl,g.symm⟩
 refine⟨λj d g=>?_,λm n cm cn x e1 e2 g1 g2=>?_,λx hx=>?_,λm n cm cn x e1 e2 g1 g2=>?_,nx⟩
 .rcases si g with⟨rfl,rfl⟩|⟨hj,g⟩
  .rw[eY];exact ok
  .rw[show(some V.calls.length==some j)=false by simpa using dJ hj];exact h.ok j d g
 .rcases si e1 with⟨rfl,rfl⟩|⟨hm,e1⟩<;>rcases si e2 with⟨rfl,rfl⟩|⟨hn,e2⟩
  .rfl
  .exact(he x g1 cn (qU e2) g2).elim
  .exact(he x g2 cm (qU e1) g1).elim
  .exact h.un m n cm cn x e1 e2 g1 g2
 .have hl:=h.ln x hx;unfold um at hl ⊢;rw[e,iw,cV,gM];split
  .rename_i g;have:=hu x g;unfold um at this;simp only[ij,dP];omega
  .simp only[ij,dM];omega
 .rcases si e1 with⟨rfl,rfl⟩|⟨hm,e1⟩<;>rcases si e2 with⟨rfl,rfl⟩|⟨hn,e2⟩
  .rfl
  .rw[hw x]at g1;cases g1
  .rw[hw x]at g2;cases g2
  .exact h.wt m n cm cn x e1 e2 g1 g2
noncomputable def pz.core(c:pz):pz:={c with way:=[],si:=0}
def yU(V V':qr):Prop:=V'.calls.map pz.core=V.calls.map pz.core
def yU.at_{V V':qr}(h:yU V V'){i:Nat}{c':pz}(e:V'.calls[i]?=some c'):∃c,V.calls[i]?=some c/\c'.core=c.core:=by
 have:=eP (·[i]?) h;simp only[dA,e]at this;cases e':V.calls[i]? with
 | none=>rw[e']at this;cases this
 | some c=>rw[e']at this;exact⟨c,rfl,dh this⟩
def yU.used{V V':qr}(h:yU V V')(x:Str):um V' x=um V x:=by
 have key:∀cs:List pz,(cs.filter (·.hasB x)).length=((cs.map pz.core).filter (·.hasB x)).length:=λcs=>by rw[gW,cT];rfl
 unfold um;rw[key,h,<-key]
def yU.wf{l:pG}{V V':qr}{o:Option Nat}(h:yU V V')(wf:zH l V o)(hw:∀(i:Nat) c',V'.calls[i]?=some c'->c'.way≠[]/\∀z∈c'.way,z∈l.nm)(nx:uh l V'):zH l V' o:=by
 refine⟨λi c' e=>?_,λi j ci cj x e1 e2 g1 g2=>?_,λx hx=>by rw[h.used];exact wf.ln x hx,λi j ci cj x e1 e2 g1 g2=>?_,nx⟩
 .obtain⟨c,ec,ee⟩:=h.at_ e;have k:=wf.ok i c ec;have k1:c'.at_=c.at_:=show c'.core.at_=c.core.at_ by rw[ee]
  have k2:c'.ms=c.ms:=show c'.core.ms=c.core.ms by rw[ee]
  have k3:c'.cr=c.cr:=show c'.core.cr=c.core.cr by rw[ee]
  exact⟨by show Ql _ c'.core;rw[ee];exact k.sh,by rw[k3];exact k.cr,by rw[k1];exact k.at_,by rw[k2];exact k.ms,by rw[k1];exact k.an,by rw[k2];exact k.mn,by rw[k1,k3];exact k.ca,hw i c' e⟩
 .obtain⟨di,a1,a2⟩:=h.at_ e1;obtain⟨dj,b1,b2⟩:=h.at_ e2;exact wf.un i j di dj x a1 b1 (by show Ba di.core x;rw[<-a2];exact g1) (by show Ba dj.core x;rw[<-b2];exact g2)
 .obtain⟨di,a1,a2⟩:=h.at_ e1;obtain⟨dj,b1,b2⟩:=h.at_ e2;exact wf.wt i j di dj x a1 b1 (by show di.core.mQ x=true;rw[<-a2];exact g1) (by show dj.core.mQ x=true;rw[<-b2];exact g2)
def tF.core{V V':qr}(h:tF V V'):yU V V':=by have:=eP (List.map pz.core) h;rw[d6,d6]at this;exact this
def JY(V:qr):yU V (qa V .turn):=by show(V.calls.map pz.tick).map pz.core=V.calls.map pz.core;rw[d6];refine gP λc _=>?_;show(pz.tick c).core=c.core;unfold pz.tick;split<;>rfl
def ES{l:pG}{V:qr}(wf:WF l V):WF l (qa V .turn):=(JY V).wf wf (λi c' e=>by
 have e:(V.calls.map pz.tick)[i]?=some c':=e;rw[dA]at e;cases q:V.calls[i]? with
 | none=>rw[q]at e;cases e
 | some c=>
  rw[q]at e;have e:c.tick=c':=dh e;have hw:c.tick.way=c.way:=by unfold pz.tick;split<;>rfl
  rw[<-e,hw];exact(wf.ok i c q).wy) wf.nx
def T1{l:pG}{V:qr}{b:Bool}{i:Nat}(wf:WF l V):WF l (qa V (.sw b i)):=⟨wf.ok,wf.un,wf.ln,wf.wt,wf.nx⟩
def EB{l:pG}{V:qr}{o:Option Nat}{i:Nat}{z:Str}{ns:List Nat}(wf:zH l V o):zH l (qa V (.asks i z ns)) o:=⟨wf.ok,wf.un,wf.ln,wf.wt,wf.nx⟩
def Hv{l:pG}{V:qr}{o:Option Nat}{v:rS}(wf:zH l V o)(hz:v.g∈l.nm):zH l (qa V (.leg v)) o:=(zi V v).core.wf wf (λi c' e=>by
 have e:(V.calls.modify v.i (·.go v.g))[i]?=some c':=e;rw[iU]at e;cases q:V.calls[i]? with
 | none=>rw[q]at e;cases e
 | some c=>
  rw[q]at e;have k:=(wf.ok i c q).wy;have e:(if v.i=i then c.go v.g else c)=c':=dh e;by_cases g:v.i=i
  .rw[c9 g]at e;rw[<-e];refine⟨by show c.way++[v.g]≠[];simp,λz YX=>?_⟩;rcases dX.mp (show z∈c.way++[v.g]from YX)with y|y
   .exact k.2 z y
   .rw[dq.mp y];exact hz
  .rw[cY g]at e;rw[<-show c=c' from e];exact k) wf.nx
theorem Co{l:pG}{o:Option Nat}(i:Nat):∀(st:rT) (q:Option Str) {V:qr},zH l V o->(∀s∈st,s.1∈l.nm)->zH l (qC V (qz i q st)) o
 | [],_,V,wf,_=>wf
 | (y,gs)::r,none,V,wf,h=>Co i r (some y) (EB wf) λs hs=>h s (dD _ hs)
 | (y,gs)::r,some u,V,wf,h=>Co i r (some y) (EB (Hv wf (h _ dN))) λs hs=>h s (dD _ hs)
def rj{V:qr}{i:Nat}{c:pz}{f:pz->pz}(h:V.calls[i]?=some c):(xA V i f).calls=V.calls.set i (f c):=by unfold xA;rw[sP h]
def A0{i:Nat}:∀j,j≠i->((some i:Option Nat)==some j)=((none:Option Nat)==some j):=λj hj=>by rw[show((some i:Option Nat)==some j)=false by simpa using dJ hj];rfl
def VI{l:pG}{V:qr}{i:Nat}{c:pz}(wf:zH l V (some i))(hc:V.calls[i]?=some c):c.st="rings"/\c.ms=[]/\c.hd=none/\c.wd=none/\c.at_=[]:=by
 have sh:=(wf.ok i c hc).sh;rw[eY]at sh;rcases sh with g|g
 .exact⟨g.1,g.2.1,g.2.2.1,g.2.2.2.1,g.2.2.2.2.1 rfl⟩
 .cases g.1
def Nw{l:pG}{c:pz}{o:Bool}{w:Str}(k:vV l o c)(hw:w∈KZ):vV l false (c.over w):=⟨.inr ⟨rfl,.inr (.inr (.inr ⟨rfl,rfl,rfl,rfl,w,hw,rfl⟩))⟩,k.cr,(λx hx=>by cases hx),(λx hx=>by cases hx),eI,eI,(λhx=>by cases hx),k.wy⟩
def wV{l:pG}{V V':qr}{o:Option Nat}{i:Nat}{c:pz}{w:Str}(wf:zH l V o)(hc:V.calls[i]?=some c)(ho:o=none\/o=some i)(hw:w∈KZ)(e:V'.calls=V.calls.set i (c.over w))(nx:uh l V'):WF l V':=
 wf.set e hc (λj hj=>by rcases ho with rfl|rfl;rfl;exact A0 j hj) (Nw (wf.ok i c hc) hw) (λx g=>(Gy rfl g).elim) (λx g=>by rw[FU (c:=c.over w) rfl]at g;cases g) (λx g=>by have:=(rX.mp g).1;exact absurd this (show("over":Str)≠"waits" by decide)) nx
def Hi{l:pG}{V:qr}{c z:Str}(h:(l.mG z).Nodup):(vI l V c z).Nodup:=by
 unfold vI;split
 .cases(uU (l.mG z) (yk V z)).filter λx=>hasS (tG l V c z) x with
  | nil=>exact eI
  | cons y r=>exact dQ.mpr ⟨dC,eI⟩
 .exact h.sublist fU
def KJ(ps:List (Str×Int))(z:Str)(n:Int)(y:Str):(Bh ps z n).find? (λp=>decide (p.1=y))=if y=z then some (z,n)else ps.find? λp=>decide (p.1=y):=by
 unfold Bh;by_cases h:ps.any (λp=>decide (p.1=z))=true
 .rw[c9 h];induction ps with
  | nil=>cases h
  | cons p r ih=>
   rw[dS,fG,fG];by_cases hp:p.1=z
   .rw[c9 hp];by_cases hy:y=z
    .rw[c9 hy,hy];simp[hp]
    .rw[cY hy];have n1:decide (p.1=y)=false:=eQ (λq=>hy (q.symm.trans hp));simp only[n1];by_cases hr:r.any (λp=>decide (p.1=z))=true
     .have:=ih hr;rw[cY hy]at this;exact this
     .have hr:∀q∈r,¬q.1=z:=λq hq g=>hr (gv.mpr ⟨q,hq,dR g⟩);rw[show r.map (λp=>if p.1=z then(p.1,n)else p)=r from(gP λq hq=>cY (hr q hq)).trans (jd _)]
   .rw[cY hp];have hr:r.any (λp=>decide (p.1=z))=true:=by
     rw[fX,gU]at h;rcases h with g|g
     .exact absurd (fv g) hp
     .exact g
    have ih:=ih hr;by_cases hy:y=z
    .rw[c9 hy]at ih ⊢;have n1:decide (p.1=y)=false:=eQ (λq=>hp (q.trans hy));simp only[n1];exact ih
    .rw[cY hy]at ih ⊢;cases decide (p.1=y)with
     | true=>rfl
     | false=>exact ih
 .rw[cY h,List.find?_append];have hr:∀q∈ps,¬q.1=z:=λq hq g=>h (gv.mpr ⟨q,hq,dR g⟩);by_cases hy:y=z
  .subst hy;rw[c9 rfl,gX.mpr λq hq=>by simpa using hr q hq,Option.none_or];simp
  .rw[cY hy,fG,eQ (λq:z=y=>hy q.symm)];simp
def Kp{l:pG}{V:qr}{z:Str}{n:Int}(h:uh l V)(h0:0<=n)(h1:n<=((l.mG z).length:Int)):uh l (qa V (.next z n)):=λy hy ht=>by
 show ∃v,(Bh V.ps z n).find? _=some v/\_;rw[KJ];by_cases e:y=z
 .subst e;rw[c9 rfl];exact⟨_,rfl,h0,h1⟩
 .rw[cY e];exact h y hy ht
def Ft{l:pG}{V:qr}{x:Str}(h:tI l V x=true):(um V x:Int)<wD l x:=fv h
def J2{l:pG}{V V':qr}{o:Option Nat}{i:Nat}{c:pz}{w x:Str}(wf:zH l V o)(hc:V.calls[i]?=some c)(e:V'.calls=V.calls.set i (c.over w))(hx:Ba c x):CC V' x:=λd hd g=>by
 rw[e]at hd;obtain⟨j,hj,ed⟩:=gO hd;have ej:(V.calls.set i (c.over w))[j]?=some d:=by rw[cW hj,ed]
 rcases Fc ej with⟨_,rfl,_⟩|⟨WL,ej⟩
 .exact Gy rfl g
 .exact WL (wf.un j i d c x ej hc g hx)
def JX{V V':qr}{i:Nat}{c:pz}{w x:Str}(hc:V.calls[i]?=some c)(e:V'.calls=V.calls.set i (c.over w))(hx:c.hasB x=true):um V' x+1=um V x:=by
 have:=Eh (λk:pz=>k.hasB x) (c.over w) hc;unfold um;rw[e];simp only[hx,iZ,FU (c:=c.over w) rfl]at this
 simpa using this
def FI{l:pG}{V V':qr}{o:Option Nat}{i j:Nat}{c d:pz}{ms:QQQ}(wf:zH l V o)(ho:o=none\/o=some i)(hc:V.calls[i]?=some c)(hd:V.calls[j]?=some d)(Xm:i≠j)(e:V'.calls=(V.calls.set i (c.over "merged")).set j (d.mem ms))(nx:uh l V')(dt:d.st="talks")(m1:ms.Nodup)(m2:ms.length=2\/ms.length=3)(m3:∀x∈ms,x∈d.ms\/(Ba c x/\c.hasB x=true))(m4:∀x∈ms,x∈l.pn):WF l V':=by
 have e1:(xA V i (·.over "merged")).calls=V.calls.set i (c.over "merged"):=rj hc;have w1:WF l (xA V i (·.over "merged")):=wV wf hc ho (by decide) e1 wf.nx;have hd1:(xA V i (·.over "merged")).calls[j]?=some d:=by rw[e1,eR Xm];exact hd
 have kd:=w1.ok j d hd1;have kd':d.hd=none/\d.wd=none/\d.at_=[]:=by
  rcases kd.sh with g|⟨_,g|g|⟨_,g⟩|g⟩
  .rw[dt]at g;exact absurd g.1 (by decide)
  .rw[dt]at g;exact absurd g.1 (by decide)
  .exact⟨g.2.2.1,g.2.2.2.1,g.2.2.2.2⟩
  .rw[dt]at g;exact absurd g.1 (by decide)
  .rw[dt]at g;exact absurd g.1 (by decide)
 refine w1.set (c':=d.mem ms) (by rw[e,e1]) hd1 (λ_ _=>rfl) ⟨.inr ⟨rfl,.inr (.inl ⟨dt,m2,kd'.1,kd'.2.1,kd'.2.2⟩)⟩,kd.cr,kd.at_,m4,kd.an,m1,kd.ca,kd.wy⟩ (λx g=>?_) (λx g=>?_) (λx g=>?_) nx
 .have g:=(tq (c:=d.mem ms) dt).mp g;rcases m3 x g with y|y
  .exact .inl ((tq dt).mpr y)
  .exact .inr (J2 wf hc e1 y.1)
 .have g:=(sN (c:=d.mem ms) (.inl dt)).mp g;rcases m3 x g with y|y
  .exact .inl ((sN (.inl dt)).mpr y)
  .have:=JX hc e1 y.2;have:=wf.ln x (m4 x g);exact .inr (by omega)
 .have:=(rX.mp g).1;rw[show(d.mem ms).st="talks" from dt]at this;exact absurd this (by decide)
def Qw{l:pG}{V V1:qr}{i:Nat}{c:pz}{e:uK}(ok:rM l)(wf:zH l V1 (some i))(same:yU V V1)(hc:V1.calls[i]?=some c)(he:DE l V c.cr e):WF l (qC V1 (so l V1 i e)):=by
 obtain⟨p1,p2,p3,p4,p5⟩:=VI wf hc;have k:=wf.ok i c hc;have hi:=(cX.mp hc).1;cases e with
 | rings z ps=>
  obtain⟨hz,WL,rfl⟩:=he;obtain⟨⟨q1,q2,q3,q4⟩,_⟩:=ok.of hz;obtain⟨r1,r2⟩:=Cn (l:=l) (V:=V) (c:=c.cr) (z:=z);generalize hps:vI l V c.cr z=ps at WL r1 r2;have Wt:∀V2:qr,V2.calls=V1.calls->uh l V2->WF l (qa V2 (.rings i ps)):=λV2 e2 nx=>by
   have e3:(qa V2 (.rings i ps)).calls=V1.calls.set i (c.ring ps):=by show(xA (qK V2 _) i _).calls=_;rw[rj (c:=c) (by show V2.calls[i]?=_;rw[e2];exact hc)];show V2.calls.set i _=_;rw[e2]
   have free:∀x∈ps,tI l V x=true/\x≠c.cr:=λx hx=>by have h:=(fF.mp (r1 x hx).1).2;simp only[dU,gG]at h;exact⟨h.2,by simpa using h.1⟩
   refine wf.set e3 hc A0 ⟨.inl ⟨rfl,p2,p3,p4,(λh=>by cases h),λ_=>WL⟩,k.cr,λx hx=>q4 x (r1 x hx).2,k.ms,by rw[<-hps];exact Hi q3,k.mn,λhx=>(free _ hx).2 rfl,k.wy⟩ (λx g=>?_) (λx g=>?_) (λx g=>?_) nx
   .exact .inl ((sC p1).mpr ((sC (c:=c.ring ps) rfl).mp g))
   .rcases(sF (c:=c.ring ps) rfl).mp g with y|y
    .exact .inl ((sF p1).mpr (.inl y))
    .refine .inr ?_;rw[same.used];exact Ft (free x y).1
   .exact absurd (rX.mp g).1 (show("rings":Str)≠"waits" by decide)
  show WF l (qC V1 ((if (l.mO z=="turns")=true then _ else _)++[.rings i ps]));rw[rD];by_cases ht:(l.mO z=="turns")=true
  .rw[c9 ht];have lp:0<(l.mG z).length:=fu.mpr q1;refine Wt _ rfl (Kp wf.nx (eU _ (by omega)) (Int.le_of_lt (eN _ (by omega))))
  .rw[cY ht];exact Wt V1 rfl wf.nx
 | waits z=>
  obtain⟨hz,WL,hw⟩:=he;have e3:(qa V1 (.waits i z)).calls=V1.calls.set i (c.wait z):=rj (V:=qK V1 _) hc;have hw1:wZ V1 z=false:=by
   unfold wZ at hw ⊢;have key:∀cs:List pz,cs.any (·.mQ z)=(cs.map pz.core).any (·.mQ z):=λcs=>by rw[jI];rfl
   rw[key,same,<-key];exact hw
  refine wf.set e3 hc A0 ⟨.inr ⟨rfl,.inl ⟨rfl,p2,p3,p4,rfl⟩⟩,k.cr,λx hx=>by rw[dq.mp hx];exact hz,k.ms,dQ.mpr ⟨dC,eI⟩,k.mn,λhx=>WL (dq.mp hx).symm,k.wy⟩ (λx g=>?_) (λx g=>?_) (λx g=>?_) wf.nx
  .exact .inl ((sC p1).mpr ((DF (c:=c.wait z) rfl).mp g))
  .exact .inl ((sF p1).mpr (.inl ((DB (c:=c.wait z) rfl).mp g)))
  .have:=(rX.mp g).2;rw[dq.mp this];exact .inr hw1
 | breaks z=>
  obtain⟨x,rfl,hb⟩:=he;obtain⟨j,d0,t1,t2,t3,t4,t5,t6⟩:=Ci hb;have ht:sD V1 z=some j:=by
   rw[<-t1];unfold sD;have key:∀cs:List pz,cs.findIdx? (·.mS z)=(cs.map pz.core).findIdx? (·.mS z):=λcs=>by rw[hJ];rfl
   rw[key,same,<-key]
  obtain⟨d,ed,ec⟩:∃d,V1.calls[j]?=some d/\d.core=d0.core:=by
   have:=eP (·[j]?) same;simp only[dA,t2]at this;cases q:V1.calls[j]? with
   | none=>rw[q]at this;cases this
   | some d=>rw[q]at this;exact⟨d,rfl,dh this⟩
  have ds:d.st="talks":=by rw[show d.st=d0.st from show d.core.st=d0.core.st by rw[ec]];exact t3
  have dm:d.ms=d0.ms:=show d.core.ms=d0.core.ms by rw[ec]
  have Xm:i≠j:=λy=>by subst y;rw[hc]at ed;cases ed;rw[p1]at ds;exact absurd ds (by decide)
  have hee:so l V1 i (.breaks z)=[.merge i j (d.ms++[c.cr])]:=by unfold so;dsimp only;rw[ht,hc];dsimp only;rw[ed];rfl
  rw[hee];have ncr:c.cr∉d.ms:=λy=>Xm (wf.un i j c d c.cr hc ed ((sC p1).mpr rfl) ((tq ds).mpr y));have kd:=wf.ok j d ed;refine FI (V':=qa V1 (.merge i j (d.ms++[c.cr]))) (ms:=d.ms++[c.cr]) wf (.inr rfl) hc ed Xm ?_ wf.nx ds ?_ (.inr ?_) (λx hx=>?_) (λx hx=>?_)
  .show(V1.calls.modify i _).modify j _=_;rw[sP hc,sP (show(V1.calls.set i _)[j]?=some d by rw[eR Xm];exact ed)]
  .refine fQ.mpr ⟨kd.mn,dQ.mpr ⟨dC,eI⟩,λx hx y hy q=>ncr ?_⟩;rw[dq.mp hy]at q;rw[<-q];exact hx
  .rw[cV,dm,t5];rfl
  .rcases dX.mp hx with y|y
   .exact .inl y
   .rw[dq.mp y];exact .inr ⟨(sC p1).mpr rfl,(sF p1).mpr (.inl rfl)⟩
  .rcases dX.mp hx with y|y
   .exact kd.ms x y
   .rw[dq.mp y];exact k.cr
 | engaged z=>exact wV (V':=qa V1 (.over i "engaged")) wf hc (.inr rfl) (by decide) (rj (V:=qK V1 _) hc) wf.nx
 | barred=>exact wV (V':=qa V1 (.over i "barred")) wf hc (.inr rfl) (by decide) (rj (V:=qK V1 _) hc) wf.nx
 | ring ns=>exact wV (V':=qa V1 (.over i "ring")) wf hc (.inr rfl) (by decide) (rj (V:=qK V1 _) hc) wf.nx
def Qj{l:pG}{V:qr}{i:Nat}{k:pz}(ok:rM l)(wf:zH l V (some i))(hk:V.calls[i]?=some k):WF l (qC V (vO l V i)):=by
 have Xs:=wf.ok i k hk;unfold vO;rw[hk];dsimp only[Option.elim];obtain⟨z,hz⟩:∃z,k.way.getLast?=some z:=by
  cases e:k.way.getLast? with
  | none=>exact absurd (gf.mp e) Xs.wy.1
  | some z=>exact⟨z,rfl⟩
 rw[show k.way.getLastD Str.empty=z by rw[ik,hz];rfl];have ro:wx l V k.cr (l.nm.length+1) [] (sv l V k.cr z k.way.dropLast):=xP ok _ _ _ _ (Xs.wy.2 z (iS hz)) λx hx=>Xs.wy.2 x (iT _ hx);generalize sv l V k.cr z k.way.dropLast=R at ro;obtain⟨e,st⟩:=R;have snm:∀s∈st,s.1∈l.nm:=λs hs=>(ro.nm s hs).elim (λh=>by cases h) id;have w1:=Co i st none wf snm;have W1:=vi i st none V;rw[rD,rD];dsimp only;have Wt:∀V1:qr,zH l V1 (some i)->tF V V1->WF l (qC V1 (so l V i e)):=λV1 w s=>by
  rw[<-s.ends];obtain⟨c',e1,e2⟩:=s.at_ hk;have hcr:c'.cr=k.cr:=show c'.bare.cr=k.bare.cr by rw[e2]
  exact Qw ok w s.core e1 (by rw[hcr];exact ro.e)
 cases e with
 | ring ns=>
  obtain⟨x,ns',rfl⟩:=fA (show ns≠[]from ro.e);cases hl:st.getLast? with
  | none=>rw[show rG i st (.ring (x::ns'))=[]by unfold rG;dsimp only;rw[hl];rfl];exact Wt _ w1 W1
  | some s0=>rw[show rG i st (.ring (x::ns'))=[.leg ⟨i,s0.1,x,s0.1⟩]by unfold rG;dsimp only;rw[hl];rfl];exact Wt _ (Hv (v:=⟨i,s0.1,x,s0.1⟩) w1 (ro.wy _ rfl x dN)) (W1.trans (zi _ _))
 | rings _ _=>exact Wt _ w1 W1
 | waits _=>exact Wt _ w1 W1
 | breaks _=>exact Wt _ w1 W1
 | engaged _=>exact Wt _ w1 W1
 | barred=>exact Wt _ w1 W1
def Hf{l:pG}{V:qr}{y z:Str}(wf:WF l V)(hy:y∈l.pn)(hz:z∈l.nm)(hi:CC V y)(hf:tI l V y=true):zH l (qC V [.new V.calls.length y,.leg ⟨V.calls.length,y,z,y⟩]) (some V.calls.length):=by
 have e:(qC V [.new V.calls.length y,.leg ⟨V.calls.length,y,z,y⟩]).calls=V.calls++[(wQ y).go z]:=by show(V.calls++[wQ y]).modify V.calls.length _=_;rw[sP (c:=wQ y) (by rw[eB (dg _),fW];rfl),iG _ _ (dg _),fW];rfl
 refine wf.add e ⟨.inl ⟨rfl,rfl,rfl,rfl,λ_=>rfl,(λh=>by cases h)⟩,hy,(λx h=>by cases h),(λx h=>by cases h),eI,eI,(λh=>by cases h),fK _ _,λx h=>by rw[dq.mp h];exact hz⟩ (λx h=>?_) (λx h=>?_) (λx=>?_) wf.nx
 .rw[(sC (c:=(wQ y).go z) rfl).mp h];exact hi
 .rcases(sF (c:=(wQ y).go z) rfl).mp h with g|g
  .rw[g];exact Ft hf
  .cases g
 .cases q:((wQ y).go z).mQ x with
  | false=>rfl
  | true=>exact absurd (rX.mp q).1 (show("rings":Str)≠"waits" by decide)
def Lo{V:qr}{y z:Str}:∃k,(qC V [.new V.calls.length y,.leg ⟨V.calls.length,y,z,y⟩]).calls[V.calls.length]?=some k:=by
 have:V.calls.length<(qC V [.new V.calls.length y,.leg ⟨V.calls.length,y,z,y⟩]).calls.length:=by show V.calls.length<((V.calls++[wQ y]).modify _ _).length;rw[gc,cV];exact fC _
 exact⟨_,cW this⟩
def Es{l:pG}{V:qr}{i:Nat}{c:pz}{x y:Str}{fs:List Nat}(wf:WF l V)(hc:V.calls[i]?=some c)(hs:c.st="rings")(hy:y∈l.nm):zH l (qC V [.asks i x fs,.quiet i,.leg ⟨i,x,y,x⟩]) (some i):=by
 refine Hv (v:=⟨i,x,y,x⟩) ?_ hy;have k:=wf.ok i c hc;have w1:WF l (qa V (.asks i x fs)):=EB wf;have sh:c.ms=[]/\c.hd=none/\c.wd=none:=by
  rcases k.sh with g|⟨_,g|g|⟨_,g⟩|g⟩
  .exact⟨g.2.1,g.2.2.1,g.2.2.2.1⟩
  all_goals(rw[hs]at g;exact absurd g.1 (by decide))
 refine w1.set (i:=i) (c:=c) (c':=c.nJ) (rj (V:=qK (qa V (.asks i x fs)) _) hc) hc (λj hj=>(A0 j hj).symm) ?_ (λx g=>.inl ?_) (λx g=>.inl ?_) (λx g=>?_) wf.nx
 .rw[eY];exact⟨.inl ⟨hs,sh.1,sh.2.1,sh.2.2,λ_=>rfl,(λh=>by cases h)⟩,k.cr,(λx h=>by cases h),k.ms,eI,k.mn,(λh=>by cases h),k.wy⟩
 .exact(sC hs).mpr ((sC (c:=c.nJ) hs).mp g)
 .rcases(sF (c:=c.nJ) hs).mp g with y|y
  .exact(sF hs).mpr (.inl y)
  .cases y
 .have:=(rX.mp g).1;rw[show c.nJ.st="rings" from hs]at this;exact absurd this (by decide)
inductive UC(l:pG)(V:qr)(i:Nat):List Nat->Prop
 | no:UC l V i []
 | on (c:pz) (k:Nat) (r:List Nat) (b:Bool) (x y:Str) (n:Int):V.calls[i]?=some c->c.st="rings"->l.mI[k]?=some (b,.silent x y n)->c.way.getLast?=some x->y∈l.nm->UC l V i (k::r)
def HE{l:pG}{V:qr}{i:Nat}(ok:rM l):UC l V i (yW l V i):=by
 unfold yW;cases e:V.calls[i]? with
 | none=>exact .no
 | some c=>
  dsimp only[Option.elim];by_cases hs:(c.st=="rings")=true
  .rw[c9 hs];cases q:F5 l V (Gx c)with
   | nil=>exact .no
   | cons k r=>
    obtain⟨⟨b,w⟩,e1,e2⟩:=EY (i:=k) (by rw[q];exact dN);cases w with
    | silent x y n=>unfold Gx at e2;rw[dU,fi]at e2;exact .on c k r b x y n e (eq_of_beq hs) e1 e2.1 (BL ok (fO e1) (z:=Str.empty) rfl)
    | _=>cases e2
  .rw[cY hs];exact .no
def z9{l:pG}{V:qr}{i k:Nat}{r:List Nat}{b:Bool}{x y:Str}{n:Int}(h:l.mI[k]?=some (b,.silent x y n)):tR l V i (k::r)=[.asks i x (k::r),.quiet i,.leg ⟨i,x,y,x⟩]++vO l (qC V [.asks i x (k::r),.quiet i,.leg ⟨i,x,y,x⟩]) i:=by unfold tR;simp only[List.head?_cons,jG,h]
def Eu{V:qr}{i:Nat}{c:pz}{x y:Str}{fs:List Nat}(h:V.calls[i]?=some c):(qC V [.asks i x fs,.quiet i,.leg ⟨i,x,y,x⟩]).calls[i]?=some (c.nJ.go y):=by show((V.calls.modify i pz.nJ).modify i _)[i]?=_;rw[iU,iU,h];simp
def IL{l:pG}{V:qr}{i:Nat}(ok:rM l)(wf:WF l V):WF l (qC V (tR l V i (yW l V i))):=by
 have d:=HE (V:=V) (i:=i) ok;generalize yW l V i=fs at d;cases d with
 | no=>exact wf
 | on c k r b x y n hc hs hk hw hy=>rw[z9 hk,rD];exact Qj ok (Es wf hc hs hy) (Eu hc)
theorem Fh{l:pG}(ok:rM l):∀(is:List Nat) {V:qr},WF l V->WF l (qC V (rK l is V))
 | [],_,wf=>wf
 | i::r,V,wf=>by unfold rK;rw[rD];exact Fh ok r (IL ok wf)
theorem DL(l:pG)(i:Nat):∀(is:List Nat) (V:qr),rK l (is++[i]) V=rK l is V++tR l (qC V (rK l is V)) i (yW l (qC V (rK l is V)) i)
 | [],V=>by show tR l V i _++[]=[]++_;rw[eS];rfl
 | j::r,V=>by show tR l V j _++rK l (r++[i]) _=(tR l V j _++rK l r _)++_;rw[DL l i r,eW,show rK l (j::r) V=tR l V j (yW l V j)++rK l r (qC V (tR l V j (yW l V j)))from rfl,rD]
def tO{ss:QQQ}{x y:Str}:y∈rC ss x↔y∈ss/\y≠x:=by unfold rC;rw[fF,gG,gp]
theorem xu{x:Str}:∀{ss:QQQ},ss.Nodup->x∈ss->(rC ss x).length+1=ss.length
 | [],_,h=>by cases h
 | y::r,nd,h=>by
  have nd:=dQ.mp nd;unfold rC;rw[gM];by_cases e:y=x
  .subst e;rw[show(!(y==y))=false by simp,cY (by decide),kI.mpr λz hz=>by
    have:z≠y:=λq=>nd.1 (q ▸ hz)
    simpa using this]
   rfl
  .have h:x∈r:=by
    rcases df.mp h with q|q
    .exact absurd q.symm e
    .exact q
   rw[c9 (by simpa using e)];have:=xu nd.2 h;unfold rC at this;rw[dZ,dZ,this]
def OJ{l:pG}{V:qr}{i:Nat}{c:pz}{x:Str}(wf:WF l V)(hc:V.calls[i]?=some c)(hl:c.nC x=true):WF l (qC V (wK V x i)):=by
 have k:=wf.ok i c hc;unfold wK;rw[hc];dsimp only[Option.elim];by_cases h1:c.mT x=true
 .rw[c9 h1];exact wV (V':=qa V (.over i "left")) wf hc (.inl rfl) (by decide) (rj (V:=qK V _) hc) wf.nx
 .rw[cY h1];have e1:(qa V (.leaves i x)).calls=V.calls.set i (c.drop x):=rj (V:=qK V _) hc;by_cases h2:hasS c.at_ x=true
  .rw[c9 h2];by_cases h3:rC c.at_ x=[]
   .rw[c9 h3];refine wV (V':=qa (qa V (.leaves i x)) (.over i "refused")) wf hc (.inl rfl) (by decide) (w:="refused") ?_ wf.nx;have h4:(qa V (.leaves i x)).calls[i]?=some (c.drop x):=by rw[e1,eK (cX.mp hc).1]
    show(xA (qK (qa V (.leaves i x)) _) i _).calls=_;rw[rj (V:=qK (qa V (.leaves i x)) _) h4];show(qa V (.leaves i x)).calls.set i _=_;rw[e1,iP];rfl
   .rw[cY h3];have hs:c.st="rings"/\c.ms=[]/\c.hd=none/\c.wd=none:=by
     rcases k.sh with g|⟨_,g|g|⟨_,g⟩|g⟩
     .exact⟨g.1,g.2.1,g.2.2.1,g.2.2.2.1⟩
     .exfalso;have:=xu k.an (qM.mp h2);rw[g.2.2.2.2]at this;exact h3 (gm.mp (by omega))
     .rw[g.2.2.2.2]at h2;cases h2
     .rw[g.2.2.2.2.2]at h2;cases h2
     .rw[g.2.2.2.1]at h2;cases h2
    refine wf.set (V':=qa V (.leaves i x)) (c':=c.drop x) e1 hc (λ_ _=>rfl) ⟨.inl ⟨hs.1,by show rC c.ms x=[];rw[hs.2.1];rfl,hs.2.2.1,hs.2.2.2,(λh=>by cases h),λ_=>h3⟩,k.cr,λy hy=>k.at_ y (tO.mp hy).1,λy hy=>k.ms y (tO.mp hy).1,k.an.sublist fU,k.mn.sublist fU,λhy=>k.ca (tO.mp hy).1,k.wy⟩ (λy g=>?_) (λy g=>?_) (λy g=>?_) wf.nx
    .exact .inl ((sC hs.1).mpr ((sC (c:=c.drop x) hs.1).mp g))
    .refine .inl ((sF hs.1).mpr (((sF (c:=c.drop x) hs.1).mp g).imp id λh=>(tO.mp h).1))
    .have:=(rX.mp g).1;rw[show(c.drop x).st="rings" from hs.1]at this;exact absurd this (by decide)
  .rw[cY h2];by_cases h3:2<c.ms.length
   .rw[c9 h3];have hx:x∈c.ms:=by unfold pz.nC at hl;rw[dG.mpr h1,dG.mpr h2,fL,fL]at hl;exact qM.mp hl
    have hs:c.st="talks"/\c.ms.length=3/\c.hd=none/\c.wd=none/\c.at_=[]:=by
     rcases k.sh with g|⟨_,g|g|⟨_,g⟩|g⟩
     .rw[g.2.1]at h3;cases h3
     .rw[g.2.1]at h3;cases h3
     .exact⟨g.1,g.2.1.elim (λq=>by omega) id,g.2.2⟩
     .omega
     .rw[g.2.1]at h3;cases h3
    have dl:=xu k.mn hx;refine wf.set (V':=qa V (.leaves i x)) (c':=c.drop x) e1 hc (λ_ _=>rfl) ⟨.inr ⟨rfl,.inr (.inl ⟨hs.1,.inl (by show(rC c.ms x).length=2;omega),hs.2.2.1,hs.2.2.2.1,by show rC c.at_ x=[];rw[hs.2.2.2.2];rfl⟩)⟩,k.cr,λy hy=>k.at_ y (tO.mp hy).1,λy hy=>k.ms y (tO.mp hy).1,k.an.sublist fU,k.mn.sublist fU,λhy=>k.ca (tO.mp hy).1,k.wy⟩ (λy g=>?_) (λy g=>?_) (λy g=>?_) wf.nx
    .exact .inl ((tq hs.1).mpr (tO.mp ((tq (c:=c.drop x) hs.1).mp g)).1)
    .exact .inl ((sN (.inl hs.1)).mpr (tO.mp ((sN (c:=c.drop x) (.inl hs.1)).mp g)).1)
    .have:=(rX.mp g).1;rw[show(c.drop x).st="talks" from hs.1]at this;exact absurd this (by decide)
   .rw[cY h3];exact wV (V':=qa V (.over i "done")) wf hc (.inl rfl) (by decide) (rj (V:=qK V _) hc) wf.nx
def J8{l:pG}{V:qr}{i:Nat}{c:pz}{x:Str}(wf:WF l V)(hc:V.calls[i]?=some c)(hx:hasS c.at_ x=true)(hi:CC V x)(hf:c.mQ x=true->tI l V x=true):WF l (qa V (.talks i [c.cr,x])):=by
 have k:=wf.ok i c hc;have hx:=qM.mp hx;have WL:c.cr≠x:=λq=>k.ca (q ▸ hx);have hs:(c.st="rings"\/c.st="waits")/\c.wd=none:=by
  rcases k.sh with g|⟨_,g|g|⟨_,g⟩|g⟩
  .exact⟨.inl g.1,g.2.2.2.1⟩
  .exact⟨.inr g.1,g.2.2.2.1⟩
  .rw[g.2.2.2.2]at hx;cases hx
  .rw[g.2.2.2.2.2]at hx;cases hx
  .rw[g.2.2.2.1]at hx;cases hx
 have ec:Ba c c.cr/\c.hasB c.cr=true:=by
  rcases hs.1 with g|g
  .exact⟨(sC g).mpr rfl,(sF g).mpr (.inl rfl)⟩
  .exact⟨(DF g).mpr rfl,(DB g).mpr rfl⟩
 refine wf.set (V':=qa V (.talks i [c.cr,x])) (c':=c.nj [c.cr,x]) (rj (V:=qK V _) hc) hc (λ_ _=>rfl) ⟨.inr ⟨rfl,.inr (.inl ⟨rfl,.inl rfl,rfl,hs.2,rfl⟩)⟩,k.cr,(λy h=>by cases h),(λy h=>?_),eI,?_,(λh=>by cases h),k.wy⟩ (λy g=>?_) (λy g=>?_) (λy g=>?_) wf.nx
 .rcases df.mp h with g|g
  .rw[g];exact k.cr
  .rw[dq.mp g];exact k.at_ x hx
 .exact dQ.mpr ⟨λh=>WL (dq.mp h),dQ.mpr ⟨dC,eI⟩⟩
 .rcases df.mp ((tq (c:=c.nj [c.cr,x]) rfl).mp g)with h|h
  .rw[h];exact .inl ec.1
  .rw[dq.mp h];exact .inr hi
 .rcases df.mp ((sN (c:=c.nj [c.cr,x]) (.inl rfl)).mp g)with h|h
  .rw[h];exact .inl ec.2
  .rw[dq.mp h];rcases hs.1 with q|q
   .exact .inl ((sF q).mpr (.inr hx))
   .exact .inr (Ft (hf (rX.mpr ⟨q,hx⟩)))
 .exact absurd (rX.mp g).1 (show("talks":Str)≠"waits" by decide)
def Ac{c:pz}{x:Str}:c.mV x=true↔c.st="talks"/\x∈c.ms/\c.ms.length=2:=by unfold pz.mV pz.mS;rw[dU,dU,fi,qM,fi,and_assoc]
def K1{l:pG}{c:pz}(k:vV l false c)(h:c.st="talks"):c.hd=none/\c.wd=none/\c.at_=[]:=by
 rcases k.sh with g|⟨_,g|g|⟨_,g⟩|g⟩
 .rw[h]at g;exact absurd g.1 (by decide)
 .rw[h]at g;exact absurd g.1 (by decide)
 .exact g.2.2
 .rw[h]at g;exact absurd g.1 (by decide)
 .rw[h]at g;exact absurd g.1 (by decide)
def EN{l:pG}{c:pz}{x:Str}(k:vV l false c)(h:c.hd=some x):c.st="held"/\c.ms.length=2/\x∈c.ms/\c.wd=none/\c.at_=[]:=by
 rcases k.sh with g|⟨_,g|g|⟨y,g⟩|g⟩
 .rw[h]at g;cases g.2.2.1
 .rw[h]at g;cases g.2.2.1
 .rw[h]at g;cases g.2.2.1
 .have e:=g.2.2.1;rw[h]at e;cases e;exact⟨g.1,g.2.1,g.2.2.2⟩
 .rw[h]at g;cases g.2.2.1
def PP{l:pG}{V:qr}{i:Nat}{c:pz}{x:Str}(wf:WF l V)(hc:V.calls[i]?=some c)(hx:c.mV x=true):WF l (qa V (.held i x)):=by
 have k:=wf.ok i c hc;obtain⟨h1,h2,h3⟩:=Ac.mp hx;obtain⟨s1,s2,s3⟩:=K1 k h1;refine wf.set (V':=qa V (.held i x)) (c':=c.hold x) (rj (V:=qK V _) hc) hc (λ_ _=>rfl) ⟨.inr ⟨rfl,.inr (.inr (.inl ⟨x,rfl,h3,rfl,h2,s2,s3⟩))⟩,k.cr,k.at_,k.ms,k.an,k.mn,k.ca,k.wy⟩ (λy g=>.inl ?_) (λy g=>.inl ?_) (λy g=>?_) wf.nx
 .exact(tq h1).mpr ((BF (c:=c.hold x) rfl).mp g).1
 .exact(sN (.inl h1)).mpr ((sN (c:=c.hold x) (.inr rfl)).mp g)
 .exact absurd (rX.mp g).1 (show("held":Str)≠"waits" by decide)
def N8{l:pG}{V:qr}{i:Nat}{c:pz}{x:Str}(wf:WF l V)(hc:V.calls[i]?=some c)(hx:c.hd=some x)(hi:CC V x):WF l (qa V (.talks i c.ms)):=by
 have k:=wf.ok i c hc;obtain⟨h1,h2,h3,h4,h5⟩:=EN k hx;refine wf.set (V':=qa V (.talks i c.ms)) (c':=c.nj c.ms) (rj (V:=qK V _) hc) hc (λ_ _=>rfl) ⟨.inr ⟨rfl,.inr (.inl ⟨rfl,.inl h2,rfl,h4,rfl⟩)⟩,k.cr,(λy h=>by cases h),k.ms,eI,k.mn,(λh=>by cases h),k.wy⟩ (λy g=>?_) (λy g=>.inl ?_) (λy g=>?_) wf.nx
 .have g:=(tq (c:=c.nj c.ms) rfl).mp g;by_cases e:y=x
  .rw[e];exact .inr hi
  .exact .inl ((BF h1).mpr ⟨g,λq=>e (dh (q.symm.trans hx))⟩)
 .exact(sN (.inr h1)).mpr ((sN (c:=c.nj c.ms) (.inl rfl)).mp g)
 .exact absurd (rX.mp g).1 (show("talks":Str)≠"waits" by decide)
def Dl{c:pz}{x:Str}(nd:c.ms.Nodup)(h2:c.ms.length=2)(hx:x∈c.ms):qy c x∈c.ms/\qy c x≠x:=by
 have dl:=xu nd hx;obtain⟨y,r,e⟩:=List.exists_cons_of_length_pos (show 0<(rC c.ms x).length by omega);have hm:y∈rC c.ms x:=by rw[e];exact dN
 unfold qy;rw[e];exact tO.mp hm
def Ij{l:pG}{V:qr}{i j:Nat}{c d:pz}{w x:Str}(wf:WF l V)(hc:V.calls[i]?=some c)(hd:V.calls[j]?=some d)(h1:c.hd=some x)(h2:d.mV x=true):i≠j/\WF l (qa V (.merge i j (if (w=="hand")=true then[qy c x,qy d x]else[x,qy c x,qy d x]))):=by
 have k:=wf.ok i c hc;have kd:=wf.ok j d hd;obtain⟨c1,c2,c3,c4,c5⟩:=EN k h1;obtain⟨d1,d2,d3⟩:=Ac.mp h2;obtain⟨a1,a2⟩:=Dl k.mn c2 c3;obtain⟨b1,b2⟩:=Dl kd.mn d3 d2;have Xm:i≠j:=λq=>by subst q;rw[hc]at hd;cases hd;rw[c1]at d1;exact absurd d1 (by decide)
 refine⟨Xm,?_⟩;have ea:Ba c (qy c x):=(BF c1).mpr ⟨a1,λq=>a2 (dh (q.symm.trans h1))⟩;have ab:qy c x≠qy d x:=λq=>Xm (wf.un i j c d _ hc hd ea (by rw[q];exact(tq d1).mpr b1));generalize hms:(if (w=="hand")=true then[qy c x,qy d x]else[x,qy c x,qy d x])=ms;have mm:∀y∈ms,y=x\/y=qy c x\/y=qy d x:=λy hy=>by
  rw[<-hms]at hy;split at hy
  .rcases df.mp hy with g|g
   .exact .inr (.inl g)
   .exact .inr (.inr (dq.mp g))
  .rcases df.mp hy with g|g
   .exact .inl g
   .rcases df.mp g with g|g
    .exact .inr (.inl g)
    .exact .inr (.inr (dq.mp g))
 have n2:[qy c x,qy d x].Nodup:=dQ.mpr ⟨λh=>ab (dq.mp h),dQ.mpr ⟨dC,eI⟩⟩;refine FI (V':=qa V (.merge i j ms)) (ms:=ms) wf (.inl rfl) hc hd Xm ?_ wf.nx d1 ?_ ?_ (λy hy=>?_) (λy hy=>?_)
 .show(V.calls.modify i _).modify j _=_;rw[sP hc,sP (show(V.calls.set i _)[j]?=some d by rw[eR Xm];exact hd)]
 .rw[<-hms];split
  .exact n2
  .refine dQ.mpr ⟨λh=>?_,n2⟩;rcases df.mp h with g|g
   .exact a2 g.symm
   .exact b2 (dq.mp g).symm
 .rw[<-hms];split
  .exact .inl rfl
  .exact .inr rfl
 .rcases mm y hy with g|g|g
  .rw[g];exact .inl d2
  .rw[g];exact .inr ⟨ea,(sN (.inr c1)).mpr a1⟩
  .rw[g];exact .inl b1
 .rcases mm y hy with g|g|g
  .rw[g];exact k.ms x c3
  .rw[g];exact k.ms _ a1
  .rw[g];exact kd.ms _ b1
def Ru{V:qr}{i:Int}(h:ze V.calls.length i=true):∃c,V.calls[i.toNat]?=some c:=by unfold ze at h;rw[dU,eh,eh]at h;exact⟨_,cW (by omega)⟩
def EQ{V:qr}{x:Str}{b:Bool}(h:(if ((ux V x).isNone&&b)=true then some ("full":Str)else ux V x)=none):ux V x=none/\b=false:=by
 cases e:ux V x with
 | some w=>rw[e]at h;cases h
 | none=>
  rw[e]at h;cases b with
  | true=>cases h
  | false=>exact⟨rfl,rfl⟩
inductive DV(l:pG)(V:qr)(x:Str):Str->List Int->Prop
 | answer (i:Int) (c:pz):0<=i->V.calls[i.toNat]?=some c->hasS c.at_ x=true->CC V x->(c.mQ x=true->tI l V x=true)->DV l V x "answer" [i]
 | hang (i:Int) (c:pz):0<=i->V.calls[i.toNat]?=some c->c.nC x=true->DV l V x "hang" [i]
 | hold (i:Int) (c:pz):0<=i->V.calls[i.toNat]?=some c->c.mV x=true->DV l V x "hold" [i]
 | back (i:Int) (c:pz):0<=i->V.calls[i.toNat]?=some c->c.hd=some x->CC V x->DV l V x "back" [i]
 | two (w:Str) (i j:Int) (c d:pz):0<=i->0<=j->w="hand"\/w="join"->V.calls[i.toNat]?=some c->V.calls[j.toNat]?=some d->c.hd=some x->d.mV x=true->DV l V x w [i,j]
def Hz{l:pG}{V:qr}{w x:Str}{ns:List Int}(f:(tZ.num w x ns).nz)(h:xp l V (.num w x ns)=none):x∈l.pn/\DV l V x w ns:=by
 have hp:hasS l.pn x=true:=by
  cases q:hasS l.pn x with
  | true=>rfl
  | false=>unfold xp at h;dsimp only at h;rw[c9 q]at h;cases h
 refine⟨qM.mp hp,?_⟩;unfold xp at h;dsimp only at h;rw[cY (by rw[hp];decide)]at h;unfold MW at h;cases q1:ns.all (ze V.calls.length)with
 | false=>rw[c9 q1]at h;cases h
 | true=>
 rw[cY (by rw[q1];decide)]at h;cases q2:HU w x (tz V ns)with
 | false=>rw[c9 q2]at h;cases h
 | true=>
 rw[cY (by rw[q2];decide)]at h;have z:∀i∈ns,0<=i/\∃c,V.calls[i.toNat]?=some c:=λi hi=>by have g:=eM.mp q1 i hi;refine⟨?_,Ru g⟩;unfold ze at g;rw[dU,eh]at g;exact g.1
 rcases f with⟨fw,fl⟩|⟨fw,fl⟩
 .match ns,fl with
  | [i],_=>
   obtain⟨hi,c,hc⟩:=z i dN;have ec:tz V [i]=[c]:=by unfold tz;rw[fT,hc];rfl
   rw[ec]at h q2;rcases fw with rfl|rfl|rfl|rfl
   .rw[cY (by decide)]at h;obtain⟨h1,h2⟩:=EQ h;refine .answer i c hi hc q2 (EA h1) λhw=>?_;have h2:(c.mQ x&&!(tI l V x))=false:=h2;rw[hw]at h2
    simpa using h2
   .exact .hang i c hi hc q2
   .exact .hold i c hi hc q2
   .rw[cY (by decide)]at h;exact .back i c hi hc (eq_of_beq q2) (EA (EQ h).1)
 .match ns,fl with
  | [i,j],_=>
   obtain⟨hi,c,hc⟩:=z i dN;obtain⟨hj,d,hd⟩:=z j (dD _ dN);have ec:tz V [i,j]=[c,d]:=by unfold tz;rw[fT,hc];dsimp only;rw[fT,hd];rfl
   rw[ec]at q2;have q3:((c.hd==some x)&&d.mV x)=true:=by rcases fw with rfl|rfl<;>exact q2
   rw[dU]at q3;exact .two w i j c d hi hj fw hc hd (eq_of_beq q3.1) q3.2
def En{l:pG}{V:qr}{y z:Str}(h:xp l V (.call y z)=none):y∈l.pn/\z∈l.nm/\CC V y/\tI l V y=true:=by
 unfold xp at h;dsimp only at h;cases q:hasS l.pn y with
 | false=>rw[c9 q]at h;cases h
 | true=>
 rw[cY (by rw[q];decide)]at h;unfold Gr at h;cases q1:hasS l.nm z with
 | false=>rw[c9 q1]at h;cases h
 | true=>
 rw[cY (by rw[q1];decide)]at h;obtain⟨h1,h2⟩:=EQ h;exact⟨qM.mp q,qM.mp q1,EA h1,by simpa using h2⟩
def SL{l:pG}{V:qr}{b:Bool}{i:Int}(h:xp l V (.sw b i)=none):0<=i/\i.toNat<V.on.length:=by
 unfold xp Pn at h;dsimp only at h;cases q:ze V.on.length i with
 | false=>rw[c9 q]at h;cases h
 | true=>unfold ze at q;rw[dU,eh,eh]at q;omega
def zk{V:qr}{w x:Str}{i:Nat}{c:pz}(h:V.calls[i]?=some c):ED V w x i=if (w=="answer")=true then .talks i [c.cr,x]else if (w=="hold")=true then .held i x else .talks i c.ms:=by unfold ED;rw[h];rfl
def GK{V:qr}{w x:Str}{i j:Nat}{c d:pz}(h:V.calls[i]?=some c)(g:V.calls[j]?=some d):FC V w x i j=.merge i j (if (w=="hand")=true then[qy c x,qy d x]else[x,qy c x,qy d x]):=by unfold FC;rw[h,g];rfl
def Tz{l:pG}{V:qr}{e:tZ}(ok:rM l)(wf:WF l V)(f:e.nz)(h:xp l V e=none):WF l (qC V (vN l V e)):=by
 cases e with
 | call y z=>obtain⟨h1,h2,h3,h4⟩:=En h;obtain⟨k,hk⟩:=Lo (V:=V) (y:=y) (z:=z);show WF l (qC V (_++vO l _ _));rw[rD];exact Qj ok (Hf wf h1 h2 h3 h4) hk
 | turn=>exact Fh ok _ (ES wf)
 | sw b i=>exact T1 wf
 | num w x ns=>
  obtain⟨_,n⟩:=Hz f h;cases n with
  | answer i c hi hc h1 h2 h3=>show WF l (qa V (ED V "answer" x i.toNat));rw[zk hc];exact J8 wf hc h1 h2 h3
  | hang i c hi hc h1=>exact OJ wf hc h1
  | hold i c hi hc h1=>show WF l (qa V (ED V "hold" x i.toNat));rw[zk hc];exact PP wf hc h1
  | back i c hi hc h1 h2=>show WF l (qa V (ED V "back" x i.toNat));rw[zk hc];exact N8 wf hc h1 h2
  | two _ i j c d hi hj hw hc hd h1 h2=>show WF l (qa V (FC V w x i.toNat j.toNat));rw[GK hc hd];exact(Ij wf hc hd h1 h2).2
def Oh(a:Ad):rh:=λds M Q=>Li λM0 b A V l c n x i k=>ds=[.ref b,.str x,.int ((i:Nat):Int)]/\ut a M0 M b A V l c n/\c<=1000000/\n<=7000000/\V.calls[i]?=some k/\∀M' A',ut a M0 M' b A' (qC V (wK V x i)) l c (n+2)->qQ A M A' M'->Q .mM M'
def O0(a:Ad):rh:=λds M Q=>Ji λA V l L k c=>ds=[.ref A.b,.ref (rk.p k)]/\Rd a M A V l/\rN a M L k c/\Q (va (F5 l V (Gx c))) M
def NK(a:Ad):rh:=λds M Q=>Li λM0 b A V l c n i k r=>ds=[.ref b,.int ((i:Nat):Int),va (k::r)]/\ut a M0 M b A V l c n/\c<=1000000/\n<=6900000/\WF l V/\UC l V i (k::r)/\∀M' A',ut a M0 M' b A' (qC V (tR l V i (k::r))) l c (n+33)->qQ A M A' M'->Q .mM M'
def Pz(a:Ad):rh:=λds M Q=>Sl λM0 b A V l c n=>ds=[.ref b]/\ut a M0 M b A V l c n/\c<=10000/\n<=6000000/\WF l V/\∀M' A',ut a M0 M' b A' (qC V (E7 l V)) l c (n+1+33*c)->qQ A M A' M'->Q .mM M'
def QY{a:Ad}{M:Mp}{L:QXQ}{k:rk}{c:pz}{v:Wi}{r:Addr}{Q:DK}(h:M r=some (.ins (v.cls a) v.nI))(hk:rN a M L k c)(q:Q (.bl (Gx c v)) M):MO a v [.ref r,.ref k.p] M Q:=by
 cases v with
 | silent x y n=>exact⟨r,L,k,c,rfl,h,hk,q⟩
 | _=>exact⟨_,_,rfl,q⟩
def OD:Fq P w K mg base 4 a.a2 (Oh a):=by
 refine fq G.a2.toDG BB (λr u=>⟨_,(pb (pJ 3 BB (pE (pB v0) U2))
 (pf (pN (vp (pU U3 G.e.toCls G.V (BS G) r (qc U1)))
 (pf (pM (pU v0 G.c.toCls G.k (qW G) r (qc (pK (qT pq U2 pq))))))
 (pf (pN (pF u U1 (pB U3))
 (pb (pM (pU v0 G.c.toCls G.k (qW G) r (qc (pK (qT pq U2 U1)))))
 (pf (pN (pF u (pQ qu rfl G.g qp (qc (pB U3))) pk)
 (pf (pM (pU v0 G.c.toCls G.k (qW G) r (qc (pK (qT pq U2 pq))))))
 pH)))
 (pf (pN (pF u (pQ qu rfl G.g qp (qc (pB U3))) pk)
 (pf (pM (pU v0 G.c.toCls G.k (qW G) r (qc (pK (qT pq U2 U1))))))
 (pf (pM (pU v0 G.c.toCls G.k (qW G) r (qc (pK (qT pq U2 pq))))))))))))),?_⟩)
 rintro ds M Q ⟨M0,b,A,V,l,cc,n,x,i,c,rfl,cu,YS,hn,hc,q⟩
 obtain⟨ka,ci⟩:=cu.call hc;obtain⟨ad,md,h1,h2,h3,h4,n1,n2⟩:=ci.cell;have hi:=(cX.mp hc).1;refine pj cu.at_ (i' rfl (i' rfl (i' ci.bd.ca (i' (rc ci.e1) ?_))));refine pj h1 ⟨rfl,_,⟨rfl,rfl⟩,_,ka,c,x,rfl,ci.cell,?_⟩;unfold wK at q;rw[hc]at q;dsimp only[Option.elim]at q;have over:∀(w0:Str),(∀M' A',ut a M0 M' b A' (qC V [.over i w0]) l cc (n+2)->qQ A M A' M'->Q .mM M')->∀(M1:Mp) (A1:tH),A1.b=A.b->qQ A M A1 M1->pL a M1 A1 (qa V (.over i w0))->∃Wu,qw Wu M1/\Q .mM Wu:=λw0 q M1 A1 eb st bd=>⟨M1,.refl,q M1 A1 ((cu.after (e:=.over i w0) hi eb st bd).mono (dg _) (by omega)) st⟩;refine qD (c:=c.mT x) (λg=>?_) (λg=>?_)
 .rw[c9 g]at q;exact pj cu.at_ ⟨rfl,_,⟨rfl,rfl⟩,oZ rfl,b,A,V,.over i "left",rfl,cu.b,cu.bd,cu.lim YS (by omega),hi,over "left" q⟩
 rw[cY g]at q;refine pj h1 (i' rfl (i' h3 ⟨rfl,qk _,?_⟩));show if inD (.str x) (c.at_.map D.str)=true then _ else _
 rw[rP];refine qD (c:=hasS c.at_ x) (λg2=>?_) (λg2=>?_)
 .rw[c9 g2]at q;refine pj cu.at_ ⟨rfl,_,⟨rfl,rfl⟩,oZ rfl,b,A,V,.leaves i x,rfl,cu.b,cu.bd,cu.lim YS (by omega),hi,λM1 A1 eb st bd=>?_⟩;have c1:=cu.after (e:=.leaves i x) hi eb st bd;have YU:(qa V (.leaves i x)).calls=V.calls.set i (c.drop x):=rj (V:=qK V _) hc;have hc1:(qa V (.leaves i x)).calls[i]?=some (c.drop x):=by rw[YU,eK hi]
  obtain⟨ZE,ZF,g1,YM,g3,g4,_⟩:=c1.bd.cs i ka _ (st.2.2.1 i ka ci.e1) hc1;have le0:((((c.drop x).at_.map D.str).length:Int)==0)=decide (rC c.at_ x=[]):=by rw[cT,gi,fi,eh];show((rC c.at_ x).length:Int)=0↔_;rw[<-gm];omega
  refine pj g1 (i' rfl (i' g3 ?_));refine qD (c:=(((c.drop x).at_.map D.str).length:Int)==0) (λg5=>?_) (λg5=>?_)
  .rw[le0,eh]at g5;rw[c9 g5]at q;have X2:i<(qa V (.leaves i x)).calls.length:=(cX.mp hc1).1;refine pj c1.at_ ⟨rfl,_,⟨rfl,rfl⟩,oZ rfl,b,A1,_,.over i "refused",rfl,c1.b,c1.bd,c1.lim YS (by omega),X2,λM2 A2 eb2 WP XX=>?_⟩;exact⟨M2,.refl,q M2 A2 (c1.after (e:=.over i "refused") X2 eb2 WP XX) (st.trans WP)⟩
  .rw[le0,eh]at g5;rw[cY g5]at q;exact⟨M1,.refl,q M1 A1 (c1.mono (dg _) (by omega)) st⟩
 .rw[cY g2]at q;refine pj h1 (i' rfl (i' h4 ?_));have lm:decide ((2:Int)<((c.ms.map D.str).length:Int))=decide (2<c.ms.length):=by rw[cT,gi,eh,eh];omega
  refine qD (c:=decide ((2:Int)<((c.ms.map D.str).length:Int))) (λg3=>?_) (λg3=>?_)
  .rw[lm,eh]at g3;rw[c9 g3]at q;refine pj cu.at_ ⟨rfl,_,⟨rfl,rfl⟩,oZ rfl,b,A,V,.leaves i x,rfl,cu.b,cu.bd,cu.lim YS (by omega),hi,λM1 A1 eb st bd=>?_⟩;exact⟨M1,.refl,q M1 A1 ((cu.after (e:=.leaves i x) hi eb st bd).mono (dg _) (by omega)) st⟩
  .rw[lm,eh]at g3;rw[cY g3]at q;exact pj cu.at_ ⟨rfl,_,⟨rfl,rfl⟩,oZ rfl,b,A,V,.over i "done",rfl,cu.b,cu.bd,cu.lim YS (by omega),hi,over "done" q⟩
def Pb:Fq P w K mg base 2 a.a3 (O0 a):=by
 refine fq G.a3.toDG yp (λr u=>⟨_,(pb (pJ 2 yp (pB (pB v0)))
 (pf (pA (qx ue rfl G.H ua (qc (qJ rfl (yh (ix:=[none,none,some 2,some 1]) (N':=["i","on","wishes","call"])) (wu rfl G.bT (qc (pB v0))) (uz (n:=2) rfl (qe (qF 0) (qe (qF 1) sS))) (vQ (W3.b3 (uE (vp U1) (uI (vp (Ff (R:=Gv a) (pE U2 v0) (Ts G) (r.mono (by first|decide|omega)) (qc U3))))))) v0)))))),?_⟩)
 rintro ds M Q ⟨A,V,l,L,k,c,rfl,rd,hk,q⟩
 obtain⟨ph,gr,ws,XO,pr,gd,rs,i1,i2,i3,i4,i5,i6,i7,i8⟩:=rd.pl;refine pj rd.bd.at_ (i' rfl (pj i1 (i' rfl ?_)));refine pj rd.bd.at_ (i' rfl (i' rd.bd.on ?_));refine IG (rest:=[some (.ref ws),some (.ref k.p)]) rd.on rd.ok.w16 rd.bd.on (λi w0 ew y kk hkk=>?_) λp hp=>i' pC ⟨M,.new hp,q⟩;obtain⟨r,e1,e2⟩:=A5 i8 ew;exact i' i4 (i' e1 (pj e2 ⟨by cases w0.2<;>rfl,_,⟨w0.2,rfl,rfl⟩,QY e2 hk hkk⟩))
def PB:Fq P w K mg base 10 a.a4 (NK a):=by
 refine fq G.a4.toDG B4 (λr u=>⟨_,(pb (pJ 3 B4 (Bz (R:=Ls a) (pE (pB (pB v0)) (pE U2 pk)) (QS G) (r.mono (by first|decide|omega))))
 (pb (pM (pU v0 G.c.toCls G.k (qW G) r (qc (pK (pR pq (qT U1 (pE U3 pk) U2))))))
 (pb (pM (pU v0 G.c.toCls G.k (qW G) r (qc (pK (rW pq U1)))))
 (pb (pM (pU v0 G.c.toCls G.k (qW G) r (qc (pK (pR pq (pR U1 (qT (pE U3 pk) (pE U3 pk) (pE U3 pk))))))))
 (pf (pM (pI (Ii G) r G.ac (rW v0 U1)))))))),?_⟩)
 rintro ds M Q ⟨M0,b,A,V,l,c,n,i,k,r,rfl,cu,hc,hn,wf,du,q⟩
 obtain⟨ph,gr,ws,XO,pr,gd,rs,i1,i2,i3,i4,i5,i6,i7,i8⟩:=cu.pl;cases du with
 | on k0 _ _ b0 x y m hk hs hw hl hy=>
  have hi:=(cX.mp hk).1;rw[z9 hw]at q;rw[rD]at q;obtain⟨r0,e1,e2⟩:=A5 i8 hw;refine pj cu.at_ (i' rfl (pj i1 (i' rfl (i' (w9 _ _) (i' i4 (i' e1 (pj e2 ⟨rfl,_,⟨⟨.silent x y m,rfl⟩,rfl⟩,r0,.silent x y m,rfl,e2,?_⟩)))))));refine pj cu.at_ ⟨rfl,_,⟨rfl,rfl⟩,oZ rfl,b,A,V,.asks i x (k::r),rfl,cu.b,cu.bd,cu.lim hc (by omega),trivial,λM1 A1 eb1 W4 bd1=>?_⟩;have c1:=cu.after (e:=.asks i x (k::r)) trivial eb1 W4 bd1;refine pj c1.at_ ⟨rfl,_,⟨rfl,rfl⟩,oZ rfl,b,A1,_,.quiet i,rfl,c1.b,c1.bd,c1.lim hc (by omega),hi,λM2 A2 eb2 WP XX=>?_⟩;have c2:=c1.after (e:=.quiet i) hi eb2 WP XX;have Xz:i<(qa (qa V (.asks i x (k::r))) (.quiet i)).calls.length:=by show i<(V.calls.modify i pz.nJ).length;rw[gc];exact hi
  refine pj c2.at_ ⟨rfl,_,⟨rfl,rfl⟩,oZ rfl,b,A2,_,.leg ⟨i,x,y,x⟩,rfl,c2.b,c2.bd,c2.lim hc (by omega),Xz,λM3 A3 eb3 Xj bd3=>?_⟩;have c3:=c2.after (e:=.leg ⟨i,x,y,x⟩) Xz eb3 Xj bd3;exact⟨M0,b,A3,_,l,c,n+3,i,_,rfl,c3,hc,by omega,Es wf hk hs hy,Eu hk,λM4 A4 c4 st4=>⟨M4,.refl,q M4 A4 (c4.mono (dg _) (by omega)) (W4.trans (WP.trans (Xj.trans st4)))⟩⟩
def Om:Fq P w K mg base 11 a.a5 (Pz a):=by
 refine fq G.a5.toDG tE (λr u=>⟨_,(pb (pM (pU v0 G.c.toCls G.k (qW G) r (qc (pK (qc pq)))))
 (pf (uB e9 rfl (wu rfl G.bT (qc (qx tU rfl G.y tQ (qc (pB v0))))) (uz (n:=2) rfl (qe (qZ 1 tE) (qe (qZ 2 tE) sS)))
 (pf (pN (pF u (pB U2) pq)
 (pb (pJ 3 tE (pI (Pb G) r G.a3 (rW v0 U2)))
 (pf (pN (pF u (pQ qu rfl G.g qp (qc U3)) pk)
 (pf (pM (pI (PB G) r G.a4 (qT v0 U1 U3))))
 pH)))
 pH))))),?_⟩)
 rintro ds M Q ⟨M0,b,A,V,l,c,n,rfl,cu,hc,hn,wf,q⟩
 refine pj cu.at_ ⟨rfl,_,⟨rfl,rfl⟩,oZ rfl,b,A,V,.turn,rfl,cu.b,cu.bd,cu.lim (by omega) (by omega),trivial,λM1 A1 eb st bd=>?_⟩;have c1:=cu.after (e:=.turn) trivial eb st bd;have wf1:=ES wf;have lv:(qa V .turn).calls.length=V.calls.length:=cT ..;have ev:E7 l V=.turn::rK l (List.range V.calls.length) (qa V .turn):=rfl;rw[ev,<-lv]at q;have q:∀M' A',ut a M0 M' b A' (qC (qa V .turn) (rK l (List.range (qa V .turn).calls.length) (qa V .turn))) l c (n+1+33*c)->qQ A M A' M'->Q .mM M':=q;have c1:ut a M0 M1 b A1 (qa V .turn) l c (n+1):=c1;generalize qa V .turn=V1 at c1 wf1 q bd;refine pj c1.at_ (i' rfl (i' c1.bd.ca λr hr=>i' pC ?_));have t:=qw.new (c:=.lst (A1.cs.map λk=>D.ref k.p)) hr;have lr:=@pC M1 r (A1.cs.map λk=>D.ref k.p);have nf:=c1.bd.nM hr;have c2:=c1.sub t;have cl:V1.calls.length<=c:=c1.sz.ca;generalize pD M1 r (.lst (A1.cs.map λk=>D.ref k.p))=M2 at t lr c2 ⊢;refine vP (uy 0 (A1.cs.map λk=>D.ref k.p)) (λpre δ M'=>(∃A',ut a M0 M' b A' (qC V1 (rK l (List.range pre.length) V1)) l c (n+1+33*pre.length)/\qQ A1 M2 A' M')/\∃y1 y2 y3,δ=[some (.ref b),y1,y2,y3]) (λpre δ M' j=>?_) _ [] _ _ rfl ⟨⟨A1,c2,.refl⟩,none,none,none,rfl⟩ ?_ ?_
 .obtain⟨⟨A',c3,Xj⟩,_⟩:=j;exact sG (Xj.1 r _ nf (qg lr))
 .rintro pre d post e δ M' ⟨⟨A',c3,Xj⟩,y1,y2,y3,rfl⟩ nx WB
  rw[cV,dP,jS,DL,rD]at WB;have wf3:=Fh cu.ok (List.range pre.length) wf1;generalize qC V1 (rK l (List.range pre.length) V1)=V3 at c3 wf3 WB;obtain⟨x,hx,rfl⟩:=I9 e;rw[dA]at hx;cases ek:A1.cs[pre.length]? with
  | none=>rw[ek]at hx;cases hx
  | some k=>
   rw[ek]at hx;have hx:D.ref k.p=x:=dh hx;subst hx;have hp:pre.length<c:=by have:=(cX.mp ek).1;rw[c1.bd.len]at this;omega
   have ek3:=Xj.2.2.1 _ k ek;have hi:pre.length<V3.calls.length:=by rw[<-c3.bd.len];exact(cX.mp ek3).1
   have ec:V3.calls[pre.length]?=some V3.calls[pre.length]:=cW hi;generalize V3.calls[pre.length]=cv at ec;have ca:=c3.bd.cs _ k cv ek3 ec;obtain⟨ad,md,g1,_⟩:=ca;refine⟨rfl,pj g1 (i' rfl ?_)⟩;have hdv:yW l V3 pre.length=if (cv.st=="rings")=true then F5 l V3 (Gx cv)else[]:=by unfold yW;rw[ec];rfl
   have mM:yW l V3 pre.length=[]->∀y1' y2' y3',nx [some (.ref b),y1',y2',y3'] M':=λh0 y1' y2' y3'=>WB _ _ ⟨⟨A',by rw[h0];exact c3.mono (dg _) (by omega),Xj⟩,_,_,_,rfl⟩;have du:=HE (V:=V3) (i:=pre.length) cu.ok;refine qD (c:=cv.st=="rings") (λg=>?_) (λg=>mM (by rw[hdv,cY g]) _ _ _);rw[c9 g]at hdv;refine⟨A',V3,l,_,k,cv,by rw[c3.b],c3.rd (by omega) wf3,c3.bd.cs _ k cv ek3 ec,?_⟩;rw[<-hdv];cases hdq:yW l V3 pre.length with
   | nil=>exact mM hdq _ _ _
   | cons k0 r0=>rw[hdq]at du WB;refine Au (dR (by rw[cT];show(0:Int)<((k0::r0).length:Nat);rw[dZ];omega)) ?_;exact⟨M0,b,A',V3,l,c,_,pre.length,k0,r0,rfl,c3,by omega,by omega,wf3,du,λM4 A4 c4 st4=>WB _ _ ⟨⟨A4,c4.mono (dg _) (by omega),Xj.trans st4⟩,_,_,_,rfl⟩⟩
 .rintro δ M' ⟨⟨A',c3,Xj⟩,y1,y2,y3,rfl⟩
  have hl:(uy 0 (A1.cs.map λk=>D.ref k.p)).length=V1.calls.length:=by rw[vb,cT,c1.bd.len]
  rw[hl]at c3;exact⟨M',.refl,q M' A' (c3.mono (dg _) (by omega)) (st.trans ((qQ.sub t).trans Xj))⟩
inductive P4(l:pG)(V:qr):tZ->Ev->Prop
 | sw (b:Bool) (i:Nat):i<V.on.length->P4 l V (.sw b (i:Nat)) (.sw b i)
 | answer (x:Str) (i:Nat) (c:pz):V.calls[i]?=some c->P4 l V (.num "answer" x [(i:Nat)]) (.talks i [c.cr,x])
 | hold (x:Str) (i:Nat) (c:pz):V.calls[i]?=some c->P4 l V (.num "hold" x [(i:Nat)]) (.held i x)
 | back (x:Str) (i:Nat) (c:pz):V.calls[i]?=some c->P4 l V (.num "back" x [(i:Nat)]) (.talks i c.ms)
 | two (w x:Str) (i j:Nat) (c d:pz):i≠j->w="hand"\/w="join"->V.calls[i]?=some c->V.calls[j]?=some d->rC c.ms x≠[]->rC d.ms x≠[]->P4 l V (.num w x [(i:Nat),(j:Nat)]) (.merge i j (if (w=="hand")=true then[qy c x,qy d x]else[x,qy c x,qy d x]))
def FT(a:Ad):rh:=λds M Q=>GG λA V l e ev=>ds=[.ref A.b,tZ.d e]/\Rd a M A V l/\P4 l V e ev/\Q ev.d M
def QD(a:Ad):rh:=λds M Q=>P' λM0 b A V l c n e=>ds=[.ref b,tZ.d e]/\ut a M0 M b A V l c n/\c<10000/\n<=5000000/\WF l V/\e.nz/\xp l V e=none/\∀M' A',ut a M0 M' b A' (qC V (vN l V e)) l (c+1) (n+40+33*c)->qQ A M A' M'->Q .mM M'
def V4(a:Ad)(M0 M:Mp)(b:Addr)(A:tH)(V:qr)(l:pG)(c n:Nat)(e:tZ)(Q:DK):Prop:=xp l V e=none->∀M' A' r,ut a M0 M' b A' (qC V (vN l V e)) l (c+1) (n+40+33*c)->qQ A M A' M'->M' r=none->Q (.ref r) (pD M' r (.lst ((vN l V e).map Ev.d)))
def S4(a:Ad):Gd:=λds M Q R=>P' λM0 b A V l c n e=>ds=[.ref b,tZ.d e]/\ut a M0 M b A V l c n/\c<10000/\n<=5000000/\WF l V/\e.nz/\V4 a M0 M b A V l c n e Q/\(∀w,xp l V e=some w->R a.F (some ("word",.str w)) M)
def Rd.call{a:Ad}{M:Mp}{A:tH}{V:qr}{l:pG}(rd:Rd a M A V l){i:Nat}{c:pz}(e:V.calls[i]?=some c):∃k,A.cs[i]?=some k/\rN a M (A.lists++V.fo) k c:=by
 have hi:i<A.cs.length:=by rw[rd.bd.len];exact(cX.mp e).1
 exact⟨A.cs[i],cW hi,rd.bd.cs i _ c (cW hi) e⟩
def yy{i:Int}(h:0<=i):∃m:Nat,i=(m:Int):=eA h
def HI{c:pz}{x:Str}(nd:c.ms.Nodup)(h2:c.ms.length=2)(hx:x∈c.ms):rC c.ms x≠[]:=λz=>by have:=xu nd hx;rw[z]at this;simp only[dM]at this;omega
def MI:Fq P w K mg base 2 a.a6 (FT a):=by
 refine fq G.a6.toDG sY (λr u=>⟨_,(pb (pJ 2 sY (pE U1 pk))
 (pb (pN (pF u U2 (pK (rW pq pq)))
 (pf (pA (pK (rW U2 (pE U1 pk)))))
 pH)
 (pb (pJ 3 sY (pE U1 pk))
 (pb (pJ 4 sY (pE U1 pk))
 (pb (pJ 5 sY (pE (pB v0) v4))
 (pb (pN (pF u U2 pq)
 (pf (pA (pK (qT pq v4 (pK (rW (pB v5) U3))))))
 pH)
 (pb (pN (pF u U2 pq)
 (pf (pA (pK (qT pq v4 U3))))
 pH)
 (pb (pN (pF u U2 pq)
 (pf (pA (pK (qT pq v4 (qx ue rfl G.H ua (qc (pB v5)))))))
 pH)
 (pb (pJ 6 sY (pE U1 pk))
 (pb (pJ 7 sY (pK (rW (pU v5 G.e.toCls G.aI (FX G) r (qc U3)) (pU (pE (pB v0) v6) G.e.toCls G.aI (FX G) r (qc U3)))))
 (pb (pN (pF u U2 pq)
 (pf (pA (pK (pR pq (qT v4 v6 v7)))))
 pH)
 (pf (pA (pK (pR pq (qT v4 v6 (pT (pK (qc U3)) v7))))))))))))))))),?_⟩)
 rintro ds M Q ⟨A,V,l,e,ev,rfl,rd,sg,q⟩
 cases sg with
 | sw b i hi=>
  cases b with
  | true=>exact⟨oZ rfl,rfl,rfl,oZ rfl,M,.refl,q⟩
  | false=>exact⟨oZ rfl,rfl,rfl,oZ rfl,M,.refl,q⟩
 | answer x i c hc=>obtain⟨k,ek,ca⟩:=rd.call hc;obtain⟨ad,md,h1,h2,h3,h4,n1,n2⟩:=ca;refine⟨oZ rfl,rfl,rfl,?_⟩;refine pj rd.bd.at_ (i' rfl (i' rfl (i' rd.bd.ca (i' (rc ek) ?_))));exact pj h1 (i' rfl ⟨oZ rfl,oZ rfl,M,.refl,q⟩)
 | hold x i c hc=>obtain⟨k,ek,ca⟩:=rd.call hc;refine⟨oZ rfl,rfl,rfl,?_⟩;refine pj rd.bd.at_ (i' rfl (i' rfl (i' rd.bd.ca (i' (rc ek) ?_))));exact⟨oZ rfl,M,.refl,q⟩
 | back x i c hc=>obtain⟨k,ek,ca⟩:=rd.call hc;obtain⟨ad,md,h1,h2,h3,h4,n1,n2⟩:=ca;refine⟨oZ rfl,rfl,rfl,?_⟩;refine pj rd.bd.at_ (i' rfl (i' rfl (i' rd.bd.ca (i' (rc ek) ?_))));exact pj h1 (i' rfl (i' h4 ⟨oZ rfl,M,.refl,q⟩))
 | two wd x i j c d Xm hw hc hd nc nd=>
  obtain⟨k,ek,ca⟩:=rd.call hc;obtain⟨k',ek',ca'⟩:=rd.call hd;have ca0:=ca;have ca1:=ca';obtain⟨ad,md,h1,h2,h3,h4,n1,n2⟩:=ca0;obtain⟨ZE,ZF,f1,_⟩:=ca1;obtain⟨y1,r1,e1⟩:=fA nc;obtain⟨y2,r2,e2⟩:=fA nd;have o1:qy c x=y1:=by unfold qy;rw[e1];rfl
  have o2:qy d x=y2:=by unfold qy;rw[e2];rfl
  rw[o1,o2]at q;rcases hw with rfl|rfl
  .refine⟨oZ rfl,rfl,rfl,?_⟩;refine pj rd.bd.at_ (i' rfl (i' rfl (i' rd.bd.ca (i' (rc ek) ?_))));refine pj h1 ⟨rfl,_,⟨rfl,rfl⟩,_,k,c,x,y1,r1,rfl,ca,(rd.ms c (qU hc)).2,e1,?_⟩;refine pj rd.bd.at_ (i' rfl (i' rfl (i' rd.bd.ca (i' (rc ek') ?_))));refine pj f1 ⟨rfl,_,⟨rfl,rfl⟩,_,k',d,x,y2,r2,rfl,ca',(rd.ms d (qU hd)).2,e2,?_⟩;exact⟨oZ rfl,oZ rfl,M,.refl,q⟩
  .refine⟨oZ rfl,rfl,rfl,?_⟩;refine pj rd.bd.at_ (i' rfl (i' rfl (i' rd.bd.ca (i' (rc ek) ?_))));refine pj h1 ⟨rfl,_,⟨rfl,rfl⟩,_,k,c,x,y1,r1,rfl,ca,(rd.ms c (qU hc)).2,e1,?_⟩;refine pj rd.bd.at_ (i' rfl (i' rfl (i' rd.bd.ca (i' (rc ek') ?_))));refine pj f1 ⟨rfl,_,⟨rfl,rfl⟩,_,k',d,x,y2,r2,rfl,ca',(rd.ms d (qU hd)).2,e2,?_⟩;exact⟨oZ rfl,oZ rfl,fK _ _,by show 1+2<=sizeLine;have hz:=dO;omega,oZ rfl,M,.refl,q⟩
def QC:Fq P w K mg base 12 a.a7 (QD a):=by
 refine fq G.a7.toDG ML (λr u=>⟨_,(pb (pJ 2 ML (pE U1 pk))
 (pf (pN (pF u U2 pq)
 (pf (pM (pI (Mo G) r G.a1 (qT v0 (pE U1 pk) (pE U1 pk)))))
 (pf (pN (pF u U2 pq)
 (pf (pM (pI (OD G) r G.a2 (qT v0 (pE U1 pk) (pE U1 pk)))))
 (pf (pN (pF u U2 pq)
 (pf (pM (pI (Om G) r G.a5 (qc v0))))
 (pf (pM (pU v0 G.c.toCls G.k (qW G) r (qc (pI (MI G) r G.a6 (rW v0 U1))))))))))))),?_⟩)
 rintro ds M Q ⟨M0,b,A,V,l,c,n,e,rfl,cu,hc,hn,wf,hf,hr,q⟩
 have rd:=cu.rd (by omega) wf;have one:∀(ev:Ev),P4 l V e ev->vN l V e=[ev]->ev.ok V->ev.nw=0->Af (M b) λC fs'=>fs'.lookup ("apply":Str)=none/\∃sp,(C=a.c/\sp=vY a)/\FT a [.ref b,e.d] M λd M1=>sp [.ref b,d] M1 λ_ M'=>∃Wu,qw Wu M'/\Q .mM Wu:=λev sg he ok h0=>by refine pj cu.at_ ⟨rfl,_,⟨rfl,rfl⟩,A,V,l,e,ev,by rw[cu.b],rd,sg,b,A,V,ev,rfl,cu.b,cu.bd,cu.lim (by omega) (by omega),ok,λM1 A1 eb st bd=>?_⟩;rw[he]at q;have c1:=cu.after ok eb st bd;rw[h0]at c1;exact⟨M1,.refl,q M1 A1 (c1.mono (by omega) (by omega)) st⟩
 cases e with
 | call y z=>obtain⟨h1,h2,h3,h4⟩:=En hr;exact⟨M0,b,A,V,l,c,n,y,z,rfl,cu,by omega,by omega,Hf wf h1 h2 h3 h4,λM' A' c1 st=>⟨M',.refl,q M' A' (c1.mono (by omega) (by omega)) st⟩⟩
 | turn=>exact⟨M0,b,A,V,l,c,n,rfl,cu,by omega,by omega,wf,λM' A' c1 st=>⟨M',.refl,q M' A' (c1.mono (by omega) (by omega)) st⟩⟩
 | sw b0 i=>
  obtain⟨h1,h2⟩:=SL hr;obtain⟨i,rfl⟩:=yy h1;cases b0 with
  | true=>exact one (.sw true i) (.sw true i h2) rfl h2 rfl
  | false=>exact one (.sw false i) (.sw false i h2) rfl h2 rfl
 | num wd x ns=>
  obtain⟨hx,no⟩:=Hz hf hr;cases no with
  | answer i c0 hi hc0 h1 h2 h3=>obtain⟨i,rfl⟩:=yy hi;have lt:=(cX.mp hc0).1;exact one (.talks i [c0.cr,x]) (.answer x i c0 hc0) (eP (λev=>[ev]) (zk hc0)) ⟨lt,by show 2<=100;decide⟩ rfl
  | hang i c0 hi hc0 h1=>obtain⟨i,rfl⟩:=yy hi;exact⟨M0,b,A,V,l,c,n,x,i,c0,rfl,cu,by omega,by omega,hc0,λM' A' c1 st=>⟨M',.refl,q M' A' (c1.mono (by omega) (by omega)) st⟩⟩
  | hold i c0 hi hc0 h1=>obtain⟨i,rfl⟩:=yy hi;have lt:=(cX.mp hc0).1;exact one (.held i x) (.hold x i c0 hc0) (eP (λev=>[ev]) (zk hc0)) lt rfl
  | back i c0 hi hc0 h1 h2=>obtain⟨i,rfl⟩:=yy hi;have lt:=(cX.mp hc0).1;exact one (.talks i c0.ms) (.back x i c0 hc0) (eP (λev=>[ev]) (zk hc0)) ⟨lt,(cu.sz.cs c0 (qU hc0)).2.2⟩ rfl
  | two _ i j c0 d0 hi hj hw hc0 hd0 h1 h2=>
   obtain⟨i,rfl⟩:=yy hi;obtain⟨j,rfl⟩:=yy hj;have lt:=(cX.mp hc0).1;have lt':=(cX.mp hd0).1;have Xm:=(Ij (w:=wd) wf hc0 hd0 h1 h2).1;have k0:=wf.ok _ c0 hc0;have k1:=wf.ok _ d0 hd0;obtain⟨_,u2,u3,_⟩:=EN k0 h1;obtain⟨_,v2,v3⟩:=Ac.mp h2;have sg:=P4.two (l:=l) wd x i j c0 d0 Xm hw hc0 hd0 (HI k0.mn u2 u3) (HI k1.mn v3 v2);have ok:(Ev.merge i j (if (wd=="hand")=true then[qy c0 x,qy d0 x]else[x,qy c0 x,qy d0 x])).ok V:=⟨lt,lt',Xm,by split;exact(by decide:2<=100);exact(by decide:3<=100)⟩;have he:vN l V (.num wd x [(i:Int),(j:Int)])=[.merge i j (if (wd=="hand")=true then[qy c0 x,qy d0 x]else[x,qy c0 x,qy d0 x])]:=eP (λev=>[ev]) (GK hc0 hd0);rcases hw with rfl|rfl
   .exact one _ sg he ok rfl
   .exact one _ sg he ok rfl
def Jg:xh P w K mg base (B5 P w) 1 a.I.f a.I.d a.I.p (wc K "word"):=
 MR G.I.toDG Cp λWz A outer s H E=>Ei (Oe (pv 0) (pv 1))
def TB:U8 P w K mg base 13 a.L (S4 a):=by
 refine S0 G.L.toDG He (by walk_at "m") (λ_ _ _ _ _ _ R hr hR=>⟨_,(pb (pJ 2 He (pI (Hx G) hr G.aW (rW v0 U1)))
 (pb (pN (pF (VZ hr) U2 rL)
 (pf (Jw G.b1 (Jg G) (hr.mono (by first|decide|omega)) G.I.b G.b2 G.I.at_ rfl G.bU hR (qc U2)))
 pH)
 (pb (pJ 3 He (pQ qu rfl G.g qp (qc (pB v0))))
 (pb (pM (pI (QC G) hr G.a7 (rW v0 U1)))
 (pf (pA (sj (pB v0) (sI U3) tD))))))),?_⟩)
 .rintro ds M Q ⟨M0,b,A,V,l,c,n,e,rfl,cu,hc,hn,wf,hf,q,rr⟩
  refine⟨A,V,l,e,by rw[cu.b],cu.rd (by omega) wf,hf,?_⟩;cases er:xp l V e with
  | some w0=>exact⟨_,rfl,rr w0 er⟩
  | none=>
   refine pj cu.at_ (i' rfl (i' cu.bd.lo ?_));refine⟨M0,b,A,V,l,c,n,e,rfl,cu,hc,hn,wf,hf,er,λM' A' c1 st=>?_⟩;refine pj c1.at_ (i' rfl (i' c1.bd.lo λp hp=>?_));have hcut:L3.tM ((qC V (vN l V e)).log.map Ev.d) (some (((V.log.map Ev.d).length:Nat):Int)) none=(vN l V e).map Ev.d:=by rw[Iq,dF,Hy _ _ (by rw[cV];omega),List.drop_left]
   rw[hcut];exact⟨_,.refl,q er M' A' p c1 st hp⟩
def OL(a:Ad):rh:=λds M Q=>P' λM0 b A V l c n e=>ds=[.ref b,tZ.d e]/\ut a M0 M b A V l c n/\c<10000/\n<=5000000/\WF l V/\e.nz/\V4 a M0 M b A V l c n e Q/\(∀w,xp l V e=some w->Q (.str w) M)
def Oy:Fq P w K mg base 14 a.bs (OL a):=by
 refine fq G.bs.toDG xI (λr u=>⟨_,(pb (pJ 2 xI rL)
 (pb (O8 (ix:=2) (i:=3) (MZ (TB G) (r.mono (by first|decide|omega)) rfl G.L.mg G.L.toDG.kp G.L.b (rW v0 U1)) rfl rfl rfl G.bU xI.nd rfl rfl rfl rfl (by decide))
 (pf (pA U2)))),?_⟩)
 rintro ds M Q ⟨M0,b,A,V,l,c,n,e,rfl,cu,hc,hn,wf,hf,q,qf⟩
 refine⟨λC y M'=>C=a.F/\M=M'/\∃w,xp l V e=some w/\y=some (("word":Str),D.str w),?_,?_⟩
 .exact⟨M0,b,A,V,l,c,n,e,rfl,cu,hc,hn,wf,hf,λh M' A' r c1 st hm=>⟨_,.refl,q h M' A' r c1 st hm⟩,λw h=>⟨rfl,rfl,w,h,rfl⟩⟩
 .rintro C y M' ⟨rfl,rfl,w,h,rfl⟩
  exact⟨G.b4,G.b3,w,rfl,M,.refl,qf w h⟩
noncomputable def vE(g:tW):Bool:=g.2.1==("turns":Str)
noncomputable def uW(l:pG):List (Str×Int):=(l.groups.filter vE).map λg=>(g.1,0)
noncomputable def V0(p:Addr)(h:Int)(l:pG)(F:QXQ):qr:=⟨p,h,0,[],[],uW l,l.mI.map (·.1),[],F⟩
def Fi(a:Ad):rh:=λds M Q=>GG λb p h F (l:pG)=>ds=[.ref b,.ref p,.int h]/\M b=some (.ins a.c [])/\sW a M p l/\rM l/\p≠b/\(∀x∈F,∃c,M x=some c)/\∀M' A,A.b=b->rV b M M'->(∀x∈A.foot,x=b\/M x=none)->pL a M' A (V0 p h l F)->Q .mM M'
noncomputable def Ky(g:D):Bool:=match g with
 | .tup (_::.str m::_)=>m=="turns"
 | _=>false
noncomputable def Qo(d:D):D:=.tup [AO d,.int 0]
def G8(gs:List tW):((gs.map qY).filter Ky).map Qo=(gs.filter vE).map λg=>D.tup [.str g.1,.int 0]:=by rw[gW,d6];rfl
def Jq(l:pG):((l.groups.filter vE).map λg=>((Sum.inr g.1:rf),D.int 0))=tj (uW l):=by unfold tj uW;rw[d6];rfl
noncomputable def bF(p:Addr)(h:Int)(ca le nx XY:Addr)(k:Nat):List (Str×D):=List.take (α:=Str×D) k [("plan",.ref p),("hour",.int h),("turn",.int 0),("calls",.ref ca),("legs",.ref le),("nexts",.ref nx),("on",.ref XY)]
def L5:Fq P w K mg base 1 a.ai (Fi a):=by
 refine fq G.ai.toDG CW (λr u=>⟨_,(pb (pX v0 U1)
 (pb (pX v0 U2)
 (pb (pX v0 pk)
 (pb (pX v0 (qB sm))
 (pb (pX v0 (qB sm))
 (pb (pX v0 (qx (E8 rfl) rfl G.bS EO (qc (qJ rfl (yh (ix:=[none]) (N':=["group"])) (qH (pB U1)) (qF 0) (vQ (pF u (pE v0 pk) pq)) (pK (rW (pE v0 pk) pk))))))
 (pb (pX v0 (qx tU rfl G.y tQ (qc (pB U1))))
 (pf (pX v0 (qB sm)))))))))),?_⟩)
 rintro ds M Q ⟨b,p,h,F,l,rfl,hb,⟨ph,gr,ws,on,pr,gd,rs,i1,i2,i3,i4,i5,i6,i7,i8⟩,ok,nbp,hF,q⟩
 have hz:=dO;have l2:=ok.g3;refine pj hb ⟨(G.C "plan" rfl),by show 0<1000;decide,?_⟩;have k1:rV b M (pD M b (.ins a.c [("plan",.ref p)])):=.put;have b1:pD M b (.ins a.c [("plan",.ref p)]) b=some (.ins a.c [("plan",.ref p)]):=pP;show ud _ _ _ _ (pD M b (.ins a.c [("plan",.ref p)]));generalize pD M b (.ins a.c [("plan",.ref p)])=N1 at k1 b1 ⊢;refine pj b1 ⟨(G.C "hour" rfl),by show 1<1000;decide,?_⟩;have k2:=k1.trans (rV.put (p:=b) (c:=.ins a.c [("plan",.ref p),("hour",.int h)]));have b2:pD N1 b (.ins a.c [("plan",.ref p),("hour",.int h)]) b=some (.ins a.c [("plan",.ref p),("hour",.int h)]):=pP;show ud _ _ _ _ (pD N1 b (.ins a.c [("plan",.ref p),("hour",.int h)]));generalize pD N1 b (.ins a.c [("plan",.ref p),("hour",.int h)])=N2 at k2 b2 ⊢;refine pj b2 ⟨(G.C "turn" rfl),by show 2<1000;decide,?_⟩;have k3:=k2.trans (rV.put (p:=b) (c:=.ins a.c (bF p h 0 0 0 0 3)));have b3:pD N2 b (.ins a.c (bF p h 0 0 0 0 3)) b=some (.ins a.c (bF p h 0 0 0 0 3)):=pP;show ud _ _ _ _ (pD N2 b (.ins a.c (bF p h 0 0 0 0 3)));generalize pD N2 b (.ins a.c (bF p h 0 0 0 0 3))=N3 at k3 b3 ⊢;clear k1 k2 b1 b2;refine⟨oZ rfl,λca hca=>?_⟩;obtain⟨n4,e4,k4,c4,b4⟩:=sQ (fs':=(bF p h ca 0 0 0 4)) (c:=.lst []) b3 hca;refine pj e4 ⟨(G.C "calls" rfl),by show 3<1000;decide,?_⟩;show ud _ _ _ _ (pD (pD N3 ca (.lst [])) b (.ins a.c (bF p h ca 0 0 0 4)));generalize pD (pD N3 ca (.lst [])) b (.ins a.c (bF p h ca 0 0 0 4))=N4 at k4 c4 b4 ⊢;have Yr:=k3.trans k4;have z1:M ca=none:=rF k3 b3 hca;have lc4:oR N4 ca=some []:=sG c4;refine⟨oZ rfl,λle Zy=>?_⟩;obtain⟨n5,e5,k5,c5,b5⟩:=sQ (fs':=(bF p h ca le 0 0 5)) (c:=.lst []) b4 Zy;refine pj e5 ⟨(G.C "legs" rfl),by show 4<1000;decide,?_⟩;show ud _ _ _ _ (pD (pD N4 le (.lst [])) b (.ins a.c (bF p h ca le 0 0 5)));generalize pD (pD N4 le (.lst [])) b (.ins a.c (bF p h ca le 0 0 5))=N5 at k5 c5 b5 ⊢;have Ys:=Yr.trans k5;have z2:M le=none:=rF Yr b4 Zy;have le5:oR N5 le=some []:=sG c5;have mcl:le≠ca:=λz=>by rw[z,qg lc4]at Zy;cases Zy
 have lc5:=k5.lst (pS lc4 b4) lc4;have p5:=Ys _ _ nbp i1;have g5:=Ys.lst (pS i3 hb) i3;clear k3 k4 k5 Yr lc4 c4 c5 e4 e5 b3 b4;refine pj p5 (i' rfl (i' g5 ?_));refine tw (f:=Qo) (t:=Ky) g5 _ [] _ (by rw[cT];simp only[dM];omega) (λd hd k hk=>?_) (λd hd _ k hk=>?_) λq1 Xl=>?_
 .obtain⟨v,_,rfl⟩:=dB.mp hd;exact hk
 .obtain⟨v,_,rfl⟩:=dB.mp hd;exact⟨oZ rfl,hk⟩
 rw[dY,G8];have Y4:=qw.new (c:=.lst ((l.groups.filter vE).map λg=>D.tup [.str g.1,.int 0])) Xl;refine i' pC (i' (wA (λg:tW=>g.1) (λ_=>D.int 0) _) ⟨yH (iu (List.Sublist.map _ fU) (iu (jt _ _) ok.nd)),λnx WB=>?_⟩);have z3:M nx=none:=rF Ys b5 (Y4.none WB);obtain⟨n6,e6,k6,c6,b6⟩:=sQ (fs':=(bF p h ca le nx 0 6)) (c:=.dk ((l.groups.filter vE).map λg=>((Sum.inr g.1:rf),D.int 0))) (Y4 _ _ b5) WB;refine pj e6 ⟨(G.C "nexts" rfl),by show 5<1000;decide,?_⟩;have k6:=Y4.keep.trans k6;have Yg:vT "nexts" (.ref nx) (bF p h ca le 0 0 5)=(bF p h ca le nx 0 6):=rfl;rw[Yg];generalize pD (pD (pD N5 q1 (.lst ((l.groups.filter vE).map λg=>D.tup [.str g.1,.int 0]))) nx (.dk ((l.groups.filter vE).map λg=>((Sum.inr g.1:rf),D.int 0)))) b (.ins a.c (bF p h ca le nx 0 6))=N6 at k6 b6 c6 ⊢;have x6:zG N6 nx=some ((l.groups.filter vE).map λg=>((Sum.inr g.1:rf),D.int 0)):=DP c6;have kk6:=Ys.trans k6;have lc6:=k6.lst (pS lc5 b5) lc5;have le6:=k6.lst (pS le5 b5) le5;have p6:=kk6 _ _ nbp i1;have o6:=kk6.lst (pS i5 hb) i5;clear Ys k6 lc5 p5 g5 e6 c6;refine pj p6 (i' rfl (i' o6 λXY ZC=>?_));have z4:M XY=none:=rF kk6 b6 ZC;obtain⟨n7,e7,k7,c7,b7⟩:=sQ (fs':=(bF p h ca le nx XY 7)) (c:=.lst (l.mI.map λw=>D.bl w.1)) b6 ZC;refine pj e7 ⟨(G.C "on" rfl),by show 6<1000;decide,?_⟩;have Yg:vT "on" (.ref XY) (bF p h ca le nx 0 6)=(bF p h ca le nx XY 7):=rfl;rw[Yg];generalize pD (pD N6 XY (.lst (l.mI.map λw=>D.bl w.1))) b (.ins a.c (bF p h ca le nx XY 7))=N7 at k7 b7 c7 ⊢;have kk7:=kk6.trans k7;have lc7:=k7.lst (pS lc6 b6) lc6;have le7:=k7.lst (pS le6 b6) le6;have x7:=k7.dk (BC x6 b6) x6;have lo7:oR N7 XY=some ((l.mI.map (·.1)).map D.bl):=by rw[d6];exact sG c7
 refine⟨oZ rfl,λlg hlg=>?_⟩;obtain⟨n8,e8,k8,c8,b8⟩:=sQ (fs':=tL (.ref p) h 0 ca le nx XY lg) (c:=.lst []) b7 hlg;refine pj e8 ⟨(G.C "log" rfl),by show 7<1000;decide,_,.refl,?_⟩;have apart:∀{N:Mp} {x y:Addr} {ds:List D},N x=none->oR N y=some ds->x≠y:=λ{N x y ds} h1 h2 z=>by have:=qg h2;rw[<-z,h1]at this;cases this
 have y5:=rF kk7 b7 hlg;refine q _ ⟨b,ca,le,nx,XY,lg,[]⟩ rfl (kk7.trans k8) (λx hx=>?_) ⟨b8,k8.lst (pS lc7 b7) lc7,k8.lst (pS le7 b7) le7,?_,k8.lst (pS lo7 b7) lo7,sG c8,rfl,λi k c e=>by simp at e,?_,dQ.mpr ⟨dC,eI⟩,λx hx=>?_⟩
 rotate_right
 .by_cases z:x=b
  .exact⟨_,by rw[z];exact b8⟩
  .obtain⟨c,e⟩:=hF x hx;exact⟨c,(kk7.trans k8) x c z e⟩
 .have hx:x∈[b,nx,ca,le,XY,lg]:=by
   unfold tH.foot tH.lists at hx
   simpa using hx
  simp only[df,dC,eX]at hx;rcases hx with rfl|rfl|rfl|rfl|rfl|rfl
  .exact .inl rfl
  .exact .inr z3
  .exact .inr z1
  .exact .inr z2
  .exact .inr z4
  .exact .inr y5
 .show zG _ nx=some (tj (uW l));rw[<-Jq];exact k8.dk (BC x7 b7) x7
 .have m1:=apart hlg lc7;have m2:=apart hlg le7;have m3:=apart hlg lo7;have m4:=apart ZC lc6;have m5:=apart ZC le6;show[ca,le,XY,lg].Nodup;simp only[dQ,df,dC,eX,fH,not_false_eq_true,eI,and_true];exact⟨⟨dJ mcl,dJ m4,dJ m1⟩,⟨dJ m5,dJ m2⟩,dJ m3⟩
def U9{p:Addr}{h:Int}{l:pG}{F:QXQ}(ok:rM l):WF l (V0 p h l F):=by
 refine⟨λi c e=>by simp[V0]at e,λi j ci cj x e=>by simp[V0]at e,λx hx=>?_,λi j ci cj x e=>by simp[V0]at e,λz hz ht=>?_⟩
 .show((0:Nat):Int)<=wD l x;unfold wD;cases e:l.m8 x with
  | none=>exact Int.le_refl _
  | some v=>have:=(ok.po v (fN e)).l1;show(0:Int)<=v.2.1;omega
 .show ∃v,(uW l).find? (λp=>decide (p.1=z))=some v/\_;unfold pG.mO at ht;cases e:l.group z with
  | none=>rw[e]at ht;exact absurd ht (by decide)
  | some g=>
   rw[e]at ht;have hg:=fN e;have hn:g.1=z:=by simpa using jU e
   have hm:((g.1,0):Str×Int)∈uW l:=dB.mpr ⟨g,fF.mpr ⟨hg,ht⟩,rfl⟩;cases q:(uW l).find? (λp=>decide (p.1=z))with
   | none=>exact absurd (gX.mp q _ hm) (by simp[hn])
   | some v=>refine⟨v,rfl,?_⟩;obtain⟨g',_,rfl⟩:=dB.mp (fN q);exact⟨Int.le_refl _,Int.natCast_nonneg _⟩
def Dy{l:pG}(ok:rM l):(uW l).length<=3:=by unfold uW;rw[cT];exact dW (gA _ _) ok.g3
def Ev.noT:Ev->Prop
 | .turn=>False
 | _=>True
def Ev.noN:Ev->Prop
 | .next _ _=>False
 | _=>True
theorem EV:∀{es:List Ev} {V:qr},(∀e∈es,e.noN)->(qC V es).ps=V.ps
 | [],_,_=>rfl
 | e::r,V,h=>(EV (es:=r) (V:=qa V e) λx hx=>h x (dD _ hx)).trans (by have:=h e dN;cases e<;>first|rfl|cases this)
theorem Bx(i:Nat):∀(st:rT) (q:Option Str),∀e∈qz i q st,e.noT/\e.noN
 | [],_,e,h=>by unfold qz at h;cases h
 | (y,gs)::r,none,e,h=>by
  rcases df.mp (show e∈Ev.asks i y gs::qz i (some y) r from h)with rfl|h
  .exact⟨trivial,trivial⟩
  .exact Bx i r _ e h
 | (y,gs)::r,some u,e,h=>by
  rcases df.mp (show e∈Ev.leg ⟨i,u,y,u⟩::Ev.asks i y gs::qz i (some y) r from h)with rfl|h
  .exact⟨trivial,trivial⟩
  rcases df.mp h with rfl|h
  .exact⟨trivial,trivial⟩
  .exact Bx i r _ e h
def NB{i:Nat}{st:rT}{en:uK}:∀e∈rG i st en,e.noT/\e.noN:=λe h=>by
 unfold rG at h;cases en with
 | ring ns=>
  dsimp only at h;cases q:st.getLast? with
  | none=>rw[q]at h;cases h
  | some s0=>rw[q]at h;rw[dq.mp h];exact⟨trivial,trivial⟩
 | _=>cases h
def Po{ps:List (Str×Int)}{z:Str}{n:Int}(h:ps.any (λp=>decide (p.1=z))=true):(Bh ps z n).length=ps.length:=by unfold Bh;rw[c9 h,cT]
def Sw{l:pG}{V V1:qr}{i:Nat}{en:uK}(nx:uh l V1)(he:FK l V i en):(qC V1 (so l V i en)).ps.length=V1.ps.length:=by
 cases en with
 | rings z ps=>
  show(qC V1 ((if (l.mO z=="turns")=true then[Ev.next z (PV (l.mG z) (ps.headD Str.empty))]else[])++[.rings i ps])).ps.length=_;rw[rD];by_cases ht:(l.mO z=="turns")=true
  .rw[c9 ht];refine Po ?_;obtain⟨v,e,_⟩:=nx z he.1 ht;exact gv.mpr ⟨v,fN e,by simpa using jU e⟩
  .rw[cY ht];rfl
 | breaks z=>
  unfold so;dsimp only;split
  .rfl
  .rfl
 | waits z=>rfl
 | engaged z=>rfl
 | barred=>rfl
 | ring ns=>rfl
def Qn{l:pG}{V:qr}{i:Nat}{k:pz}(ok:rM l)(wf:zH l V (some i))(hk:V.calls[i]?=some k):(qC V (vO l V i)).ps.length=V.ps.length:=by
 have Xs:=wf.ok i k hk;unfold vO;rw[hk];dsimp only[Option.elim];obtain⟨z,hz⟩:∃z,k.way.getLast?=some z:=by
  cases e:k.way.getLast? with
  | none=>exact absurd (gf.mp e) Xs.wy.1
  | some z=>exact⟨z,rfl⟩
 rw[show k.way.getLastD Str.empty=z by rw[ik,hz];rfl];have ro:wx l V k.cr (l.nm.length+1) [] (sv l V k.cr z k.way.dropLast):=xP ok _ _ _ _ (Xs.wy.2 z (iS hz)) λx hx=>Xs.wy.2 x (iT _ hx);have eo:=LY ok wf hk ro.e;generalize sv l V k.cr z k.way.dropLast=R at eo;obtain⟨e,st⟩:=R;have e1:(qC (qC V (qz i none st)) (rG i st e)).ps=V.ps:=(EV λx hx=>(NB x hx).2).trans (EV λx hx=>(Bx i st none x hx).2);rw[rD,rD];refine(Sw (λz hz ht=>?_) eo).trans (eP List.length e1);rw[e1];exact wf.nx z hz ht
theorem HW{l:pG}(ok:rM l):∀(is:List Nat) {V:qr},WF l V->(qC V (rK l is V)).ps.length=V.ps.length
 | [],V,_=>by unfold rK;rfl
 | i::r,V,wf=>by
  unfold rK;rw[rD];refine(HW ok r (IL ok wf)).trans ?_;have d:=HE (V:=V) (i:=i) ok;generalize yW l V i=fs at d;cases d with
  | no=>rfl
  | on c k r b x y n hc hs hk hw hy=>rw[z9 hk,rD];exact Qn ok (Es wf hc hs hy) (Eu hc)
def TM{l:pG}{V:qr}{e:tZ}(ok:rM l)(wf:WF l V)(f:e.nz)(h:xp l V e=none):(qC V (vN l V e)).ps.length=V.ps.length:=by
 cases e with
 | call y z=>obtain⟨h1,h2,h3,h4⟩:=En h;obtain⟨k,hk⟩:=Lo (V:=V) (y:=y) (z:=z);show(qC V (_++vO l _ _)).ps.length=_;rw[rD];exact Qn ok (Hf wf h1 h2 h3 h4) hk
 | turn=>exact HW ok _ (ES wf)
 | sw b i=>rfl
 | num w x ns=>
  refine eP List.length (EV λev hev=>?_);obtain⟨_,n⟩:=Hz f h;cases n with
  | answer i c hi hc h1 h2 h3=>rw[dq.mp (show ev∈[ED V "answer" x i.toNat]from hev),zk hc];trivial
  | hang i c hi hc h1=>
   have hev:ev∈wK V x i.toNat:=hev;unfold wK at hev;rw[hc]at hev;dsimp only[Option.elim]at hev;split at hev
   .rw[dq.mp hev];trivial
   split at hev
   .rcases df.mp hev with rfl|hev
    .trivial
    split at hev
    .rw[dq.mp hev];trivial
    .cases hev
   split at hev
   .rw[dq.mp hev];trivial
   .rw[dq.mp hev];trivial
  | hold i c hi hc h1=>rw[dq.mp (show ev∈[ED V "hold" x i.toNat]from hev),zk hc];trivial
  | back i c hi hc h1 h2=>rw[dq.mp (show ev∈[ED V "back" x i.toNat]from hev),zk hc];trivial
  | two _ i j c d hi hj hw hc hd h1 h2=>rw[dq.mp (show ev∈[FC V w x i.toNat j.toNat]from hev),GK hc hd];trivial
theorem DI(n:Nat):∀ss:QQQ,(ss.map D.str).all (vg n)=true
 | []=>rfl
 | s::r=>by rw[dS,fk,DI n r];cases n<;>rfl
theorem DR(n:Nat):∀ss:List Nat,(ss.map λi=>D.int (i:Nat)).all (vg n)=true
 | []=>rfl
 | s::r=>by rw[dS,fk,DR n r];cases n<;>rfl
def Pq(e:Ev):vg 6 e.d=true:=by
 have t:∀ss:QQQ,vg 5 (names ss)=true:=λss=>DI 4 ss;have u:∀ss:List Nat,vg 5 (va ss)=true:=λss=>DR 4 ss;cases e with
 | asks i z ns=>show([D.str "asks",.int (i:Nat),.str z,va ns].all (vg 5))=true;simp only[fk,u];rfl
 | merge i j ms=>show([D.str "merge",.int (i:Nat),.int (j:Nat),names ms].all (vg 5))=true;simp only[fk,t];rfl
 | rings i ps=>show([D.str "rings",.int (i:Nat),names ps].all (vg 5))=true;simp only[fk,t];rfl
 | talks i ps=>show([D.str "talks",.int (i:Nat),names ps].all (vg 5))=true;simp only[fk,t];rfl
 | _=>rfl
noncomputable def Bb(c:pz):QQQ:=if (c.st=="talks"||c.st=="held")=true then c.ms else c.cr::c.at_
def Kd(a:Ad):rh:=λds M Q=>Df λL k c=>ds=[.ref (rk.p k)]/\rN a M L k c/\c.at_.length<=100/\∀r M',qw M M'->oR M' r=some ((Bb c).map D.str)->Q (.ref r) M'
noncomputable def K'(V:qr)(Xv:QQQ):List Nat:=(List.range V.calls.length).filter λi=>(V.calls[i]?).elim false λc=>hasS Xv c.st
def O7(a:Ad):rh:=λds M Q=>BK λA V l Xv=>ds=[.ref A.b,.tup (List.map D.str Xv)]/\Rd a M A V l/\∀r M',qw M M'->oR M' r=some ((K' V Xv).map λn=>D.int (n:Nat))->Q (.ref r) M'
noncomputable def Sb(V:qr)(Xv:QQQ):D->Bool
 | .int n=>(V.calls[n.toNat]?).elim false λc=>hasS Xv c.st
 | _=>false
def Jr:Fq P w K mg base 1 a.bl (Kd a):=by
 refine fq G.bl.toDG Dg (λr u=>⟨_,(pb (pN (W3.b3 (zg (pF u (pB v0) pq) (yF (pF u (pB v0) pq))))
 (pf (pA (qx tU rfl G.y tQ (qc (pB v0)))))
 pH)
 (pf (pA (pT (qB (qc (pB v0))) (qx tU rfl G.y tQ (qc (pB v0))))))),?_⟩)
 rintro ds M Q ⟨L,k,c,rfl,⟨ad,md,h1,h2,h3,h4,_⟩,ha,q⟩
 have hz:=dO;unfold Bb at q;refine pj h1 (i' rfl (qD (c:=c.st=="talks") (λg=>?_) (λg=>?_)))
 .rw[g,hU,c9 rfl]at q;exact pj h1 (i' rfl (i' h4 λr hr=>⟨_,.refl,q r _ (.new hr) pC⟩))
 rw[dG.mpr g,fL]at q;refine pj h1 (i' rfl (qD (c:=c.st=="held") (λg=>?_) (λg=>?_)))
 .rw[c9 g]at q;exact pj h1 (i' rfl (i' h4 λr hr=>⟨_,.refl,q r _ (.new hr) pC⟩))
 rw[cY g]at q;refine pj h1 (i' rfl ⟨oZ rfl,λr1 Xa=>?_⟩);have t1:=qw.new (c:=.lst [D.str c.cr]) Xa;have l1:=@pC M r1 [D.str c.cr];show Af (pD M r1 (.lst [D.str c.cr]) k.p) _;generalize pD M r1 (.lst [D.str c.cr])=M1 at t1 l1 ⊢;refine pj (t1 _ _ h1) (i' rfl (i' (t1.lst h3) λr2 YK=>?_));have t2:=qw.new (c:=.lst (c.at_.map D.str)) YK;refine i' (t2.lst l1) (i' pC ⟨?_,λr3 Y5=>⟨_,.refl,q r3 _ (t1.trans (t2.trans (.new Y5))) pC⟩⟩);rw[cT];show 1+c.at_.length<=sizeLine;omega
def PN:Fq P w K mg base 1 a.bm (O7 a):=by
 refine fq G.bm.toDG AE (λr u=>⟨_,(pf (pA (qJ rfl (yh (ix:=[none,some 0,some 1]) (N':=["_law_k","_law_board","_law_states"])) (uY rfl G.Z (qc (pQ qu rfl G.g qp (qc (pB v0))))) (qF 0) (vQ (pF u (pB (pE (pB U1) v0)) U2)) v0))),?_⟩)
 rintro ds M Q ⟨A,V,l,Xv,rfl,rd,q⟩
 have hz:=dO;have lc:((A.cs.map λk=>D.ref k.p).length:Int)=(V.calls.length:Nat):=by rw[cT,rd.bd.len]
 have hb:=rd.k;refine pj rd.bd.at_ (i' rfl (i' rd.bd.ca ?_));rw[lc];refine⟨rfl,⟨by omega,by omega⟩,?_⟩;refine tw (f:=id) (t:=Sb V Xv) trivial _ [] _ (by rw[cT,eC];simp only[dM];omega) (λd hd k hk=>?_) (λd hd _ k hk=>?_) λr hr=>?_
 .obtain⟨i,hi,rfl⟩:=dB.mp hd;rw[gq]at hi;have hi:i<V.calls.length:=by omega
  obtain⟨k',ek,⟨ad,md,h1,_⟩⟩:=rd.call (cW hi);have ea:vD (A.cs.map λk=>D.ref k.p) (0+(i:Nat))=some (.ref k'.p):=by rw[lw];exact rc ek
  refine pj rd.bd.at_ (i' rfl (i' rfl (i' rd.bd.ca (i' ea (pj h1 (i' rfl (i' rfl ⟨rfl,qk _,?_⟩)))))));show k (inD (.str V.calls[i].st) (Xv.map D.str)) M;rw[rP];have e1:Sb V Xv (.int (0+(i:Nat)))=hasS Xv V.calls[i].st:=by show(V.calls[(0+(i:Int)).toNat]?).elim false _=_;rw[show(0+(i:Int)).toNat=i by omega,cW hi];rfl
  show k (hasS Xv V.calls[i].st) M;rw[<-e1];exact hk
 .exact hk
 .refine⟨_,.refl,q r _ (.new hr) (pC.trans (eP some ?_))⟩;rw[dY,jd,gW,show(((V.calls.length:Nat):Int)).toNat=V.calls.length from rfl];unfold K';have e1:(Sb V Xv∘λi:Nat=>D.int (0+(i:Nat)))=λi=>(V.calls[i]?).elim false λc=>hasS Xv c.st:=funext λi=>by show(V.calls[(0+(i:Int)).toNat]?).elim false _=_;rw[show(0+(i:Int)).toNat=i by omega]
  rw[e1];exact gP λi _=>by rw[lw]
noncomputable def FB:Str->QQQ:=λw=>if (w=="answer")=true then["rings","waits"]else if (w=="hold")=true then["talks"]else if (w=="hang")=true then["rings","waits","talks","held"]else["held"]
def Sk(w:Str):Prop:=w="answer"\/w="hang"\/w="hold"\/w="back"\/w="hand"\/w="join"
def Jl(a:Ad):rh:=λds M Q=>GG λA V l c w=>ds=[.ref A.b,.int c,.str w,.tup ((FB w).map D.str)]/\Rd a M A V l/\WF l V/\(∀k∈V.calls,k.at_.length<=100)/\Sk w/\∀M',qw M M'->Q .mM M'/\∀e:tZ,e.nz->Q e.d M'
def KR{M:Mp}{n:Nat}{a b:Addr}{ds:List D}(ha:oR M a=some ds)(hb:oR M b=some []):yR M (n+1) (.ref a) (.ref b)=some ds.isEmpty:=by
 show(oR M a).bind (λi=>(oR M b).bind λj=>if i.length=j.length then sA (yR M n) i j else some false)=_;rw[ha,hb];cases ds with
 | nil=>rfl
 | cons x r=>rfl
def uJ{α:Type}(f:α->D){xs:List α}(h:xs≠[])(c k:Int):(0:Int)<((xs.map f).length:Nat)/\∃x∈xs,vD (xs.map f) (draw c k ((xs.map f).length:Nat))=some (f x):=by
 have hp:(0:Int)<((xs.map f).length:Nat):=by have:=fu.mpr h;rw[cT];omega
 have d0:=qR (c:=c) (f:=k) hp;have d1:=qL (c:=c) (f:=k) hp;obtain⟨n,e⟩:=eA d0;rw[e]at d1 ⊢;have hn:n<xs.length:=by rw[cT]at d1;omega
 exact⟨hp,xs[n],ib hn,ur (by rw[dA,cW hn];rfl)⟩
def Ss{V:qr}{Xv:QQQ}{i:Nat}(h:i∈K' V Xv):∃c,V.calls[i]?=some c/\c.st∈Xv:=by
 have h:=(fF.mp h).2;cases e:V.calls[i]? with
 | none=>rw[e]at h;cases h
 | some c=>rw[e]at h;exact⟨c,rfl,qM.mp h⟩
def DQ{l:pG}{c:pz}(k:vV l false c)(h:c.st≠"over"):Bb c≠[]:=by
 unfold Bb;split
 .rename_i g;rcases k.sh with z|⟨_,z|z|⟨_,z⟩|z⟩
  .rw[z.1]at g;exact absurd g (by decide)
  .rw[z.1]at g;exact absurd g (by decide)
  .intro y;rw[y]at z;rcases z.2.1 with u|u<;>cases u
  .intro y;rw[y]at z;cases z.2.1
  .exact absurd z.1 h
 .exact fK _ _
def T9{l:pG}{c:pz}(k:vV l false c)(h:c.st∈FB "answer"):c.at_≠[]:=by
 have h:c.st="rings"\/c.st="waits":=by
  rcases df.mp h with g|g
  .exact .inl g
  .exact .inr (dq.mp g)
 rcases k.sh with z|⟨_,z|z|⟨_,z⟩|z⟩
 .exact z.2.2.2.2.2 rfl
 .intro y;rw[y]at z;cases z.2.2.2.2
 all_goals(rw[z.1]at h;exact absurd h (by decide))
def Jb{l:pG}{c:pz}(k:vV l false c)(h:c.st="held"):∃x,c.hd=some x:=by
 rcases k.sh with z|⟨_,z|z|⟨x,z⟩|z⟩
 .rw[h]at z;exact absurd z.1 (by decide)
 .rw[h]at z;exact absurd z.1 (by decide)
 .rw[h]at z;exact absurd z.1 (by decide)
 .exact⟨x,z.2.2.1⟩
 .rw[h]at z;exact absurd z.1 (by decide)
def JH:Fq P w K mg base 4 a.bn (Jl a):=by
 refine fq G.bn.toDG rm (λr u=>⟨_,(pb (pJ 4 rm (pI (PN G) r G.bm (rW v0 U3)))
 (pb (pN (pF u v4 (qB sm))
 (pf (pA rL))
 pH)
 (pb (pJ 5 rm (pE v4 (pI (qI G) r G.i (qT U1 pk (pQ qu rfl G.g qp (qc v4))))))
 (pb (pJ 6 rm (pI (Jr G) r G.bl (qc (pE (pB v0) v5))))
 (pb (pN (pF u U2 pq)
 (pf (pJ 6 rm (qx tU rfl G.y tQ (qc (pB (pE (pB v0) v5))))))
 pH)
 (pb (pN (W3.b3 (zg (pF u U2 pq) (zg (pF u U2 pq) (yF (pF u U2 pq)))))
 (pf (pJ 6 rm (qB (qc (pB (pE (pB v0) v5))))))
 pH)
 (pb (pJ 7 rm (pE v6 (pI (qI G) r G.i (qT U1 pk (pQ qu rfl G.g qp (qc v6))))))
 (pb (pN (W3.b3 (zg (pF u U2 pq) (yF (pF u U2 pq))))
 (pb (pJ 8 rm (pU v0 G.c.toCls G.J (wW G) r (qc v7)))
 (pf (pA (pK (pR U2 (qT v7 v5 (Qh (pF u v8 rL) pk v8)))))))
 pH)
 (pf (pA (pK (qT U2 v7 v5)))))))))))),?_⟩)
 rintro ds M Q ⟨A,V,l,c,wd,rfl,rd,wf,ha,ho,q⟩
 have hz:=dO;refine⟨A,V,l,FB wd,rfl,rd,λr M1 s1 lr=>?_⟩;refine⟨oZ rfl,λr0 YL=>?_⟩;have t2:=qw.new (c:=.lst []) YL;have Y9:=t2.lst lr;refine i' (KR Y9 pC) ?_;have s2:=s1.trans t2;generalize pD M1 r0 (.lst [])=M2 at s2 Y9 ⊢;clear t2 lr YL s1;refine qD (c:=((K' V (FB wd)).map λn=>D.int (n:Nat)).isEmpty) (λ_=>⟨M2,.refl,(q M2 s2).1⟩) (λg=>?_);have gne:K' V (FB wd)≠[]:=λz=>g (by rw[z];rfl);obtain⟨hp,i,hi,ei⟩:=uJ (λn:Nat=>D.int (n:Nat)) gne c 40692;obtain⟨cv,hc,hs⟩:=Ss hi;have Yu:=rd.sub s2;obtain⟨k,ek,ca⟩:=Yu.call hc;have ca0:=ca;obtain⟨ad,md,h1,h2,h3,h4,_⟩:=ca0;have Xs:=wf.ok i cv hc;refine i' Y9 ⟨c,_,_,rfl,hp,i' Y9 (i' ei ?_)⟩;refine pj Yu.bd.at_ (i' rfl (i' rfl (i' Yu.bd.ca (i' (rc ek) ?_))));refine⟨_,k,cv,rfl,ca,ha cv (qU hc),λr3 M3 s3 lr3=>?_⟩;have W9:=s3 _ _ h1;have q3:=λM' (s:qw M3 M')=>q M' (s2.trans (s3.trans s));have YO:=Yu.sub s3;have Y3:=s3.lst h3;clear q Y9 s2 h1 h2 h3 h4 ca;rcases ho with rfl|rfl|rfl|rfl|rfl|rfl
 .
  refine pj YO.bd.at_ (i' rfl (i' rfl (i' YO.bd.ca (i' (rc ek) (pj W9 (i' rfl (i' Y3 λr4 Za=>?_)))))));obtain⟨WD,x,hx,ex⟩:=uJ D.str (T9 Xs hs) c 742938285;refine i' pC ⟨c,_,_,rfl,WD,i' pC (i' ex ?_)⟩;exact⟨oZ rfl,_,.refl,(q3 _ (.new Za)).2 (.num "answer" x [(i:Nat)]) (.inl ⟨.inl rfl,rfl⟩)⟩
 .
  obtain⟨WD,x,hx,ex⟩:=uJ D.str (DQ Xs (λz=>by rw[z]at hs;exact absurd hs (by decide))) c 742938285;refine i' lr3 ⟨c,_,_,rfl,WD,i' lr3 (i' ex ?_)⟩;exact⟨oZ rfl,_,.refl,(q3 _ .refl).2 (.num "hang" x [(i:Nat)]) (.inl ⟨.inr (.inl rfl),rfl⟩)⟩
 .
  obtain⟨WD,x,hx,ex⟩:=uJ D.str (DQ Xs (λz=>by rw[z]at hs;exact absurd hs (by decide))) c 742938285;refine i' lr3 ⟨c,_,_,rfl,WD,i' lr3 (i' ex ?_)⟩;exact⟨oZ rfl,_,.refl,(q3 _ .refl).2 (.num "hold" x [(i:Nat)]) (.inl ⟨.inr (.inr (.inl rfl)),rfl⟩)⟩
 .
  obtain⟨y,hy⟩:=Jb Xs (dq.mp hs);refine pj YO.bd.at_ (i' rfl (i' rfl (i' YO.bd.ca (i' (rc ek) (pj W9 (i' rfl ⟨oZ rfl,λr4 Za=>?_⟩))))));rw[show F6 cv.hd=.str y by rw[hy];rfl];obtain⟨WD,x,hx,ex⟩:=uJ D.str (fK y []) c 742938285;refine i' pC ⟨c,_,_,rfl,WD,i' pC (i' ex ?_)⟩;exact⟨oZ rfl,_,.refl,(q3 _ (.new Za)).2 (.num "back" x [(i:Nat)]) (.inl ⟨.inr (.inr (.inr rfl)),rfl⟩)⟩
 all_goals
  obtain⟨y,hy⟩:=Jb Xs (dq.mp hs);refine pj YO.bd.at_ (i' rfl (i' rfl (i' YO.bd.ca (i' (rc ek) (pj W9 (i' rfl ⟨oZ rfl,λr4 Za=>?_⟩))))));rw[show F6 cv.hd=.str y by rw[hy];rfl];obtain⟨WD,x,hx,ex⟩:=uJ D.str (fK y []) c 742938285;refine i' pC ⟨c,_,_,rfl,WD,i' pC (i' ex ?_)⟩;have t4:=qw.new (c:=.lst [D.str y]) Za;refine pj (t4 _ _ YO.bd.at_) ⟨rfl,_,⟨rfl,rfl⟩,A,V,x,rfl,YO.bd.sub t4,YO.k,?_⟩;unfold yo;cases sD V x with
  | none=>first|exact⟨oZ rfl,_,.refl,(q3 _ t4).2 (.num "hand" x [(i:Nat),(0:Nat)]) (.inr ⟨.inl rfl,rfl⟩)⟩|exact⟨oZ rfl,_,.refl,(q3 _ t4).2 (.num "join" x [(i:Nat),(0:Nat)]) (.inr ⟨.inr rfl,rfl⟩)⟩
  | some j=>first|exact⟨oZ rfl,_,.refl,(q3 _ t4).2 (.num "hand" x [(i:Nat),(j:Nat)]) (.inr ⟨.inl rfl,rfl⟩)⟩|exact⟨oZ rfl,_,.refl,(q3 _ t4).2 (.num "join" x [(i:Nat),(j:Nat)]) (.inr ⟨.inr rfl,rfl⟩)⟩
def IZ:rh:=λds M Q=>Ji λc o n own nm m=>ds=[.int c,.ref o,.ref n,.int ((m:Nat):Int)]/\oR M o=some (List.map D.str own)/\oR M n=some (List.map D.str nm)/\own.length<=100/\nm.length<=100/\m<=1000000/\∀M' (e:tZ),qw M M'->e.nz->Q e.d M'
def KN(a:Ad):rh:=λds M Q=>P' λA V l c o n own nm=>ds=[.ref A.b,.int c,.ref o,.ref n]/\Rd a M A V l/\WF l V/\(∀k∈V.calls,k.at_.length<=100)/\oR M o=some (List.map D.str own)/\oR M n=some (List.map D.str nm)/\own≠[]/\nm≠[]/\own.length<=100/\nm.length<=100/\∀M' (e:tZ),qw M M'->e.nz->Q e.d M'
def Ja{α:Type}(f:α->D){xs:List α}(h:xs≠[]){m:Int}(hm:m=(xs.length:Nat))(c k:Int):(0:Int)<m/\∃x∈xs,vD (xs.map f) (draw c k m)=some (f x):=by have:=uJ f h c k;rw[cT,<-hm]at this;exact this
def Pc{α:Type}(xs:List α)(x:α):xs++[x]≠[]:=by simp
noncomputable def Hc:QQQ:=["call","call","call","call","call","answer","answer","answer","answer","answer","hang","hang","hold","hold","hold","back","hand","join","turn","turn","turn"]
theorem DM(d:D):∀n:Nat,(List.replicate n [d]).flatten=List.replicate n d
 | 0=>rfl
 | n+1=>by rw[eG,fM,DM d n,eG];rfl
noncomputable def zz:Str:="zzzzzz"
noncomputable def Lz(a b:Str)(k m:Int):List tZ:=[.call a b,.num "answer" a [k],.num "hang" a [k],.num "hold" a [k],.num "back" a [k],.num "hand" a [k,m],.num "join" a [k,m],.turn,.sw true k,.sw false k]
def Lv{a b:Str}{k m:Int}{e:tZ}(h:e∈Lz a b k m):e.nz:=by
 unfold Lz at h;simp only[df,dC,eX]at h;rcases h with rfl|rfl|rfl|rfl|rfl|rfl|rfl|rfl|rfl|rfl
 .trivial
 .exact .inl ⟨.inl rfl,rfl⟩
 .exact .inl ⟨.inr (.inl rfl),rfl⟩
 .exact .inl ⟨.inr (.inr (.inl rfl)),rfl⟩
 .exact .inl ⟨.inr (.inr (.inr rfl)),rfl⟩
 .exact .inr ⟨.inl rfl,rfl⟩
 .exact .inr ⟨.inr rfl,rfl⟩
 .trivial
 .trivial
 .trivial
def NL:Fq P w K mg base 2 a.bo IZ:=by
 refine fq G.bo.toDG uC (λr u=>⟨_,(pb (pJ 4 uC (pE (pT U2 (qB (qc pq))) (pI (qI G) r G.i (qT v0 pk (pT (pQ qu rfl G.g qp (qc U2)) pk)))))
 (pb (pJ 5 uC (pE (pT U2 (qB (qc pq))) (pI (qI G) r G.i (qT v0 pk (pT (pQ qu rfl G.g qp (qc U2)) pk)))))
 (pb (pJ 6 uC (pT (pI (qI G) r G.i (qT v0 pk (pT U3 pk))) pk))
 (pb (pJ 7 uC (pT (pI (qI G) r G.i (qT v0 pk (pT U3 pk))) pk))
 (pb (pJ 8 uC (qB (pR (pK (qT pq v4 v5)) (pR (pK (qT pq v4 v6)) (pR (pK (qT pq v4 v6)) (qT (pK (qT pq v4 v6)) (pK (qT pq v4 v6)) (pK (pR pq (qT v4 v6 v7)))))))))
 (pf (pA (pE (pT v8 (qB (pR (pK (pR pq (qT v4 v6 v7))) (qT (pK (qc pq)) (pK (rW pq v6)) (pK (rW pq v6)))))) (pI (qI G) r G.i (qT v0 pk pk)))))))))),?_⟩)
 rintro ds M Q ⟨c,o,n,own,nm,m,rfl,ho,hn,ol,nl,ml,q⟩
 have hz:=dO;have add:∀{M1:Mp} {p:Addr} {xs:QQQ} (f:Int) (nx:DK),qw M M1->oR M1 p=some (xs.map D.str)->xs.length<=100->(∀x M',qw M M'->nx (.str x) M')->∀r1,M1 r1=none->(oR (pD M1 r1 (.lst [D.str zz])) p).elim False λi=>(oR (pD M1 r1 (.lst [D.str zz])) r1).elim False λj=>i.length+j.length<=sizeLine/\∀r2,pD M1 r1 (.lst [D.str zz]) r2=none->(oR (pD (pD M1 r1 (.lst [D.str zz])) r2 (.lst (i++j))) p).elim False λys=>IX [.int c,.int f,.int ((ys.length:Nat)+1)] (pD (pD M1 r1 (.lst [D.str zz])) r2 (.lst (i++j))) λy M2=>match y with
  | .int n=>(oR M2 r2).elim False λzs=>(vD zs n).elim False λd=>nx d M2
  | _=>False:=λ{M1 p xs} f nx s hx lx WB r1 Xa=>by
  have t1:=qw.new (c:=.lst [D.str zz]) Xa;refine i' (t1.lst hx) (i' pC ⟨by rw[cT];show xs.length+1<=sizeLine;omega,λr2 YK=>?_⟩);have t2:=qw.new (c:=.lst (xs.map D.str++[D.str zz])) YK;obtain⟨hp,x,_,ex⟩:=Ja D.str (Pc xs zz) (m:=((xs.map D.str).length:Nat)+1) (by rw[cT,cV];rfl) c f;rw[dF]at ex;exact i' ((t1.trans t2).lst hx) ⟨c,f,_,rfl,hp,i' pC (i' ex (WB x _ (s.trans (t1.trans t2))))⟩
 refine⟨oZ rfl,add 16807 _ .refl hn nl λx M1 s1=>⟨oZ rfl,add 39373 _ s1 (s1.lst hn) nl λy M2 s2=>?_⟩⟩;refine⟨c,_,_,rfl,by show(0:Int)<(m:Nat)+2;omega,⟨c,_,_,rfl,by show(0:Int)<(m:Nat)+2;omega,?_⟩⟩;generalize draw c 69621 ((m:Nat)+2) - 1=k0;refine⟨oZ rfl,oZ rfl,oZ rfl,oZ rfl,oZ rfl,oZ rfl,oZ rfl,λr8 hr8=>⟨oZ rfl,oZ rfl,oZ rfl,oZ rfl,oZ rfl,λr9 hr9=>?_⟩⟩;have t8:=qw.new (c:=.lst (((Lz x y k0 (draw c 22695477 ((m:Nat)+2) - 1)).take 6).map tZ.d)) hr8;have t9:=qw.new (c:=.lst (((Lz x y k0 (draw c 22695477 ((m:Nat)+2) - 1)).drop 6).map tZ.d)) hr9;refine i' (t9.lst pC) (i' pC ⟨by show 6+4<=sizeLine;omega,λr10 hr10=>?_⟩);obtain⟨hp,e,he,ee⟩:=Ja tZ.d (xs:=Lz x y k0 (draw c 22695477 ((m:Nat)+2) - 1)) (fK _ _) (m:=10) rfl c 1664525;exact⟨c,_,_,rfl,hp,i' pC (i' ee ⟨_,.refl,q _ e (s2.trans (t8.trans (t9.trans (.new hr10)))) (Lv he)⟩)⟩
def Nf:Fq P w K mg base 5 a.bp (KN a):=by
 refine fq G.bp.toDG rq (λr u=>⟨_,(pb (pJ 4 rq (pT (pT (pT (pT (pT (Bo (qB (qc pq)) pk) (Bo (qB (qc pq)) pk)) (Bo (qB (qc pq)) pk)) (Bo (qB (qc pq)) pk)) (qB (qT pq pq pq))) (Bo (qB (qc pq)) pk)))
 (pb (pJ 4 rq (pE v4 (pI (qI G) r G.i (qT U1 pk (pQ qu rfl G.g qp (qc v4))))))
 (pb (pJ 5 rq (pK (pR pq (qT pq pq pq))))
 (pb (pN (pF u v4 pq)
 (pf (pJ 5 rq (pK (rW pq pq))))
 pH)
 (pb (pN (pF u v4 pq)
 (pf (pJ 5 rq (pK (qc pq))))
 pH)
 (pb (pN (W3.b3 (zg (pF u v4 pq) (zg (pF u v4 pq) (yF (pF u v4 pq)))))
 (pf (pJ 5 rq (pK (qc pq))))
 pH)
 (pb (pN (pF u v4 pq)
 (pf (pA (pK (qc pq))))
 pH)
 (pb (pN (pF u (pI (qI G) r G.i (qT U1 pk pk)) pk)
 (pf (pA (pI (NL G) r G.bo (pR U1 (qT U2 U3 (pQ qu rfl G.g qp (qc (pB v0))))))))
 pH)
 (pb (pJ 6 rq rL)
 (pb (pN (pF u v4 pq)
 (pf (pJ 6 rq (pI (JH G) r G.bn (pR v0 (qT U1 v4 v5)))))
 pH)
 (pb (pN (pF u v6 rL)
 (pb (pJ 7 rq (pE U2 (pI (qI G) r G.i (qT U1 pk (pQ qu rfl G.g qp (qc U2))))))
 (pf (pJ 6 rq (pK (qT pq v7 (pE U3 (pI (qI G) r G.i (qT U1 pk (pQ qu rfl G.g qp (qc U3))))))))))
 pH)
 (pf (pA v6))))))))))))),?_⟩)
 rintro ds M Q ⟨A,V,l,c,o,n,own,nm,rfl,rd,wf,ha,ho,hn,one,nne,ol,nl,q⟩
 have hz:=dO;refine Qq (t:=EW _ _) (λδ M'=>qw M M'/\∃r,oR M' r=some (Hc.map D.str)/\δ=[some (.ref A.b),some (.int c),some (.ref o),some (.ref n),some (.ref r),none,none,none]) (λnx h=>?_) ?_
 .have Yj:∀{N:Mp} {δ:uX} (w0:Str) (m:Int) (nx:DK),qw M N->(0<=m/\m<=10)->(∀r N',qw M N'->qw N N'->oR N' r=some ((List.replicate m.toNat w0).map D.str)->nx (.ref r) N')->Ul (S8 (vc (L3.c3 (.str w0)) xy)) (L3.c3 (.int m)) δ N nx:=λ{N δ} w0 m nx sn hm WB=>by refine⟨oZ rfl,λr1 Xa=>?_⟩;refine i' pC ⟨⟨by omega,by omega,by show 1<=1000;decide⟩,λr2 YK=>?_⟩;have t:=(qw.new (c:=.lst [D.str w0]) Xa).trans (qw.new (c:=.lst (List.replicate m.toNat [D.str w0]).flatten) YK);refine WB r2 _ (sn.trans t) t (pC.trans (eP some ?_));rw[List.map_replicate];exact DM _ _
  have Xw:∀{N:Mp} {p r:Addr} {xs ys:QQQ} (nx:DK),qw M N->oR N p=some (xs.map D.str)->oR N r=some (ys.map D.str)->xs.length+ys.length<=100->(∀r N',qw M N'->oR N' r=some ((xs++ys).map D.str)->nx (.ref r) N')->UG .Add (.ref p) (.ref r) N nx:=λ{N p r xs ys} nx sn hx hy hl WB=>by refine i' hx (i' hy ⟨by rw[cT,cT];omega,λr2 YK=>?_⟩);refine WB r2 _ (sn.trans (.new YK)) (pC.trans (eP some ?_));rw[dF]
  dsimp only[EW,o3];refine Yj "call" 5 _ .refl (by decide) λp1 N1 s1 _ l1=>Yj "answer" 5 _ s1 (by decide) λq2 N2 s2 t2 l2=>Xw _ s2 (t2.lst l1) l2 (by decide) λp2 N3 s3 l3=>Yj "hang" 2 _ s3 (by decide) λq4 N4 s4 t4 l4=>Xw _ s4 (t4.lst l3) l4 (by decide) λp5 N5 s5 l5=>Yj "hold" 3 _ s5 (by decide) λq6 N6 s6 t6 l6=>Xw _ s6 (t6.lst l5) l6 (by decide) λp7 N7 s7 l7=>⟨oZ rfl,λr8 hr8=>?_⟩;have t8:=qw.new (c:=.lst ((["back","hand","join"]:QQQ).map D.str)) hr8;exact Xw (ys:=["back","hand","join"]) _ (s7.trans t8) (t8.lst l7) pC (by decide) λp9 N9 s9 l9=>Yj "turn" 3 _ s9 (by decide) λq10 N10 s10 t10 l10=>Xw _ s10 (t10.lst l9) l10 (by decide) λp11 N11 s11 l11=>h _ _ ⟨s11,p11,l11,rfl⟩
 rintro δ M1 ⟨s1,r,lr,rfl⟩
 have s1n:=s1.lst hn;have s1o:=s1.lst ho;obtain⟨hp,w0,hw,ew⟩:=uJ D.str (show Hc≠[]from fK _ _) c 48271;refine i' lr ⟨c,_,_,rfl,hp,i' lr (i' ew ?_)⟩;obtain⟨Yq,x1,hx1,ex1⟩:=uJ D.str one c 16807;obtain⟨WD,x2,hx2,ex2⟩:=uJ D.str nne c 39373;have Yh:=rd.sub s1;have lc:((A.cs.map λk=>D.ref k.p).length:Int)=(V.calls.length:Nat):=by rw[cT,rd.bd.len]
 clear lr hp ew;have hw:w0="call"\/w0="turn"\/Sk w0:=by unfold Hc at hw;simp only[df,dC,eX]at hw;unfold Sk;rcases hw with h|h|h|h|h|h|h|h|h|h|h|h|h|h|h|h|h|h|h|h|h<;>simp[h]
 have Wt:∀M' (e:tZ),qw M1 M'->e.nz->∃Wu,qw Wu M'/\Q e.d Wu:=λM' e s f=>⟨M',.refl,q M' e (s1.trans s) f⟩;rcases hw with rfl|rfl|hw
 .refine⟨oZ rfl,c,_,_,rfl,by decide,qD (c:=draw c 950706376 9==0) (λ_=>pj Yh.bd.at_ (i' rfl (i' Yh.bd.ca ?_))) (λ_=>?_)⟩
  .rw[lc];exact⟨c,o,n,own,nm,V.calls.length,rfl,s1o,s1n,ol,nl,rd.k,Wt⟩
  exact i' s1o ⟨c,_,_,rfl,Yq,i' s1o (i' ex1 (i' s1n ⟨c,_,_,rfl,WD,i' s1n (i' ex2 ⟨oZ rfl,Wt M1 (.call x1 x2) .refl trivial⟩)⟩))⟩
 .exact⟨oZ rfl,oZ rfl,Wt M1 .turn .refl trivial⟩
 have lany:IZ [.int c,.ref o,.ref n,.int ((V.calls.length:Nat):Int)] M1 λd M'=>∃Wu,qw Wu M'/\Q d Wu:=⟨c,o,n,own,nm,V.calls.length,rfl,s1o,s1n,ol,nl,rd.k,Wt⟩;have hw':=hw;rcases hw with rfl|rfl|rfl|rfl|rfl|rfl
 all_goals
  first
   | refine⟨oZ rfl,oZ rfl,c,_,_,rfl,by decide,qD (c:=draw c 950706376 9==0) (λ_=>pj Yh.bd.at_ (i' rfl (i' Yh.bd.ca ?_))) (λ_=>⟨A,V,l,c,_,rfl,Yh,wf,ha,hw',λM' s=>⟨?_,λe f=>?_⟩⟩)⟩
   | refine⟨oZ rfl,c,_,_,rfl,by decide,qD (c:=draw c 950706376 9==0) (λ_=>pj Yh.bd.at_ (i' rfl (i' Yh.bd.ca ?_))) (λ_=>⟨A,V,l,c,_,rfl,Yh,wf,ha,hw',λM' s=>⟨?_,λe f=>?_⟩⟩)⟩
  .rw[lc];exact lany
  .exact i' (s.lst s1o) ⟨c,_,_,rfl,Yq,i' (s.lst s1o) (i' ex1 (i' (s.lst s1n) ⟨c,_,_,rfl,WD,i' (s.lst s1n) (i' ex2 ⟨oZ rfl,Wt M' (.call x1 x2) s trivial⟩)⟩))⟩
  .cases e with
   | call y z=>exact Wt M' (.call y z) s f
   | num v y ns=>exact Wt M' (.num v y ns) s f
   | turn=>exact Wt M' .turn s f
   | sw b i=>exact Wt M' (.sw b i) s f
def Kf{A A':tH}{M M':Mp}{x:Addr}{c:uN}(st:qQ A M A' M')(h:x∉A.foot)(hx:M x=some c):x∉A'.foot:=λz=>by
 rcases st.2.1 x z with y|y
 .exact h y
 .rw[hx]at y;cases y
theorem IM:∀(n:Nat) (d:D),vg n d=true->vg (n+1) d=true
 | 0,d,h=>by
  cases d with
  | tup ds=>cases h
  | ref _=>cases h
  | ty _=>cases h
  | rl _=>cases h
  | _=>rfl
 | n+1,d,h=>by
  cases d with
  | tup ds=>exact eM.mpr λd hd=>IM n d (eM.mp (show ds.all (vg n)=true from h) d hd)
  | ref _=>cases h
  | ty _=>cases h
  | rl _=>cases h
  | _=>rfl
noncomputable def K0(A:tH)(M:Mp):Mp:=λx=>if x∈A.foot then none else M x
def ET{A:tH}{M:Mp}{x:Addr}{ds:List D}(h:oR M x=some ds)(n:x∉A.foot):oR (K0 A M) x=some ds:=sG (by unfold K0;rw[cY n];exact qg h)
structure Lp(a:Ad)(M0 N M:Mp)(b:Addr)(A:tH)(V:qr)(l:pG)(m:Nat):Prop where
 cu:ut a M0 M b A V l (1+m) (3+2200*m)
 wf:WF l V
 ps:V.ps.length<=3
 own:∀x c,N x=some c->M x=some c/\x∉A.foot
variable {N:Mp}{m:Nat}
def Lp.s(g:Lp a M0 N M b A V l m):qw N M:=λx c e=>(g.own x c e).1
def Lp.sub(g:Lp a M0 N M b A V l m)(s:qw M M'):Lp a M0 N M' b A V l m:=⟨g.cu.sub s,g.wf,g.ps,λx c e=>⟨s x c (g.own x c e).1,(g.own x c e).2⟩⟩
def Lp.nk(g:Lp a M0 N M b A V l m):Lp a M0 N M b A V l (m+1):=⟨g.cu.mono (by omega) (by omega),g.wf,g.ps,g.own⟩
def Lp.after{e:tZ}(g:Lp a M0 N M b A V l m)(hm:m<=63)(f:e.nz)(hr:xp l V e=none)(cu:ut a M0 M' b A' (qC V (vN l V e)) l (1+m+1) (3+2200*m+40+33*(1+m)))(st:qQ A M A' M'):Lp a M0 N M' b A' (qC V (vN l V e)) l (m+1):=⟨cu.mono (by omega) (by omega),Tz g.cu.ok g.wf f hr,by rw[TM g.cu.ok g.wf f hr];exact g.ps,λx c h=>⟨st.1 x c (g.own x c h).2 (g.own x c h).1,Kf st (g.own x c h).2 (g.own x c h).1⟩⟩
def Lp.rd(g:Lp a M0 N M b A V l m)(hm:m<=64):Rd a M A V l:=g.cu.rd (by omega) g.wf
def Lp.mk0(cu:ut a M0 M b A V l 1 3)(wf:WF l V)(ps:V.ps.length<=3):Lp a M0 (K0 A M) M b A V l 0:=⟨cu,wf,ps,λx c e=>by
 unfold K0 at e;split at e
 .cases e
 .rename_i h;exact⟨e,h⟩⟩
def Lp.start{a:Ad}{M0 M:Mp}{b p:Addr}{A:tH}{h:Int}{l:pG}(ok:rM l)(pl:sW a M0 p l)(hb:M0 b=none)(eb:A.b=b)(kp:rV b (pD M0 b (.ins a.c [])) M)(fr:∀x∈A.foot,x=b\/pD M0 b (.ins a.c []) x=none)(bd:pL a M A (V0 p h l [])):ut a M0 M b A (V0 p h l []) l 1 3/\WF l (V0 p h l [])/\(V0 p h l []).ps.length<=3:=by
 have t:=qw.new (c:=.ins a.c []) hb;refine⟨⟨bd,pl,λx c e=>kp x c (OI e hb) (t x c e),λx hx=>?_,eb,⟨eE _,eE _,eE _,Dy ok,λk hk=>by cases hk⟩,ok,cT ..⟩,U9 ok,Dy ok⟩;rcases fr x hx with z|z
 .rw[z];exact hb
 .exact t.none z
def GQ{ns:List Int}{m:Int}(h2:2<=m)(h:m<=100):2<=(vf ns m).mJ.length:=by have:=(wM (s:=cell ns 0) h2 h).2;show 2<=((List.range (rA (cell ns 0) m)).map _).length;rw[cT,eC];exact this
def Rl(a:Ad):rh:=λds M Q=>B1 λns m=>ds=[.rl (List.map D.int ns),.int m]/\2<=m/\m<=8/\∀M0 M' A p h,qw M M0->ut a M0 M' A.b A (V0 p h (vf ns m) []) (vf ns m) 1 3->WF (vf ns m) (V0 p h (vf ns m) [])->(V0 p h (vf ns m) []).ps.length<=3->Q (.ref A.b) M'
def JE(a:Ad):rh:=λds M Q=>Df λA V l=>ds=[.ref (tH.b A)]/\Rd a M A V l/\∀M' r ro rn,qw M M'->M ro=none->M rn=none->oR M' r=some [.ref ro,.ref rn]->oR M' ro=some (l.pn.map D.str)->oR M' rn=some (l.nm.map D.str)->Q (.ref r) M'
def RA:Fq P w K mg base 10 a.bq (Rl a):=by
 refine fq G.bq.toDG vC (λr u=>⟨_,(pb (E2 (pI (KP G) r G.bk (rW v0 U1)) (uz (n:=3) rfl (qe (qZ 2 vC) (qe (qZ 3 vC) (qe (qZ 4 vC) sS)))))
 (pf (pA (uZ (L5 G) r G.c G.b5 G.ai.toDG (rW (uZ (Ob G) r G.h G.b6 G.aj.toDG (qT U2 U3 v4)) (pI (qI G) r G.i (qT (pI (MK G) r G.P (rW v0 pk)) pk pk))))))),?_⟩)
 rintro ds M Q ⟨ns,m,rfl,h2,h8,q⟩
 have ok:rM (vf ns m):=NQ h2 h8;refine⟨ns,m,rfl,h2,h8,λr1 r2 r3 M1 s1 e1 e2 e3=>⟨rfl,?_⟩⟩;generalize vf ns m=l at e1 e2 e3 ok q;refine λp hp=>?_;have t2:=qw.new (c:=.ins a.h []) hp;refine⟨p,r1,r2,r3,l,rfl,pP,t2.lst e1,t2.lst e2,t2.lst e3,ok,λM2 kp pa _=>⟨rfl,?_⟩⟩;have s2:qw M1 M2:=λx c e=>kp x c (OI e hp) (t2 x c e);refine⟨ns,0,rfl,_,_,_,rfl,by decide,λb hb=>?_⟩;have t5:=qw.new (c:=.ins a.c []) hb;have npb:p≠b:=λz=>by obtain⟨ph,gr,ws,XO,pr,gd,rs,i1,_⟩:=pa;rw[z,hb]at i1;cases i1
 refine⟨b,p,_,[],l,rfl,pP,pa.sub t5,ok,npb,(λx hx=>by cases hx),λM5 A eb kp fr bd=>⟨rfl,M5,.refl,?_⟩⟩;obtain⟨cu,wf,ps⟩:=Lp.start ok pa hb eb kp fr bd;subst eb;exact q M2 M5 A p _ (s1.trans s2) cu wf ps
def JS:Fq P w K mg base 1 a.br (JE a):=by
 refine fq G.br.toDG zd (λr u=>⟨_,(pb (vt (i:=1) zd.nd rfl (Or.inl rfl) rfl (yh (ix:=[none]) (N':=["_law_phone"])) (qH (pB (pB v0))) (qF 0) rO (pE v0 pk))
 (pf (pA (qB (rW U1 (pT U1 (qJ rfl (yh (ix:=[none]) (N':=["_law_group"])) (qH (pB (pB v0))) (qF 0) rO (pE v0 pk)))))))),?_⟩)
 rintro ds M Q ⟨A,V,l,rfl,rd,q⟩
 have hz:=dO;have p8:=rd.ok.p8;have g3:=rd.ok.g3;have pl:l.pn.length=l.mJ.length:=cT ..;obtain⟨ph,gr,ws,XO,pr,gd,rs,i1,i2,i3,_⟩:=rd.pl;refine pj rd.bd.at_ (i' rfl (pj i1 (i' rfl (i' i2 (qX (f:=AO) i2 _ [] _ (by rw[cT];simp only[dM];omega) (λd hd k hk=>?_) λro hro=>?_)))))
 .obtain⟨x,_,rfl⟩:=dB.mp hd;exact hk
 rw[dY,wR];have t3:=qw.new (c:=.lst ((l.mJ.map (·.1)).map D.str)) hro;have lo:oR (pD M ro (.lst ((l.mJ.map (·.1)).map D.str))) ro=some (l.pn.map D.str):=pC;show Af (pD M ro (.lst ((l.mJ.map (·.1)).map D.str)) A.b) _;generalize pD M ro (.lst ((l.mJ.map (·.1)).map D.str))=M3 at lo t3 ⊢;refine pj (t3 _ _ rd.bd.at_) (i' rfl (pj (t3 _ _ i1) (i' rfl (i' (t3.lst i3) (qX (f:=AO) (t3.lst i3) _ [] _ (by rw[cT];simp only[dM];omega) (λd hd k hk=>?_) λp hp=>?_)))))
 .obtain⟨x,_,rfl⟩:=dB.mp hd;exact hk
 rw[dY,wJ];have t:=qw.new (c:=.lst ((l.groups.map (·.1)).map D.str)) hp;refine i' (t.lst lo) (i' pC ⟨by rw[cT,cT,cT];omega,λrn hrn=>⟨oZ rfl,λr hr=>?_⟩⟩);have t2:=t.trans (.new (c:=.lst (l.pn.map D.str++(l.groups.map (·.1)).map D.str)) hrn);have t3':=t2.trans (.new (c:=.lst [D.ref ro,.ref rn]) hr);refine⟨_,.refl,q _ r ro rn (t3.trans t3') hro ((t3.trans t).none hrn) pC (t3'.lst lo) ((qw.new hr).lst ?_)⟩;rw[pC,<-dF];rfl
noncomputable def Hb(l:pG)(V:qr)(i:Nat)(c:Str):uK->List Ev
 | .breaks z=>(sD V z).elim [] λj=>[.merge i j ((V.calls[j]?).elim [] (·.ms)++[c])]
 | e=>so l V i e
noncomputable def SG(l:pG)(V:qr)(i:Nat)(c:Str)(r:uK×rT):List Ev:=qz i none r.2++(rG i r.2 r.1++Hb l V i c r.1)
theorem HR{α:Type}(f:α->Str):∀{xs:List α} {x:α},(xs.map f).Nodup->x∈xs->xs.find? (λy=>decide (f y=f x))=some x
 | y::r,x,nd,h=>by
  rw[dS,dQ]at nd;rcases df.mp h with rfl|h
  .rw[List.find?_cons_of_pos (by simp)]
  .rw[List.find?_cons_of_neg (by
    simp only[eh];exact λz=>nd.1 (dB.mpr ⟨x,h,z.symm⟩)),HR f nd.2 h]
def Lf(a:Ad):rh:=λds M Q=>Sl λA V l (i:Nat) z x ps=>ds=[.ref (tH.b A),.int i,.str z,names (x::ps)]/\Rd a M A V l/\x∈l.mG z/\∀r M',qw M M'->oR M' r=some ((so l V i (.rings z (x::ps))).map Ev.d)->Q (.ref r) M'
def Ou(a:Ad):rh:=λds M Q=>P' λA V l (i:Nat) c e st q=>ds=[.ref (tH.b A),.int i,.str c,uK.d e,.ref q]/\Rd a M A V l/\oR M q=some (qE st)/\DE l V c e/\V.calls.length<=1000/\∀r M',qw M M'->oR M' r=some ((rG i st e++Hb l V i c e).map Ev.d)->Q (.ref r) M'
def JR(a:Ad):rh:=λds M Q=>P' λA V l (i:Nat) c z r way=>ds=[.ref (tH.b A),.int i,.str c,.str z,.ref r]/\Rd a M A V l/\WF l V/\z∈l.nm/\(∀x∈way,x∈l.nm)/\oR M r=some (List.map D.str way)/\way.length<=800000/\V.calls.length<=1000/\((SG l V i c (sv l V c z way)).length<=100->∀q M',qw M M'->oR M' q=some ((SG l V i c (sv l V c z way)).map Ev.d)->Q (.ref q) M')
def Sv{α:Type}{f:α->D}{xs:List α}{pre post:List D}{d:D}(e:pre++d::post=xs.map f):∃x,xs[pre.length]?=some x/\d=f x/\xs.take (pre.length+1)=xs.take pre.length++[x]:=by
 have h:(xs.map f)[pre.length]?=some d:=by rw[<-e];simp
 rw[dA]at h;cases hx:xs[pre.length]? with
 | none=>rw[hx]at h;cases h
 | some x=>rw[hx]at h;refine⟨x,rfl,(dh h).symm,?_⟩;rw[gj,hx];rfl
def IS{M M':Mp}{p:Addr}{c:uN}(hp:M p=none)(s:qw M M'):qw M (pD M' p c):=λx d e=>rV.put x d (OI e hp) (s x d e)
def MU{α:Type}{f:α->D}{ss:List α}{x:α}(h:ss.getLast?=some x):vD (ss.map f) (-1)=some (f x):=by
 have hp:0<ss.length:=by cases ss with|nil=>cases h|cons _ _=>exact lu _
 unfold vD;have e:EG (ss.map f).length (-1)=some (ss.length - 1):=by
  rw[cT];unfold EG;have:¬((-1:Int)>=0):=by decide
  simp;omega
 rw[e];show(ss.map f)[ss.length - 1]?=_;rw[dA,<-gJ,h];rfl
theorem xV(i:Nat):∀(st:rT) (o:Option Str),(qz i o st).length<=2*st.length
 | [],none=>eE _
 | [],some _=>eE _
 | (z,fs)::r,none=>by have:=xV i r (some z);show(qz i (some z) r).length+1<=2*(r.length+1);omega
 | (z,fs)::r,some y=>by have:=xV i r (some z);show(qz i (some z) r).length+1+1<=2*(r.length+1);omega
def Ir(l:pG)(V:qr)(i:Nat)(c:Str)(en:uK)(st:rT):(SG l V i c (en,st)).length<=2*st.length+3:=by
 have e1:=xV i st none;have e2:(rG i st en).length<=1:=by
  unfold rG;split
  .cases st.getLast? with
   | none=>exact eE _
   | some s=>exact dg _
  .exact eE _
 have e3:(Hb l V i c en).length<=2:=by
  cases en with
  | rings z ps=>
   show((if _ then _ else _)++[_]:List Ev).length<=2;rw[cV];split
   .exact dg _
   .exact gg _
  | breaks z=>
   show((sD V z).elim [] _).length<=2;cases sD V z with
   | none=>exact eE _
   | some j=>exact gg _
  | _=>exact gg _
 unfold SG;rw[cV,cV];dsimp only;omega
def JD{n:Nat}{pre post:List D}{d:D}(e:pre++d::post=(List.range n).map λi=>D.int (0+(i:Nat))):d=.int (0+(pre.length:Nat))/\pre.length<n:=by
 have h:((List.range n).map λi=>D.int (0+(i:Nat)))[pre.length]?=some d:=by rw[<-e];simp
 have hl:pre.length<n:=by
  have:=(cX.mp h).1
  simpa using this
 rw[dA,iW hl]at h;exact⟨(dh h).symm,hl⟩
def K3:Fq P w K mg base 1 a.bt (Lf a):=by
 refine fq G.bt.toDG uM (λr u=>⟨_,(pb (uB e9 rfl (qH (pB (pB v0))) (uz (n:=3) rfl (qe (qZ 4 uM) (qe (qZ 5 uM) (qe (qZ 6 uM) sS))))
 (pf (pN (W3.b3 (uE (pF u v4 U2) (uI (pF u v5 pq))))
 (pb (pJ 7 uM (pT (pT (Ey v6 (qc (pE U3 pk))) pk) (pQ qu rfl G.g qp (qc v6))))
 (pf (pA (qB (rW (pK (qT pq U2 v7)) (pK (qT pq U1 U3)))))))
 pH)))
 (pf (pA (qB (qc (pK (qT pq U1 U3))))))),?_⟩)
 rintro ds M Q ⟨A,V,l,i,z,x,ps,rfl,rd,hx,q⟩
 have hz:=dO;obtain⟨ph,gr,ws,XO,pr,gd,rs,i1,i2,i3,_⟩:=rd.pl;have q1:∀b,(l.mO z=="turns")=b->∀r,M r=none->∃M',qw M' (pD M r (.lst (((if b=true then[Ev.next z (PV (l.mG z) x)]else[])++[Ev.rings i (x::ps)]).map Ev.d)))/\Q (.ref r) M':=λb hb r hr=>⟨_,.refl,q r _ (.new hr) (by subst hb;exact pC)⟩;refine pj rd.bd.at_ (i' rfl (pj i1 (i' rfl (i' i3 (vP (l.groups.map qY) (λpre δ M'=>(M=M'/\∀g∈l.groups.take pre.length,¬(g.1=z/\g.2.1="turns"))/\∃y5 y6 y7 y8,δ=[some (.ref A.b),some (.int (i:Nat)),some (.str z),some (names (x::ps)),y5,y6,y7,y8]) (λ_ _ M' j=>by rw[<-j.1.1];exact i3) _ [] _ _ rfl ⟨⟨rfl,λg hg=>by cases hg⟩,none,none,none,none,rfl⟩ ?_ ?_)))))
 .rintro pre d post e δ M' ⟨⟨rfl,hn⟩,y5,y6,y7,y8,rfl⟩ nx WB
  obtain⟨g,e1,rfl,e2⟩:=Sv e;rw[cV,dP,e2]at WB;have go:¬(g.1=z/\g.2.1="turns")->∀g'∈l.groups.take pre.length++[g],¬(g'.1=z/\g'.2.1="turns"):=λh g' hg=>by
   rcases dX.mp hg with y|y
   .exact hn g' y
   .rw[dq.mp y];exact h
  refine⟨rfl,?_⟩;dsimp only[sO,xk,BO];refine qD (c:=g.1==z) (λc1=>?_) (λc1=>WB _ _ ⟨⟨rfl,go λy=>c1 (by rw[y.1];exact eY _)⟩,_,_,_,_,rfl⟩);refine qD (c:=g.2.1=="turns") (λc2=>?_) (λc2=>WB _ _ ⟨⟨rfl,go λy=>c2 (by rw[y.2];exact eY _)⟩,_,_,_,_,rfl⟩);have c1:=eq_of_beq c1;have eg:l.group z=some g:=by have:=HR (λg:tW=>g.1) (fQ.mp rd.ok.nd).2.1 (qU e1);rw[c1]at this;exact this
  have ep:l.mG z=g.2.2:=by unfold pG.mG;rw[eg];rfl
  have em:l.mO z=g.2.1:=by unfold pG.mO;rw[eg];rfl
  have q1:=q1 true (by rw[em];exact c2);rw[ep]at hx q1;have ej:=AX x g.2.2 hx;have lpos:0<g.2.2.length:=j4 hx;have el:((g.2.2.map D.str).length:Int)=g.2.2.length:=by rw[cT]
  refine i' (w9 _ _) ⟨rfl,qk _,i' ej ⟨by rw[el];omega,?_⟩⟩;rw[el];exact⟨oZ rfl,oZ rfl,oZ rfl,q1⟩
 .rintro δ M' ⟨⟨rfl,hn⟩,y5,y6,y7,y8,rfl⟩
  rw[cT,fD]at hn;have em:(l.mO z=="turns")=false:=by
   unfold pG.mO;cases eg:l.group z with
   | none=>rfl
   | some g=>have h1:=jU eg;have h2:=fN eg;rw[dG];exact λy=>hn g h2 ⟨fv h1,eq_of_beq y⟩
  exact⟨oZ rfl,oZ rfl,q1 false em⟩
def Nx:Fq P w K mg base 4 a.bu (Ou a):=by
 refine fq G.bu.toDG yJ (λr u=>⟨_,(pb (pN (pF u (pE U3 pk) pq)
 (pf (pA (pI (K3 G) r G.bt (pR v0 (qT U1 (pE U3 pk) (pE U3 pk))))))
 pH)
 (pb (pN (pF u (pE U3 pk) pq)
 (pf (pA (qB (qc (pK (qT pq U1 (pE U3 pk)))))))
 pH)
 (pb (pN (pF u (pE U3 pk) pq)
 (pb (pJ 5 yJ (pU v0 G.c.toCls G.J (wW G) r (qc (pE U3 pk))))
 (pf (pA (qB (qc (pK (pR pq (qT U1 v5 (pT (qx ue rfl G.H ua (qc (pB (pE (pB v0) v5)))) (pK (qc U2)))))))))))
 pH)
 (pb (pN (W3.b3 (uE (pF u (pE U3 pk) pq) (uI (pF u v4 (qB sm)))))
 (pb (pJ 6 yJ (pE (pE v4 (Bi pk)) pk))
 (pf (pA (qB (rW (pK (pR pq (pR U1 (qT v6 (pE (pE U3 pk) pk) v6)))) (pK (qT pq U1 pq)))))))
 pH)
 (pf (pA (qB (qc (pK (qT pq U1 (pE U3 pk))))))))))),?_⟩)
 rintro ds M Q ⟨A,V,l,i,c,e,st,r,rfl,rd,lr,he,hc,q⟩
 have hz:=dO;have Wt:∀es,rG i st e++Hb l V i c e=es->∀M1,qw M M1->∀r,M1 r=none->∃M',qw M' (pD M1 r (.lst (es.map Ev.d)))/\Q (.ref r) M':=λes h M1 s r hr=>⟨_,.refl,q r _ (s.trans (.new hr)) (by rw[h];exact pC)⟩;cases e with
 | rings z ps=>obtain⟨hz,WL,hps⟩:=he;obtain⟨x,ps',rfl⟩:=fA WL;have hx:=(Cn.1 x (by rw[<-hps];exact dN)).2;exact⟨A,V,l,i,z,x,ps',rfl,rd,hx,λr M' s lr=>⟨M',.refl,q r M' s lr⟩⟩
 | waits z=>exact⟨oZ rfl,oZ rfl,Wt [.waits i z] rfl M .refl⟩
 | breaks z=>obtain⟨x,rfl,hb⟩:=he;obtain⟨j,k,ej,ek,_,_,XN,_⟩:=Ci hb;obtain⟨kb,ekb,ca⟩:=rd.call ek;obtain⟨ZE,ZF,g1,g2,g3,g4,_⟩:=ca;refine pj rd.bd.at_ ⟨rfl,_,⟨rfl,rfl⟩,A,V,z,rfl,rd.bd,by omega,?_⟩;rw[show yo V z=.int (j:Nat)from by unfold yo;rw[ej];rfl];refine pj rd.bd.at_ (i' rfl (i' rfl (i' rd.bd.ca (i' (rc ekb) (pj g1 (i' rfl (i' g4 ?_)))))));refine⟨oZ rfl,(by intro y;rw[kM]at y;rw[y]at XN;cases XN),(by rw[cT,XN];show 2+1<=sizeLine;omega),?_⟩;rw[show k.ms.map D.str++[D.str x]=(k.ms++[x]).map D.str by rw[dF];rfl];refine⟨oZ rfl,oZ rfl,Wt [.merge i j (k.ms++[x])] ?_ M .refl⟩;show(sD V z).elim [] _=_;rw[ej];show[Ev.merge i j ((V.calls[j]?).elim [] (·.ms)++[x])]=_;rw[ek];rfl
 | engaged z=>exact⟨oZ rfl,oZ rfl,Wt [.over i "engaged"] rfl M .refl⟩
 | barred=>exact⟨oZ rfl,oZ rfl,Wt [.over i "barred"] rfl M .refl⟩
 | ring ns=>
  obtain⟨n0,nr,rfl⟩:=fA (show ns≠[]from he);refine⟨oZ rfl,λr0 YL=>?_⟩;have t2:=qw.new (c:=.lst []) YL;refine i' (KR (t2.lst lr) pC) ?_;have lr:=t2.lst lr;generalize pD M r0 (.lst [])=M2 at t2 lr ⊢;cases el:st.getLast? with
  | none=>rw[gf]at el;subst el;exact⟨oZ rfl,oZ rfl,Wt [.over i "ring"] rfl M2 t2⟩
  | some s=>
   have ne:(qE st).isEmpty=false:=by cases st with|nil=>cases el|cons _ _=>rfl
   rw[ne];refine M9 ?_;refine i' lr (i' (MU el) (i' (w9 _ _) ?_));refine⟨oZ rfl,oZ rfl,oZ rfl,Wt [.leg ⟨i,s.1,n0,s.1⟩,.over i "ring"] ?_ M2 t2⟩;show(st.getLast?).elim [] _++_=_;rw[el];rfl
def J9:Fq P w K mg base 9 a.bv (JR a):=by
 refine fq G.bv.toDG uf (λr u=>⟨_,(pb (E2 (pI (FW G) r G.aa (pR v0 (qT U2 U3 v4))) (uz (n:=2) rfl (qe (qZ 5 uf) (qe (qZ 6 uf) sS))))
 (pb (pJ 7 uf (qB sm))
 (pb (uB e9 rfl (uY rfl G.Z (qc (pQ qu rfl G.g qp (qc v6)))) (qZ 8 uf)
 (pb (pN (pF u v8 pk)
 (pf (pM (rb v7 (qc (pK (pR pq (pR U1 (qT (pE (pE v6 (pT v8 pk)) pk) (pE (pE v6 v8) pk) (pE (pE v6 (pT v8 pk)) pk)))))))))
 pH)
 (pf (pM (rb v7 (qc (pK (pR pq (qT U1 (pE (pE v6 v8) pk) (pE (pE v6 v8) pk))))))))))
 (pf (pA (pT v7 (pI (Nx G) r G.bu (pR v0 (pR U1 (qT U2 v5 v6)))))))))),?_⟩)
 rintro ds M Q ⟨A,V,l,i,c,z,r,way,rfl,rd,wf,Xf,hw,lr,hwl,hc,q⟩
 have hz:=dO;have ro:=xP (V:=V) (c:=c) rd.ok (l.nm.length+1) z way [] Xf hw;refine⟨A,V,l,c,z,r,way,rfl,rd,Xf,wf.nx,lr,by omega,λq1 M1 s1 Xl l1=>⟨rfl,?_⟩⟩;dsimp only[sO,xk,BO];have ro:wx l V c (l.nm.length+1) [] (sv l V c z way):=ro;have nl:l.nm.length<=11:=by have p8:=rd.ok.p8;have g3:=rd.ok.g3;unfold pG.nm pG.pn pG.gn;rw[cV,cT,cT];omega
 generalize sv l V c z way=g at l1 q ro ⊢;obtain⟨en,st⟩:=g;have WJ:st.length<=12:=dW ro.len (by show 0+(l.nm.length+1)<=12;omega);have q:=q (dW (Ir l V i c en st) (by omega));refine⟨oZ rfl,λdu hdu=>?_⟩;have s2:=qw.new (c:=.lst []) hdu;have l2:=@pC M1 du [];generalize pD M1 du (.lst [])=M2 at s2 l2 ⊢;dsimp only[sO];refine Qq (t:=Tw _ _ _) (λδ M'=>(qw M1 M'/\oR M' du=some ((qz i none st).map Ev.d))/\∃y,δ=[some (.ref A.b),some (.int (i:Nat)),some (.str c),some (.str z),some (.ref r),some en.d,some (.ref q1),some (.ref du),y]) (λnx WB=>?_) ?_
 .refine i' (s2.lst l1) ⟨rfl,⟨?_,?_⟩,?_⟩
  .omega
  .rw[show(qE st).length=st.length from cT ..];omega
  refine vP ((List.range ((qE st).length:Int).toNat).map λn=>D.int (0+(n:Nat))) (λpre δ M'=>(qw M1 M'/\oR M' du=some ((qz i none (st.take pre.length)).map Ev.d))/\∃y,δ=[some (.ref A.b),some (.int (i:Nat)),some (.str c),some (.str z),some (.ref r),some en.d,some (.ref q1),some (.ref du),y]) (λ_ _ _ _=>trivial) _ [] _ _ rfl ⟨⟨s2,l2⟩,none,rfl⟩ ?_ ?_
  .rintro pre d post e δ M' ⟨⟨s3,l3⟩,y,rfl⟩ nx2 YQ
   obtain⟨rfl,WA⟩:=JD e;rw[show(qE st).length=st.length from cT ..,gZ]at WA;rw[cV,dP]at YQ;generalize pre.length=m at l3 WA YQ;have h1:st[m]?=some st[m]:=cW WA;generalize st[m]=s1 at h1;obtain⟨z1,f1⟩:=s1;have et:st.take (m+1)=st.take m++[(z1,f1)]:=by rw[gj,h1];rfl
   rw[et,wC]at YQ;have e1:vD (qE st) (0+(m:Int))=some (.tup [.str z1,va f1]):=by rw[lw];exact ur (by unfold qE;rw[dA,h1];rfl)
   have lq:=s3.lst l1;have sl:=xV i (st.take m) none;rw[fm]at sl;refine Qq (t:=K6 _ _ _) (λδ M4=>(qw M1 M4/\oR M4 du=some ((qz i none (st.take m)++(match yY none (st.take m)with|none=>[]|some y=>[Ev.leg ⟨i,y,z1,y⟩])).map Ev.d))/\δ=[some (.ref A.b),some (.int (i:Nat)),some (.str c),some (.str z),some (.ref r),some en.d,some (.ref q1),some (.ref du),some (.int (0+(m:Nat)))]) (λVB h=>?_) ?_
   .refine qD (c:=decide ((0+((m:Nat):Int))>0)) (λg=>?_) (λg=>?_)
    .have hm:0<m:=by have:=fv g;omega
     have h0:st[m - 1]?=some st[m - 1]:=cW (by omega);generalize st[m - 1]=s0 at h0;obtain⟨z0,f0⟩:=s0;have e0:vD (qE st) (0+(m:Int) - 1)=some (.tup [.str z0,va f0]):=by rw[show(0+(m:Int) - 1)=((m - 1:Nat):Int)by omega];exact ur (by unfold qE;rw[dA,h0];rfl)
     have el:yY none (st.take m)=some z0:=by rw[CB,gJ,fm,jT (by omega),jy (by omega),h0];rfl
     rw[el]at h;refine⟨by show(oR M' du).isSome=true;rw[l3];rfl,i' lq (i' e0 (i' lq (i' e1 (i' lq (i' e0 ⟨oZ rfl,i' l3 ⟨?_,h _ _ ⟨⟨IS hdu s3,?_⟩,rfl⟩⟩⟩)))))⟩
     .rw[cT];omega
     .rw[dF];exact pC
    .have hm:m=0:=by
      cases m with
      | zero=>rfl
      | succ k=>exact absurd (dR (by omega)) g
     subst hm;exact h _ _ ⟨⟨s3,by rw[mi]at l3 ⊢;exact l3⟩,rfl⟩
   .rintro δ M4 ⟨⟨s4,l4⟩,rfl⟩
    have lq:=s4.lst l1;refine⟨by show(oR M4 du).isSome=true;rw[l4];rfl,i' lq (i' e1 (i' lq (i' e1 ⟨oZ rfl,i' l4 ⟨?_,YQ _ _ ⟨⟨IS hdu s4,?_⟩,_,rfl⟩⟩⟩)))⟩
    .rw[cT,cV];split
     .show _+0<_;omega
     .show _+1<_;omega
    .cases yY none (st.take m)with
     | none=>show _=some ((qz i none (st.take m)++[Ev.asks i z1 f1]).map Ev.d);rw[pC,dF,dF,eW];rfl
     | some y=>show _=some ((qz i none (st.take m)++[Ev.leg ⟨i,y,z1,y⟩,.asks i z1 f1]).map Ev.d);rw[pC,dF,dF,eW];rfl
  .rintro δ M' ⟨⟨s3,l3⟩,y,rfl⟩
   rw[cT,eC,show(qE st).length=st.length from cT ..,gZ,fD]at l3;exact WB _ _ ⟨⟨s3,l3⟩,y,rfl⟩
 .rintro δ M' ⟨⟨s3,l3⟩,y,rfl⟩
  have s13:=s1.trans s3;refine⟨A,V,l,i,c,en,st,q1,rfl,rd.sub s13,s3.lst l1,ro.e,hc,λr4 M4 s4 l4=>?_⟩;refine i' (s4.lst l3) (i' l4 ⟨?_,λr5 hr5=>⟨_,.refl,q r5 _ (s13.trans (s4.trans (.new hr5))) ?_⟩⟩)
  .have e1:=Ir l V i c en st;unfold SG at e1;rw[cV]at e1;dsimp only at e1;rw[cT,cT];omega
  .have:oR (pD M4 r5 (.lst ((qz i none st).map Ev.d++(rG i st en++Hb l V i c en).map Ev.d))) r5=some ((qz i none st++(rG i st en++Hb l V i c en)).map Ev.d):=by rw[dF (l₁:=qz i none st)];exact pC
   exact this
variable {V1:qr}{y:Str}
section
variable {k:pz}
structure wF(V V1:qr)(k:pz)(y:Str):Prop where
 ca:V1.calls=V.calls++[k]
 hb:∀x,x≠y->k.hasB x=false
 wt:∀x,k.mQ x=false
 tk:∀x,k.mS x=false
 on:V1.on=V.on
 h:V1.h=V.h
 t:V1.t=V.t
 ps:V1.ps=V.ps
def wF.ring(n:wF V V1 k y)(z:Str):tG l V1 y z=tG l V y z:=by
 unfold tG;refine lJ λx _=>?_;by_cases hx:x=y
 .subst hx;rw[eY];rfl
 .have:um V1 x=um V x:=by unfold um;rw[n.ca,iw,gQ (by rw[n.hb x hx];exact dw),ij,eS]
  unfold tI;rw[this]
def wF.wait(n:wF V V1 k y)(z:Str):wZ V1 z=wZ V z:=by unfold wZ;rw[n.ca,jR];simp[n.wt]
def wF.nj(n:wF V V1 k y)(z:Str):sD V1 z=sD V z:=by unfold sD;rw[n.ca,List.findIdx?_append];simp[n.tk]
def wF.at_(n:wF V V1 k y){z:Str}{j:Nat}(h:sD V z=some j):V1.calls[j]?=V.calls[j]?:=by unfold sD at h;have:=(gK.mp h).1;rw[n.ca,eO this]
def wF.fit(n:wF V V1 k y)(z:Str):zo l V1 y z=zo l V y z:=funext λw=>by
 cases w with
 | night x g f m=>show(_&&AZ f m ((V1.h+V1.t) % 24))=_;rw[n.h,n.t];rfl
 | busy x g=>show(_&&uT l V1 y z)=_;unfold uT;rw[n.ring];rfl
 | wait x=>show(if _ then false else uT l V1 y z&&!(wZ V1 z))=_;unfold uT;rw[n.ring,n.wait];rfl
 | breaks x=>
  show C4 l V1 x y z=C4 l V x y z;unfold C4 uT;rw[n.ring,n.nj];cases e:sD V z with
  | none=>rfl
  | some j=>have:=n.at_ e;simp only[jG,this]
 | _=>rfl
def wF.fits(n:wF V V1 k y)(z:Str):yV l V1 y z=yV l V y z:=by unfold yV F5;rw[n.fit,n.on]
def wF.ends(n:wF V V1 k y)(z:Str):CM l V1 y z=CM l V y z:=by
 have:vI l V1 y z=vI l V y z:=by unfold vI yk;rw[n.ring,n.ps]
 unfold CM;rw[this]
theorem wF.oj(n:wF V V1 k y):∀(m:Nat) (z:Str) (way:QQQ) (st:rT),uR l V1 y m z way st=uR l V y m z way st
 | 0,_,_,_=>rfl
 | m+1,z,way,st=>by unfold uR;rw[n.fits,n.ends];simp only[n.oj m]
def wF.evs(n:wF V V1 k y)(hk:k.cr=y)(e:uK):so l V1 V.calls.length e=Hb l V V.calls.length y e:=by
 cases e with
 | breaks z=>
  show(match sD V1 z,V1.calls[V.calls.length]? with|some j,some c=>[Ev.merge V.calls.length j ((V1.calls[j]?).elim [] (·.ms)++[c.cr])]|_,_=>[])=(sD V z).elim [] _;have hn:V1.calls[V.calls.length]?=some k:=by rw[n.ca,eB (dg _),fW];rfl
  rw[n.nj,hn];cases e:sD V z with
  | none=>rfl
  | some j=>dsimp only;rw[n.at_ e,hk];rfl
 | _=>rfl
end
def Lu{l:pG}{V:qr}{y z:Str}:zh l V y z=[Ev.new V.calls.length y,.leg ⟨V.calls.length,y,z,y⟩]++SG l V V.calls.length y (sv l V y z []):=by
 have e:(qC V [.new V.calls.length y,.leg ⟨V.calls.length,y,z,y⟩]).calls=V.calls++[(wQ y).go z]:=by show(V.calls++[wQ y]).modify V.calls.length _=_;rw[sP (c:=wQ y) (by rw[eB (dg _),fW];rfl),iG _ _ (dg _),fW];rfl
 have n:wF V (qC V [.new V.calls.length y,.leg ⟨V.calls.length,y,z,y⟩]) ((wQ y).go z) y:=⟨e,λx hx=>by
  show((x==y)||hasS [] x)=false;rw[beq_false_of_ne hx];rfl,λx=>rfl,λx=>rfl,rfl,rfl,rfl,rfl⟩
 show _++vO l (qC V _) V.calls.length=_;congr 1;unfold vO;rw[show(qC V [.new V.calls.length y,.leg ⟨V.calls.length,y,z,y⟩]).calls[V.calls.length]?=some ((wQ y).go z)by rw[e,eB (dg _),fW];rfl];have hr:sv l (qC V [.new V.calls.length y,.leg ⟨V.calls.length,y,z,y⟩]) y z []=sv l V y z []:=n.oj _ _ _ _;show qz _ none (sv l (qC V _) y z []).2++(rG _ (sv l (qC V _) y z []).2 (sv l (qC V _) y z []).1++so l (qC V _) _ (sv l (qC V _) y z []).1)=_;rw[hr,n.evs rfl];rfl
seal L3.E3 L3.B3 L3.A3 L3.S3 L3.GX
def KS:rh:=λds M Q=>∃ns:List Int,ds=[.rl (ns.map D.int)]/\ns.length<=63/\Q (.bl true) M
def RU{M:Mp}{x:Addr}{ds:List D}(h:oR M x=some ds):VT M (.ref x)=some (.type "list"):=by show GT (M x)=_;rw[qg h];rfl
def R4{M:Mp}{x y:Addr}{es:List Ev}(h1:oR M x=some (es.map Ev.d))(h2:oR M y=some (es.map Ev.d)):yR M 9 (.ref x) (.ref y)=some true:=JF h1 h2 λd hd=>by obtain⟨v,_,rfl⟩:=dB.mp hd;exact Gs 7 _ (IM 6 _ (Pq v))
def Rc:Fq P w K mg base 17 a.ah KS:=by
 refine fq G.ah.toDG vn (λr u=>⟨_,(pb (pJ 1 vn (pI (RA G) r G.bq (rW v0 pk)))
 (pb (E2 (pI (JS G) r G.br (qc U1)) (Ot (n:=2) rfl (qe (qZ 2 vn) (qe (qZ 3 vn) sS))))
 (pb (uB e9 rfl (qH (sj v0 (sI pk) (sI pk))) (qZ 4 vn)
 (pb (pJ 5 vn (pI (Nf G) r G.bp (pR U1 (qT v4 U2 U3))))
 (pb (pJ 6 vn rL)
 (pb (pN (W3.b3 (uE (pF u (pE v5 pk) pq) (uE (pF u (pE v5 pk) U2) (uI (pF u (pE v5 pk) U3)))))
 (pb (pJ 7 vn (pQ qu rfl G.g qp (qc (pB U1))))
 (pb (pJ 6 vn (qB (rW (pK (qT pq v7 (pE v5 pk))) (pK (pR pq (pR v7 (qT (pE v5 pk) (pE v5 pk) (pE v5 pk))))))))
 (pf (pJ 6 vn (pT v6 (pI (J9 G) r G.bv (pR U1 (pR v7 (qT (pE v5 pk) (pE v5 pk) (qB sm))))))))))
 pH)
 (pb (pJ 8 vn (pI (Oy G) r G.bs (rW U1 v5)))
 (pf (pN (W3.b3 (uE (pF u v6 rL) (uE (xG (vp (pQ Js rfl G.cB Cy (rW v8 (Ta rfl G.cC Su))))) (uI (pF u v8 v6)))))
 (pf (pA yl))
 pH)))))))
 (pf (pA yl))))),?_⟩)
 rintro ds M Q ⟨ns,rfl,hns,q⟩
 have hz:=dO;refine⟨ns,6,rfl,by decide,by decide,λM0 M1 A p h s0 cu wf ps=>?_⟩;have p2:2<=(vf ns 6).mJ.length:=GQ (by decide) (by decide);generalize vf ns 6=l at cu wf ps p2;have p8:=cu.ok.p8;have g3:=cu.ok.g3;have pl:l.pn.length=l.mJ.length:=cT ..;have nl:l.nm.length=l.mJ.length+l.groups.length:=by unfold pG.nm pG.pn pG.gn;rw[cV,cT,cT]
 generalize V0 p h l []=V at cu wf ps;refine⟨A,V,l,rfl,cu.rd (by decide) wf,λM2 r ro rn s2 hro hrn lr lo ln=>i' lr ⟨rfl,?_⟩⟩;dsimp only[sO,xk,BO];have nro:=cu.bd.nM hro;have nrn:=cu.bd.nM hrn;refine λsl YE=>i' pC ?_;have t7:=qw.new (c:=.lst (L3.tM (ns.map D.int) (some 1) (some 64))) YE;have l7:=@pC M2 sl (L3.tM (ns.map D.int) (some 1) (some 64));have hL:(L3.tM (ns.map D.int) (some 1) (some 64)).length<=63:=by unfold L3.tM;rw[fm,fY,cT];omega
 have hLi:∀d∈L3.tM (ns.map D.int) (some 1) (some 64),∃c,d=.int c:=λd hd=>by unfold L3.tM at hd;obtain⟨c,_,rfl⟩:=dB.mp (iR (iQ hd));exact⟨c,rfl⟩
 generalize L3.tM (ns.map D.int) (some 1) (some 64)=L at t7 l7 hL hLi ⊢;have n7:sl∉A.foot:=(cu.sub s2).bd.nM YE;have lo:=t7.lst lo;have ln:=t7.lst ln;have s7:=s2.trans t7;generalize pD M2 sl (.lst L)=M3 at l7 lo ln s7 ⊢;have i9:=Lp.mk0 (cu.sub s7) wf ps;have l7:=ET l7 n7;have lo:=ET lo nro;have ln:=ET ln nrn;generalize K0 A M3=N at i9 l7 lo ln;generalize hb:A.b=b at i9 ⊢;refine vP L (λpre δ M'=>(∃A V,Lp a M0 N M' b A V l pre.length)/\∃y4 y5 y6 y7 y8,δ=[some (.rl (ns.map D.int)),some (.ref b),some (.ref ro),some (.ref rn),y4,y5,y6,y7,y8]) (λ_ _ M' j=>by obtain⟨A,V,g⟩:=j.1;exact g.s.lst l7) _ [] _ _ rfl ⟨⟨A,V,i9⟩,none,none,none,none,none,rfl⟩ ?_ ?_
 .clear i9 n7 s7 t7 YE cu wf ps hb lr nro nrn hro hrn
  rintro pre d post e δ M' ⟨⟨A,V,g⟩,y4,y5,y6,y7,y8,rfl⟩ nx2 WB
  have hx:L[pre.length]?=some d:=by rw[<-e];simp
  have pl5:pre.length<63:=dI (cX.mp hx).1 hL;obtain⟨c0,rfl⟩:=hLi d (qU hx);rw[cV,dP]at WB;generalize pre.length=m at g pl5 WB;dsimp only[sO,xk,BO];have eb:=g.cu.b;subst eb;refine⟨A,V,l,_,ro,rn,l.pn,l.nm,rfl,g.rd (by omega),g.wf,λk hk=>(g.cu.sz.cs k hk).2.1,g.s.lst lo,g.s.lst ln,λz=>by rw[z]at pl;simp only[dM]at pl;omega,λz=>by rw[z]at nl;simp only[dM]at nl;omega,by omega,by omega,λM2 e s f=>?_⟩;have g:=g.sub s;dsimp only[sO];refine Qq (t:=EW _ _) (λδ M3=>M2=M3/\δ=[some (.rl (ns.map D.int)),some (.ref A.b),some (.ref ro),some (.ref rn),some (.int c0),some e.d,some .mM,y7,y8]) (λnx h=>h _ _ ⟨rfl,rfl⟩) ?_
  rintro δ M3 ⟨rfl,rfl⟩
  refine Qq (t:=K6 _ _ _) (λδ M3=>qw M2 M3/\∃dd y7,(dd=.mM\/∃y z du,e=.call y z/\dd=.ref du/\M2 du=none/\oR M3 du=some ((zh l V y z).map Ev.d))/\δ=[some (.rl (ns.map D.int)),some (.ref A.b),some (.ref ro),some (.ref rn),some (.int c0),some e.d,some dd,y7,y8]) (λnx h=>?_) ?_
  .have skip:nx [some (.rl (ns.map D.int)),some (.ref A.b),some (.ref ro),some (.ref rn),some (.int c0),some e.d,some .mM,y7,y8] M2:=h _ _ ⟨.refl,.mM,y7,.inl rfl,rfl⟩;cases e with
   | call y z=>
    refine i' (g.s.lst lo) ⟨rfl,qk _,?_⟩;show if inD (.str y) (l.pn.map D.str)=true then _ else _
    rw[rP];refine qD (c:=hasS l.pn y) (λh1=>?_) (λ_=>skip);refine i' (g.s.lst ln) ⟨rfl,qk _,?_⟩;show if inD (.str z) (l.nm.map D.str)=true then _ else _
    rw[rP];refine qD (c:=hasS l.nm z) (λh2=>?_) (λ_=>skip);have ca:=g.cu.sz.ca;refine pj g.cu.at_ (i' rfl (i' g.cu.bd.ca ?_));rw[cT,g.cu.bd.len];refine⟨oZ rfl,oZ rfl,oZ rfl,λd1 hd1=>?_⟩;have t1:=qw.new (c:=.lst ([Ev.new V.calls.length y,.leg ⟨V.calls.length,y,z,y⟩].map Ev.d)) hd1;have l1:=@pC M2 d1 ([Ev.new V.calls.length y,.leg ⟨V.calls.length,y,z,y⟩].map Ev.d);change ud _ _ _ _ (pD M2 d1 (.lst ([Ev.new V.calls.length y,.leg ⟨V.calls.length,y,z,y⟩].map Ev.d)));generalize pD M2 d1 (.lst ([Ev.new V.calls.length y,.leg ⟨V.calls.length,y,z,y⟩].map Ev.d))=M3 at t1 l1 ⊢;refine⟨oZ rfl,λw0 hw0=>?_⟩;have t2:=qw.new (c:=.lst []) hw0;have g2:=g.sub (t1.trans t2);refine⟨A,V,l,V.calls.length,y,z,w0,[],rfl,g2.rd (by omega),g2.wf,qM.mp h2,(λx hx=>by cases hx),pC,eE _,by omega,λZD q3 M5 s5 l5=>?_⟩;have s25:=t1.trans (t2.trans s5);refine i' ((t2.trans s5).lst l1) (i' l5 ⟨?_,λdu hdu=>h _ _ ⟨s25.trans (.new hdu),.ref du,_,.inr ⟨y,z,du,rfl,rfl,s25.none hdu,?_⟩,rfl⟩⟩)
    .rw[cT,cT];show 2+_<=sizeLine;omega
    .rw[Lu,dF];exact pC
   | turn=>exact skip
   | sw b0 i=>
    cases b0 with
    | true=>exact skip
    | false=>exact skip
   | num wd x ms=>rcases f with⟨rfl|rfl|rfl|rfl,_⟩|⟨rfl|rfl,_⟩<;>exact i' (w9 _ _) skip
  rintro δ M3 ⟨s3,dd,y7,hd,rfl⟩
  have nF:∀x,M2 x=none->x∉A.foot:=λx hx=>g.cu.bd.nM hx;have g:=g.sub s3;refine⟨M0,A.b,A,V,l,_,_,e,rfl,g.cu,by omega,by omega,g.wf,f,λhr M4 A4 r c4 st4 Za=>?_,λw0 _=>?_⟩
  rotate_left
  .have Wt:=WB _ _ ⟨⟨A,V,g.nk⟩,some (.int c0),some e.d,some dd,y7,some (.str w0),rfl⟩;rcases hd with rfl|⟨y,z,du,rfl,rfl,_⟩
   .exact Wt
   .exact i' rfl ⟨λC z=>(by cases z),i' G.cz Wt⟩
  have g4:=(g.after (by omega) f hr c4 st4).sub (.new (c:=.lst ((vN l V e).map Ev.d)) Za);have lr:=@pC M4 r ((vN l V e).map Ev.d);have Wt:=WB _ _ ⟨⟨A4,_,g4⟩,some (.int c0),some e.d,some dd,y7,some (.ref r),rfl⟩;rcases hd with rfl|⟨y,z,du,rfl,rfl,nd,ld⟩
  .exact Wt
  .have ld:=(qw.new (c:=.lst ((vN l V (.call y z)).map Ev.d)) Za).lst (sG (st4.1 du _ (nF du nd) (qg ld)));exact i' (RU lr) ⟨λC z=>(by cases z),i' G.cA (i' (R4 lr ld) (NE Wt))⟩
 .rintro δ M' ⟨⟨A,V,g⟩,y4,y5,y6,y7,y8,rfl⟩
  exact⟨M,s0.trans g.cu.s0,q⟩
end Z
end
structure PySem.W.Fast:Prop where(tw8829461532502619630 tw8748720008593901034 tw8452941515443865711 tw8366297555866598535 tw785224877078815958 tw7270834820661261201 tw6910886981202435547 tw6752588467263708522 tw6521673220381347077 tw5462138185270903932 tw4904410283474209423 tw440655304027235705 tw3239587171207341954 tw2773470089905224917 tw2764925504797649002 tw213159031909268818 tw1934530941385795376 tw17644024481905837957 tw17121240196505253605 tw16657146382770126793 tw15333102227024140889 tw15235312577618009072 tw14033393707260330144 tw1339587604259321580 tw13125139276370740994 tw11967584104783000732 tw11387995215608268772 tw11338416011996414971 tw10884862976132877945 tw13821128923005082911 tw3644944063743103663 tw13605443135656928276 tw5448916574756952063 tw13561456127114170583 tw160051264362890010 tw17843275556110731873 tw14579569901048156716 tw13032824405075758840 tw6812825920563445860 tw16675287873456315211 tw8517509135945191146 tw14818439019802149299 tw14621294813827023765 tw5723066132400081587 tw2095338840934982538 tw10673719106381528812 tw15537476031781246238 tw8793297020747714568 tw11283266066860683379 tw2926340476515612143 tw11356311910328427343 tw5520939537329477489 tw15097726330143991415 tw11673092951374498972 tw11788975969204231957 tw15761164136302607420 tw14101878686802562767 tw3277566578725608883 tw9497669257239786852 tw4127215724310469972 tw17544959546109222149 tw6922565036376579044 tw8408344058938254004 tw18357680121580365043 tw6939593367777690597 tw348528038057954192 tw1071260831033960627 tw545677417557836536 tw7670932197558204753 tw17113922394371430737 tw8421832672772796559 tw878396323448697088 tw8424093161089491863 tw5460076305905406785 tw15295684614452346842 tw1609855199752621460 tw18172726318787770232 tw18310380719962939605 tw3657194463421870152 tw2468179855230029993 tw9152409620548344530 tw472553093957359117 tw17715854731890856146 tw13289706530807485458 tw2999940239641292746 tw12794046325954186788 tw7521081977026756310 tw5433160296930688849 tw6117010142430024615 tw10157798208077415292 tw18087135826931359715 tw15060330076951446959 tw3469749500957678412 tw7841640035946270307 tw13207206947161902661 tw15796369839857115099 tw14512637510875367027 tw10841845119551227938 tw7474299044276054913 tw17235218645882065164 tw2961600438383154012 tw10613173862320352186 tw2607950836895620632 tw3323192874208521815 tw42394576956502505 tw13440735269564996337 tw5041577357164865973 tw13623113597214953201 tw1225753733478385390 tw10053213373596986727 tw13011992610926823025 tw11668715032414709491 tw7943460228768670320 tw12338375654917558192 tw1810705311684075868 tw14901021479658198848 tw15979391334080535688 tw10290598978678685101 tw1154457552288637307 tw5208378043711571819 tw8796292416214860504 tw1881385630838407836 tw4217879852741033522 tw11378361995647974675 tw5586047101592362556 tw6791452873469442356 tw3869792740527334276 tw8906649661302853647 tw2311739635405510374 tw513810843540393369 tw2330479829536227245 tw9396487817488513858 tw14217418238891535611 tw1229384207195605713 tw213568826005575735 tw17665842468811423580 tw17337511811416007054 tw14542762929202530248 tw9846088804526998369 tw11797660109815648223 tw535549389585103969 tw11010616415059894023 tw2272995381535728878 tw6838964620415220383 tw17596847888776740047 tw3409940187714205242 tw446479864049713359 tw2876631344244556284 tw8033517622637358330 tw4839218079053904288 tw7133627089761639485 tw10643792040840185923 tw6756738008085595508 tw3007815240718934188 tw3953059397964022233 tw18150892864655979608 tw3414363775327677148 tw2361320643978360999 tw13222327613595547941 tw7293540699880011108 tw9422928173397585751 tw5489876705360673650 tw6564929372534287932 tw11309596299485233583 tw2375733005860819848 tw8603430734404682439 tw13726379262572549301 tw2047871316875120174 tw16414099556724983069 tw439615529294426673 tw10002001382797334015 tw5580530492935412833 tw17237591255571339407 tw15291935351662673565 tw15479088198398959516 tw10524142808232477705 tw12388915320810822257 tw8606809148205515489 tw9705539955745858914 tw9175685438127872724 tw9492854364263064081 tw330522232892813941 tw8424341082658307375 tw15368137138675643662 tw11202954821273412476 tw6308289491551038916 tw1047050684683280132 tw17750180111416938872 tw2419916478113170608 tw756460071337883676 tw5088654277187742072 tw12727531571536862413 tw4601547090733694274 tw14699035994111992886 tw3722102188593784319 tw5411441018373413674 tw17389650906584272626 tw6942478816401901782 tw16044262450447972106 tw17241917520494071426 tw9440071178949990504 tw738438728952707085 tw12752475872228576638 tw2300403466146093171 tw4833379286621502770 tw4593010462480023448 tw9259010845365025033 tw9316649471820923515 tw3816846537029539316 tw16902940391169582765 tw5563239760189325639 tw13154952100656087066 tw5267116080301457256 tw7934445534494428761 tw4615348841067466594 tw4524640042188176157 tw10457569506145642518 tw6616637443410173792 tw2755806500239562248 tw627826493788574854 tw593500768928593707 tw12127453017016038714 tw4390643469084238835 tw15311658660155396041 tw6723166117045993798 tw475854242841682606 tw15051752719705581815 tw13197682913517526997 tw4075465847982905336 tw11278946121243192630 tw5467794468611087138 tw2272419998312550610 tw14120896530034231814 tw6803947840620110193 tw16630671879561811439 tw4570513585745777135 tw755504194451762048 tw1521360172879047071 tw4250651452013585549 tw17148386426897435738 tw3448511714869530736 tw15645145599169369198 tw16860948647717172864 tw11732696287919024094 tw4103946807199141084 tw8750691086222267764 tw10501916261423750461 tw10028084708184000642 tw8241441411630647152 tw13954265105600009114 tw6930052323954241100 tw14455318434265554439 tw6803470099044958989 tw14220776410951177592 tw9972952805277329254 tw7563509236754010313 tw11059593780906330438 tw9645889930564678143 tw8611228507621767330 tw4707944155347624573 tw13735828114610352025 tw7794911246684878341 tw483000872118660645 tw5439141167709555965 tw12620006668298470889 tw14374673158648842755 tw16487130458918344463 tw17440978727345550220 tw11232262700754993644 tw14537162186836332949 tw13160838774727452166 tw379175153208042067 tw11244611833233990819 tw10393072431541767301 tw2742531313817145932 tw1273164297911492649 tw2680083851407190707 tw14685782576649823671 tw5377212316359209472 tw13545918216909454257 tw8472308729018155942 tw700352814429016163 tw9809974024456593939 tw1773656707241629931 tw15577663693766618995 tw17866529764112525564 tw2900576304377081845 tw8103075560499516751 tw15215901646855300602 tw13506381840256919321 tw15299344137682801690 tw7888520999873629504 tw4819397418910441594 tw10904409497364106586 tw8113992140423527818 tw15256269454586441123 tw12659930074429442884 tw11592287230304404204 tw10694309860586208895 tw3144406041802993293 tw16977720939660940098 tw8835819718073981595 tw18406247118534588604 tw6186731593347774225 tw341931689814774579 tw14471023485703724634 tw9087359571443696751 tw2187055422652235397 tw6801300997061788200 tw10119958061557656557 tw11394001772714454788 tw17059124022133019471 tw8472348933490943115 tw9655604678640814260 tw6578345476101899031 tw11826137994421311972 tw17060037482078325853 tw14099944888586453591 tw18252791551597864142 tw17127468323414773797 tw3091880022170532389 tw3698406708952341762 tw11620991281075043453 tw4757336390532588065 tw3119192737510201865 tw17719990477819578671 tw7241313434542293977 tw4903770485969907391 tw15870216097872385730 tw9151585729086993880 tw7043831368284162192 tw9504612492263796547 tw13443235929602238092 tw4086308060450478603 tw15101729655466270574 tw13906459374794601222 tw7460077651062564594 tw1341600897512392104 tw10057055302684533425 tw3958682772508393922 tw12543096124797030147 tw15426812436565922302 tw14245965075833292717 tw4552806581109331488 tw5069814339386641721 tw8239440552198489947 tw5562047183740020860 tw6296192843941317748 tw6679119940903358552 tw1046441332128239147 tw5823966306095311075 tw13353489577244463686 tw4061642635853346186 tw1231089000649391934 tw10682517757148794590 tw1797343600266287587 tw13358570670056742852 tw3134054771518705054 tw16568224795926047157 tw13543446600750313563 tw548439071934417735 tw1054272755307334500 tw6242541697916164929 tw9410192799606008931 tw18437713032849268017 tw11699772208166633037 tw2204947315527065660 tw6824422766144937994 tw1694497781582914967 tw7049648001647428528 tw10640457216615814702 tw635561832641397998 tw15854116549668257425 tw13324839881708411987 tw12109462002091922857 tw8711035308729797731 tw16454530681484499194 tw14793951512691539076 tw14078224772628346285 tw1161481755876667906 tw12703651071022577256 tw9283836019685871604 tw5909847268680522998 tw416416834817565333 tw17018813068245248586 tw17385659263753845827 tw11882767750028305193 tw7141958302167976798 tw14862202041606643827 tw9828951646985848970 tw7991625681148451933 tw6990828812288096945 tw13151112228755183066 tw12063273824000210421 tw7249730186039506226 tw6121422001888494867 tw16508657684296661421 tw14352124660158211131 tw12211487120166982987 tw5618833762630831053 tw4199548105883527719 tw3806653199823455825 tw16356557667129716080 tw14608502296710645499 tw6095040937652554262 tw18014524004682750743 tw932918360656809059 tw8653424043295504207 tw6250316560983057284 tw4139701260169673048 tw17261440720937474306 tw16141193658276259881 tw15230431110795782170 tw2956311548745454926 tw1623545451235443849 tw13974714517931891433 tw7432585895046895538 tw1997603384416420816 tw12581097666304784270 tw12336300939487737949 tw10293843104062940535 tw7197109964351509532 tw4443759233905888658 tw17902548918552496742 tw17477154648261797538 tw4501674439743723458 tw1801418369359865756 tw3281354793025683819 tw12982410979962617759 tw294997100065199528 tw2100917940063103501 tw16577513060282234569 tw14396021914788591528 tw14538837149141115142 tw9475606567174568686 tw6266211047419314005 tw525909685843804218 tw4553000395956929828 tw8780106657470611084 tw4981650071681442723 tw4407610757361259336 tw14065324016971692677 tw17855630167257487572 tw7587004554584086073 tw4680993025484902177 tw13802559843703702687 tw9185306570393659797 tw8671491408812472195 tw6259295498890821239 tw14321861046237614223 tw16313538911577369469 tw9011387425357753201 tw8225531461047322133 tw423551683898788406 tw355994001483823172 tw18276796752103710579 tw16662829068057251862 tw13498154909160278115 tw7075015565797604245 tw3391668475283565918 tw13706378707335172839 tw13403895895762104840 tw7870370847024447050 tw6092320305787073681 tw14852278227686780878 tw10542768342741251948 tw14374701276213925059 tw10380962572953244650 tw920383633258508032 tw2922945513804124872 tw5194590608268400961 tw7336162167888393102 tw9740536500411940602 tw7309391178686255603 tw12188218149547690810 tw16105370005814046800 tw10491668169690409070 tw4944809089159319693 tw2827383115919839416 tw18329385045231088505 tw9614077916966631807 tw6398058705136908318 tw8681458553504606709 tw12803056387975113605 tw5275102964508558879 tw2944250011725464264 tw2230464266807241474 tw3009031878433122010 tw9817847580069699250 tw8997904971900578559 tw6100487213763900374 tw5705059700543625541 tw4558643571741343010 tw4061091196263329205 tw3884348379246330945 tw15817415618587745447 tw15347845998286708939 tw4604714172937212125 tw13559939459843484484 tw4730894464823539245 tw11178158330751539609 tw4198984233626426820 tw13343677429695839728 tw5296713349155067904 tw2014435701929964837 tw16969082776640533105 tw14846832559054853305 tw1157169434076046892 tw8011126572251220221 tw14854053061662743636 tw5449295934967244482 tw11613595023335472616 tw17845312188326697801 tw14081576888744079565 tw11769092911600563263 tw731172332758595964 tw16898090747261341459 tw10258538403553886696 tw170063174420911687 tw12512246282467834588 tw11200715197128416274 tw1019028380908089433 tw14744279355384560678 tw8473353623224157176 tw4043225974768590265 tw15775490015793203026 tw7574715997399812520 tw6584221421656866931 tw5293787729108796487 tw13877784826087218448 tw2772077347361007697 tw5601274330404265644 tw5237010715180968245 tw18236885854936500859 tw4874979251606598058 tw11039331633302937260 tw7932248737197609126 tw2698685662293667592 tw15737594655739738182 tw1014038378727784029 tw5743997721705642322 tw2657419676884278073 tw16552064120035671184 tw14189540126045141972 tw1537139398427862583 tw8135048809088660489 tw17708824605522216911 tw8855343063489888116 tw1185147397452412515 tw3471853868232496564 tw6090097814338295034 tw12515612828642740132 tw1407660131553966148 tw13479694268941975441 tw4330070257050188388 tw2992342345288127112 tw1972564710959266265 tw5466671925370305983 tw9821402633957792997 tw4719290353974754213 tw1913025645819468395 tw12831112897608246124 tw10948758983547311757 tw17705609186640189478 tw8560068873448448922 tw6623497796632659146 tw6482727813935612031 tw623741633273145874 tw2666114860374067936 tw2291505042742251505 tw2145883080080368684 tw17059619104635182256 tw15338394469995391209 tw13535406279778574855 tw13418146979979282889 tw17730787183817168631 tw10825629605109643000 tw17425813767903419898 tw17012651655218937771 tw9705156978818861072 tw2066437163697876904 tw18414949695647424797 tw18206910625596336282 tw17245863850615880306 tw13649795269529909677 tw9542894146852599840 tw7043435810192300967 tw6530930726032705313 tw5133493494056865988 tw4441083171514277929 tw4273091961763084281 tw3847374919235938704 tw18297480315981871165 tw14841476336824587608 tw10500253105101180591 tw7858253131630779819 tw2886198181349824577 tw1632619156061796112 tw1563271920196790196 tw8924251453875786442 tw5328062774914301284 tw3932909201865673779 tw15976540885004546692 tw12191911695210394031 tw8988384080647578640 tw7761193571175595616 tw7273885485932606422 tw6877369900506217261 tw5287305318540329300 tw4821444296371885242 tw3937621026314239296 tw17912766077359631402 tw17267853946775825402 tw16301161638231604411 tw14438213222255967785 tw1378998385387278431 tw1376421723442288022 tw8178544787115327957 tw754073189485640790 tw5776367834147046379 tw6033000844463623407 tw2533054730622900146 tw16048639714223851189 tw103099755825655360 tw9515307290155277278 tw13088015676134215279 tw4677529722936003669 tw14442477479914391336 tw6380316824550302918:True)
open PySem PySem.W PyProof.Rows L2 L3
def xZqN:Option Obj->Option Obj
|some ⟨_,_,.freed,_⟩=>none
|o=>o
def xZqP (h:Heap):List Nat->Nat->List Obj->List (Option Obj)
|[],_,_=>[]
|a::l,i,r=>bif i.ble a then xZqN (r.drop (a-i)).head?::xZqP h l a (r.drop (a-i)) else h.get? a::xZqP h l i r
theorem xZqQ (h:Heap):∀l i r,r=h.objs.toList.drop i->xZqP h l i r=l.map h.get?
|[],_,_,_=>rfl
|a::l,i,r,e=>by
 unfold xZqP;cases z:i.ble a with
 |false=>exact congrArg (h.get? a::·) (xZqQ h l i r e)
 |true=>
  have d:r.drop (a-i)=h.objs.toList.drop a:=by have:=Nat.le_of_ble_eq_true z;rw [e,List.drop_drop];congr 1;omega
  show xZqN (r.drop (a-i)).head?::xZqP h l a (r.drop (a-i))=_;rw [xZqQ h l a _ d,d,List.head?_drop,Array.getElem?_toList];rfl
def xZqH (K:Params->Frag) (as:List Addr) (e:∀P,as=(K P).map (·.1)) (_:Unit):Hook:=⟨_,λs=>xZqP s.heap as 0 s.heap.objs.toList,λw=>(K w.params).map λp=>some p.2,InK K,λw s x=>InK.of e w s ((xZqQ s.heap as 0 s.heap.objs.toList rfl).symm.trans x),InK.keeps⟩
local macro_rules|`(tactic|o_head ($f $k $a $e))=>`(tactic|o_head (xZqH $k $a $e ()))
set_option maxRecDepth 100000 in
set_option maxHeartbeats 0 in
theorem PySem.Challenge.cw_callboard_k43_calls_made_holds : PySem.Challenge.rw_callboard_k43_calls_made.Holds := by
 w_on;o_law;k_head;(case hw=>w_witness2)
 k_fill
 refine L3.L4 (l:=PySem.Challenge.rw_callboard_k43_calls_made) (sp:=Z.KS) (k:=17) (x:="_law_script") rfl rfl ⟨rfl,by decide,by decide⟩ (λ_ _ Y=>Y) (λns hl=>⟨ns,rfl,hl,rfl⟩) ?F;case F=>
  intro w mg fa h KX G hmg;suffices h:∃a:Z.Ad,Z.Gl _ mg a/\∀(s:Shared) (u:Value),BindsTo s a.ah.d ⟨[u],[]⟩ [("_law_script",u)]by obtain⟨a,g,hb⟩:=h;have e:=hmg.symm.trans g.ah.mg;cases e;exact⟨a.ah.d,hb,λbase _ _=>g.ah.pe ▸ Z.Rc g⟩
  refine'⟨⟨_,_,_,_,_,_,_,_,_,_,_,_,_,_,_,_,_,_,_,_,_,_,_,_,_,_,_,_,_,_,_,_,_,_,_,_,_,_,_,_,_,_,_,_,_,_,_,_,_,_,_,_,_,_,_,_,_,_,_,_,_,_,_,_,_,_,_,_,_,_,_,_,_,_,_,_,_,_,_,_,_,_,_,_,_,_,_,_,_,_,_,_,_,_,_,_,_,_,_,_,_,_,_,_,_,_,_,_,_,_,_,_,_,_,_,_,_,_,_,_,_,_,_,_,_,_,_,_,_,_,_⟩,⟨wm KX G ..,wm KX G ..,wm KX G ..,wm KX G ..,wm KX G ..,wm KX G ..,wm KX G ..,wm KX G ..,wm KX G ..,wm KX G ..,wm KX G ..,wm KX G ..,wm KX G ..,PySem.W.mg_of KX G ?_,PySem.W.mg_of KX G ?_,qm KX G ..,qm KX G ..,qm KX G ..,qm KX G ..,qm KX G ..,qm KX G ..,qm KX G ..,qm KX G ..,qm KX G ..,qm KX G ..,qm KX G ..,qm KX G ..,qm KX G ..,qm KX G ..,qm KX G ..,qm KX G ..,qm KX G ..,qm KX G ..,qm KX G ..,qm KX G ..,qm KX G ..,qm KX G ..,qm KX G ..,qm KX G ..,qm KX G ..,qm KX G ..,qm KX G ..,qm KX G ..,qm KX G ..,qm KX G ..,qm KX G ..,qm KX G ..,qm KX G ..,qm KX G ..,qm KX G ..,qm KX G ..,qm KX G ..,qm KX G ..,qm KX G ..,qm KX G ..,qm KX G ..,qm KX G ..,qm KX G ..,qm KX G ..,qm KX G ..,qm KX G ..,qm KX G ..,qm KX G ..,qm KX G ..,qm KX G ..,qm KX G ..,qm KX G ..,qm KX G ..,qm KX G ..,qm KX G ..,qm KX G ..,qm KX G ..,qm KX G ..,qm KX G ..,qm KX G ..,pW ..,pW ..,pW ..,pW ..,pW ..,pW ..,pW ..,pW ..,pW ..,pW ..,pW ..,pW ..,pW ..,pW ..,pW ..,pW ..,pW ..,pW ..,pW ..,pW ..,pW ..,pW ..,pW ..,pW ..,pW ..,pW ..,pW ..,pW ..,pW ..,pW ..,pW ..,pW ..,pW ..,pW ..,pW ..,pW ..,pW ..,pW ..,pW ..,pW ..,pW ..,pW ..,pW ..,pW ..,pW ..,pW ..,pW ..,pW ..,pW ..,pW ..,pW ..,pW ..,pW ..,pW ..,pW ..,pW ..,Lw ?_ ?_ ?_ ?_ ?_ ?_ ?_ ?_ ?_ ?_,Jn ?_ ?_ ?_,⟨SR ?_ ?_ ?_ ?_ ?_ ?_ ?_ ?_,?_,?_⟩,OE ?_ ?_ ?_ ?_,⟨?_,?_,?_,?_⟩,⟨?_,?_,?_,?_⟩,⟨?_,?_,?_,?_⟩,⟨?_,?_,?_,?_⟩,⟨?_,?_,?_,?_⟩,⟨?_,?_,?_,?_⟩,⟨?_,?_,?_,?_⟩,⟨?_,?_,?_,?_⟩,⟨?_,?_,?_,?_⟩,⟨?_,?_,?_,?_⟩,⟨?_,?_,?_,?_⟩,⟨?_,?_,?_⟩,⟨?_,?_,?_⟩,⟨?_,?_,?_⟩,⟨?_,?_,?_⟩,⟨?_,?_,?_⟩,⟨?_,?_,?_⟩,⟨?_,?_,?_⟩,⟨?_,?_,?_⟩,⟨?_,?_,?_⟩,⟨?_,?_,?_⟩,⟨?_,?_,?_⟩,⟨?_,?_,?_⟩,⟨?_,?_,?_⟩,⟨?_,?_,?_⟩,⟨?_,?_,?_⟩,⟨?_,?_,?_⟩,⟨?_,?_,?_⟩,⟨?_,?_,?_⟩,⟨?_,?_,?_⟩,⟨?_,?_,?_⟩,⟨?_,?_,?_⟩,(pO ?_ (pO ?_ (pO ?_ (pO ?_ (pO ?_ (pO ?_ (pO ?_ (pO ?_ sX)))))))),(pO ?_ (pO ?_ (pO ?_ (pO ?_ (pO ?_ (pO ?_ sX)))))),(pO ?_ (pO ?_ (pO ?_ sX))),(pO ?_ (pO ?_ (pO ?_ sX))),(pO ?_ (pO ?_ (pO ?_ sX))),(pO ?_ (pO ?_ (pO ?_ (pO ?_ (pO ?_ sX))))),(pO ?_ (pO ?_ (pO ?_ sX))),(pO ?_ (pO ?_ (pO ?_ (pO ?_ sX)))),(pO ?_ (pO ?_ sX)),(pO ?_ (pO ?_ sX)),(pO ?_ (pO ?_ (pO ?_ (pO ?_ (pO ?_ (pO ?_ (pO ?_ (pO ?_ sX)))))))),LU,RX Rv ?_ (λ_=>rfl),PySem.W.mg_none_of KX G ?_,PySem.W.mg_none_of KX G ?_,PySem.W.mg_none_of KX G ?_,PySem.W.mg_none_of KX G ?_,PySem.W.mg_none_of KX G ?_,PySem.W.mg_none_of KX G ?_,PySem.W.mg_none_of KX G ?_,PySem.W.mg_none_of KX G ?_,PySem.W.mg_none_of KX G ?_,PySem.W.mg_none_of KX G ?_,PySem.W.mg_none_of KX G ?_,PySem.W.mg_none_of KX G ?_,PySem.W.mg_none_of KX G ?_,vX (PySem.W.mg_of KX G ?_),vX (PySem.W.mg_of KX G ?_),vX (PySem.W.mg_of KX G ?_),vX (PySem.W.mg_of KX G ?_),NS (PySem.W.mg_of KX G ?_) (uk (ss:=["all","turns"]) ?_ (.cons ⟨_,rfl⟩ (.cons ⟨_,rfl⟩ .nil)) (Nat.le_of_ble_eq_true rfl)),vX (PySem.W.mg_of KX G ?_),vX (PySem.W.mg_of KX G ?_),vX (PySem.W.mg_of KX G ?_),QI (PySem.W.mg_of KX G ?_),On (es:=[⟨_,.str "bar" _,.ref _⟩,⟨_,.str "shut" _,.ref _⟩,⟨_,.str "always" _,.ref _⟩,⟨_,.str "night" _,.ref _⟩,⟨_,.str "busy" _,.ref _⟩,⟨_,.str "silent" _,.ref _⟩,⟨_,.str "wait" _,.ref _⟩,⟨_,.str "breaks" _,.ref _⟩]) (PySem.W.mg_of KX G ?_) ?_ ?_ (.cons rfl ⟨_,rfl,(uk (ss:=["phone","names"]) ?_ (.cons ⟨_,rfl⟩ (.cons ⟨_,rfl⟩ .nil)) (Nat.le_of_ble_eq_true rfl))⟩ (.cons rfl ⟨_,rfl,(uk (ss:=["name","phones"]) ?_ (.cons ⟨_,rfl⟩ (.cons ⟨_,rfl⟩ .nil)) (Nat.le_of_ble_eq_true rfl))⟩ (.cons rfl ⟨_,rfl,(uk (ss:=["name","name"]) ?_ (.cons ⟨_,rfl⟩ (.cons ⟨_,rfl⟩ .nil)) (Nat.le_of_ble_eq_true rfl))⟩ (.cons rfl ⟨_,rfl,(uk (ss:=["name","name","hour","hour"]) ?_ (.cons ⟨_,rfl⟩ (.cons ⟨_,rfl⟩ (.cons ⟨_,rfl⟩ (.cons ⟨_,rfl⟩ .nil)))) (Nat.le_of_ble_eq_true rfl))⟩ (.cons rfl ⟨_,rfl,(uk (ss:=["name","name"]) ?_ (.cons ⟨_,rfl⟩ (.cons ⟨_,rfl⟩ .nil)) (Nat.le_of_ble_eq_true rfl))⟩ (.cons rfl ⟨_,rfl,(uk (ss:=["name","name","turns"]) ?_ (.cons ⟨_,rfl⟩ (.cons ⟨_,rfl⟩ (.cons ⟨_,rfl⟩ .nil))) (Nat.le_of_ble_eq_true rfl))⟩ (.cons rfl ⟨_,rfl,(uk (ss:=["phone"]) ?_ (.cons ⟨_,rfl⟩ .nil) (Nat.le_of_ble_eq_true rfl))⟩ (.cons rfl ⟨_,rfl,(uk (ss:=["phone"]) ?_ (.cons ⟨_,rfl⟩ .nil) (Nat.le_of_ble_eq_true rfl))⟩ .nil)))))))),vX (PySem.W.mg_of KX G ?_),vX (PySem.W.mg_of KX G ?_),vX (PySem.W.mg_of KX G ?_)⟩,λs u=>.of_eq rfl⟩
  all_goals try first|k_is|(intro _ _ _ _ _ _ us hl;rcases us with _|⟨_,_|⟨_,_|⟨_,_|⟨_,_|⟨_,_|⟨_,us⟩⟩⟩⟩⟩⟩<;>first|rfl|(exfalso;revert hl;simp;done))|rfl
