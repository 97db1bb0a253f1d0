import PyProof.Rows.All
import Wide.All
import OpenK.AllK
import Wide.FinOn
import Lean
import PyProof.EqAt
import PyProof.EqKinds
import PyProof.TupleCall
import PyProof.DictRoadsH
import PyProof.NeKinds
import KE.KLam
import KE.KNestM
import PyProof.ConsumeWalk
import PyProof.DictIter
import PyProof.DictWalks
import PyProof.ListStr
import PyProof.ZipIter
import PyProof.EnumStmt
import PyProof.ListRange
import PyProof.Rows.SortRuns
import KE.KSortTup
import KE.KSortKey
import PyProof.MinMaxWalk
import KE.KMinBuiltin
import PyProof.DictItems
import PyProof.DictValues
import KE.KDictOf
import PyProof.DictUpdate
import PyProof.DictTruth
import KE.KRevIter
import PySem.Challenge.RW_mustrows_k21_led
set_option Elab.async false
set_option linter.all false
set_option maxRecDepth 100000
set_option maxHeartbeats 4000000
set_option compiler.extract_closed false
set_option bootstrap.genMatcherCode false
set_option tactic.hygienic false
local macro_rules|`(def $i:declId $s:optDeclSig $v:declVal)=>`(noncomputable def $i:declId $s:optDeclSig $v:declVal)
local macro_rules|`(abbrev $i:declId $s:optDeclSig $v:declVal)=>`(noncomputable abbrev $i:declId $s:optDeclSig $v:declVal)
local macro_rules|`(tactic|obtain $p:rcasesPatMed:=$e:term)=>do
  let n:=(p.raw.reprint.getD "").foldl (λn c=>if c==',' then n+1 else n) 0
  let q:=Lean.mkIdent `hzz
  if n<2 then `(tactic|rcases $e:term with $p:rcasesPatMed) else `(tactic|(refine Classical.byContradiction fun $q=>?_;rcases $e:term with $p:rcasesPatMed;refine $q ?_;clear $q))
local macro_rules|`(nonrec theorem $i:declId $s:declSig $v:declVal)=>`(set_option tactic.hygienic true in theorem $i:declId $s:declSig $v:declVal)
local macro_rules|`(tactic|let $x:ident$[:$t]?:=$e)=>`(tactic|have $x:ident$[:$t]?:=$e)
local macro_rules|`(G $x)=>`(Option $x)
local macro_rules|`(Z $x)=>`(List $x)
local macro_rules|`(tactic|simp! [$xs,*] $[$l:location]?)=>`(tactic|simp only [$xs,*] $[$l:location]?)
local macro_rules|`(tactic|let $p:term:=$e:term)=>do
  let P:=`Lean.Parser.Tactic
  let N:=λn a=>Lean.mkNode (P++n) a
  let z:=λa=>Lean.mkNode Lean.nullKind a
  let r:=p.raw.rewriteBottomUp λs=>if s.isIdent then N `rcasesPat.one #[s] else if s.getKind==`Lean.Parser.Term.hole then N `rcasesPat.ignore #[s[0]] else if s.getKind==`Lean.Parser.Term.anonymousCtor||s.getKind==`Lean.Parser.Term.tuple then N `rcasesPat.tuple #[Lean.mkAtom "⟨",z ((if s[1].getNumArgs==3&&s[1][2].getKind==Lean.nullKind then #[s[1][0],s[1][1]]++s[1][2].getArgs else s[1].getArgs).mapIdx λi x=>if i%2==0 then N `rcasesPatLo #[N `rcasesPatMed #[z #[x]],z #[]] else x),Lean.mkAtom "⟩"] else s
  let q:Lean.TSyntax (P++`rcasesPatMed):=⟨N `rcasesPatMed #[z #[r]]⟩
  `(tactic|obtain $q:rcasesPatMed:=$e:term)
local macro_rules|`(tactic|rfl')=>`(tactic|first|with_reducible assumption|(simp_all (maxSteps:=2000);done)|lia)
local macro_rules|`(tactic|lia)=>do
 let F:=λ(n:List Lean.Term) (s:String)=>(s.splitOn " ").map λx=>Lean.Unhygienic.run `(Lean.Parser.Tactic.tacticSeq|exact $(Lean.Syntax.mkApp (Lean.mkIdent (.str `Nat x)) n.toArray))
 let a<-`(by assumption)
 let l:=(F [a] "le_of_lt le_of_lt_succ lt_succ_of_le le_of_not_lt lt_of_not_le"++F [a,a] "le_antisymm lt_of_lt_of_le lt_of_le_of_lt le_trans lt_trans").toArray
 `(tactic|with_reducible first|assumption|(first $[|$l]*)|fail)
local macro_rules|`(⟨⟩)=>`(by rfl')
local macro_rules|`(())=>`(by lia)
local macro_rules|`(⋯)=>`(by simp;lia)
local macro_rules|`(∅)=>`(by decide)
local macro_rules|`(tactic|left)=>`(tactic|dsimp only)
local macro_rules|`(tactic|show $e:term)=>`(tactic|refine $e)
local macro_rules|`(tactic|ext $x:ident)=>`(tactic|first|cases $x:ident|unfold $x)
open List renaming getElem_inj->a_,mapM_cons->b_,mapM_toArray->d_,take_left'->e_,reverse_cons->f_,mem_filterMap->g_,filter_cons->h_,perm_middle->i_,nodup_range->j_,zipIdx_append->k_,sum_append->l_,length_reverse->m_
open PySem renaming wpAny_bind->or,wpAny_pure->Mf,Value->Ml,Shared->Mn,Str->MJ,Addr->MM,Spec->MN,wpAny_holding->MQ,wpAny_call_entry->MT,wpAny_truthy_bool->Ng,Around->Nl,mem_of_lookup->NG,wpAny_setField_rec->NH,wpAny_Call_Name_kw->NI,wpAny_callSpecial?_slot->NK,wpAny_newObj_type->NM,Stmt->NN,wpAny_mono->NO,wpAny_notOrdered_dict->NY,wpAny_passesOwn->N4,wpAny_Call_method_late->N6,wpAny_field->N9,plainId_quiet->Oh,codeAny_builtin->Oj,Program->Ol,wpAny_seqItems->Ot,Builtin->Ou,wpAny_rule->Oz,DictEntry->OB,Heap->OF,wpAny_tryCatch->OO,NameKind->OQ,wpAny_specialOf->OX,World->O0,Scope->O1,wpAny_isInstance->O6,wpAny_Expr_any->O7,wpAny_letGo->Pg,wpAny_typeOf->Pi,call_meets->Pj,wpAny_updateSeq->Po,wpAny_isTrue_Compare1->Pq,wpAny_pyIter_list->Pr,wpAny_dictEntries->Pu,wpAny_Name->Py,IsItemIter->Pz,wpAny_attempt->PJ,wpAny_setField->PR,wpAny_pyNext_list_item->PS,wpAny_pyIter_enum->PT,wpAny_pyNext_list_end->PY,wpAny_typeNameOfWhole_itemiter->P6,wpAny_forIn_list->P7,wpAny_call->P8,wpAny_typeNameOfWhole_keyiter->Qg,wpAny_execs_nil->Qm,list_append->Qu,wpAny_newTuple->QF,slot_dict_contains->QG,callType_codes->QH,wpAny_sequenceKey->QT,wpAny_Return_some->QU,slot_dict_setitem->QV,slot_dict_getitem->QW,sizeLine_eq->QX,Obj->QY,wpAny_typeNameOf_keyiter->Q0,wpAny_standAt->Q1,Pos->Q6,wpAny_Call_method0_late->Q8,Arguments->Re,wpAny_load->Rm,wpAny_isOneOf_itemiter->Rp,codeAny_mono->Rq,evalArgs_none->Rr,wpAny_dictEpoch->Ry,wpAny_pyIter_keyiter->RG,wpAny_of_eq->RH,isSubtype_stop->RI,wpAny_newList->RZ,Result->R8,IsPair->Se,wpAny_callSpecialUnlessNone?_slot->Si,wpAny_pyIter_slot->Sp,wpAny_Assign_Name->Sq,concat_meets->Sv,ItemsOf->SC,noFill_tuple_add->SJ,kt_code_dict_new->SK,IsEnum->SP,wpAny_loadPart'->SY,wpAny_letOwnedTupleGo_items->S7,FuncData->Tn
open List renaming getElem?_eq_some_iff->L9,getElem?_append_left->Me,getElem?_set_ne->Mh,getElem?_eq_getElem->Mq,mem_of_getElem?->Mr,length_map->Ms,map_append->Mu,mem_append->Mw,map_cons->Mx,mem_singleton->My,getElem?_set_self->Mz,mem_cons_of_mem->MA,mem_cons_self->MB,mem_map->MC,length_append->MF,mem_cons->MG,all_eq_true->MH,mem_append_left->MI,getElem?_append_right->MK,getElem?_map->MO,getElem?_take_of_lt->MP,length_filter_le->MS,mem_iff_getElem?->MV,range->MW,length_cons->MX,size_toArray->Nc,all_cons->Ni,mem_filter->Nk,mem_map_of_mem->No,nil_append->Np,nodup_nil->Nr,not_mem_nil->Nt,length_take->Nu,getElem?_cons_succ->Nz,mem_range->NE,getElem?_cons_zero->NF,map_congr_left->NJ,nodup_append->NQ,take_append_of_le_length->NR,length->NS,map_map->NU,length_singleton->NW,nodup_cons->N0,drop_eq_getElem_cons->N5,pairwise_map->N7,mem_zipIdx_iff_getElem?->Oa,set_cons_zero->Oe,set_cons_succ->Of,getElem?_drop->Ox,map_take->OE,getElem_mem->OH,pairwise_cons->OK,getD_eq_getElem?_getD->OL,getElem?_eq_none->ON,pairwise_append->OS,mem_of_mem_take->OT,length_range->OU,filter_eq_self->O3,length_set->O8,foldl_cons->O9,getElem?_toArray->Ph,pairwise_iff_getElem->Pw,append_nil->PC,length_zipIdx->PF,ext_getElem?->PK,mem_append_right->PM,eq_nil_or_concat->PN,concat_eq_append->PP,map_fst_zip->PQ,length_nil->PZ,forIn_cons->P4,length_pos_iff->Qb,take_take->Qj,append_assoc->Qy,take_length->QN,mem_flatMap->QO,getElem?_replicate->QP,zipWith->QZ,replicate->Rg,mem_iff_getElem->Rh,length_zipWith->Rz,sum_cons->RD,take_add_one->RM,map_nil->RN,flatMap_cons->RO,all_map->RP,map_snd_zip->R0,lookup_cons->R4,length_drop->R5,ext_getElem->R6,drop_length->R7,getElem?_zipWith_eq_some->Sa,of_mem_zip->Sk,drop_left'->Sm,perm_ext_iff_of_nodup->SG,length_filterMap_le->SV,pairwise_singleton->S1,Perm->S4,set_set->Ta,drop_of_length_le->Tc,all_nil->Tf,take_append_drop->Ti,length_replicate->Tj,dropLast_eq_take->Tk,set_append_left->To,getElem?_zipIdx->Tp
open PySem.Heap renaming get?_push_of_some->Mg,get?_push_size->Mm,lt_size->MD,get?_update_self->Nf,get?_update_other->Nn,SameBut->Nv,size_push->NL,ExtBut->PH,get?_none_of_le->Ri,update->Tq
open Nat renaming le_refl->Mj,le_trans->ME,ne_of_lt->MU,lt_succ_self->Nj,zero_le->Nw,ne_of_gt->NV,add_sub_cancel_left->NZ,strongRecOn->Oq,le_succ->OA,not_lt_zero->OC,le_of_lt->OD,min_eq_left->Pf,lt_irrefl->PB,le_add_right->PU,blt_eq->PV,blt->QC,sub_self->Q3,testBit_or->Rv,not_lt->RJ,lt_of_lt_of_le->RK,zero_add->RU,mul_succ->RV,lt_trichotomy->RW,testBit_and->SB
open Bool renaming and_eq_true->Mo,false_eq_true->MZ,false_ne_true->Og,and_true->OG,eq_iff_iff->Pe,or_eq_true->P5,not_eq_true'->Qz,not_true->SX
open Ne renaming symm->MR
open PySem.Calls renaming spliced_cons->MY,spliced_nil->Ny,callWith_builtin->NC,evalArgs_plain->Oi,Name_function_global->Pp,loadGlobal_global->QL,call_function_entry->SI
open PySem.Obj renaming mapSeq->Na,mapFields->N2,data_mapFields->OM,isFreed_of_fields->Pk,data_mapDictKeys->Ru,isFreed_of_dict->RC,cls_mapFields->RT
open PyProof.Rows renaming Keyed->Nb,wpS_bind->NP,wpS_pure->Os,callWith_type1->Oy,callWith_builtin1->PE,Subscript_->P9,listUpdate_at->Qf,get?_update_seq->Qn,wpS_forRange->Qw,SortSt->QI,SortKind->Q9,wpS_modify->Rk,wpS_mono->So,tail_any->Sr,isTrue_plain->Su,seqEpoch_at->SQ,wpS_get->S6,boot_enumerate->Th
open PySem.Heap.SameBut renaming update->Nh
open PySem.Str renaming ofString->Nq,length_append->PL
open Classical renaming byContradiction->Nx,not_not->Tg
open Array renaming getElem?_eq_getElem->NA,getElem?_eq_none->N3,getElem?_toList->N8,length_toList->OZ,mem_iff_getElem->Q5,toList_append->Rx,perm_iff_toList_perm->SE,getElem?_eq_some_iff->SF
open Option.some renaming inj->NB,injEq->OJ
open ForInStep renaming yield->NT,done->RX
open PySem.PassesOwn renaming never->NX
open PySem.Value renaming bool->Ob,type->Oo,none->OI
open PySem.Builtin.Tuple renaming tupleHashOf->Om
open PySem.F renaming plain_min_loop->On,plainAttrs_list->OW,slot_dict_itemiterator_next->Pb,plainAttrs_dict->PA,slot_enumerate_next->PX,slot_enumerate_getattribute->Qc,args_list_append_2->Qd,slot_dict_keyiterator_next->Qi,entry_list_append->Qk,type_list_append->Qo,slot_list_append->Qp,args_tuple_add_2->Qq,entry_tuple_add->Qx,slot_tuple_add->QJ,entry_min_loop->QK,slot_tuple_hash->QQ,slot_dict_items->QR,slot_list_getattribute->QS,slot_list_pop->Rj,kt_typeCall_dict_1->RE,args_dict_init_2->RY,entry_dict_init->Sf,type_list_extend->Sw,type_dict_update->Sy,slot_list_extend->Sz,slot_dict_update->SA,kt_called_dict->SD,slot_dict_itemiterator_iter->SH,slot_dict_get->SU,slot_bool_lt->SZ,slot_tuple_iterator_next->S5,args_enumerate_next_1->Ts
open PySem.Shared renaming TypeIs->Ov
open PyProof.Rows.SortSt renaming mk'->OR
open Int renaming toNat_natCast->OV,emod_nonneg->PG,eq_ofNat_of_zero_le->PI,emod_lt_of_pos->Qr
open Option renaming bind_eq_some_iff->OY,map_eq_some_iff->O4,isSome_iff_exists->Qv
open PySem.Builtin.Str renaming strSliceIndices->O5
open List.Pairwise renaming imp_of_mem->Pm,map->PW,nil->Q4,filter->Sc
open PySem.Builtin.List renaming listSameRef->Pn,listExtendWith->RF,listTooLong->RS
open PySem.NameKind renaming free->Pv,cell->Ra
open PySem.W renaming kia_one->Px,CodeHd->Qa,kla_fn->Q2,callWith_K->Rt,keepIn->R9,kat_cons->Ss,view->SN,cellsFrom_some->SO,codeHd_of_K->S9
open PySem.Builtin.Dict renaming showsAll->PD
open PySem.Builtin renaming bitNot->Qe,bitAnd->Sg
open PySem.SeqAt renaming EqAt->Qh
open PySem.AutoSeq1 renaming wpAny_loadPart'->Ql,list_extend_list_list_0->RA
open PySem.Builtin.SmallTypes renaming ownedTupleIsFree->Qt,nextOf->Rb
open LawfulMonad renaming pure_bind->QA
open Sum renaming inl->QB
open Iff renaming rfl->QD
open PySem.Builtin.Dict_items renaming pairFromOwner->QE
open Prod renaming ext->QM
open PySem.Around renaming under_plainId->Q7
open PySem.Builtin.Builtins renaming bindParams->Rc
open Prod.mk renaming injEq->Rf
open PySem.IsL renaming update->RB
open List.cons renaming injEq->RL,inj->Sb
open PySem.Code renaming builtin->RQ
open PySem.PyData renaming keyHash->Sj
open PySem.Heap.IsSliceOf renaming new->Sn
open PySem.Txt renaming join->SL
open PySem.SeqAt.EqAt renaming str_str->SR,int_int->SS
open Eq renaming trans->SW
open Std.Legacy renaming Range->S8
open Option renaming some->U,none->B
open Bool renaming false->Y,true->V
theorem n_{α:Sort u}{c:Prop}{h:Decidable c}(e:c){a b:α}:ite c a b=a:=if_pos e
theorem o_{α:Sort u}{c:Prop}{h:Decidable c}(e:¬c){a b:α}:ite c a b=b:=if_neg e
theorem p_{α:Sort u}{β:Sort v}{a b:α}(f:α->β)(h:a=b):f a=f b:=congrArg f h
open Unit renaming unit->q_
namespace L2
open PySem PySem.W
def lF (s:NN):Re:=match s with
 |.FunctionDef _ a _ _ _ _ _ _ _ _=>a
 |_=>{posonlyargs:=[],args:=[],vararg:=B,kwonlyargs:=[],kw_defaults:=[],kwarg:=B,defaults:=[]}
def bc (s:NN):Z NN:=match s with
 |.FunctionDef _ _ b _ _ _ _ _ _ _=>b
 |_=>[]
def ar (s:NN):O1:=match s with
 |.FunctionDef _ _ _ _ _ _ sc _ _ _=>sc
 |_=>{kind:=.function,names:=[],isGenerator:=Y,isCoroutine:=Y}
def Dc (h:OF):Frag:=(MW h.objs.size).filterMap λa=>(h.get? a).bind λo=>if(o.cls != .none||a==mainGlobals)&&o.cls != .type "list" then U (a,o) else B
abbrev E5:=MJ×MJ×Re×FuncBody×O1×MM×Z (MJ×MM)×Ml×MM
def yX (k:Tn):E5:=(k.name,k.qualname,k.params,k.body,k.scope,k.globals,k.closure,k.defaults,k.builtins)
def GU (K:Frag) (x:MJ):G E5:=match nsIn K mainGlobals x with
 |some (U (.ref f))=>(match K.lookup f with
  |some ⟨_,_,.func k,_⟩=>if codeIn K k.code x then U (yX k) else B
  |_=>B)
 |_=>B
def zU (x:MJ) (st:NN):E5:=(x,x,lF st,.stmts (bc st),ar st,mainGlobals,[],.none,builtinsNs)
def GV (n:String):G (G Ml)->Bool|some (U (.builtin y))=>y==n|_=>Y
def LB:G (G Ml)->Bool|some B=>V|_=>Y
def H6:G Ml->Bool|some (.type y)=>y=="function"|_=>Y
def Ig (K:Frag) (C:MM) (ns:Z MJ):Bool:=keepIn K (.ref C)&&makesIn K C&&plainOver K C&&hasDictIn K C&&GV "object.__getattribute__" (findIn K (.ref C) "__getattribute__")&&GV "object.__setattr__" (findIn K (.ref C) "__setattr__")&&LB (findIn K (.ref C) "__getattr__")&&ns.all λn=>LB (findIn K (.ref C) n)
abbrev CL:=Z (MJ×Z MJ)
abbrev ML:=Z ((MJ×MJ×MJ)×NN)
def GS (K:Frag) (c:MJ) (ns:Z MJ):Bool:=match nsIn K mainGlobals c with
 |some (U (.ref C))=>Ig K C ns
 |_=>Y
def AW (K:Frag) (c name:MJ):G Tn:=match nsIn K mainGlobals c with
 |some (U (.ref C))=>(match findIn K (.ref C) name with
  |some (U (.ref f))=>if H6 (typeIn K (.ref f)) then(match K.lookup f with
   |some ⟨_,_,.func k,_⟩=>U k
   |_=>B) else B
  |_=>B)
 |_=>B
def GN (K:Frag) (c name q:MJ):G E5:=match AW K c name with
 |some k=>if codeIn K k.code q then U (yX k) else B
 |none=>B
def xu (K:Frag) (c name:MJ):G Ml:=match AW K c name with|some fd=>U fd.code|none=>B
def GR (name q:MJ) (st:NN):E5:=(name,q,lF st,.stmts (bc st),ar st,mainGlobals,[],.none,builtinsNs)
abbrev CS:=Z ((MJ×MJ)×MM)
def GL:QY:={cls:=.none,data:=.fields #[]}
abbrev Tb:=Z (MM×MJ)
def KV (tb:Tb) (cl:CL) (ml:ML) (defs:Z (MJ×NN)) (bl:Z MJ) (cs:CS) (s:Mn):=
 (λ(h:OF) (K:Frag)=>(cl.map (λp=>GS K p.1 p.2),ml.map (λp=>GN K p.1.1 p.1.2.1 p.1.2.2),defs.map (λp=>GU K p.1),bl.map (nsIn K mainGlobals),cs.map (λp=>xu K p.1.1 p.1.2),tb.map (λq=>h.get? q.1),(tb.zip cs).map (λq=>codeHdIn K q.2.2 q.1.1),tb.map (λq=>K.lookup q.1))) s.heap (Dc s.heap)
def KG (tb:Tb) (cl:CL) (ml:ML) (defs:Z (MJ×NN)) (bl:Z MJ) (cs:CS) (_:O0):=
 (cl.map (λ_=>V),ml.map (λp=>U (GR p.1.2.1 p.1.2.2 p.2)),defs.map (λp=>U (zU p.1 p.2)),bl.map (λ_=>U (B:G Ml)),cs.map (λp=>U (Value.ref p.2)),tb.map (λ_=>U GL),(tb.zip cs).map (λ_=>V),tb.map (λ_=>(B:G QY)))
end L2
namespace K21
open PySem L2
def KM (i:Nat):NN:=PySem.Challenge.pw_mustrows_k21_led.main.body.getD i (.Pass ⟨0,0,0,0⟩)
def LU (j:Nat):NN->NN|.ClassDef _ _ _ b .. =>b.getD j (.Pass ⟨0,0,0,0⟩)|s=>s
abbrev lP:NN:=KM 1
abbrev fg:NN:=LU 0 (KM 8)
abbrev iL:NN:=LU 0 (KM 7)
abbrev cu:NN:=LU 2 (KM 9)
abbrev ib:NN:=LU 5 (KM 9)
abbrev tH:NN:=KM 16
abbrev fJ:NN:=LU 4 (KM 9)
abbrev gc:NN:=LU 3 (KM 9)
abbrev c9:NN:=LU 1 (KM 9)
abbrev iW:NN:=KM 13
abbrev xD:NN:=KM 15
abbrev jh:NN:=KM 14
abbrev iq:NN:=KM 12
abbrev eH:NN:=KM 11
abbrev eZ:NN:=LU 0 (KM 9)
abbrev dF:NN:=LU 6 (KM 9)
abbrev ig:NN:=KM 6
abbrev nG:NN:=KM 5
abbrev yF:NN:=KM 10
abbrev gG:NN:=LU 7 (KM 9)
abbrev dE:NN:=LU 12 (KM 9)
abbrev bD:NN:=LU 11 (KM 9)
abbrev dA:NN:=LU 10 (KM 9)
abbrev cV:NN:=LU 9 (KM 9)
abbrev hY:NN:=LU 13 (KM 9)
abbrev bY:NN:=LU 8 (KM 9)
abbrev qw:NN:=KM 4
abbrev jP:NN:=KM 3
abbrev FI:NN:=KM 18
abbrev jF:NN:=KM 20
abbrev jB:NN:=KM 21
abbrev jL:NN:=KM 22
abbrev h9:NN:=KM 23
abbrev jR:NN:=KM 24
abbrev na:NN:=KM 25
abbrev i4:NN:=KM 26
abbrev jy:NN:=KM 27
abbrev ie:NN:=KM 28
abbrev jO:NN:=KM 29
abbrev je:NN:=KM 30
abbrev gC:NN:=KM 31
abbrev nD:NN:=KM 32
abbrev jC:NN:=KM 33
abbrev gj:NN:=KM 34
abbrev lg:NN:=KM 35
abbrev uH:NN:=KM 36
abbrev Kh:Z MJ:=["bool","dict","enumerate","int","isinstance","len","list","min","range","reversed","sorted","str","tuple","zip"]
abbrev aZ:Z MJ:=["domains","masks"]
abbrev nsChoice:Z MJ:=["above","part","number","todo","untried","cell","result"]
abbrev am:Z MJ:=["others","rows_with","holding","spots","first_masks","rows_of","weights"]
def vK:Z (MJ×NN):=([("exchanged",lP),("any_of",tH),("blank_spots",iW),("marks",xD),("first_masks",jh),("holding_rows",iq),("rows_with_cells",eH),("cluster_from",ig),("clusters",nG),("piece",yF),("settled",qw),("find_moves",jP),("led",FI),("_law_whole",jF),("_law_mixed",jB),("_law_words",jL)]:Z (MJ×NN))++([("_law_numbers",h9),("_law_drawn",jR),("_law_row",na),("_law_tables",i4),("_law_stand",jy),("_law_is_cell",ie),("_law_moved",jO),("_law_blanks",je),("_law_is_moves",gC),("_law_led",nD),("_law_cells",jC),("_law_some_way",gj),("_law_told",lg),("law",uH)]:Z (MJ×NN))
def LW:CL:=[("Part",aZ),("Choice",nsChoice),("Search",am)]
def Lb:ML:=([(("Choice","__init__","Choice.__init__"),fg),(("Part","__init__","Part.__init__"),iL),(("Search","first_domain","Search.first_domain"),cu),(("Search","blame","Search.blame"),ib),(("Search","revised","Search.revised"),fJ),(("Search","narrow","Search.narrow"),gc),(("Search","first_part","Search.first_part"),c9),(("Search","__init__","Search.__init__"),eZ),(("Search","narrowest","Search.narrowest"),dF),(("Search","parted","Search.parted"),gG),(("Search","are_alike","Search.are_alike"),dE),(("Search","can_change_places","Search.can_change_places"),bD),(("Search","are_twins","Search.are_twins"),dA),(("Search","drop_twins","Search.drop_twins"),cV),(("Search","tried","Search.tried"),hY),(("Search","with_next_try","Search.with_next_try"),bY)]:ML)
def Lg:CS:=[(("Search","first_domain"),106),(("Search","narrowest"),130)]
def Lr:Tb:=[(104,"Search.first_domain.<locals>.<lambda>"),(126,"Search.narrowest.<locals>.<lambda>")]
end K21
section
open PySem
def CX:Z Nat:=((PySem.Challenge.pw_mustrows_k21_led.main.body.zipIdx.filter λp=>match p.1 with|.FunctionDef .. =>V|.ClassDef .. =>V|_=>Y).map (·.2))
set_option maxHeartbeats 0 in
theorem K21.hl0:PySem.W.LeftO PySem.Challenge.rw_mustrows_k21_led.row.prog (SN PySem.Challenge.pw_mustrows_k21_led CX) [] (λ_=>V) (L2.KV K21.Lr K21.LW K21.Lb K21.vK K21.Kh K21.Lg) (L2.KG K21.Lr K21.LW K21.Lb K21.vK K21.Kh K21.Lg) 8000:=λw=>by kernel_rfl
set_option maxHeartbeats 0 in
theorem K21.hl1:PySem.Challenge.rw_mustrows_k21_led.wellSaid=V:=by kernel_rfl
set_option maxHeartbeats 0 in
theorem K21.hl7:(PySem.W.chainsOk (SN PySem.Challenge.pw_mustrows_k21_led CX)&&PySem.W.opensWell PySem.Challenge.rw_mustrows_k21_led.row.prog&&(PySem.W.frees PySem.Challenge.rw_mustrows_k21_led.row.toRowW&&PySem.Challenge.rw_mustrows_k21_led.row.within.isEmpty))=V:=by kernel_rfl
end
namespace L2
open PySem PySem.Spec PyProof.Rows
abbrev J8:=Sum Int MJ
inductive D where
 |non|bl (b:Bool)|int (i:Int)|str (x:MJ)|tup (ds:Z D)|lst (ds:Z D)|dK (ks:Z J8) (vs:Z D)
 |dD (ks vs:Z D)|ob (c:MJ) (ks:Z MJ) (vs:Z D)|loc (c:G MJ) (j:Nat)|ptr (a:MM)
noncomputable instance:DecidableEq D:=λ
 |.non,.non=>isTrue rfl
 |.str a,.str b=>if h:a=b then isTrue (h▸rfl) else isFalse λe=>h (D.str.inj e)
 |.int a,.int b=>if h:a=b then isTrue (h▸rfl) else isFalse λe=>h (D.int.inj e)
 |.bl a,.bl b=>if h:a=b then isTrue (h▸rfl) else isFalse λe=>h (D.bl.inj e)
 |a,b=>if h:a.ctorIdx=b.ctorIdx then Classical.propDecidable _ else isFalse λe=>h (e▸rfl)
abbrev DEnv:=Z (G (D×Bool))
class Md where
 P:Ol
 w:O0
 K:PySem.W.Frag
 mg:MJ->G Ml
 base:OF
 tb:Z (MM×MJ)
 os:OsState
 gens:Array GenState
open Md
variable[Md]
inductive Rl where|f|p|o (i:Nat)|s (j:Nat)
def Rl.own:Rl->Bool|.f=>Y|.p=>Y|_=>V
structure Mp where
 g:MM->G (Rl×QY)
 r:Z (MM×MM)
noncomputable instance:CoeFun Mp λ_=>MM->G (Rl×QY):=⟨Mp.g⟩
def LV (M:Mp) (a:MM) (x:G (Rl×QY)):Mp:=⟨λb=>if b=a then x else M b,M.r⟩
omit [Md] in
theorem ak:LV M a x a=x:=n_ rfl
omit [Md] in
theorem ax (h:b≠a):LV M a x b=M b:=o_ h
def Rl.ok (m:Bool):Rl->Bool|.f=>V|.p=>Y|_=>m
def Rd (m:Bool) (M:Mp) (a:MM) (o:QY):Prop:=∃k,M a=U (k,o)/\k.ok m=V
structure Sub (m:Bool) (M:Mp) (m':Bool) (M':Mp):Prop where
 s:∀a o,Rd m M a o->Rd m' M' a o
 r:∀(j:Nat) x,M.r[j]?=U x->M'.r[j]?=U x:=by show λ_ _ h=>h
noncomputable instance:CoeFun (Sub m M m' M') λ_=>∀a o,Rd m M a o->Rd m' M' a o:=⟨Sub.s⟩
structure Ext (M M':Mp):Prop where
 e:∀a,M' a=M a\/(M a=B/\∃o,M' a=U (.f,o))
 r:M'.r=M.r:=by show rfl
def Ext.refl:Ext M M:=⟨λ_=>.inl rfl,rfl⟩
def Ext.trans (h:Ext M N) (g:Ext N Z8):Ext M Z8:=⟨λa=>by
 rcases h.e a with e|⟨e,o,u⟩<;>rcases g.e a with q|⟨q,j,k⟩<;>grind,g.r.trans h.r⟩
def Ext.sub (h:Ext M M'):Sub m M m M':=⟨λa o ⟨k,e,g⟩=>⟨k,by rcases h.e a with z|z<;>grind,g⟩,λj x e=>by rw[h.r];show e⟩
def fU:Nat->D->Bool
 |_,.int _=>V
 |_,.str _=>V
 |n+1,.tup ds=>ds.all (fU n)
 |_,_=>Y
mutual
noncomputable def eW (w:O0):D->Int
 |.int i=>hashInt i
 |.str x=>hashStr w x
 |.tup ds=>reduceHash (Om (tS w ds))
 |_=>0
noncomputable def tS (w:O0):Z D->Z Int
 |[]=>[]
 |d::ds=>eW w d::tS w ds
end
def yU:D->Bool|.tup _=>V|_=>Y
def LstO (o:QY) (vs:Z Ml):Prop:=vs.length<=sizeLine/\∃n,o={cls:=.type "list",data:=.seq vs.toArray n}
def TupO (o:QY) (vs:Z Ml):Prop:=(vs.length<=sizeLine/\o.dict=B)/\o.cls=.type "tuple"/\∃n,o.data=.seq vs.toArray n
def kD:J8->D
 |.inl i=>.int i
 |.inr x=>.str x
def Jq:Bool->D->Bool
 |b,.int _=>!b
 |b,.str _=>!b
 |b,.tup ds=>b&&fU 8 (.tup ds)
 |_,_=>Y
def DcO (b:Bool) (o:QY) (ks:Z D) (us vs:Z Ml):Prop:=ks.length<=sizeLine/\o.ExactDict/\ks.Nodup/\ks.all (Jq b)=V/\∃es k,o.data=.dict es k/\
 es.toList.map (·.hash)=ks.map (eW w)/\es.toList.map (·.key)=us/\es.toList.map (·.val)=vs
def InsO (c:MJ) (o:QY) (a:MM):Prop:=∃C,mg c=U (.ref C)/\o=PySem.W.instObj C a
def At:Z MJ->Z Ml->Z OB->Prop
 |[],vs,es=>vs=[]/\es=[]
 |k::ks,vs,es=>∃v r e t tk,vs=v::r/\es=e::t/\e.key=.str k tk/\e.val=v/\At ks r t
def K2 (o:QY) (ks:Z MJ) (vs:Z Ml):Prop:=ks.Nodup/\ks.length<=100/\∃es n,o=PySem.W.dictOf es n/\At ks vs es
def Lo (m:Bool) (M:Mp):G MJ->MM->MM->Prop
 |none,x,a=>x=a
 |some c,x,a=>∃ox,Rd m M x ox/\InsO c ox a
def Lo.to {m m':Bool}{M M':Mp}(l:Lo m M c x a) (h:Sub m M m' M'):Lo m' M' c x a:=by
 cases c with
 |none=>show l
 |some c=>let(ox,q,i):=l;show⟨ox,h _ _ q,i⟩
def Ks:Z J8->Z Ml->Prop
 |[],vs=>vs=[]
 |.inl i::ks,vs=>∃t r,vs=.int i t::r/\Ks ks r
 |.inr x::ks,vs=>∃t r,vs=.str x t::r/\Ks ks r
mutual
noncomputable def R (m:Bool) (M:Mp):D->Ml->Prop
 |.non,v=>v=.none
 |.bl b,v=>v=.bool b
 |.int i,v=>∃t,v=.int i t
 |.str x,v=>∃t,v=.str x t
 |.tup ds,v=>∃a o vs,v=.ref a/\Rd m M a o/\TupO o vs/\Rs m M ds vs
 |.lst ds,v=>∃a o vs,v=.ref a/\Rd m M a o/\LstO o vs/\Rs m M ds vs
 |.dK ks ds,v=>∃a o us vs,v=.ref a/\Rd m M a o/\DcO Y o (ks.map kD) us vs/\Ks ks us/\Rs m M ds vs
 |.dD ks ds,v=>∃a o us vs,v=.ref a/\Rd m M a o/\DcO V o ks us vs/\Rs m M ks us/\Rs m M ds vs
 |.ob c ks ds,v=>∃x ox a o vs,v=.ref x/\Rd m M x ox/\InsO c ox a/\Rd m M a o/\K2 o ks vs/\Rs m M ds vs
 |.loc c j,v=>∃x a,M.r[j]?=U (x,a)/\v=.ref x/\Lo m M c x a
 |.ptr a,v=>v=.ref a
noncomputable def Rs (m:Bool) (M:Mp):Z D->Z Ml->Prop
 |[],vs=>vs=[]
 |d::ds,vs=>∃v r,vs=v::r/\R m M d v/\Rs m M ds r
end
def Cm (m:Bool) (M:Mp):D->QY->Prop
 |.lst ds,o=>∃vs,LstO o vs/\Rs m M ds vs
 |.dK ks ds,o=>∃us vs,DcO Y o (ks.map kD) us vs/\Ks ks us/\Rs m M ds vs
 |.dD ks ds,o=>∃us vs,DcO V o ks us vs/\Rs m M ks us/\Rs m M ds vs
 |_,_=>False
abbrev C (M:Mp):D->QY->Prop:=Cm Y M
mutual
theorem R.to (h:Sub m M m' M'):∀{d v},R m M d v->R m' M' d v
 |.non,v,r=>by show r
 |.bl b,v,r=>by show r
 |.int i,v,r=>by show r
 |.str x,v,r=>by show r
 |.tup ds,v,r=>by let(a,o,vs,e,q,t,rs):=r;show⟨a,o,vs,e,h _ _ q,t,Rs.to h rs⟩
 |.lst ds,v,r=>by let(a,o,vs,e,q,t,rs):=r;show⟨a,o,vs,e,h _ _ q,t,Rs.to h rs⟩
 |.dK ks ds,v,r=>by let(a,o,us,vs,e,q,t,k,rs):=r;show⟨a,o,us,vs,e,h _ _ q,t,k,Rs.to h rs⟩
 |.dD ks ds,v,r=>by let(a,o,us,vs,e,q,t,k,rs):=r;show⟨a,o,us,vs,e,h _ _ q,t,Rs.to h k,Rs.to h rs⟩
 |.ob c ks ds,v,r=>by let(x,ox,a,o,vs,e,q,i,p,t,rs):=r;show⟨x,ox,a,o,vs,e,h _ _ q,i,h _ _ p,t,Rs.to h rs⟩
 |.loc c j,v,r=>by let(x,a,e,q,l):=r;show⟨x,a,h.r _ _ e,q,l.to h⟩
 |.ptr a,v,r=>by show r
theorem Rs.to (h:Sub m M m' M'):∀{ds vs},Rs m M ds vs->Rs m' M' ds vs
 |[],vs,r=>r
 |d::ds,vs,r=>by let(v,r,e,j,k):=r;show⟨v,r,e,j.to h,Rs.to h k⟩
end
def Cm.to (c:Cm m M d o) (h:Sub m M m' M'):Cm m' M' d o:=by
 cases d with
 |lst ds=>let(vs,j,k):=c;show⟨vs,j,k.to h⟩
 |dK ks ds=>let(us,vs,j,k,g):=c;show⟨us,vs,j,k,g.to h⟩
 |dD ks ds=>let(us,vs,j,k,g):=c;show⟨us,vs,j,k.to h,g.to h⟩
 |_=>show c
def Cm.rep (c:Cm m M d o) (h:Sub m M m' M') (q:Rd m' M' a o):R m' M' d (.ref a):=by
 cases d with
 |lst ds=>let(vs,j,k):=c;show⟨a,o,vs,rfl,q,j,k.to h⟩
 |dK ks ds=>let(us,vs,j,k,g):=c;show⟨a,o,us,vs,rfl,q,j,k,g.to h⟩
 |dD ks ds=>let(us,vs,j,k,g):=c;show⟨a,o,us,vs,rfl,q,j,k.to h,g.to h⟩
 |_=>show False.elim c
def Sub.weak:Sub Y M m M:=⟨λa o ⟨k,e,h⟩=>⟨k,e,by ext k<;>simp_all [Rl.ok]⟩,λ_ _ h=>h⟩
def R.weak (r:R Y M d v):R m M d v:=r.to Sub.weak
def Rs.weak (r:Rs Y M d v):Rs m M d v:=r.to Sub.weak
def R.up (r:R m M d v) (h:Ext M M'):R m M' d v:=r.to h.sub
def Rs.up (r:Rs m M d v) (h:Ext M M'):Rs m M' d v:=r.to h.sub
theorem Rs.length:∀{ds vs},Rs m M ds vs->ds.length=vs.length
 |[],_,h=>by subst h;rfl
 |d::ds,_,⟨v,r,e,_,h⟩=>by subst e;simp[Rs.length h]
theorem Rs.get:∀{ds vs} {i:Nat}{d},Rs m M ds vs->ds[i]?=U d->∃v,vs[i]?=U v/\R m M d v
 |[],_,_,_,_,e=>by simp at e
 |x::ds,_,0,d,⟨v,r,rfl,h,_⟩,e=>by simp_all
 |x::ds,_,i+1,d,⟨v,r,rfl,_,h⟩,e=>by simpa using Rs.get (i:=i) h (by simpa using e)
theorem Rs.append:∀{ds vs es us},Rs m M ds vs->Rs m M es us->Rs m M (ds++es) (vs++us)
 |[],_,_,_,rfl,t=>t
 |d::ds,_,_,_,⟨v,r,rfl,h,k⟩,t=>⟨v,_,rfl,h,Rs.append k t⟩
def Rs.one (h:R m M d v):Rs m M [d] [v]:=⟨v,[],rfl,h,rfl⟩
theorem Rs.drop:∀{ds vs} (n:Nat),Rs m M ds vs->Rs m M (ds.drop n) (vs.drop n)
 |_,_,0,h=>h
 |[],_,n+1,h=>by subst h;rfl
 |d::ds,_,n+1,⟨v,r,rfl,_,h⟩=>Rs.drop n h
theorem Rs.take:∀{ds vs} (n:Nat),Rs m M ds vs->Rs m M (ds.take n) (vs.take n)
 |_,_,0,_=>rfl
 |[],_,n+1,h=>by subst h;rfl
 |d::ds,_,n+1,⟨v,r,rfl,q,h⟩=>⟨v,_,rfl,q,Rs.take n h⟩
structure Cx where
 A:Nl
 N:Z MJ
 env:Env
 fn:Bool
 st:Bool:=Y
 S:G Mp:=B
def Je (sc:O1) (x:MJ):Prop:=sc.names.lookup x=U .local\/sc.names.lookup x=U .cell\/sc.names.lookup x=U .free
def Kr (sc:O1) (x:MJ):Prop:=sc.names.lookup x=U .local\/sc.names.lookup x=U .cell
def AZ (env:Env) (h:OF) (m:MJ->G Ml) (x:MJ) (u:Ml):Prop:=
 (env.kindOf x=U .local/\m x=U u)\/((env.kindOf x=U .cell\/env.kindOf x=U .free)/\∃c,env.cells.lookup x=U c/\h.IsCell c (U u))
structure Mod:Prop where
 kin:K.In base
 glob:base.Ns mainGlobals mg
 blt:∃mb,base.Ns builtinsNs mb/\∀x:MJ,x≠"__name__"->mb x=bootBuiltins x
 nolimit:base.NoLimit
 bmain:∃bm ob,mg "__builtins__"=U (.ref bm)/\bm≠builtinsNs/\base.get? bm=U ob/\ob.cls=.type "module"/\ob.dict=U builtinsNs/\ob.data=.plain
structure Room (k:Nat) (A:Nl):Prop where
 hd:A.handled=B
 dp:A.depth+3*k+5<recursionLimit
 un:A.units+16*k+200<cLine
structure Cx.Ok (X:Cx):Prop where
 mod:Mod
 kind:X.env.scope.kind=.function
 glob:X.env.globals=mainGlobals
 blt:X.env.builtins=builtinsNs
 inj:∀x y c,X.env.cells.lookup x=U c->X.env.cells.lookup y=U c->x=y
 has:∀x,(X.env.kindOf x=U .cell\/X.env.kindOf x=U .free)->∃c,X.env.cells.lookup x=U c
 room:Room 0 X.A
def TabOk (M:Mp) (h:OF):Prop:=∀q∈tb,M q.1=B/\∃ps,h.get? q.1=U {cls:=.none,data:=.fields ps}/\TriplesOk ps.toList/\
 ∀pos k,codeAmong pos ps.toList=U k->∃c oc vs t,k=.ref c/\M c=U (.f,oc)/\oc.data=.fields vs/\vs[1]?=U (.str q.2 t)
structure Free (X:Cx) (M:Mp) (a:MM):Prop where
 m:M a=B
 l:a≠X.env.locals
 c:∀x,X.env.cells.lookup x≠U a
 t:∀q∈tb,a≠q.1
 s:a≠sysModules
def Va (M:Mp) (i:Nat) (d:D) (u:Ml):Bool->Prop
 |false=>R Y M d u
 |true=>∃a o,u=.ref a/\M a=U (.o i,o)/\C M d o
def Ow (o:QY):Prop:=o.cls≠.type "tuple"/\∀vs,o.data≠.fields vs
def Ca (M:Mp) (d:D) (o:QY):Prop:=C M d o\/∃c ks ds vs,d=.ob c ks ds/\K2 o ks vs/\Rs Y M ds vs
def Sl (M:Mp) (j:Nat) (d:D):Prop:=∃k o,M.r[j]?=U k/\M k.2=U (.s j,o)/\Ca M d o
structure Inv (X:Cx) (M:Mp) (O:DEnv) (s:Mn):Prop where
 ok:X.Ok
 og:s.os=Md.os/\s.gens=gens
 heap:∀a k o,M a=U (k,o)->s.heap.get? a=U o
 base:∀a o,base.get? a=U o->M a=U (.p,o)
 loc:∃m,s.heap.Ns X.env.locals m/\∀i x d b,X.N[i]?=U x->O[i]?=U (U (d,b))->Je X.env.scope x->∃u,AZ X.env s.heap m x u/\Va M i d u b
 free:M X.env.locals=B
 cell:∀x c,X.env.cells.lookup x=U c->(∃v,s.heap.IsCell c v)/\(M c=B\/(X.fn=Y/\∃o,M c=U (.p,o)))
 tabs:TabOk M s.heap
 own:∀a k o,M a=U (k,o)->k.own=V->Ow o
 uni:∀a b k o o',k.own=V->M a=U (k,o)->M b=U (k,o')->a=b
 len:X.N.length<=O.length
 sys:∀k o,M sysModules=U (k,o)->k=.p
 stl:X.st=V->O.length=X.N.length+M.r.length
 sto:∀(j:Nat) d b,O[X.N.length+j]?=U (U (d,b))->b=V/\Sl M j d
 cap:∀M0,X.S=U M0->M.r=M0.r/\∀a j o,M a=U (.s j,o)↔M0 a=U (.s j,o)
 slo:∀a j o,M a=U (.s j,o)->j<M.r.length
abbrev WP (X:Cx) (t:Sem α) (Q:α->Mn->Prop) (s:Mn):Prop:=wpAny (model P w) X.A t Q (λ_ _=>False) s
end L2
namespace L2
open PySem PySem.Spec PyProof.Rows Md
variable[Md]
def KR:Rd Y M a o↔M a=U (.f,o):=⟨λ⟨k,e,h⟩=>by ext k<;>simp_all [Rl.ok],λe=>⟨.f,e,rfl⟩⟩
def Sub.of {M M':Mp}(h:∀a o,M a=U (.f,o)->M' a=U (.f,o)) (k:∀(j:Nat) x,M.r[j]?=U x->M'.r[j]?=U x:=by show λ_ _ h=>h):Sub Y M Y M':=⟨λa o q=>KR.mpr (h a o (KR.mp q)),k⟩
def Sub.refl:Sub m M m M:=⟨λ_ _ h=>h,λ_ _ h=>h⟩
def Sub.trans (h:Sub m M m' M') (g:Sub m' M' m'' M''):Sub m M m'' M'':=⟨λa o q=>g a o (h a o q),λj x e=>g.r j x (h.r j x e)⟩
def Ext.old {M M':Mp}(h:Ext M M') (e:M a=U x):M' a=U x:=(h.e a).elim (λz=>z.trans e) λz=>by rw[z.1]at e;ext e
def Va.to {M M':Mp}(h:Va M i d u b) (hs:Sub Y M Y M') (ho:∀a o,M a=U (.o i,o)->M' a=U (.o i,o)):Va M' i d u b:=by
 cases b with
 |false=>show R.to hs h
 |true=>let(a,o,e,q,c):=h;show⟨a,o,e,ho _ _ q,c.to hs⟩
def Ca.to {M M':Mp}(c:Ca M d o) (h:Sub Y M Y M'):Ca M' d o:=c.imp (λc=>c.to h) λ⟨c,ks,ds,vs,e,j,k⟩=>⟨c,ks,ds,vs,e,j,k.to h⟩
def Sl.to {M M':Mp}(l:Sl M j d) (h:Sub Y M Y M') (k:∀g o,M.r[j]?=U g->M g.2=U (.s j,o)->M' g.2=U (.s j,o)):Sl M' j d:=by
 let(g,o,u,y,v):=l;show⟨g,o,h.r _ _ u,k _ _ u y,v.to h⟩
def TabOk.to {M M':Mp}(h:TabOk M hp) (hs:Sub Y M Y M') (g:∀q∈tb,M' q.1=B) (k:∀q∈tb,∀o,hp.get? q.1=U o->hp'.get? q.1=U o):TabOk M' hp':=λq j=>by
 let(_,ps,e,t,r):=h q j;show⟨g q j,ps,k q j _ e,t,λpos p z=>?_⟩
 let(c,oc,vs,t,y,v,u):=r pos p z;show⟨c,oc,vs,t,y,KR.mp (hs _ _ (KR.mpr v)),u⟩
def pi {env:Env}(l:AZ env h m x u) (k:∀c o,env.cells.lookup x=U c->h.get? c=U o->j.get? c=U o):AZ env j m x u:=by
 rcases l with l|⟨q,c,e,o,v,g⟩
 .show .inl l
 .show .inr ⟨q,c,e,o,k c o e v,g⟩
def Lk (X:Cx) (h:OF) (x:MJ) (u:Ml):Prop:=∃m,h.Ns X.env.locals m/\AZ X.env h m x u
def Lk.inj (a:Lk X h x u) (b:Lk X h x v):u=v:=by
 let(m,(o,es,R,K,s,_,i),l):=a;let(m',(T,N,W,q,y,_,r),n):=b;rw[K]at q;ext q;rw[s]at y;ext y
 rcases l with⟨k,z⟩|⟨k,c,e,o1,d,w⟩<;>rcases n with⟨p,f⟩|⟨p,S,t,o2,g,j⟩
 .rw[<-i,r,f]at z;ext z;rfl
 .rw[k]at p;simp at p
 .rw[p]at k;simp at k
 .rw[e]at t;ext t;rw[d]at g;ext g;rw[w]at j;ext j;rfl
section
variable{X:Cx}{M M':Mp}{O:DEnv}{s s':Mn}
def Inv.mp (I:Inv X M O s) (hs:Sub Y M Y M') (hh:∀a k o,M' a=U (k,o)->s'.heap.get? a=U o) (kp:∀b o,¬Free X M b->(∀k n,M b=U (k,n)->k=.p)->s.heap.get? b=U o->s'.heap.get? b=U o) (H:∀a o,M a=U (.p,o)->(Md.base.get? a=U o\/∃x,X.env.cells.lookup x=U a)->M' a=U (.p,o)) (F:∀a,M a=B->¬Free X M a->M' a=B) (ow:∀a k o,M' a=U (k,o)->k.own=V->Ow o) (un:∀a b k o n,k.own=V->M' a=U (k,o)->M' b=U (k,n)->a=b) (so:∀a j o,M' a=U (.s j,o)->j<M.r.length) (sy:∀k o,M' sysModules=U (k,o)->k=.p) (D:δ'.length=O.length) (nm:∀i x d b,X.N[i]?=U x->Je X.env.scope x->δ'[i]?=U (U (d,b))->∃T b0,O[i]?=U (U (T,b0))/\∀u,Lk X s.heap x u->Va M i T u b0->Va M' i d u b) (st:∀(j:Nat) d b,δ'[X.N.length+j]?=U (U (d,b))->(O[X.N.length+j]?=U (U (d,b))/\∀R o,M.r[j]?=U R->M R.2=U (.s j,o)->M' R.2=U (.s j,o))\/(b=V/\Sl M' j d)) (rs:X.S≠B->∀a j o,M' a=U (.s j,o)↔M a=U (.s j,o)) (C:M'.r=M.r:=by show rfl) (hg:s'.os=s.os/\s'.gens=s.gens:=by show⟨rfl,rfl⟩):Inv X M' δ' s':=by
 let E:∀x c,X.env.cells.lookup x=U c->¬Free X M c:=λx c e f=>f.c x e
 let A:∀x c o,X.env.cells.lookup x=U c->s.heap.get? c=U o->s'.heap.get? c=U o:=λx c o e=>kp c o (E x c e) λk n z=>by
  rcases(I.cell x c e).2 with w|⟨_,o2,w⟩<;>rw[w]at z<;>ext z;rfl
 let(m,(Q,es,L,W,K),P):=I.loc;show⟨I.ok,⟨hg.1.trans I.og.1,hg.2.trans I.og.2⟩,hh,λa o e=>H a o (I.base a o e) (.inl e),⟨m,⟨Q,es,L,kp _ _ (λf=>f.l rfl) (λk o z=>by rw[I.free]at z;ext z) W,K⟩,λi x d b e1 e2 e3=>?_⟩,F _ I.free λf=>f.l rfl,λx c e=>?_,I.tabs.to hs (λq h=>F _ (I.tabs q h).1 λz=>z.t q h rfl) (λq h o=>kp _ o (λf=>f.t q h rfl) λk n z=>by rw[(I.tabs q h).1]at z;ext z),ow,un,by rw[D];show I.len,sy,λh=>by rw[D,C];show I.stl h,λj d b z=>?_,λr e=>⟨C.trans (I.cap r e).1,λa j o=>(rs (by rw[e];simp) a j o).trans ((I.cap r e).2 a j o)⟩,λa j o e=>by rw[C];show so a j o e⟩
 .let(T,b0,y,g):=nm i x d b e1 e3 e2
  let(u,l,v):=P i x T b0 e1 y e3;show⟨u,pi l λc o=>A x c o,g u ⟨m,⟨Q,es,L,W,K⟩,l⟩ v⟩
 .let((v,o,y,g),z3):=I.cell x c e
  show⟨⟨v,o,A x c o e y,g⟩,z3.imp (λz=>F c z (E x c e)) λ⟨f,o,q⟩=>⟨f,o,H c o q (.inr ⟨x,e⟩)⟩⟩
 .rcases st j d b z with⟨y,g⟩|z
  .let(W,K):=I.sto j d b y;show⟨W,K.to hs g⟩
  .show z
def Inv.wr (I:Inv X M O s) (fp:Z MM) (g:∀b∈fp,Free X M b) (k:∀b o,b∉fp->s.heap.get? b=U o->s'.heap.get? b=U o) (hg:s'.os=s.os/\s'.gens=s.gens:=by show⟨rfl,rfl⟩):Inv X M O s':=
 I.mp Sub.refl (λa r o e=>k a o (λz=>by have:=(g a z).m;simp_all) (I.heap a r o e)) (λb o h _=>k b o λz=>h (g b z)) (λ_ _ h _=>h) (λ_ h _=>h) I.own I.uni I.slo I.sys rfl (λi x d b _ _ e=>⟨d,b,e,λ_ _ h=>h⟩) (λj d b z=>.inl ⟨z,λ_ _ _ h=>h⟩) (λ_ _ _ _=>QD) rfl hg
def Inv.kp (I:Inv X M O s) (k:∀b o,s.heap.get? b=U o->s'.heap.get? b=U o) (hg:s'.os=s.os/\s'.gens=s.gens:=by show⟨rfl,rfl⟩):Inv X M O s':=I.wr [] (λ_ h=>nomatch h) (λb o _=>k b o) hg
def Inv.tok (I:Inv X M O s):Inv X M O {s with toks:=t}:=I.kp λ_ _ h=>h
def Inv.push (I:Inv X M O s):Inv X M O {s with heap:=s.heap.push o,toks:=t}:=I.kp λ_ _ h=>Mg _ h
def Inv.re (I:Inv X M O s) (hs:Sub Y M Y M') (ho:∀k a o,k.own=V->M a=U (k,o)->M' a=U (k,o)) (w:∀a o,M a=U (.p,o)->(Md.base.get? a=U o\/∃x,X.env.cells.lookup x=U a)->M' a=U (.p,o)) (g:∀a k o,M' a=U (k,o)->M a=U (k,o)\/(s.heap.get? a=U o/\Free X M a/\k.own=Y)) (t:M'.r=M.r:=by show rfl):Inv X M' O s:=by
 let ow:∀{a k o},M' a=U (k,o)->k.own=V->M a=U (k,o):=λ{a k o} e h=>(g a _ o e).elim id λz=>by have:=z.2.2;simp_all
 show I.mp hs (λa k o e=>(g a k o e).elim (I.heap a k o) λz=>z.1) (λ_ _ _ _ h=>h) w (λa e c=>?_) (λa k o e h=>I.own a k o (ow e h) h) (λa b k o y h e f=>I.uni a b k o y h (ow e h) (ow f h)) (λa j o e=>I.slo a j o (ow e rfl)) (λk o e=>(g _ k o e).elim (I.sys k o) λz=>absurd rfl z.2.1.s) rfl (λi x d b _ _ e=>⟨d,b,e,λu _ v=>v.to hs λa o h=>ho _ a o rfl h⟩) (λj d b z=>.inl ⟨z,λm o _ q=>ho _ _ _ rfl q⟩) (λ_ a j o=>⟨λz=>ow z rfl,λz=>ho _ a o rfl z⟩) t
 cases q:M' a with
 |none=>rfl
 |some p=>rcases g a p.1 p.2 q with z|z;simp_all;show absurd z.2.1 c
def dY (h:M a=B):Sub m M m (LV M a x):=⟨λb o ⟨k,e,z⟩=>⟨k,by grind [ax],z⟩,λ_ _ h=>h⟩
def dg (h:M a=B):Ext M (LV M a (U (.f,o))):=⟨λb=>by
 by_cases q:b=a
 .subst q;show .inr ⟨h,o,ak⟩
 .show .inl (ax q),rfl⟩
def Inv.put (I:Inv X M O s) (j:Free X M a) (e:s.heap.get? a=U o) (v:k.own=Y:=by rfl):Inv X (LV M a (U (k,o))) O s:=by
 let ne:∀{b x},M b=U x->b≠a:=λh q=>by simp_all [j.m]
 show I.re (dY j.m) (λk b o _ h=>by rw[ax (ne h)];show h) (λb o h _=>by rw[ax (ne h)];show h) λb u g h=>?_
 by_cases q:b=a
 .simp_all [ak]
 .rw[ax q]at h;show .inl h
def Inv.fresh (I:Inv X M O s) (h:s.heap.objs.size<=a):Free X M a:=by
 let no:∀{b o},s.heap.get? b=U o->a≠b:=λe q=>by subst q;show absurd (MD e) (by show RJ.mpr h)
 show⟨?_,?_,λx e=>?_,λq j=>?_,λz=>?_⟩
 .cases q:M a with
  |none=>rfl
  |some p=>show absurd rfl (no (I.heap a p.1 p.2 q))
 .let(m,(o,es,u,k,g),_):=I.loc
  show no k
 .let((v,o,k,g),_):=I.cell x a e
  show no k rfl
 .let(_,ps,e,_):=I.tabs q j
  show no e
 .let(o,es,u,k,_):=I.ok.mod.glob
  have:=MD (I.heap _ _ _ (I.base _ _ k));rw[z]at h;show absurd (RK this h) ∅
def Inv.new (I:Inv X M O s) (k:o.isFreed=Y:=by rfl):Inv X (LV M s.heap.objs.size (U (.f,o))) O {s with heap:=s.heap.push o,toks:=t}:=
 I.push.put (I.fresh (Mj _)) (Mm _ k)
def Inv.kIn (I:Inv X M O s):K.In s.heap:=I.ok.mod.kin.keeps λb o e=>I.heap _ _ _ (I.base b o e)
def Inv.bk (I:Inv X M O s):∀b o,Md.base.get? b=U o->s.heap.get? b=U o:=λb o e=>I.heap _ _ _ (I.base b o e)
def Aj {N:Z MJ}(k:N.Nodup) {i j:Nat}(a:N[i]?=U x) (b:N[j]?=U x):i=j:=by
 let(y,u):=L9.mp a
 let(v,g):=L9.mp b
 show(a_ k).mp (u.trans g.symm)
structure Lc (X:Cx) (i:Nat) (x:MJ):Prop where
 n:X.N[i]?=U x
 nd:X.N.Nodup
 l:X.env.scope.names.lookup x=U .local\/(X.env.scope.names.lookup x=U .cell/\X.fn=V)
def Inv.cne (I:Inv X M O s) (e:X.env.cells.lookup x=U c):c≠X.env.locals:=λz=>by
 let((v,o,ho,hd),_):=I.cell x c e;let(m,(g,es,u,k,j,_),_):=I.loc
 simp_all
def Inv.store {Q:Unit->Mn->Prop}(I:Inv X M O s) (N:Lc X i x) (r:Va M i d u b) (h:∀s' c,Inv X M (O.set i (U (d,b))) s'->Nv c s.heap s'.heap->(c=X.env.locals\/X.env.cells.lookup x=U c)->Q q_ s'):WP X (storeName X.env x u) Q s:=by
 let(m,C,hl):=id I.loc;let hN:=(L9.mp N.n).1
 let hi:i<O.length:=by have:=I.len;lia
 let H:∀{p:OF}{t:Nat}{m':MJ->G Ml}{c},p.Ns X.env.locals m'->Nv c s.heap p->(c=X.env.locals\/(X.fn=V/\X.env.cells.lookup x=U c/\p.IsCell c (U u)))->AZ X.env p m' x u->(∀y v,y≠x->AZ X.env s.heap m y v->AZ X.env p m' y v)->Q q_ {s with heap:=p,toks:=t}:=by
  intro p t m' c w hs g lx L;let mc:M c=B:=by
   rcases g with rfl|⟨f,e,_⟩
   .show I.free
   .show(I.cell x c e).2.elim id λz=>by simp_all
  let k:∀b o,b≠c->s.heap.get? b=U o->p.get? b=U o:=λb o q e=>(hs.2 b q).trans e
  let ck:∀y d,X.env.cells.lookup y=U d->d≠c->∀v,s.heap.IsCell d v->p.IsCell d v:=λy d e q v ⟨o,E,P⟩=>⟨o,k d o q E,P⟩
  show h _ c ⟨I.ok,I.og,λa r o e=>k a o (λz=>()) (I.heap a r o e),I.base,⟨m',w,λj y e b' R T e3=>?_⟩,I.free,λy d e=>⟨?_,(I.cell y d e).2⟩,I.tabs.to Sub.refl (λq h=>(I.tabs q h).1) λq hq o=>k _ o ?_,I.own,I.uni,by simpa using I.len,I.sys,λh=>by simpa using I.stl h,λj d b z=>I.sto j d b (by rw[Mh ()]at z;show z),I.cap,I.slo⟩ hs (g.imp id λz=>z.2.1)
  .by_cases F:j=i
   .subst F
    rw[N.n]at R;ext R;rw[Mz hi]at T;ext T
    show⟨u,lx,r⟩
   .rw[Mh (MR F)]at T
    let(v,l,q):=hl j y e b' R T e3;show⟨v,L y v (λz=>F (Aj N.nd R (z▸N.n))) l,q⟩
  .by_cases q:d=c
   .subst q
    rcases g with rfl|⟨_,_,z⟩
    .show absurd rfl (I.cne e)
    .show⟨_,z⟩
   .let((v,z),_):=I.cell y d e
    show⟨v,ck y d e q v z⟩
  .rintro rfl
   let(_,ps,e,_):=I.tabs q hq
   rcases g with z|⟨_,e',o,z⟩
   .let(o,es,ep,E,P,_):=C;rfl'
   .let((v,o,E,P),_):=I.cell x _ e';rfl'
 rcases N.l with K|⟨K,hf⟩
 .show wpAny_storeName_local K C (λp w hs=>H w hs (.inl rfl) (.inl ⟨K,by simp⟩) λy v S l=>?_) (by rw[I.ok.kind];rfl)
  rcases l with l|⟨q,c,e,z⟩
  .show .inl ⟨l.1,by simp[S,l.2]⟩
  .show .inr ⟨q,c,e,z.sameBut hs (I.cne e)⟩
 .let(c,g):=I.ok.has x (.inl K)
  let((A,z),_):=I.cell x c g;show wpAny_storeName_cell I.ok.kind K g z λp W hs=>H (t:=s.toks) (C.sameBut hs (MR (I.cne g))) hs (.inr ⟨hf,g,W⟩) (.inr ⟨.inl K,c,g,W⟩) λy v S l=>?_
  rcases l with l|⟨q,d,e,D⟩
  .show .inl l
  .show .inr ⟨q,d,e,D.sameBut hs λq=>S (I.ok.inj _ _ _ e (q▸g))⟩
def Inv.chg1 (I:Inv X M O s) (g:κ.own=V) (q:M a=U (κ,o)) (k:∀b ob,b≠a->s.heap.get? b=U ob->s'.heap.get? b=U ob) (Q:s'.heap.get? a=U o') (P:Ow o') (C:δ'.length=O.length) (nm:∀j x d b,X.N[j]?=U x->δ'[j]?=U (U (d,b))->(κ≠.o j/\O[j]?=U (U (d,b)))\/∃n b0,O[j]?=U (U (n,b0))/\∀u,Va M j n u b0->Va (LV M a (U (κ,o'))) j d u b) (st:∀j d b,δ'[X.N.length+j]?=U (U (d,b))->(κ≠.s j/\O[X.N.length+j]?=U (U (d,b)))\/(b=V/\κ=.s j/\(∃f,M.r[j]?=U f/\f.2=a)/\Ca M d o')) (F:X.S≠B->∀j,κ≠.s j) (hg:s'.os=s.os/\s'.gens=s.gens:=by show⟨rfl,rfl⟩):
  Inv X (LV M a (U (κ,o'))) δ' s'/\Sub Y M Y (LV M a (U (κ,o')))/\∀b ob,M b=U (.p,ob)↔LV M a (U (κ,o')) b=U (.p,ob):=by
 let R:∀{b k ob},M b=U (k,ob)->k.own=Y->b≠a:=λh w z=>by subst z;rw[q]at h;ext h;rw[g]at w;ext w
 let hs:Sub Y M Y (LV M a (U (κ,o'))):=.of λb ob r=>by rw[ax (R r rfl)];show r
 let kp:∀b ob,M b=U (.p,ob)↔LV M a (U (κ,o')) b=U (.p,ob):=λb ob=>by
  by_cases z:b=a
  .subst z;rw[ak,q];constructor<;>intro w<;>ext w<;>ext g
  .rw[ax z]
 let ow:∀{b j ob},LV M a (U (κ,o')) b=U (j,ob)->∃i,M b=U (j,i):=λ{b j ob} z=>by
  grind [ak,ax]
 show⟨I.mp hs (λb r ob z=>?_) (λb ob _ z w=>k b ob (λy=>by subst y;rw[z _ _ q]at g;ext g) w) (λb ob z _=>(kp b ob).mp z) (λb z _=>by rw[ax (λy=>by subst y;rw[q]at z;ext z)];show z) (λb j ob z w=>?_) (λb c j ob oc w z K=>?_) (λb j ob z=>let ⟨_,w⟩:=ow z;I.slo _ _ _ w) (λr ob z=>?_) C (λj x d b A H E=>?_) (λj d b z=>?_) (λw b j ob=>?_) rfl hg,hs,kp⟩
 .by_cases t:b=a
  .subst t;rw[ak]at z;ext z;show Q
  .rw[ax t]at z;show k b ob t (I.heap b r ob z)
 .by_cases t:b=a
  .subst t;rw[ak]at z;ext z;show P
  .rw[ax t]at z;show I.own b j ob z w
 .let(_,m):=ow z;let(_,W):=ow K;show I.uni _ _ _ _ _ w m W
 .let(_,m):=ow z;show I.sys _ _ m
 .rcases nm j x d b A E with⟨l,e⟩|z
  .show⟨d,b,e,λu _ v=>v.to hs λc ob w=>by rw[ax (λy=>by subst y;rw[q]at w;ext w;show l rfl)];show w⟩
  .let(n,b0,l,t):=z;show⟨n,b0,l,λu _=>t u⟩
 .rcases st j d b z with w|⟨T,rfl,⟨f,m,rfl⟩,w⟩
  .show .inl ⟨w.2,λf ob _ h=>by rw[ax (λy=>by rw[y,q]at h;ext h;show w.1 rfl)];show h⟩
  .show .inr ⟨T,f,o',m,ak,w.to hs⟩
 .by_cases z:b=a
  .subst z;rw[ak,q];constructor<;>intro y<;>ext y<;>show absurd rfl (F w _)
  .rw[ax z]
def Inv.chg (I:Inv X M O s) (e:O[i]?=U (U (d,V))) (f:X.N[i]?=U x) (q:M a=U (.o i,o)) (k:∀b ob,b≠a->s.heap.get? b=U ob->s'.heap.get? b=U ob) (l:s'.heap.get? a=U o') (n:Ow o') (m:C M d' o') (hg:s'.os=s.os/\s'.gens=s.gens:=by show⟨rfl,rfl⟩):
  Inv X (LV M a (U (.o i,o'))) (O.set i (U (d',V))) s'/\Sub Y M Y (LV M a (U (.o i,o')))/\∀b ob,M b=U (.p,ob)↔LV M a (U (.o i,o')) b=U (.p,ob):=by
 let hi:i<X.N.length:=(L9.mp f).1
 let hs:Sub Y M Y (LV M a (U (.o i,o'))):=.of λb ob r=>by rw[ax (λz=>by subst z;rw[q]at r;ext r)];show r
 show I.chg1 rfl q k l n (by simp) (λj x d1 b h g=>?_) (λj d1 b z=>.inl ⟨λw=>(nomatch w),by rw[Mh ()]at z;show z⟩) (λ_ _ w=>nomatch w) (hg:=hg)
 by_cases y:j=i
 .subst y
  rw[Mz (L9.mp e).1]at g;ext g
  show .inr ⟨d,V,e,λu v=>?_⟩
  let(K,o1,rfl,t,c):=v;obtain rfl:=I.uni _ _ _ _ _ rfl q t;show⟨a,o',rfl,ak,m.to hs⟩
 .show .inl ⟨λw=>y (by injection w with w;show w.symm),by rw[Mh (MR y)]at g;show g⟩
def Inv.chgS (I:Inv X M O s) (y:X.S=B) (e:O[X.N.length+j]?=U (U (d,V))) (v:M.r[j]?=U xa) (q:M xa.2=U (.s j,o)) (k:∀b ob,b≠xa.2->s.heap.get? b=U ob->s'.heap.get? b=U ob) (f:s'.heap.get? xa.2=U o') (c:Ow o') (t:Ca M d' o') (hg:s'.os=s.os/\s'.gens=s.gens:=by show⟨rfl,rfl⟩):
  Inv X (LV M xa.2 (U (.s j,o'))) (O.set (X.N.length+j) (U (d',V))) s'/\Sub Y M Y (LV M xa.2 (U (.s j,o')))/\∀b ob,M b=U (.p,ob)↔LV M xa.2 (U (.s j,o')) b=U (.p,ob):=by
 show I.chg1 rfl q k f c (by simp) (λi x d1 b m u=>.inl ⟨λw=>(nomatch w),?_⟩) (λi d1 b z=>?_) (λw=>absurd y w) (hg:=hg)
 .have:=(L9.mp m).1
  rw[Mh ()]at u;show u
 .by_cases g:i=j
  .subst g
   rw[Mz (L9.mp e).1]at z;ext z
   show .inr ⟨rfl,rfl,⟨xa,v,rfl⟩,t⟩
  .show .inl ⟨λw=>g (by injection w with w;show w.symm),by rw[Mh ()]at z;show z⟩
def dis (i:Nat) (M:Mp):Mp:=⟨λa=>match M a with|some (.o j,o)=>if j=i then B else U (.o j,o)|x=>x,M.r⟩
def BK (h:M a=U (k,o)) (j:k≠.o i):dis i M a=U (k,o):=by ext dis;left;rw[h];ext k<;>simp_all
def Gx (h:dis i M a=U (k,o)):M a=U (k,o)/\k≠.o i:=by
 unfold dis at h;dsimp only at h;split at h
 .lia
 .simp_all
def zG (h:M a=B):dis i M a=B:=by ext dis;left;rw[h]
def G3:Sub Y M Y (dis i M):=.of λ_ _ q=>BK q λz=>nomatch z
def C.ow (c:C M d o):Ow o:=by
 cases d with
 |lst ds=>let(vs,(_,n,rfl),_):=c;show⟨by simp,λ_ z=>nomatch z⟩
 |dK ks ds=>let(us,vs,(_,j,_,_,es,g,k,_),_):=c;show⟨by rw[j.1];simp,λ_ z=>by rw[k]at z;cases z⟩
 |dD ks ds=>let(us,vs,(_,j,_,_,es,g,k,_),_):=c;show⟨by rw[j.1];simp,λ_ z=>by rw[k]at z;cases z⟩
 |_=>show False.elim c
def Inv.setOwn (I:Inv X M O s) (f:Free X M a) (e:s.heap.get? a=U o) (c:C M d o) (R:Lc X i x) (h:∀s' M' c,Inv X M' (O.set i (U (d,V))) s'->Sub Y M Y M'->(∀b ob,M b=U (.p,ob)↔M' b=U (.p,ob))->Nv c s.heap s'.heap->(c=X.env.locals\/X.env.cells.lookup x=U c)->(∀b,M b=B->b≠a->M' b=B)->Q q_ s'):WP X (storeName X.env x (.ref a)) Q s:=by
 let H:∀{b k ob},M b=U (k,ob)->b≠a:=λh z=>by rw[z,f.m]at h;ext h
 let kn:∀{b k ob},LV (dis i M) a (U (.o i,o)) b=U (k,ob)->(b=a/\k=.o i/\ob=o)\/(b≠a/\M b=U (k,ob)/\k≠.o i):=λ{b k ob} z=>by
  by_cases t:b=a
  .subst t;rw[ak]at z;ext z;show .inl ⟨rfl,rfl,rfl⟩
  .rw[ax t]at z;show .inr ⟨t,Gx z⟩
 let g:∀{b k ob},M b=U (k,ob)->k≠.o i->LV (dis i M) a (U (.o i,o)) b=U (k,ob):=λh z=>by rw[ax (H h)];show BK h z
 let hs:Sub Y M Y (LV (dis i M) a (U (.o i,o))):=.of λb ob q=>g q λz=>nomatch z
 let S:∀b ob,M b=U (.p,ob)↔LV (dis i M) a (U (.o i,o)) b=U (.p,ob):=λb ob=>⟨λq=>g q λz=>(nomatch z),λq=>(kn q).elim (λz=>nomatch z.2.1) λz=>z.2.1⟩
 let T:∀b,M b=B->b≠a->LV (dis i M) a (U (.o i,o)) b=B:=λb q z=>by rw[ax z];show zG q
 let Z7:Inv X (LV (dis i M) a (U (.o i,o))) (O.set i B) s:=by
  show I.mp hs (λb r ob z=>(kn z).elim (λw=>by rw[w.1,w.2.2];show e) λw=>I.heap b r ob w.2.1) (λ_ _ _ _ z=>z) (λb ob z _=>(S b ob).mp z) (λb z w=>T b z λy=>w (by rw[y];show f)) (λb j ob z w=>(kn z).elim (λy=>by rw[y.2.2];show c.ow) λy=>I.own b j ob y.2.1 w) (λb c j ob oc w z A=>?_) (λb j ob z=>(kn z).elim (λy=>nomatch y.2.1) λy=>I.slo _ _ _ y.2.1) (λr ob z=>(kn z).elim (λy=>absurd y.1.symm f.s) λy=>I.sys r ob y.2.1) (by simp) (λj y e b e1 e2 l=>?_) (λj d b w=>.inl ⟨?_,λxa ob _ z=>g z λw=>(nomatch w)⟩) (λ_ b j ob=>⟨λz=>(kn z).elim (λy=>nomatch y.2.1) λy=>y.2.1,λz=>g z λw=>nomatch w⟩)
  .rcases kn z with⟨N,t,_⟩|⟨N,t,E⟩<;>rcases kn A with⟨W,K,_⟩|⟨W,K,y3⟩
   .rw[N,W]
   .show absurd t y3
   .show absurd K E
   .show I.uni _ _ _ _ _ w t K
  .let F:j≠i:=λz=>by subst z;rw[List.getElem?_set]at l;split at l<;>simp_all
   rw[Mh (MR F)]at l
   show⟨e,b,l,λu _ v=>v.to hs λc ob z=>g z λw=>F (by injection w)⟩
  .have:=(L9.mp R.n).1
   rw[Mh ()]at w;show w
 show Z7.store R (d:=d) (b:=V) ⟨a,o,rfl,ak,c.to hs⟩ λs' c P L D=>h s' _ c ?_ hs S L D T
 rw[Ta]at P;show P
def Inv.frz (I:Inv X M O s) (e:O[i]?=U (U (d,V))) (S:X.N[i]?=U x) (F:Je X.env.scope x):∃M',Sub Y M Y M'/\(∀a o,M a=U (.p,o)↔M' a=U (.p,o))/\(∀a,M a=B↔M' a=B)/\Inv X M' (O.set i (U (d,Y))) s/\M'.r=M.r:=by
 let hi:i<X.N.length:=(L9.mp S).1
 let(m,H,P):=id I.loc;let(u,l,a,o,rfl,q,c):=P i x d V S e F;let hs:Sub Y M Y (LV M a (U (.f,o))):=.of λb ob r=>by rw[ax (λz=>by subst z;rw[q]at r;ext r)];show r
 let R:∀b ob,M b=U (.p,ob)↔LV M a (U (.f,o)) b=U (.p,ob):=λb ob=>by
  by_cases z:b=a
  .subst z;rw[ak,q];simp
  .rw[ax z]
 let n:∀b,M b=B↔LV M a (U (.f,o)) b=B:=λb=>by
  by_cases z:b=a
  .subst z;rw[ak,q];simp
  .rw[ax z]
 let ow:∀{b k ob},LV M a (U (.f,o)) b=U (k,ob)->k.own=V->M b=U (k,ob):=λ{b k ob} z w=>by
  by_cases g:b=a
  .subst g;rw[ak]at z;ext z;ext w
  .rw[ax g]at z;show z
 let t:∀{b k ob},M b=U (k,ob)->k≠.o i->LV M a (U (.f,o)) b=U (k,ob):=λh z=>by rw[ax (λw=>by subst w;rw[q]at h;ext h;show z rfl)];show h
 show⟨_,hs,R,n,I.mp hs (λb r ob z=>?_) (λ_ _ _ _ z=>z) (λb ob z _=>(R b ob).mp z) (λb z _=>(n b).mp z) (λb k ob z w=>I.own b k ob (ow z w) w) (λb c k ob oc w z C=>I.uni b c k ob oc w (ow z w) (ow C w)) (λb j ob z=>I.slo _ _ _ (ow z rfl)) (λr ob z=>?_) (by simp) (λj y Q b L D K=>?_) (λj d b w=>.inl ⟨by rw[Mh ()]at w;show w,λE ob _ z=>t z λw=>nomatch w⟩) (λ_ b j ob=>⟨λz=>ow z rfl,λz=>t z λw=>nomatch w⟩),rfl⟩
 .by_cases g:b=a
  .subst g;rw[ak]at z;ext z;show I.heap _ _ _ q
  .rw[ax g]at z;show I.heap b r ob z
 .by_cases g:sysModules=a
  .rw[<-g]at q;show nomatch I.sys _ _ q
  .rw[ax g]at z;show I.sys r ob z
 .by_cases T:j=i
  .subst T
   rw[Mz (L9.mp e).1]at K;ext K
   show⟨d,V,e,λu _ v=>?_⟩
   let(a',A,rfl,W,c'):=v;obtain rfl:=I.uni _ _ _ _ _ rfl q W;rw[q]at W;ext W;show c.rep hs (KR.mpr ak)
  .rw[Mh (MR T)]at K
   show⟨Q,b,K,λu _ v=>v.to hs λc ob z=>t z λw=>T (by injection w)⟩
def Inv.slot (I:Inv X M O s) (hst:X.st=V) (hS:X.S=B) (f:Free X M a) (e:s.heap.get? a=U o) (R:Ow o) (L:Ca M d o) (x:MM):Inv X ⟨(LV M a (U (.s M.r.length,o))).g,M.r++[(x,a)]⟩ (O++[U (d,V)]) s/\Sub Y M Y ⟨(LV M a (U (.s M.r.length,o))).g,M.r++[(x,a)]⟩/\(∀b k ob,M b=U (k,ob)->LV M a (U (.s M.r.length,o)) b=U (k,ob))/\∀b k ob,LV M a (U (.s M.r.length,o)) b=U (k,ob)->(b=a/\k=.s M.r.length/\ob=o)\/M b=U (k,ob):=by
 let A:∀{b k ob},M b=U (k,ob)->b≠a:=λh z=>by rw[z,f.m]at h;ext h
 let p:∀b k ob,M b=U (k,ob)->LV M a (U (.s M.r.length,o)) b=U (k,ob):=λb k ob h=>by rw[ax (A h)];show h
 let kn:∀b k ob,LV M a (U (.s M.r.length,o)) b=U (k,ob)->(b=a/\k=.s M.r.length/\ob=o)\/M b=U (k,ob):=λb k ob z=>by
  by_cases n:b=a
  .subst n;rw[ak]at z;ext z;show .inl ⟨rfl,rfl,rfl⟩
  .rw[ax n]at z;show .inr z
 let T:∀b,M b=B->b≠a->LV M a (U (.s M.r.length,o)) b=B:=λb q z=>by rw[ax z];show q
 let hs:Sub Y M Y ⟨(LV M a (U (.s M.r.length,o))).g,M.r++[(x,a)]⟩:=.of (λb ob q=>p b _ ob q) λj y z=>by rw[Me (L9.mp z).1];show z
 let(m,H,D):=I.loc;let hd:=I.stl hst;show⟨⟨I.ok,I.og,λb k ob z=>(kn b k ob z).elim (λw=>by rw[w.1,w.2.2];show e) (I.heap b k ob),λb ob z=>p _ _ _ (I.base b ob z),⟨m,H,λi y d1 b P F e3=>?_⟩,T _ I.free (MR f.l),λy c z=>⟨(I.cell y c z).1,(I.cell y c z).2.imp (λq=>T _ q λw=>f.c y (w▸z)) λ⟨g,ob,q⟩=>⟨g,ob,p _ _ _ q⟩⟩,I.tabs.to hs (λq h=>T _ (I.tabs q h).1 (MR (f.t q h))) λ_ _ _ h=>h,λb k ob z w=>(kn b k ob z).elim (λy=>by rw[y.2.2];show R) λy=>I.own b k ob y w,λb c k ob oc w z Q=>?_,by simp;have:=I.len;lia,λk ob z=>(kn _ k ob z).elim (λy=>absurd y.1.symm f.s) (I.sys k ob),λh=>by simp;lia,λj d1 b z=>?_,λr z=>(by rw[hS]at z;ext z),λb j ob z=>?_⟩,hs,p,kn⟩
 .let hi:=(L9.mp P).1
  rw[Me (by have:=I.len;lia)]at F
  let(u,l,v):=D i y d1 b P F e3;show⟨u,l,v.to hs λc ob z=>p _ _ _ z⟩
 .let lt:∀{b ob},M b≠U (.s M.r.length,ob):=λ{b ob} z=>PB _ (I.slo _ _ _ z)
  rcases kn b k ob z with⟨K,n,_⟩|K<;>rcases kn c k oc Q with⟨W,E,_⟩|W
  .rw[K,W]
  .rw[n]at W;show absurd W lt
  .rw[E]at K;show absurd K lt
  .show I.uni _ _ _ _ _ w K W
 .by_cases hj:j<M.r.length
  .rw[Me ⟨⟩]at z
   let(h1,h2):=I.sto j d1 b z;show⟨h1,h2.to hs λxa ob _ w=>p _ _ _ w⟩
  .rw[MK ⟨⟩]at z
   have:X.N.length+j - O.length=0:=by
    have:=(L9.mp z).1;simp at this;rfl'
   rw[this]at z;ext z;let C:j=M.r.length:=()
   subst C;show⟨rfl,(x,a),o,by simp,ak,L.to hs⟩
 .rcases kn b _ ob z with⟨_,n,_⟩|K
  .injection n with n;simp;rfl'
  .have:=I.slo _ _ _ K;simp;lia
end
structure Sx (M M':Mp):Prop where
 f:Sub Y M Y M'
 p:∀a o,M a=U (.p,o)->M' a=U (.p,o)
 n:∀a o,M' a=U (.p,o)->M a=U (.p,o)
def Sx.refl:Sx M M:=⟨Sub.refl,λ_ _ h=>h,λ_ _ h=>h⟩
def Sx.trans (a:Sx M N) (b:Sx N Z8):Sx M Z8:=⟨a.f.trans b.f,λ_ _ h=>b.p _ _ (a.p _ _ h),λ_ _ h=>a.n _ _ (b.n _ _ h)⟩
def Ext.sx (h:Ext M M'):Sx M M':=⟨h.sub,λa o e=>by rcases h.e a with z|z<;>grind,λa o e=>by rcases h.e a with z|z<;>grind⟩
section
variable{X X':Cx}{M M' M1:Mp}{O δ1:DEnv}{s s1:Mn}
open Classical in
noncomputable def pin (X:Cx) (M:Mp) (h:OF):Mp:=⟨λa=>if Free X M a then(h.get? a).map λo=>(.p,o) else M a,M.r⟩
open Classical in
noncomputable def unp (X:Cx) (M:Mp) (h:OF) (M1:Mp):Mp:=⟨λa=>if Free X M a/\h.get? a≠B then B else M1 a,M1.r⟩
def qA (h:M a=U x):pin X M hp a=U x:=by ext pin;left;rw[o_ λf=>by rw[f.m]at h;cases h];show h
def o9:Sub m M m (pin X M hp):=⟨λa o ⟨k,e,h⟩=>⟨k,qA e,h⟩,λ_ _ h=>h⟩
nonrec theorem Inv.pin (I:Inv X M O s):Inv X (pin X M s.heap) O s:=I.re o9 (λ_ _ _ _=>qA) (λ_ _ h _=>qA h) λa k o e=>by
 unfold L2.pin at e;dsimp only at e;split at e
 .rename_i f
  cases q:s.heap.get? a with
  |none=>simp_all
  |some j=>rw[q]at e;ext e;show .inr ⟨rfl,f,rfl⟩
 .show .inl e
nonrec theorem Inv.unp (I:Inv X M O s) (Z7:Inv X M1 δ1 s1) (e:Sx (L2.pin X M s.heap) M1):Inv X (unp X M s.heap M1) δ1 s1/\Sx M (unp X M s.heap M1)/\Sub Y M1 Y (unp X M s.heap M1)/\(∀a,M1 a=B->unp X M s.heap M1 a=B)/\(∀a k o,k.own=V->M1 a=U (k,o)->unp X M s.heap M1 a=U (k,o))/\∀a o,Free X M a->s.heap.get? a=U o->s1.heap.get? a=U o/\Free X (unp X M s.heap M1) a:=by
 let key:∀{a o},Free X M a->s.heap.get? a=U o->M1 a=U (.p,o):=λ{a o} f q=>e.p a o (by unfold L2.pin;left;rw[n_ f,q];rfl)
 let keep:∀{a k o},M1 a=U (k,o)->(k=.p->¬Free X M a)->L2.unp X M s.heap M1 a=U (k,o):=λ{a k o} q h=>by
  unfold L2.unp;left;rw[o_];show q
  rintro⟨f,z⟩
  cases w:s.heap.get? a with
  |none=>show z w
  |some g=>have:=key f w;rw[q]at this;ext this;show h rfl f
 show⟨Z7.re (.of λa o q=>keep q λz=>nomatch z) (λk a o w q=>keep q λz=>by subst z;cases w) (λa o q h=>keep q λ_ f=>?_) (λa k o q=>.inl ?_),⟨.of (λa o q=>keep (KR.mp (e.f _ _ (KR.mpr (qA q)))) λz=>nomatch z) (λj x z=>e.f.r j x z),λa o q=>keep (e.p a o (qA q)) λ_ f=>(by rw[f.m]at q;cases q),λa o q=>?_⟩,.of (λa o q=>keep q (λz=>nomatch z)),λa q=>(by unfold L2.unp;left;split<;>first|rfl|show q),λa k o w q=>keep q (λz=>by subst z;cases w),λa o f q=>⟨Z7.heap _ _ _ (key f q),?_,f.l,f.c,f.t,f.s⟩⟩
 .rcases h with h|⟨x,h⟩
  .have:=I.base _ _ h;rw[f.m]at this;ext this
  .show f.c x h
 .unfold L2.unp at q;dsimp only at q;split at q;ext q;show q
 .unfold L2.unp at q;dsimp only at q;split at q
  .ext q
  .rename_i z
   have:=e.n a o q;unfold L2.pin at this;dsimp only at this;split at this
   .rename_i f;cases w:s.heap.get? a<;>simp_all
   .show this
 .unfold L2.unp;show n_ ⟨f,by simp[q]⟩
open Classical in
noncomputable def LC (m ko ks:Bool) (M:Mp) (h:OF) (ex:Z MM):Mp:=⟨λa=>match M a with
 |some (.o i,o)=>U (if m then .f else if ko then .o i else .p,o)
 |some (.s j,o)=>U (if ks then .s j else if m then .f else .p,o)
 |some x=>U x
 |none=>if a∈ex\/(∃q∈tb,a=q.1) then B else(h.get? a).map λo=>(.p,o),M.r⟩
open Classical in
noncomputable def JQ (M:Mp) (h:OF) (M1:Mp):Mp:=⟨λa=>match M a with
 |some x=>U x
 |none=>if h.get? a≠B then B else match M1 a with|some (.f,o)=>U (.f,o)|_=>B,M.r⟩
def Ao (e:M a=U (.f,o)):LC m ko ks M hp ex a=U (.f,o):=by ext LC;left;rw[e]
def ky:Sub Y M Y (LC m ko ks M hp ex):=.of λa o e=>Ao e
def sG (h:m=V->ks=Y):Sub m M Y (LC m ko ks M hp ex):=⟨λa o ⟨k,e,z⟩=>(by
 show KR.mpr ?_;ext LC;left;rw[e];ext k<;>simp_all [Rl.ok]),λ_ _ h=>h⟩
theorem oC:Ext M (JQ M hp M1):=⟨λa=>by
 ext JQ;left;cases e:M a with
 |some x=>show .inl rfl
 |none=>
  left;split
  .show .inl rfl
  .cases q:M1 a with
   |none=>show .inl rfl
   |some x=>let(k,o):=x;cases k<;>first|show .inl rfl|show .inr ⟨rfl,_,rfl⟩,rfl⟩
structure Lft (M1:Mp) (s1:Mn):Prop where
 og:s1.os=Md.os/\s1.gens=gens
 heap:∀a k o,M1 a=U (k,o)->s1.heap.get? a=U o
 tabs:TabOk M1 s1.heap
 sys:∀k o,M1 sysModules=U (k,o)->k=.p
def Inv.lft (Z7:Inv X M O s):Lft M s:=⟨Z7.og,Z7.heap,Z7.tabs,Z7.sys⟩
def Inv.ret (I:Inv X M O s) (Z7:Lft M1 s1) (hf:∀b∈ex,Free X M b) (hx:∀b∈ex,M1 b=B) (e:Sx (LC m ko ks M s.heap ex) M1) (eo:∀a k o,k.own=V->LC m ko ks M s.heap ex a=U (k,o)->M1 a=U (k,o)) (hr:M1.r=M.r):Inv X (JQ M s.heap M1) O s1/\Sub Y M1 m (JQ M s.heap M1):=by
 let c1:∀{a k o},M a=U (k,o)->∃k',LC m ko ks M s.heap ex a=U (k',o)/\(k'=.f->k.ok m=V)/\(k=.f->k'=.f):=λ{a k o} h=>by
  ext LC;left;rw[h];ext k<;>ext m<;>ext ko<;>ext ks<;>simp_all [Rl.ok]
 let c2:∀{a o},M a=B->s.heap.get? a=U o->a∉ex->(∀q∈tb,a≠q.1)->LC m ko ks M s.heap ex a=U (.p,o):=λ{a o} h q h1 h2=>by
  ext LC;left;rw[h];left;rw[o_ (by rintro(z|⟨q,z1,z2⟩);show h1 z;show h2 q z1 z2),q];rfl
 let k1:∀{a k o},LC m ko ks M s.heap ex a=U (k,o)->M1 a=U (k,o):=λ{a k o} h=>by
  cases k with
  |f=>show KR.mp (e.f _ _ (KR.mpr h))
  |p=>show e.p _ _ h
  |_=>show eo _ _ _ rfl h
 let k2:∀{a o},M a=B->s.heap.get? a=U o->a∉ex->(∀q∈tb,a≠q.1)->s1.heap.get? a=U o:=λh q h1 h2=>Z7.heap _ _ _ (k1 (c2 h q h1 h2))
 let k3:∀{a k o},M a=U (k,o)->s1.heap.get? a=U o:=λh=>by let(k',h1,_):=c1 h;show Z7.heap _ _ _ (k1 h1)
 let nl:∀q∈tb,X.env.locals≠q.1:=λq hq z=>by
  let(_,ps,h,_):=I.tabs q hq;let(_,(o,es,ep,h1,h2,_),_):=I.loc;rw[z,h]at h1;ext h1;ext h2
 let nc:∀x c,X.env.cells.lookup x=U c->∀q∈tb,c≠q.1:=λx c z q hq w=>by
  let(_,ps,h,_):=I.tabs q hq;let((v,o,h1,h2),_):=I.cell x c z;rw[w,h]at h1;ext h1;ext h2
 let sub:Sub Y M1 m (JQ M s.heap M1):=⟨λa o q=>(by
  rw[KR]at q;unfold Rd JQ;left;cases h:M a with
  |some x=>
   let(k,o'):=x;let(k',h1,h3,_):=c1 h;have:=k1 h1;rw[q]at this;ext this;show⟨k,rfl,h3 rfl⟩
  |none=>
   left;rw[o_,q];show⟨.f,rfl,rfl⟩;intro z;cases w:s.heap.get? a with
   |none=>show z w
   |some o'=>have:=k1 (c2 h w (λz=>by rw[hx a z]at q;ext q) λr hr z=>by have:=(Z7.tabs r hr).1;rw[<-z,q]at this;ext this);rw[q]at this;ext this),λj x z=>by rw[hr]at z;show z⟩
 let of:∀{a x},M a=U x->JQ M s.heap M1 a=U x:=λh=>by ext JQ;left;rw[h]
 let no:∀{a o},M a=B->s.heap.get? a=U o->JQ M s.heap M1 a=B:=λh q=>by ext JQ;left;rw[h];left;rw[n_ (by simp[q])]
 let kn:∀{a k o},JQ M s.heap M1 a=U (k,o)->M a=U (k,o)\/(M a=B/\k=.f/\M1 a=U (.f,o)):=λ{a k o} q=>by
  unfold JQ at q;dsimp only at q;cases h:M a with
  |some x=>rw[h]at q;show .inl q
  |none=>
   rw[h]at q;dsimp only at q;split at q;ext q;split at q<;>ext q
   show .inr ⟨rfl,rfl,by assumption⟩
 let ow:∀{a k o},JQ M s.heap M1 a=U (k,o)->k.own=V->M a=U (k,o):=λq w=>(kn q).elim id λz=>by rw[z.2.1]at w;ext w
 let sf:Sub Y M Y (JQ M s.heap M1):=.of λa o q=>of q
 let xc:∀x c,X.env.cells.lookup x=U c->c∉ex:=λx c e z=>(hf _ z).c x e
 let kc:∀x c o,X.env.cells.lookup x=U c->s.heap.get? c=U o->s1.heap.get? c=U o:=λx c o z q=>by
  cases h:M c with
  |none=>show k2 h q (xc x c z) (nc x c z)
  |some y=>let(k,o'):=y;have:=I.heap _ _ _ h;rw[q]at this;ext this;show k3 h
 let(m0,(oL,es,ep,hL,hL2),hl):=id I.loc;show⟨⟨I.ok,Z7.og,λa k o q=>(kn q).elim k3 λz=>Z7.heap _ _ _ z.2.2,λa o q=>of (I.base a o q),⟨m0,⟨oL,es,ep,k2 I.free hL (λz=>(hf _ z).l rfl) nl,hL2⟩,λi x d b e1 e2 e3=>?_⟩,no I.free hL,λx c z=>?_,λq hq=>?_,λa k o q w=>I.own _ _ _ (ow q w) w,λa b k o o' w q q'=>I.uni _ _ _ _ _ w (ow q w) (ow q' w),I.len,λk o q=>(kn q).elim (I.sys k o) λz=>(nomatch Z7.sys _ _ z.2.2),I.stl,λj d b z=>?_,λM0 z=>?_,λa j o q=>I.slo _ _ _ (ow q rfl)⟩,sub⟩
 .let(u,l,v):=hl i x d b e1 e2 e3
  show⟨u,pi l λc o=>kc x c o,v.to sf λa o=>of⟩
 .let((v,o,h1,h2),h3):=I.cell x c z
  show⟨⟨v,o,kc x c o z h1,h2⟩,h3.imp (λq=>no q h1) λ⟨f,o,q⟩=>⟨f,o,of q⟩⟩
 .let(hn,ps,h1,h2,h3):=Z7.tabs q hq
  let(hn0,ps0,h0,_):=I.tabs q hq;show⟨no hn0 h0,ps,h1,h2,λpos cv z=>?_⟩
  let(c,oc,vs,t,e1,e2,e3,e4):=h3 pos cv z;show⟨c,oc,vs,t,e1,?_,e3,e4⟩
  let(k,w,hk):=sub c oc (KR.mpr e2)
  rcases kn w with z|z
  .cases hk':k.own with
   |true=>show absurd e3 ((I.own _ _ _ z hk').2 vs)
   |false=>cases k<;>first|show w|(simp[Rl.ok]at hk;done)|(cases hk';done)
  .rw[z.2.1]at w;show w
 .let(h1,h2):=I.sto j d b z;show⟨h1,h2.to sf λxa o _ w=>of w⟩
 .let(h1,h2):=I.cap M0 z;show⟨h1,λa j o=>⟨λw=>(h2 a j o).mp (ow w rfl),λw=>of ((h2 a j o).mpr w)⟩⟩
end
end L2
namespace L2
open PySem
def ac {k β:Type}(x:G k) (f:k->G β):G β:=match x with|some a=>f a|none=>B
def ag {k β:Type}{x:G k}{f:k->G β}{b:β}(h:ac x f=U b):∃a,x=U a/\f a=U b:=by
 cases x with
 |none=>ext h
 |some a=>show⟨a,rfl,h⟩
def b2 {k:Type}(g:D->D->G k) (x y:G D):G k:=ac x λa=>ac y (g a)
def nQ {j:Type}{g:D->D->G j}{d:j}(h:b2 g x y=U d):∃a b,x=U a/\y=U b/\g a b=U d:=by
 let(a,v,k):=ag h;let(b,k,u):=ag k;show⟨a,b,v,k,u⟩
def gd {k:Type}(c:Bool) (x:k):G k:=if c=V then U x else B
def iF {k:Type}{x y:k}(h:gd c x=U y):c=V/\y=x:=by unfold gd at h;split at h<;>simp_all
def LZ:Nat:=1000000
def aG (h:n<=LZ):n<=sizeLine:=ME h ∅
def rd (m:Bool) (i:Nat) (O:DEnv):G D:=match O[i]? with|some (U (d,o))=>if(o&&!m)=V then B else U d|_=>B
def bI (C:Int->Int->Bool) (g:Int->Int->D) (x y:D):G D:=match x,y with|.int i,.int j=>gd (C i j) (g i j)|_,_=>B
def Ip:Int->Int->Bool:=λi j=>decide ((-(2 ^ 64)<i/\i<2 ^ 64)\/(-(2 ^ 64)<j/\j<2 ^ 64))
def Ia:Int->Int->Bool:=λ_ j=>decide (0<j/\j<1073741824)
def Ik:Int->Int->Bool:=λ_ j=>decide (0<j)
def gX:G D->G D->G D:=b2 (bI (λ_ _=>V) λi j=>.int (i+j))
def vQ:G D->G D->G D:=b2 (bI Ip λi j=>.int (i*j))
def mA:G D->G D->G D:=b2 (bI Ia λi j=>.int (i / j))
def fP:G D->G D->G D:=b2 (bI Ik λi j=>.int (i%j))
def cI (g:Int->Int->Bool):G D->G D->G Bool:=b2 λx y=>match x,y with|.int i,.int j=>U (g i j)|_,_=>B
abbrev JJ:Int->Int->Bool:=λi j=>decide (i<j)
abbrev JF:Int->Int->Bool:=λi j=>decide (j<i)
abbrev JH:Int->Int->Bool:=λi j=>decide (j<=i)
def Ln (x:G D):G Bool:=match x with|some (.bl b)=>U b|_=>B
def L7 (x:G Bool):G D:=match x with|some b=>U (.bl b)|none=>B
def jM (x y:G Bool):G Bool:=match x with|some V=>y|some Y=>U Y|none=>B
def Ku (x y:G Bool):G Bool:=match x with|some V=>U V|some Y=>y|none=>B
def a7 (x:G Bool):G Bool:=match x with|some c=>U (!c)|none=>B
def uA (x y:G D):G D:=match Ln x with|some V=>y|some Y=>U (.bl Y)|none=>B
def Kl {k:Type}(c:G Bool) (x y:G k):G k:=match c with|some V=>x|some Y=>y|none=>B
def aa (x:G D) (y:G (Z D)):G (Z D):=match x,y with|some d,U ds=>U (d::ds)|_,_=>B
def fS (x:G (Z D)):G D:=ac x λds=>gd (decide (ds.length<=LZ)) (.tup ds)
def eU (x:G (Z D)):G D:=ac x λds=>gd (decide (ds.length<=LZ)) (.lst ds)
def KY:Nat->D->Bool
 |_,.non=>V
 |_,.int _=>V
 |_,.str _=>V
 |n+1,.tup ds=>ds.all (KY n)
 |n+1,.lst ds=>ds.all (KY n)
 |_,_=>Y
def Le (x y:D):Bool:=KY 16 x&&KY 16 y
def KP:G D->G D->G Bool:=b2 λd e=>gd (Le d e) (decide (d=e))
def KZ (x y:G D):G Bool:=a7 (KP x y)
def eA:D->G (Z D)
 |.lst ds=>U ds
 |.tup ds=>U ds
 |_=>B
def J4:G D->G D->G Bool:=b2 λd e=>ac (eA e) λes=>gd (KY 16 d&&es.all (KY 16)) (decide (d∈es))
def eQ (x y:G D):G Bool:=a7 (J4 x y)
mutual
noncomputable def D.flat:D->Bool
 |.non=>V|.bl _=>V|.int _=>V|.str _=>V
 |.tup ds=>D.flats ds
 |_=>Y
noncomputable def D.flats:Z D->Bool
 |[]=>V
 |d::ds=>d.flat&&D.flats ds
end
def Jx (n:Nat) (i:Int):G Nat:=if 0<=i then(if i<n then U i.toNat else B) else if -(n:Int)<=i then U (i+n).toNat else B
def atI {k:Type}(xs:Z k) (i:Int):G k:=(Jx xs.length i).bind λj=>xs[j]?
def Lm:G D->G D->G D:=b2 λd e=>match e with|.int i=>ac (eA d) λds=>atI ds i|_=>B
def EM:G D->G D->G D:=b2 λd e=>match d,e with|.str z,.int i=>if z.length<=LZ then ac (atI z.cps.toList i) λc=>U (.str ⟨#[c]⟩) else B|_,_=>B
def cS (x:G D):G D:=ac x λd=>ac (eA d) λds=>U (.int ds.length)
def GP (x:G D):G D:=ac x λd=>match d with|.str z=>if z.length<=LZ then U (.int z.length) else B|_=>B
def CC (x:G D):G D:=ac x λd=>ac (eA d) λds=>U (.lst ds)
def m7 (x:G D):G D:=ac x λd=>ac (eA d) λds=>U (.tup ds)
def LR (n d:Nat):G Int->Nat
 |none=>d
 |some v=>if v<0 then(v+(n:Int)).toNat else min v.toNat n
def pE {k:Type}(ds:Z k) (lo hi:G Int):Z k:=(ds.drop (LR ds.length 0 lo)).take (LR ds.length ds.length hi - LR ds.length 0 lo)
def xL (x:MJ) (lo hi:G Int):MJ:=if((O5 lo hi 1 x.length).length==x.length)=V then x else⟨((O5 lo hi 1 x.length).filterMap (x.cps[·]?)).toArray⟩
def bA (x:G D):G (G Int):=match x with|some (.int i)=>U (U i)|_=>B
def b3 {k:Type}(g:D->G Int->G Int->G k) (x:G D) (l u:G (G Int)):G k:=ac x λx=>ac l λl=>ac u λu=>g x l u
def cR:G D->G (G Int)->G (G Int)->G D:=b3 λd l u=>match d with|.lst ds=>U (.lst (pE ds l u))|_=>B
def xH:G D->G (G Int)->G (G Int)->G D:=b3 λd l u=>match d with|.str z=>if z.length<=LZ then U (.str (xL z l u)) else B|_=>B
def GE:G D->G D->G D:=b2 λx y=>match x,y with|.str i,.str j=>if i.length+j.length<=LZ then U (.str (i++j)) else B|_,_=>B
def G8:G D->G D->G D:=b2 λx y=>match x,y with|.tup i,.tup j=>if i.length+j.length<=LZ then U (.tup (i++j)) else B|_,_=>B
def tv:G D->G D->G D:=b2 λx y=>match x,y with|.lst i,.lst j=>if i.length+j.length<=LZ then U (.lst (i++j)) else B|_,_=>B
def yQ (x:G D):G D:=match x with|some (.int i)=>U (.int (-i))|_=>B
def vm:Z D->G (Z MJ)
 |[]=>U []
 |.str i::ds=>(match vm ds with|some l=>U (i::l)|none=>B)
 |_=>B
def E1:Z D->G (Z Bool)
 |[]=>U []
 |.bl b::ds=>(match E1 ds with|some bs=>U (b::bs)|none=>B)
 |_=>B
def Ai:G D->G D->G D:=b2 λx y=>match x,y with|.str z,.lst ds=>ac (vm ds) λys=>if(ys.map (·.length)).sum+ys.length*z.length<=16777216 then U (.str (SL z ys)) else B|_,_=>B
def IN (x:G D):G D:=match x with|some (.lst ds)=>ac (E1 ds) λbs=>U (.bl (bs.any id))|_=>B
def o7 (x:G D):G Bool:=match x with|some d=>U (decide (d=.non))|none=>B
def jD (x:G D):G Bool:=match x with
 |some .non=>U Y
 |some (.bl b)=>U b
 |some (.int i)=>U (i != 0)
 |some (.str y)=>if y.length<=LZ then U ((y.length:Int) != 0) else B
 |some (.lst ds)=>U (!ds.isEmpty)
 |some (.tup ds)=>U (!ds.isEmpty)
 |_=>B
inductive Out where
 |next (O:DEnv)|ret (d:D) (fr:Bool) (O:DEnv)|brk (O:DEnv)|cont (O:DEnv)
def aU (O:DEnv):G Out:=U (.next O)
def aq (x:G Out) (k:DEnv->G Out):G Out:=match x with|some (.next O)=>k O|o=>o
def JZ (c:G Bool) (x y:G Out):G Out:=match c with|some V=>x|some Y=>y|none=>B
def cC (i:Nat) (x:G D) (O:DEnv):G Out:=match x with|some d=>if i<O.length then U (.next (O.set i (U (d,Y)))) else B|none=>B
def gE (i:Nat) (x:G D) (O:DEnv):G Out:=match x with|some d=>if i<O.length then U (.next (O.set i (U (d,V)))) else B|none=>B
def bN (x:G D) (O:DEnv):G Out:=match x with|some d=>U (.ret d Y O)|none=>B
def j4 (x:G D) (O:DEnv):G Out:=match x with|some d=>U (.ret d V O)|none=>B
def dh (i:Nat) (O:DEnv):G D:=match O[i]? with|some (U (d,V))=>U d|_=>B
def mG (i:Nat) (O:DEnv):DEnv:=match O[i]? with|some (U (d,V))=>O.set i (U (d,Y))|_=>O
def rH (i:Nat) (x:G D) (O:DEnv):G Out:=match dh i O,x with|some (.lst ds),U d=>if ds.length<LZ then U (.next (O.set i (U (.lst (ds++[d]),V)))) else B|_,_=>B
def Eb (i:Nat) (x:G D) (O:DEnv):G Out:=match dh i O,x with|some (.lst ds),U (.lst es)=>if ds.length+es.length<=LZ then U (.next (O.set i (U (.lst (ds++es),V)))) else B|_,_=>B
def ae (i:Nat) (d:D) (O:DEnv):G DEnv:=if i<O.length then U (O.set i (U (d,Y))) else B
def aY (ds:Z D) (O:DEnv):G DEnv:=match ds with|[]=>U O|_=>B
def ah (τ:D->DEnv->G DEnv) (k:Z D->DEnv->G DEnv) (ds:Z D) (O:DEnv):G DEnv:=match ds with|d::r=>ac (τ d O) (k r)|[]=>B
def aW (k:Z D->DEnv->G DEnv) (d:D) (O:DEnv):G DEnv:=match d with|.tup ds=>k ds O|_=>B
def aV (x:G D):G (Z D):=match x with|some (.lst ds)=>U ds|_=>B
def yR (x:G D):G (Z D):=match x with|some (.tup ds)=>U ds|_=>B
def jH (lo:Int) (n:Nat):Z D:=(MW n).map λ(i:Nat)=>.int (lo+(i:Int))
def rI (x:G D):G (Z D):=match x with|some (.int j)=>if(decide (-(2 ^ 62)<=j/\j<2 ^ 62))=V then U (jH 0 j.toNat) else B|_=>B
def av (body:D->DEnv->G Out):Z D->DEnv->G Out
 |[],O=>U (.next O)
 |d::ds,O=>match body d O with
  |some (.next δ')=>av body ds δ'
  |some (.cont δ')=>av body ds δ'
  |some (.brk δ')=>U (.next δ')
  |some (.ret e fr δ')=>U (.ret e fr δ')
  |none=>B
def cA (t:DEnv->G Bool) (b:DEnv->G Out):Nat->DEnv->G Out
 |0,_=>B
 |n+1,O=>match t O with
  |none=>B
  |some Y=>U (.next O)
  |some V=>match b O with
   |some (.next δ')=>cA t b n δ'
   |some (.cont δ')=>cA t b n δ'
   |some (.brk δ')=>U (.next δ')
   |some (.ret e fr δ')=>U (.ret e fr δ')
   |none=>B
def JT (x:G (D×Bool)):G D:=match x with|some (d,_)=>U d|none=>B
def Km (x:G (D×Bool)):G D:=match x with|some (.tup _,V)=>B|some (d,V)=>U d|_=>B
def bP (n:Nat) (ds:Z D):DEnv:=ds.map (λd=>U (d,Y))++Rg (n - ds.length) B
def jr (x:G Out):G (D×Bool):=match x with|some (.ret d fr _)=>U (d,fr)|some (.next _)=>U (.non,Y)|_=>B
def iD (n k:Nat) (g:DEnv->G Out) (ds:Z D):G (D×Bool):=if ds.length=k then jr (g (bP n ds)) else B
def dz (h:D->G (G D)):Z D->G (Z D)
 |[]=>U []
 |d::ds=>match h d with
  |none=>B
  |some B=>dz h ds
  |some (U y)=>match dz h ds with
   |some l=>U (y::l)
   |none=>B
def eX (bo:Bool) (bs:Z Bool) (O:DEnv):DEnv:=QZ (λ(b:Bool) (o:G (D×Bool))=>if b=V then(match o with|some (d,ow)=>if(ow&&!bo)=V then B else U (d,Y)|none=>B) else B) bs O++(if bo=V then[] else O.drop bs.length)
def dk (τ:D->DEnv->G DEnv) (ft:DEnv->G Bool) (fe:DEnv->G D) (O:DEnv) (d:D):G (G D):=ac (τ d O) λδ'=>match ft δ' with|some V=>(match fe δ' with|some y=>U (U y)|none=>B)|some Y=>U B|none=>B
def bS (bo:Bool) (bs:Z Bool) (τ:D->DEnv->G DEnv) (ft:DEnv->G Bool) (fe:DEnv->G D) (O:DEnv) (ds:Z D):G (Z D):=if ds.length<=LZ then dz (dk τ ft fe (eX bo bs O)) ds else B
def au (x:G (Z D)):G D:=match x with|some ds=>U (.lst ds)|none=>B
def tG:D->G J8
 |.int i=>U (.inl i)
 |.str x=>U (.inr x)
 |_=>B
def aP {κ β:Type}[DecidableEq κ] (k:κ):Z κ->Z β->G β
 |x::ks,d::ds=>if x=k then U d else aP k ks ds
 |_,_=>B
def cx {κ β:Type}[DecidableEq κ] (k:κ) (v:β):Z κ->Z β->Z β
 |x::ks,d::ds=>(if x=k then v else d)::cx k v ks ds
 |_,_=>[]
def cU {κ β:Type}[DecidableEq κ] (k:κ) (v:β) (ks:Z κ) (ds:Z β):Z β:=if k∈ks then cx k v ks ds else ds++[v]
def aJ {κ:Type}[DecidableEq κ] (k:κ) (ks:Z κ):Z κ:=if k∈ks then ks else ks++[k]
def j9 (x k:G D):G (G D):=match x,k with
 |some (.dK ks vs),U d=>(match tG d with|some kk=>U (aP kk ks vs)|none=>B)
 |some (.dD ks vs),U d=>if(fU 8 d&&yU d)=V then U (aP d ks vs) else B
 |_,_=>B
def ix (x k:G D):G D:=match j9 x k with|some (U d)=>U d|_=>B
def pw (k x:G D):G Bool:=match j9 x k with|some o=>U o.isSome|none=>B
def kT (x:D) (k v:D):G D:=match x with
 |.dK ks vs=>(match tG k with|some kk=>if ks.length<LZ then U (.dK (aJ kk ks) (cU kk v ks vs)) else B|none=>B)
 |.dD ks vs=>if(fU 8 k&&yU k&&decide (ks.length<LZ))=V then U (.dD (aJ k ks) (cU k v ks vs)) else B
 |_=>B
def nS (i:Nat) (k v:G D) (O:DEnv):G Out:=match dh i O,k,v with
 |some x,U k,U v=>(match kT x k v with|some y=>U (.next (O.set i (U (y,V))))|none=>B)
 |_,_,_=>B
def bd (x k y:G D):G D:=match j9 x k,y with|some o,U z=>U (o.getD z)|_,_=>B
def xy:D->G (D×D)
 |.tup [k,v]=>if(fU 8 k&&yU k)=V then U (k,v) else B
 |_=>B
def jo:Z D->G (Z (D×D))
 |[]=>U []
 |d::ds=>match xy d,jo ds with|some p,U ps=>U (p::ps)|_,_=>B
def oH:Z D->Z D->Z (D×D)->Z D×Z D
 |ks,vs,[]=>(ks,vs)
 |ks,vs,p::ps=>oH (aJ p.1 ks) (cU p.1 p.2 ks vs) ps
def m8 (x:G D):G D:=match x with|some (.lst ds)=>(match jo ds with|some ps=>if ds.length<LZ then U (.dD (oH [] [] ps).1 (oH [] [] ps).2) else B|none=>B)|_=>B
end L2
namespace L2
open PySem PySem.Spec PyProof.Rows Md
variable[Md]
def Jw:Expr->Bool|.Starred .. =>Y|.Slice .. =>Y|.Set .. =>Y|.Call (.Name ..) [] [] _=>Y|_=>V
def aK (h:Jw e=V):starEach (e::es) v=(Y,eval e v)::starEach es v:=by cases e<;>first|rfl|cases h
def nI (h:Jw e=V):subscripted e Y o i=operate [o,i] (getItem o i):=by cases e<;>first|rfl|cases h
def oB (h:Jw e=V):behindInMarks op e=Y:=by cases e<;>first|rfl|cases h
def oQ (h:Jw e=V):foldedSetIterable e v x=pure x:=by cases e<;>first|rfl|cases h
def cE (h:Jw e=V):attributeBase e n v t=t:=by
 cases e with
 |Call f as ks p=>cases f<;>first|rfl|(cases as<;>first|rfl|(cases ks<;>first|rfl|cases h))
 |_=>rfl
abbrev Post (X:Cx) (M:Mp) (O:DEnv) (m:Bool) (d:D) (Q:Ml->Mn->Prop):Prop:=∀v s' M',Ext M M'->Inv X M' O s'->R m M' d v->Q v s'
structure DE (X:Cx) (m:Bool) (e:Expr) (f:DEnv->G D):Prop where
 pl:Jw e=V
 ev:∀{M O s d} {Q:Ml->Mn->Prop},Inv X M O s->f O=U d->Post X M O m d Q->WP X (eval e X.env) Q s
abbrev PostF (X:Cx) (M:Mp) (O:DEnv) (d:D) (Q:Ml->Mn->Prop):Prop:=∀a o s' M',Ext M M'->Inv X M' O s'->Free X M' a->s'.heap.get? a=U o->C M' d o->Q (.ref a) s'
structure DF (X:Cx) (e:Expr) (f:DEnv->G D):Prop where
 pl:Jw e=V
 ev:∀{M O s d} {Q:Ml->Mn->Prop},Inv X M O s->f O=U d->PostF X M O d Q->WP X (eval e X.env) Q s
def DT (X:Cx) (e:Expr) (f:DEnv->G Bool):Prop:=∀{M O s c} {Q:Bool->Mn->Prop},Inv X M O s->f O=U c->(∀s' M',Ext M M'->Inv X M' O s'->Q c s')->WP X (isTrue e X.env (eval e X.env)) Q s
def DW (X:Cx) (op:BoolOp) (es:Z Expr) (f:DEnv->G Bool):Prop:=∀{M O s c} {Q:Bool->Mn->Prop},Inv X M O s->f O=U c->(∀s' M',Ext M M'->Inv X M' O s'->Q c s')->WP X (allTrue op es X.env) Q s
structure DA (X:Cx) (m:Bool) (es:Z Expr) (f:DEnv->G (Z D)):Prop where
 pl:es.all Jw=V
 ev:∀{M O s ds} {Q:Z Ml->Mn->Prop},Inv X M O s->f O=U ds->(∀vs s' M',Ext M M'->Inv X M' O s'->Rs m M' ds vs->Q vs s')->∀pos,WP X (spliced (backTo pos (starEach es X.env))) Q s
def IS {k:Type}{t:Sem k}{Q j:k->Mn->Prop}(h:wpAny M A t Q E s) (g:∀a s,Q a s->j a s):wpAny M A t j E s:=NO h g λ_ _ x=>x
section
variable{X:Cx}{M M':Mp}{O:DEnv}{s:Mn}{Q:Ml->Mn->Prop}{a b:Expr}{fa fb:DEnv->G D}{m m' mm:Bool}{pos:Q6}
def Post.to (k:Post X M O m d Q) (h:Ext M M'):Post X M' O m d Q:=λv s' j e=>k v s' j (h.trans e)
def PostF.to (k:PostF X M O d Q) (h:Ext M M'):PostF X M' O d Q:=λa o s' j e=>k a o s' j (h.trans e)
def DF.share (h:DF X a fa):DE X m a fa:=⟨h.pl,λI e k=>h.ev I e λb o s' M' x j f q c=>k _ s' _ (x.trans (dg f.m)) (j.put f q) (c.rep ((dY f.m).trans Sub.weak) ⟨.f,ak,rfl⟩)⟩
structure Nm (X:Cx) (i:Nat) (x:MJ):Prop where
 n:X.N[i]?=U x
 v:Je X.env.scope x
 d:(x==("__debug__":MJ))=Y
 c:(x==("__classdict__":MJ))=Y
def Inv.load (I:Inv X M O s) (h:Nm X i x) (e:O[i]?=U (U (d,o))) (k:∀v,Va M i d v o->Q v s):wpAny (model P w) X.A (loadName X.env x) Q E s:=by
 let(m,z,p):=I.loc;let(u,l,r):=p i x d o h.n e h.v
 rcases l with⟨g,q⟩|⟨g|g,c,y,j⟩
 .show wpAny_loadName_local I.ok.kind g z q (k u r)
 .show wpAny_loadName_cell I.ok.kind g y j (k u r)
 .show wpAny_loadName_free I.ok.kind g y j (k u r) h.c
def Va.rep (h:Va M i d v o) (hb:o=V->m=V):R m M d v:=by
 cases o with
 |false=>show R.weak h
 |true=>let(a,o,rfl,q,c):=h;show c.rep Sub.weak ⟨_,q,hb rfl⟩
def rR (h:rd m i O=U d):∃b,O[i]?=U (U (d,b))/\(b=V->m=V):=by
 unfold rd at h;split at h
 .simp_all
 .ext h
def nv (m:Bool) (h:Nm X i x):DE X m (.Name x pos) (rd m i):=⟨rfl,λI e k=>by
 let(b,e,j):=rR e;show Py (I.load h e λv r=>k v _ _ Ext.refl I (r.rep j)) h.d⟩
def Bt:DE X m (.Constant (.int i) j pos) (λ_=>U (.int i)):=⟨rfl,λI e k=>by ext e;show wpAny_Constant_int (k _ _ _ Ext.refl I.tok ⟨_,rfl⟩)⟩
def F6:DE X m (.Constant (.str x) j pos) (λ_=>U (.str x)):=⟨rfl,λI e k=>by ext e;show Calls.Constant_str (k _ _ _ Ext.refl I.tok ⟨_,rfl⟩)⟩
def Hu:DE X m (.Constant (.bool x) j pos) (λ_=>U (.bl x)):=⟨rfl,λI e k=>by ext e;show Constant_bool (k _ _ _ Ext.refl I rfl)⟩
def F8:DE X m (.Constant .none j pos) (λ_=>U .non):=⟨rfl,λI e k=>by ext e;show Constant_none (k _ _ _ Ext.refl I rfl)⟩
def R.tt (h:R m M d v):R V M d v:=h.to ⟨λa o ⟨k,e,q⟩=>⟨k,e,by ext k<;>simp_all [Rl.ok]⟩,λ_ _ h=>h⟩
def J9 (X:Cx) (f:Ml->Ml->Sem Ml) (g:D->D->G D):Prop:=∀{M O s x y v u d mm} {Q:Ml->Mn->Prop},Inv X M O s->R V M x v->R V M y u->g x y=U d->Post X M O mm d Q->WP X (f v u) Q s
def L6 {q β:Type}{g:D->D->G q}{d:q}{f:Ml->Ml->Sem β}{Q:β->Mn->Prop}(l:DE X m a fa) (n:DE X m' b fb) (I:Inv X M O s) (e:b2 g (fa O) (fb O)=U d) (k:∀x y v u s' M',Ext M M'->Inv X M' O s'->R m M' x v->R m' M' y u->g x y=U d->WP X (f v u) Q s'):
  WP X (eval a X.env) (λv z=>WP X (eval b X.env) (λu j=>WP X (f v u) Q j) z) s:=by
 let(x,y,o,h,i):=nQ e;show l.ev I o λv T M1 r W c=>n.ev W h λu t K p N w=>k x y v u t K (r.trans p) N (c.up p) w i
def nU (ho:J9 X (binaryOp op) g) (r:DE X m a fa) (p:DE X m' b fb):DE X mm (.BinOp a op b pos) (λO=>b2 g (fa O) (fb O)):=
 ⟨rfl,λI e k=>wpAny_BinOp (L6 r p I e λx y v u c d j w q z t=>ho w q.tt z.tt t (Post.to k j))⟩
def Jt {f:Ml->Ml->Sem Ml}{C:Int->Int->Bool}{g:Int->Int->Int}(z:∀(i j:Int) (t u:Tok) (s:Mn) (Q:Ml->Mn->Prop),C i j=V->Q (.int (g i j) s.toks) {s with toks:=s.toks+1}->WP X (f (.int i t) (.int j u)) Q s):
  J9 X f (bI C λi j=>.int (g i j)):=λ{M O s x y v u d mm Q} I p q e k=>by
 cases x<;>try cases e
 cases y<;>try cases e
 let(r,rfl):=iF e;let(t,rfl):=p;let(t',rfl):=q;show z _ _ _ _ _ _ r (k _ _ _ Ext.refl I.tok ⟨_,rfl⟩)
def Gm (j:DE X m a fa) (k:DE X m' b fb):DE X mm (.BinOp a .Add b pos) (λO=>gX (fa O) (fb O)):=nU (Jt λ_ _ _ _ _ _ _ q=>add_int q) j k
def Fa (v:DE X m a fa) (u:DE X m' b fb):DE X mm (.BinOp a .Mult b pos) (λO=>vQ (fa O) (fb O)):=nU (Jt λi j _ _ _ _ c q=>mul_int q (by
 rcases of_decide_eq_true c with⟨g,k⟩|⟨g,k⟩
 .show .of_left (intBits_le_64 g k)
 .show .of_right (intBits_le_64 g k))) v u
def GH (g:DE X m a fa) (k:DE X m' b fb):DE X mm (.BinOp a .FloorDiv b pos) (λO=>mA (fa O) (fb O)):=nU (Jt λi j _ _ _ _ c q=>by
 let c:=of_decide_eq_true c;show floordiv_int () (by rw[Int.fdiv_eq_ediv_of_nonneg i ()];show q) (.inl (PyProof.noPylong_small ()))) g k
def FR (g:DE X m a fa) (k:DE X m' b fb):DE X mm (.BinOp a .Mod b pos) (λO=>fP (fa O) (fb O)):=nU (Jt λi j _ _ _ _ c q=>by
 let c:=of_decide_eq_true c;show mod_int' () (by rw[Int.fmod_eq_emod_of_nonneg i ()];show q)) g k
def IT (X:Cx) (op:CmpOp) (g:D->D->G Bool):Prop:=∀{M O s x y v u c} {Q:Ml->Mn->Prop},Inv X M O s->R V M x v->R V M y u->g x y=U c->(∀s',Inv X M O s'->Q (.bool c) s')->WP X (compareOp op v u) Q s
def nN (h:L7 x=U d):∃c,x=U c/\d=.bl c:=by
 cases x with
 |none=>ext h
 |some c=>ext h;show⟨c,rfl,rfl⟩
def DN (ho:IT X op g) (t:DE X m a fa) (j:DE X m' b fb):DE X mm (.Compare a [op] [b] pos) (λO=>L7 (b2 g (fa O) (fb O))):=
 ⟨rfl,λI e k=>by
  let(c,d,rfl):=nN e;show wpAny_Compare1 (L6 (f:=compareOp op) t j I d λx y v u h n z i r p w=>ho i r.tt p.tt w λq l=>k _ q n z l rfl) (oB j.pl)⟩
def vr (ho:IT X op g) (t:DE X m a fa) (j:DE X m' b fb):DT X (.Compare a [op] [b] pos) (λO=>b2 g (fa O) (fb O)):=λI e k=>
 Pq (L6 (f:=compareOp op) t j I e λx y v u l c z n r p w=>ho n r.tt p.tt w λq d=>Ng (k q c z d)) (oB j.pl)
def Lx {g:Int->Int->Bool}(z:∀(i j:Int) (t u:Tok) (s:Mn) (Q:Ml->Mn->Prop),Q (.bool (g i j)) s->WP X (compareOp op (.int i t) (.int j u)) Q s):IT X op (λx y=>match x,y with|.int i,.int j=>U (g i j)|_,_=>B):=
 λ{M O s x y v u c Q} I p q e k=>by
 cases x<;>try cases e
 cases y<;>try cases e
 let(t,rfl):=p;let(t',rfl):=q;show z _ _ _ _ _ _ (k _ I)
def GZ:IT X .Lt (λx y=>match x,y with|.int i,.int j=>U (JJ i j)|_,_=>B):=Lx λ_ _ _ _ _ _ q=>lt_int q
def Hw:IT X .Gt (λx y=>match x,y with|.int i,.int j=>U (JF i j)|_,_=>B):=Lx λ_ _ _ _ _ _ q=>gt_int q
def HT:IT X .GtE (λx y=>match x,y with|.int i,.int j=>U (JH i j)|_,_=>B):=Lx λ_ _ _ _ _ _ q=>ge_int q
def FV (ho:IT X op (λx y=>match x,y with|.int i,.int j=>U (g i j)|_,_=>B)) (u:DE X m a fa) (k:DE X m' b fb):DT X (.Compare a [op] [b] pos) (λO=>cI g (fa O) (fb O)):=vr ho u k
def pg (h:Ln x=U c):x=U (.bl c):=by unfold Ln at h;split at h<;>simp_all
def LP:Expr->Bool|.UnaryOp .Not .. =>Y|.BoolOp .. =>Y|.IfExp .. =>Y|.Compare .. =>Y|_=>V
def oK (h:LP e=V):isTrue e v t=(do let v <-t;standAt e.pos;holding [v] (truthy v)):=by
 cases e with
 |UnaryOp op x p=>cases op<;>first|rfl|cases h
 |_=>first|rfl|cases h
def Fl (h:LP a=V) (u:DE X m a fa):DT X a (λO=>Ln (fa O)):=λI e k=>
 Su (u.ev I (pg e) λv z M1 j y g=>by ext g;show Ng (k _ _ j y)) (oK h)
variable{ga gb:DEnv->G Bool}{es:Z Expr}{fs:DEnv->G (Z D)}
theorem GA (u:DT X a ga):DW X op [a] ga:=λ{M O s c Q} I e k=>by
 ext op
 .show or (u I e λv M1 j g=>by ext c<;>show Mf (k _ _ j g))
 .show or (u I e λv M1 j g=>by ext c<;>show Mf (k _ _ j g))
theorem FD (z:DT X a ga) (y:DW X .And (b::es) gb):DW X .And (a::b::es) (λO=>jM (ga O) (gb O)):=λ{M O s c Q} I e k=>by
 cases q:ga O with
 |none=>simp[jM,q]at e
 |some g=>
  simp![jM,q]at e;show or (z I q λr M1 j u=>?_)
  ext g
  .ext e;show Mf (k _ _ j u)
  .show y u e λp t v=>k _ _ (j.trans v)
theorem GX (z:DT X a ga) (y:DW X .Or (b::es) gb):DW X .Or (a::b::es) (λO=>Ku (ga O) (gb O)):=λ{M O s c Q} I e k=>by
 cases q:ga O with
 |none=>simp[Ku,q]at e
 |some g=>
  simp![Ku,q]at e;show or (z I q λr M1 j u=>?_)
  ext g
  .show y u e λp t v=>k _ _ (j.trans v)
  .ext e;show Mf (k _ _ j u)
def CH (h:DW X op es ga):DT X (.BoolOp op es pos) ga:=λI e k=>h I e k
theorem ES (j:DT X a ga):DT X (.UnaryOp .Not a pos) (λO=>a7 (ga O)):=λ{M O s c Q} I e k=>by
 cases q:ga O with
 |none=>simp[a7,q]at e
 |some g=>
  simp![a7,q]at e;ext e;show isTrue_not (j I q k)
def CU {op:BoolOp}(j:DE X mm a fa):DE X mm (.BoolOp op [a] pos) fa:=⟨rfl,λI e k=>BoolOp_one (j.ev I e k)⟩
theorem Cw (p:DE X m a fa) (z:DE X mm (.BoolOp .And (b::es) pos) fb):DE X mm (.BoolOp .And (a::b::es) pos) (λO=>uA (fa O) (fb O)):=⟨rfl,λ{M O s d Q} I e k=>by
 cases q:Ln (fa O)with
 |none=>simp[uA,q]at e
 |some g=>
  simp![uA,q]at e;show BoolOp_and (p.ev I (pg q) λv r M1 j u y=>?_)
  ext y;show Ng ?_
  ext g
  .ext e;show k _ _ _ j u rfl
  .show z.ev u e (Post.to k j)⟩
theorem Fu (y:DT X c j) (p:DE X mm a fa) (z:DE X mm b fb):DE X mm (.IfExp c a b pos) (λO=>Kl (j O) (fa O) (fb O)):=⟨rfl,λ{M O s d Q} I e k=>by
 cases q:j O with
 |none=>simp[Kl,q]at e
 |some g=>
  simp![Kl,q]at e;show wpAny_IfExp (y I q λr M1 u v=>?_)
  ext g
  .show z.ev v e (Post.to k u)
  .show p.ev v e (Post.to k u)⟩
def uP (h:aa x y=U l):∃d ds,x=U d/\y=U ds/\l=d::ds:=by unfold aa at h;split at h<;>simp_all
theorem fZ:DA X m [] (λ_=>U []):=⟨rfl,λI e k pos=>by ext e;show Ny (k [] _ _ Ext.refl I rfl)⟩
theorem b9 (j:DE X m a fa) (u:DA X m es fs):DA X m (a::es) (λO=>aa (fa O) (fs O)):=⟨by simp[j.pl,u.pl],λI e k pos=>by
 let(d,ds,r,p,rfl):=uP e;rw[aK j.pl];show MY (j.ev I r λv f M1 y w q=>u.ev w p (λvs c b g t z=>k (v::vs) _ _ (y.trans g) t ⟨v,vs,rfl,q.up g,z⟩) pos)⟩
def Inv.newT (I:Inv X M O s) (r:Rs m M ds vs) (h:ds.length<=LZ) (k:Post X M O m (.tup ds) Q):Q (.ref s.heap.objs.size) {s with heap:=s.heap.push {cls:=.type "tuple",data:=.seq vs.toArray},toks:=t}:=by
 let f:=I.fresh (Mj _);show k _ _ _ (dg f.m) I.new ⟨_,_,vs,rfl,⟨.f,ak,rfl⟩,⟨⟨by rw[<-r.length];show aG h,rfl⟩,rfl,_,rfl⟩,r.to (dY f.m)⟩
def Inv.newL (I:Inv X M O s) (r:Rs Y M ds vs) (h:ds.length<=LZ) (k:PostF X M O (.lst ds) Q):Q (.ref s.heap.objs.size) {s with heap:=s.heap.push {cls:=.type "list",data:=.seq vs.toArray},toks:=t}:=
 k _ _ _ _ Ext.refl I.push (I.fresh (Mj _)) (Mm _ rfl) ⟨vs,⟨by rw[<-r.length];show aG h,_,rfl⟩,r⟩
def FY (h:DA X m es fs):DE X m (.Tuple es j pos) (λO=>fS (fs O)):=⟨rfl,λI e k=>by
 let(ds,y,v):=ag e;let(u,rfl):=iF v;show wpAny_Tuple_spliced (h.ev I y (λvs q M1 j z g=>⟨by rw[<-g.length];show aG (of_decide_eq_true u),z.newT g (of_decide_eq_true u) (Post.to k j)⟩) pos)⟩
def E0 (h:DA X Y es fs):DF X (.List es pos) (λO=>eU (fs O)):=⟨rfl,λI e k=>by
 let(ds,y,v):=ag e;let(g,rfl):=iF v;show wpAny_List_spliced (h.ev I y (λvs q M1 u z j=>⟨by rw[<-j.length];show aG (of_decide_eq_true g),z.newL j (of_decide_eq_true g) (PostF.to k u)⟩) pos)⟩
end
def B4 (h:KY n (.tup ds)=V):∃k,n=k+1/\ds.all (KY k)=V:=by cases n with|zero=>ext h|succ k=>show⟨k,rfl,h⟩
def Cp (h:KY n (.lst ds)=V):∃k,n=k+1/\ds.all (KY k)=V:=by cases n with|zero=>ext h|succ k=>show⟨k,rfl,h⟩
theorem Kg (hd:KY n d=V) (r:R m M d u):(d=.non/\u=.none)\/(∃i t,d=.int i/\u=.int i t)\/(∃i t,d=.str i/\u=.str i t)\/
  (∃ds a o vs k,d=.tup ds/\u=.ref a/\n=k+1/\ds.all (KY k)=V/\Rd m M a o/\TupO o vs/\Rs m M ds vs)\/∃ds a o vs k,d=.lst ds/\u=.ref a/\n=k+1/\ds.all (KY k)=V/\Rd m M a o/\LstO o vs/\Rs m M ds vs:=by
 cases d with
 |non=>show .inl ⟨rfl,r⟩
 |int i=>let(t,rfl):=r;show .inr (.inl ⟨_,_,rfl,rfl⟩)
 |str i=>let(t,rfl):=r;show .inr (.inr (.inl ⟨_,_,rfl,rfl⟩))
 |tup ds=>let(a,o,vs,rfl,v,g,j):=r;let(k,rfl,h):=B4 hd;show .inr (.inr (.inr (.inl ⟨_,a,o,vs,k,rfl,rfl,rfl,h,v,g,j⟩)))
 |lst ds=>let(a,o,vs,rfl,v,g,j):=r;let(k,rfl,h):=Cp hd;show .inr (.inr (.inr (.inr ⟨_,a,o,vs,k,rfl,rfl,rfl,h,v,g,j⟩)))
 |_=>simp[KY]at hd
def Rd.eq (h:Rd m M a o) (k:Rd m' M a o'):o=o':=by let(_,e,_):=h;let(_,j,_):=k;rfl'
def TupO.inj (h:TupO o us) (k:TupO o vs):us=vs:=by let(_,_,n,e):=h;let(_,_,j,g):=k;rfl'
def LstO.inj (h:LstO o us) (k:LstO o vs):us=vs:=by let(_,n,rfl):=h;let(_,j,g):=k;lia
theorem Rs.inj' (f:∀{d e v},KY n d=V->KY n' e=V->R m M d v->R m' M e v->d=e):∀{ds es vs},ds.all (KY n)=V->es.all (KY n')=V->Rs m M ds vs->Rs m' M es vs->ds=es
 |[],es,_,_,_,r,r'=>by subst r;cases es with|nil=>rfl|cons e es=>let(_,_,z,_):=r';ext z
 |d::ds,es,_,hd,he,r,r'=>by
  let(x,t,rfl,r1,r2):=r;cases es with
  |nil=>ext r'
  |cons e es=>
   let(_,_,z,q1,q2):=r';ext z;rw[Ni,Mo]at hd he;rw[f hd.1 he.1 r1 q1,Rs.inj' f hd.2 he.2 r2 q2]
def R.inj:∀{n n' d e v},KY n d=V->KY n' e=V->R m M d v->R m' M e v->d=e:=by
 intro n
 induction n using Oq with
 |ind n ih=>
 intro n' d e v hd he r r'
 rcases Kg hd r with⟨rfl,rfl⟩|⟨i,t,rfl,rfl⟩|⟨i,t,rfl,rfl⟩|⟨ds,a,o,vs,k,rfl,rfl,rfl,h1,q1,t1,r1⟩|⟨ds,a,o,vs,k,rfl,rfl,rfl,h1,q1,t1,r1⟩<;>rcases Kg he r' with⟨rfl,z⟩|⟨j,t',rfl,z⟩|⟨j,t',rfl,z⟩|⟨es,b,o',us,k',rfl,z,_,h2,q2,t2,r2⟩|⟨es,b,o',us,k',rfl,z,_,h2,q2,t2,r2⟩<;>cases z<;>try rfl
 .obtain rfl:=q1.eq q2;obtain rfl:=t1.inj t2;rw[Rs.inj' (ih k (Nj k)) h1 h2 r1 r2]
 .obtain rfl:=q1.eq q2;let(_,_,rfl):=t2;show absurd t1.2.1 (by simp)
 .obtain rfl:=q1.eq q2;let(_,_,rfl):=t1;show absurd t2.2.1 (by simp)
 .obtain rfl:=q1.eq q2;obtain rfl:=t1.inj t2;rw[Rs.inj' (ih k (Nj k)) h1 h2 r1 r2]
abbrev Hm (M:Mp) (h:OF):Prop:=∀a k o,M a=U (k,o)->h.get? a=U o
def TupO.is (h:TupO o vs) (H:Hm M hp) (q:Rd m M a o):IsTup hp a vs.toArray:=by let(k,e,_):=q;show⟨o,H a k o e,h.2⟩
def LstO.is (h:LstO o vs) (H:Hm M hp) (q:Rd m M a o):hp.IsList a vs.toArray:=by let(k,e,_):=q;let(_,n,rfl):=h;show⟨_,H a k _ e,rfl,n,rfl⟩
def LstO.pl (h:LstO o vs) (H:Hm M hp) (q:Rd m M a o):PlainL hp a vs.toArray:=by let(k,e,_):=q;let(_,n,rfl):=h;show⟨_,n,H a k _ e,rfl,rfl,rfl⟩
def BE:∀(ds es:Z D),ds.length=es.length->((MW ds.length).all λj=>decide (ds[j]?=es[j]?))=decide (ds=es):=by
 intro ds es g;rw[Pe,MH,decide_eq_true_iff];constructor
 .intro h
  show PK λj=>?_
  by_cases k:j<ds.length
  .show of_decide_eq_true (h j (NE.mpr k))
  .simp_all
 lia
def BX (ds es:Z D):(((MW (min ds.length es.length)).all λj=>decide (ds[j]?=es[j]?))&&ds.length==es.length)=decide (ds=es):=by
 by_cases k:ds.length=es.length
 .rw[k,Nat.min_self,beq_self_eq_true,OG,<-k,BE ds es k]
 lia
open SeqAt in
theorem Ff (b:∀{d e u w},KY k d=V->KY k e=V->R m M d u->R m' M e w->EqAt A s u w (decide (d=e))) (hd:ds.all (KY k)=V) (n:es.all (KY k)=V) (y:Rs m M ds us) (g:Rs m' M es vs):∀j (p:j<us.toArray.size) (z:j<vs.toArray.size),EqAt A s us.toArray[j] vs.toArray[j] (decide (ds[j]?=es[j]?)):=λj p z=>by
 let i:=y.length;let l:=g.length;simp![Nc]at p z;obtain⟨d,t⟩:∃d,ds[j]?=U d:=⟨ds[j]'⟨⟩,by simp⟩
 obtain⟨e,r⟩:∃e,es[j]?=U e:=⟨es[j]'⟨⟩,by simp⟩
 let(u,a,f):=y.get t;let(v,x,c):=g.get r;let q:=b ((MH.mp hd) _ (Mr t)) ((MH.mp n) _ (Mr r)) f c
 simp_all
open SeqAt in
theorem Er (H:Hm M s.heap):∀(n:Nat) {d e u w} (A:Nl),KY n d=V->KY n e=V->A.units+n+1<cLine->R m M d u->R m' M e w->
  RcAt A s u w (decide (d=e))/\EqAt A s u w (decide (d=e))/\RcNeAt A s u w (!decide (d=e)):=by
 intro n
 induction n using Oq with
 |ind n ih=>
 intro d e u w A hd S hA rd re;let y:A.units<cLine:=()
 rcases Kg hd rd with⟨rfl,rfl⟩|⟨i,t',rfl,rfl⟩|⟨i,t',rfl,rfl⟩|⟨ds,a,o,vs,k,rfl,rfl,rfl,K,L,E,N⟩|⟨ds,a,o,vs,k,rfl,rfl,rfl,K,L,E,N⟩<;>rcases Kg S re with⟨rfl,rfl⟩|⟨j,t,rfl,rfl⟩|⟨j,t,rfl,rfl⟩|⟨es,b,o2,us,k',rfl,rfl,z,x,X,Q,f⟩|⟨es,b,o2,us,k',rfl,rfl,z,x,X,Q,f⟩<;>(try have v:=E.is H L)<;>try have g:=Q.is H X
 .show⟨RcAt.none_none,EqAt.same _,RcNeAt.none_none⟩
 .show⟨RcAt.none_int j t,EqAt.none_int j t,RcNeAt.none_int j t⟩
 .show⟨RcAt.none_str j t,EqAt.none_str j t,RcNeAt.none_str j t⟩
 .show⟨RcAt.none_tuple g y,EqAt.none_tuple g y,RcNeAt.none_tuple g y⟩
 .show⟨RcAt.none_list g y,EqAt.none_list g y,RcNeAt.none_list g y⟩
 .show⟨RcAt.int_none i t',EqAt.int_none i t',RcNeAt.int_none i t'⟩
 .let q:decide (D.int i=D.int j)=(i==j):=by rw[Pe,decide_eq_true_iff,beq_iff_eq,D.int.injEq]
  rw[q];show⟨RcAt.int_int i t' j t,EqAt.int_int i t' j t,RcNeAt.int_int i t' j t⟩
 .show⟨RcAt.int_str i t' j t,EqAt.int_str i t' j t,RcNeAt.int_str i t' j t⟩
 .show⟨RcAt.int_tuple i t' g y,EqAt.int_tuple i t' g y,RcNeAt.int_tuple i t' g y⟩
 .show⟨RcAt.int_list i t' g y,EqAt.int_list i t' g y,RcNeAt.int_list i t' g y⟩
 .show⟨RcAt.str_none i t',EqAt.str_none i t',RcNeAt.str_none i t'⟩
 .show⟨RcAt.str_int i t' j t,EqAt.str_int i t' j t,RcNeAt.str_int i t' j t⟩
 .let q:decide (D.str i=D.str j)=(i==j):=by rw[Pe,decide_eq_true_iff,beq_iff_eq,D.str.injEq]
  rw[q];show⟨RcAt.str_str i t' j t,EqAt.str_str i t' j t,RcNeAt.str_str i t' j t⟩
 .show⟨RcAt.str_tuple i t' g y,EqAt.str_tuple i t' g y,RcNeAt.str_tuple i t' g y⟩
 .show⟨RcAt.str_list i t' g y,EqAt.str_list i t' g y,RcNeAt.str_list i t' g y⟩
 .show⟨RcAt.tuple_none v y,EqAt.tuple_none v y,RcNeAt.tuple_none v y⟩
 .show⟨RcAt.tuple_int j t v y,EqAt.tuple_int j t v y,RcNeAt.tuple_int j t v y⟩
 .show⟨RcAt.tuple_str j t v y,EqAt.tuple_str j t v y,RcNeAt.tuple_str j t v y⟩
 .ext z
  let W:=Ff (A:=A.in1) (λP I F C=>(ih k (Nj k) A.in1 P I (by change A.units+1+k+1<cLine;lia) F C).2.1) K x N f
  let key:((MW (min vs.toArray.size us.toArray.size)).all (λj=>decide (ds[j]?=es[j]?))&&vs.toArray.size==us.toArray.size)=decide (D.tup ds=D.tup es):=by
   rw[Nc,Nc,<-N.length,<-f.length,BX];simp![D.tup.injEq]
  let r:=RcAt.tuples v g y W;let rn:=RcNeAt.tuples v g y W;rw[key]at r rn;show⟨r,?_,rn⟩
  by_cases p:a=b
  .subst p;rw[decide_eq_true (R.inj hd S rd re)];show EqAt.same _
  .show EqAt.of_refs p r
 .show⟨RcAt.tuple_list v g y,EqAt.tuple_list v g y,RcNeAt.tuple_list v g y⟩
 .show⟨RcAt.list_none v y,EqAt.list_none v y,RcNeAt.list_none v y⟩
 .show⟨RcAt.list_int j t v y,EqAt.list_int j t v y,RcNeAt.list_int j t v y⟩
 .show⟨RcAt.list_str j t v y,EqAt.list_str j t v y,RcNeAt.list_str j t v y⟩
 .show⟨RcAt.list_tuple v g y,EqAt.list_tuple v g y,RcNeAt.list_tuple v g y⟩
 .ext z
  let W:=Ff (A:=A.in1) (λP I F C=>(ih k (Nj k) A.in1 P I (by change A.units+1+k+1<cLine;lia) F C).2.1) K x N f
  let l1:=N.length;let l3:=f.length;let p:a=b->decide (D.lst ds=D.lst es)=V:=λq=>by subst q;show decide_eq_true (R.inj hd S rd re)
  let fin:∀{c},RcAt A s (.ref a) (.ref b) c->(a=b->c=V)->EqAt A s (.ref a) (.ref b) c:=λr h=>by
   by_cases q:a=b
   .rw[h q];subst q;show EqAt.same _
   .show EqAt.of_refs q r
  by_cases l:vs.toArray.size=us.toArray.size
  .let key:((MW vs.toArray.size).all (λj=>decide (ds[j]?=es[j]?)))=decide (D.lst ds=D.lst es):=by
    rw[Nc,<-l1,BE _ _ (by simp_all)]
    simp![D.lst.injEq]
   let r:=RcAt.lists v g l y W;let rn:=RcNeAt.lists v g l y W;rw[key]at r rn;show⟨r,fin r p,rn⟩
  .let T:¬D.lst ds=D.lst es:=λz=>l ⋯
   let hb:(vs.toArray.size != us.toArray.size)=V:=by simpa using l
   rw[decide_eq_false T]at p⊢;let r:=RcAt.lists_lengths v g hb y;show⟨r,fin r p,RcNeAt.lists_lengths v g hb y⟩
section
variable{X:Cx}{M:Mp}{O:DEnv}{s:Mn}{a b:Expr}{fa fb:DEnv->G D}{m m' mm:Bool}{pos:Q6}
def Inv.un (I:Inv X M O s):X.A.units+64<cLine:=by have:=I.ok.room.un;lia
def E4:IT X .Eq (λd e=>gd (Le d e) (decide (d=e))):=λI g j e k=>by
 let(h,rfl):=iF e;rw[Le,Mo]at h;have:=I.un;show(Er I.heap 16 X.A h.1 h.2 () g j).1 P w _ _ (k _ I)
def ph (h:a7 (b2 g x y)=U c):b2 (λd e=>a7 (g d e)) x y=U c:=by
 cases x<;>cases y<;>first|cases h|show h
theorem Fv:IT X .NotEq (λd e=>a7 (gd (Le d e) (decide (d=e)))):=λ{M O s x y v u c Q} I z j e k=>by
 cases q:gd (Le x y) (decide (x=y))with
 |none=>simp[a7,q]at e
 |some g=>
  simp![a7,q]at e;ext e;let(h,rfl):=iF q;rw[Le,Mo]at h;have:=I.un;show(Er I.heap 16 X.A h.1 h.2 () z j).2.2 P w _ _ (k _ I)
def HH (j:DE X m a fa) (k:DE X m' b fb):DE X mm (.Compare a [.Eq] [b] pos) (λO=>L7 (KP (fa O) (fb O))):=DN E4 j k
def Hz (j:DE X m a fa) (k:DE X m' b fb):DT X (.Compare a [.Eq] [b] pos) (λO=>KP (fa O) (fb O)):=vr E4 j k
def G9 (j:DE X m a fa) (k:DE X m' b fb):DT X (.Compare a [.NotEq] [b] pos) (λO=>KZ (fa O) (fb O)):=λI e=>vr Fv j k I (ph e)
def G1 (j:DE X m a fa) (k:DE X m' b fb):DE X mm (.Compare a [.NotEq] [b] pos) (λO=>L7 (KZ (fa O) (fb O))):=⟨rfl,λI e=>by
 let(c,g,rfl):=nN e;show(DN Fv j k).ev I (by rw[ph g];rfl)⟩
def R.items (r:R m M e v) (h:eA e=U es):∃a o vs,v=.ref a/\Rd m M a o/\(LstO o vs\/TupO o vs)/\Rs m M es vs:=by
 cases e with
 |lst ds=>ext h;let(a,o,vs,u,g,j,k):=r;show⟨a,o,vs,u,g,.inl j,k⟩
 |tup ds=>ext h;let(a,o,vs,u,g,j,k):=r;show⟨a,o,vs,u,g,.inr j,k⟩
 |_=>ext h
theorem Rs.mem:∀{ds vs},Rs m M ds vs->v∈vs->∃d∈ds,R m M d v
 |[],_,rfl,h=>nomatch h
 |d::ds,_,⟨x,r,rfl,u,g⟩,h=>by
  rcases MG.mp h with rfl|h
  .show⟨d,.head _,u⟩
  .let(e,j,k):=Rs.mem g h;show⟨e,.tail _ j,k⟩
theorem Rs.mem':∀{ds vs},Rs m M ds vs->d∈ds->∃v∈vs,R m M d v
 |d::ds,_,⟨x,r,rfl,u,g⟩,h=>by
  rcases MG.mp h with rfl|h
  .show⟨x,.head _,u⟩
  .let(e,j,k):=Rs.mem' g h;show⟨e,.tail _ j,k⟩
open Classical in
theorem E9 {A:Nl}(i:A.units+64<cLine) (H:Hm M s.heap) (hd:KY 16 d=V) (t:es.all (KY 16)=V) (f:R m M d v) (j:Rs m' M es vs):∃g:Ml->Bool,(∀y,y∈vs.toArray->Qh A.in1 s y v (g y))/\vs.toArray.any g=decide (d∈es):=by
 show⟨λu=>decide (∃e,KY 16 e=V/\R m' M e u/\e=d),λu p=>?_,?_⟩
 .let(e,r,k):=j.mem (show u∈vs by simp_all)
  let o:=(MH.mp t) e r;let q:=(Er H 16 A.in1 o hd (by change A.units+1+16+1<cLine;lia) k f).2.1
  left;rw[show decide (∃e,KY 16 e=V/\R m' M e u/\e=d)=decide (e=d) from decide_eq_decide.mpr ⟨λ⟨c,b,l,z⟩=>by rw[<-z];show R.inj o b k l,λz=>⟨e,o,k,z⟩⟩]
  show q
 .rw[Pe,decide_eq_true_iff,Array.any_eq_true']
  constructor
  .rintro⟨u,p,h⟩
   let(e,o,k,rfl):=of_decide_eq_true h;let(c,w,n):=j.mem (show u∈vs by simp_all)
   rw[R.inj o ((MH.mp t) c w) k n];show w
  .intro h
   let(u,r,k):=j.mem' h;show⟨u,by simpa using r,decide_eq_true ⟨d,hd,k,rfl⟩⟩
def H2:IT X .In (λd e=>ac (eA e) λes=>gd (KY 16 d&&es.all (KY 16)) (decide (d∈es))):=λI y v e k=>by
 let(es,p,z):=ag e;let(h,rfl):=iF z;rw[Mo]at h;let(a,o,vs,rfl,q,t,rs):=v.items p;let(g,u,j):=E9 I.un I.heap h.1 h.2 y rs
 rcases t with t|t
 .show SeqAt.in_listAt g (t.is I.heap q) u (by rw[j];show k _ I)
 .show SeqAt.in_tupleAt g (t.is I.heap q) u (by rw[j];show k _ I)
theorem Ay:IT X .NotIn (λd e=>a7 (ac (eA e) λes=>gd (KY 16 d&&es.all (KY 16)) (decide (d∈es)))):=λ{M O s x y v u c Q} I r p e k=>by
 cases q:(ac (eA y) λes=>gd (KY 16 x&&es.all (KY 16)) (decide (x∈es)))with
 |none=>simp[a7,q]at e
 |some g=>
  simp![a7,q]at e;ext e;let(es,f,w):=ag q;let(h,rfl):=iF w;rw[Mo]at h;let(a,o,vs,rfl,q,t,rs):=p.items f;let(g,z,j):=E9 I.un I.heap h.1 h.2 r rs
  rcases t with t|t
  .show SeqAt.notIn_listAt g (t.is I.heap q) z (by rw[j];show k _ I)
  .show SeqAt.notIn_tupleAt g (t.is I.heap q) z (by rw[j];show k _ I)
def Ht (j:DE X m a fa) (k:DE X m' b fb):DT X (.Compare a [.In] [b] pos) (λO=>J4 (fa O) (fb O)):=vr H2 j k
def zw (j:DE X m a fa) (k:DE X m' b fb):DT X (.Compare a [.NotIn] [b] pos) (λO=>eQ (fa O) (fb O)):=λI e=>vr Ay j k I (ph e)
end
section
variable{X:Cx}{M M':Mp}{O:DEnv}{s:Mn}{Q:Ml->Mn->Prop}{a b:Expr}{es:Z Expr}{fa fb:DEnv->G D}{fs:DEnv->G (Z D)}{m m' mm:Bool}{p p2 pos apos cpos:Q6}
structure Gb (X:Cx) (x:MJ):Prop where
 g:X.env.kindOf x=U .globalImplicit
 d:(x==("__debug__":MJ))=Y
structure Bn (X:Cx) (x:MJ):Prop where
 b:Gb X x
 m:mg x=B
 n:x≠"__name__"
def Inv.bltn (I:Inv X M O s) (g:Bn X x) (j:bootBuiltins x=U u) (k:Q u s):wpAny (model P w) X.A (eval (.Name x p) X.env) Q E s:=by
 let(mb,y,v):=I.ok.mod.blt;show Pp I.ok.kind g.b.g (Calls.loadGlobal_builtin (by rw[I.ok.glob];show I.ok.mod.glob.keeps I.bk) g.m (by rw[I.ok.blt];show y.keeps I.bk) ((v x g.n).trans j) k) g.b.d
theorem gn:∀{es:Z Expr},es.all Jw=V->(backTo pos (starEach es v)).any (·.1)=Y
 |[],_=>rfl
 |e::es,h=>by
  rw[Ni,Mo]at h;rw[aK h.1];change(Y||(backTo pos (starEach es v)).any (·.1))=Y
  rw[gn h.2];rfl
theorem ir:∀{es:Z Expr},es.all Jw=V->(backTo pos (starEach es v)).all (λx=>!x.1)=V
 |[],_=>rfl
 |e::es,h=>by
  rw[Ni,Mo]at h;rw[aK h.1];change(V&&(backTo pos (starEach es v)).all _)=V;rw[ir h.2];rfl
def Gn (g:Bn X x) (v:bootBuiltins x=U (.builtin j)) (u:DA X m (a::es) fs) (I:Inv X M O s) (e:fs O=U ds) (k:∀vs s' M',Ext M M'->Inv X M' O s'->Rs m M' ds vs->WP X (call (.builtin j) vs) Q s'):WP X (eval (.Call (.Name x p) (a::es) [] pos) X.env) Q s:=by
 let h:=u.pl;rw[Ni,Mo]at h;show NI (I.bltn g v (PE (u.ev I e k pos) (aK h.1) (gn h.2)))
def A6 (g:Bn X x) (u:bootBuiltins x=U (.type T)) (j:DA X m (a::es) fs) (I:Inv X M O s) (e:fs O=U ds) (k:∀vs s' M',Ext M M'->Inv X M' O s'->Rs m M' ds vs->WP X (call (.type T) vs) Q s'):WP X (eval (.Call (.Name x p) (a::es) [] pos) X.env) Q s:=by
 let h:=j.pl;rw[Ni,Mo]at h;show NI (I.bltn g u (Oy (j.ev I e k pos) (aK h.1) (gn h.2)))
def Rs.is1 (h:Rs m M [d] vs):∃v,vs=[v]/\R m M d v:=by let(v,r,rfl,k,rfl):=h;show⟨v,rfl,k⟩
def Rs.is2 (h:Rs m M [d,e] vs):∃v u,vs=[v,u]/\R m M d v/\R m M e u:=by let(v,r,rfl,g,j):=h;let(u,rfl,k):=j.is1;show⟨v,u,rfl,g,k⟩
def o5 (g:Bn X x) (z:bootBuiltins x=U (.builtin j)) (t:DE X m a fa) (I:Inv X M O s) (e:fa O=U d) (k:∀v s' M',Ext M M'->Inv X M' O s'->R m M' d v->WP X (call (.builtin j) [v]) Q s'):WP X (eval (.Call (.Name x p) [a] [] pos) X.env) Q s:=
 Gn g z (b9 t fZ) I (ds:=[d]) (by rw[e];rfl) λvs y M1 u w r=>by let(v,rfl,q):=r.is1;show k v y M1 u w q
def cZ (g:Bn X x) (y:bootBuiltins x=U (.type T)) (z:DE X m a fa) (I:Inv X M O s) (e:fa O=U d) (k:∀v s' M',Ext M M'->Inv X M' O s'->R m M' d v->WP X (call (.type T) [v]) Q s'):WP X (eval (.Call (.Name x p) [a] [] pos) X.env) Q s:=
 A6 g y (b9 z fZ) I (ds:=[d]) (by rw[e];rfl) λvs u M1 j t r=>by let(v,rfl,q):=r.is1;show k v u M1 j t q
def BB {name:MJ}{Z9:Mp->Ml->Prop}(pa:PlainAttrs T) (slot:Slot T name j) (u:typeOf (.builtin j)=pure (.type "method_descriptor")) (l:(apos.endLine==cpos.line)=V) (pl:Jw a=V) (p:DA X m' (b::es) fs) (N:es.length<20) (e:fs O=U ds) (ev:∀{t:Ml->Mn->Prop},(∀v g M1,Ext M M1->Inv X M1 O g->Z9 M1 v->t v g)->WP X (eval a X.env) t s) (n:∀{M:Mp}{s:Mn}{v},Hm M s.heap->Z9 M v->s.TypeIs v T/\∀a,v=.ref a->∃ob,s.heap.get? a=U ob/\ob.dict=B) (c:∀{M M' v},Ext M M'->Z9 M v->Z9 M' v) (k:∀v vs s' M',Ext M M'->Inv X M' O s'->Z9 M' v->Rs m' M' ds vs->WP X (call (.builtin j) (v::vs)) Q s'):WP X (eval (.Call (.Attribute a name apos) (b::es) [] cpos) X.env) Q s:=by
 let h:=p.pl;let y:=h;rw[Ni,Mo]at y;show N6 (cE pl) (by rw[ir h];change decide (es.length+1+0+0<30)=V;show decide_eq_true ()) l rfl (ev λv g M1 d w q=>?_)
 let(x,i):=n w.heap q;show⟨T,j,pa,slot,u,x,i,?_⟩
 let r:=p.ev w e (λvs f o z K m=>k v vs f o (d.trans z) K (c z q) m) cpos
 rw[aK y.1]at r⊢;show NC (by change(Y||(backTo cpos (starEach es X.env)).any (·.1))=Y;rw[gn y.2];rfl) (Oi r)
def yd {name:MJ}(pa:PlainAttrs T) (slot:Slot T name j) (g:typeOf (.builtin j)=pure (.type "method_descriptor")) (l:(apos.endLine==cpos.line)=V) (u:DE X m a fa) (q:DA X m' (b::es) fs) (z:es.length<20) (I:Inv X M O s) (e:fa O=U d) (p:fs O=U ds) (y:∀{M:Mp}{s:Mn}{v},Hm M s.heap->R m M d v->s.TypeIs v T/\∀a,v=.ref a->∃ob,s.heap.get? a=U ob/\ob.dict=B) (k:∀v vs s' M',Ext M M'->Inv X M' O s'->R m M' d v->Rs m' M' ds vs->WP X (call (.builtin j) (v::vs)) Q s'):WP X (eval (.Call (.Attribute a name apos) (b::es) [] cpos) X.env) Q s:=
 BB pa slot g l u.pl q z p (u.ev I e) y (λx r=>r.up x) k
def rf:(sizeLine:Nat)<2 ^ 63:=by decide +kernel
def Hm.len (H:Hm M s.heap) (q:Rd m M c o) (t:LstO o vs\/TupO o vs) (k:∀t t',Q (.int vs.length t) {s with toks:=t'}):wpAny (model P w) A (call (.builtin "len") [.ref c]) Q E s:=by
 let hn:=rf
 rcases t with t|t
 .let z:=t.1;show Calls.call_len_list (t.is H q) (by simp![Nc];lia) (by simp_all)
 .let z:=t.1;show len_tuple (t.is H q) (by simp![Nc];lia) (by simp_all)
def D7 (g:Bn X "len") (y:DE X m a fa):DE X mm (.Call (.Name "len" p) [a] [] pos) (λO=>cS (fa O)):=⟨rfl,λI e k=>by
 let(d,b,f):=ag e;let(ds,w,z):=ag f;ext z;show o5 g PySem.boot_len y I b λv n M1 u j r=>?_
 let(c,o,vs,rfl,q,t,rs):=r.items w;show Hm.len j.heap q t λ_ _=>k _ _ _ u j.tok ⟨_,by rw[rs.length]⟩⟩
nonrec theorem Dp (g:Bn X "len") (ha:DE X m a fa):DE X mm (.Call (.Name "len" p) [a] [] pos) (λO=>GP (fa O)):=⟨rfl,λI e k=>by
 let(d,e1,e2):=ag e;split at e2<;>try cases e2
 split at e2<;>ext e2
 rename_i z hz;show o5 g PySem.boot_len ha I e1 λv s1 M1 x1 I1 r=>?_
 let(t,rfl):=r;let hn:=rf;have:=aG hz;show len_str () (k _ _ _ x1 I1.tok ⟨_,rfl⟩)⟩
def Eh (h:Jx n i=U j):seqIndex? i n=U j/\j<n/\ -(n:Int)<=i/\i<n:=by
 unfold Jx at h;split at h<;>split at h<;>ext h
 .show⟨by rw[seqIndex_of (by assumption) (by assumption)],⟨⟩,(),by assumption⟩
 .show⟨by rw[seqIndex_neg ⟨⟩ (by assumption)],(),by assumption,()⟩
def xK {k:Type}{xs:Z k}{v:k}(h:atI xs i=U v):∃j,seqIndex? i xs.length=U j/\xs[j]?=U v/\j<xs.length/\ -(xs.length:Int)<=i/\i<xs.length:=by
 let(j,e,h):=OY.mp h;let(z,y,u,g):=Eh e;show⟨j,z,h,y,u,g⟩
def DQ {k:Type}{xs:Z k}{j:Nat}{v:k}(h:xs[j]?=U v):atI xs (j:Int)=U v:=by
 let g:=(L9.mp h).1
 unfold atI Jx;simp_all
def Hm.item (H:Hm M s.heap) (q:Rd m M c o) (t:LstO o vs\/TupO o vs) (h:atI vs i=U x) (hs:subscripted sl Y (.ref c) (.int i tk)=operate [.ref c,.int i tk] (getItem (.ref c) (.int i tk))) (k:Q x s):wpAny (model P w) A (subscriptTail va sl (.ref c) (.int i tk)) Q E s:=by
 let(j,h1,h2,h3,h4,h5):=xK h;let hn:=rf
 rcases t with t|t
 .let z:=t.1;let pl:=t.is H q
  by_cases h0:0<=i
  .rw[seqIndex_of h0 h5]at h1;ext h1
   show item_listR pl h0 () (by simpa using h2) k hs
  .rw[seqIndex_neg ⟨⟩ h4]at h1;ext h1
   show subscriptTail_builtinR (x:=x) pl.typeIs slot_list_getitem.lookup (wpAny_getItem_list_neg (Q:=λr s'=>r=x/\Q r s') pl ⟨⟩ (by simp;rfl') () (by simpa using h2) ⟨rfl,k⟩) hs
 .let z:=t.1;let pl:=t.is H q
  show subscriptTail_builtinR (x:=x) pl.typeIs slot_tuple_getitem.lookup (getItem_tuple (j:=j) (Q:=λr s'=>r=x/\Q r s') pl () () (by trivial) (by simpa using h2) ⟨rfl,k⟩) hs
def Rs.atI (r:Rs m M ds vs) (h:atI ds i=U d):∃v,L2.atI vs i=U v/\R m M d v:=by
 let(j,e,h):=OY.mp h;let(v,g,k):=r.get h;show⟨v,by unfold L2.atI;rw[<-r.length,e];show g,k⟩
def G0 (d:DE X m a fa) (g:DE X m' b fb):DE X m (.Subscript a b pos) (λO=>Lm (fa O) (fb O)):=⟨rfl,λI e k=>P9 (L6 (f:=subscriptTail a b) d g I e λx y v u s K p z w r j=>by
 split at j<;>try cases j
 let(ds,h,i):=ag j;let(c,o,vs,rfl,q,t,rs):=w.items h;let(tk,rfl):=r;let(v,l,n):=rs.atI i;show Hm.item z.heap q t l (nI g.pl) (k _ _ _ p z n))⟩
nonrec theorem Gd (ha:DE X m a fa) (hb:DE X m' b fb):DE X mm (.Subscript a b pos) (λO=>EM (fa O) (fb O)):=⟨rfl,λI e k=>P9 (L6 (f:=subscriptTail a b) ha hb I e λx y v u s2 M2 x2 I2 r1 r2 e3=>by
 split at e3<;>try cases e3
 split at e3<;>try cases e3
 rename_i z i hz;let(c,e4,e5):=ag e3;ext e5;let(t,rfl):=r1;let(t',rfl):=r2;let(j,h1,h2,h3,h4,h5):=xK e4;let hl:z.cps.toList.length=z.length:=by simp[Str.length]
 rw[hl]at h1 h4 h5;let hn:=rf;have:=aG hz;show Sr (typeIs_str s2 z t) slot_str_getitem.lookup (getItem_str (c:=c) () (by rw[h1];simpa using h2) (k _ _ _ x2 I2.tok ⟨_,rfl⟩)) (nI hb.pl))⟩
def DO (X:Cx) (e:G Expr) (f:DEnv->G (G Int)):Prop:=∀{M O s o} {Q:Ml->Mn->Prop},Inv X M O s->f O=U o->(∀v s' M',Ext M M'->Inv X M' O s'->IsPart v o->Q v s')->WP X (evalPart e X.env) Q s
theorem C2:DO X B (λ_=>U B):=λI e k=>by ext e;show Mf (k _ _ _ Ext.refl I .none)
theorem Dt (h:DE X m a fa):DO X (U a) (λO=>bA (fa O)):=λ{M O s o Q} I e k=>by
 unfold bA at e;dsimp only at e;split at e<;>ext e
 show h.ev I (by assumption) λv u M1 j g r=>by let(t,rfl):=r;show k _ _ _ j g (.int _ t)
variable{lo hi:G Expr}{fl fh:DEnv->G (G Int)}
def ub (i:DE X m a fa) (b:DO X lo fl) (n:DO X hi fh) (I:Inv X M O s) (e:b3 g (fa O) (fl O) (fh O)=U d) (k:∀x l u v vl j c s' M',Ext M M'->Inv X M' O s'->R m M' x v->s'.heap.IsSliceOf c vl j .none->IsPart vl l->IsPart j u->g x l u=U d->∃T r,typeLookup (.type T) "__getitem__"=pure (U (.builtin r))/\s'.TypeIs v T/\WP X (getItem v (.ref c)) Q s'):
  WP X (eval (.Subscript a (.Slice lo hi B p2) pos) X.env) Q s:=by
 let(x,W,z):=ag e;let(l,z,y):=ag z;let(u,y,N):=ag y;show P9 (i.ev I W λv E M1 t F w=>wpAny_Slice (b F z λvl P H q C f=>n C y λj p A x3 S p2=>Mf ?_))
 let(T,r,K,o,h):=k x l u v vl j p.heap.objs.size _ _ ((t.trans q).trans x3) S.push (w.up (q.trans x3)) (Sn ..) f p2 N;show Sr (ops:=[.ref p.heap.objs.size,v]) o K h (by rfl)
def pu (x:MJ) (lo hi:G Int):(xL x lo hi).length<=x.length:=by
 ext xL;split
 .show Mj _
 .show ME (SV _ _) (sliceIndices_le lo hi x.length)
def w9 (h:IsPart v o):∃l:G (Int×Tok),v=partValue l/\l.map (·.1)=o:=by
 cases h with
 |none=>show⟨B,rfl,rfl⟩
 |int i t=>show⟨U (i,t),rfl,rfl⟩
nonrec theorem DY (f:DE X m a fa) (p:DO X lo fl) (w:DO X hi fh):DE X mm (.Subscript a (.Slice lo hi B p2) pos) (λO=>xH (fa O) (fl O) (fh O)):=⟨rfl,λI e k=>ub f p w I e λx l u v vl n c s' M' y b r hs q p2 g=>by
 split at g<;>try cases g
 split at g<;>ext g
 rename_i z hz;let(t,rfl):=r;let(l,rfl,rfl):=w9 q;let(u,rfl,rfl):=w9 p2;show⟨"str",_,F.slot_str_getitem.lookup,typeIs_str _ z t,wpAny_getItem_str_slice (l:=l) (u:=u) (st:=B) hs rfl ?_⟩
 rw[show(sliceMade z t l u B)=if((O5 (l.map (·.1)) (u.map (·.1)) 1 z.length).length==z.length)=V then Made.val (.str z t) else Made.str ⟨((O5 (l.map (·.1)) (u.map (·.1)) 1 z.length).filterMap (z.cps[·]?)).toArray⟩ by
  rfl]
 show post_val_or_made (λd=>?_) λt' tk=>k _ _ _ y b.tok ⟨t',rfl⟩
 let j:=pu z (l.map (·.1)) (u.map (·.1))
 unfold xL at j;rw[o_ d]at j;show ME j (aG hz)⟩
def qF (lo hi:G Int) (n:Nat):(sliceBounds lo hi B n).1=((LR n 0 lo:Nat):Int)/\(sliceBounds lo hi B n).2.1=((LR n n hi:Nat):Int)/\(sliceBounds lo hi B n).2.2=1:=by
 show⟨?_,?_,rfl⟩
 .cases lo with
  |none=>rfl
  |some i=>simp![sliceBounds,LR,Option.getD_none,show(1:Int)>0 by decide,if_true];by_cases h:i<0<;>simp![h,if_true,if_false]<;>lia
 .cases hi with
  |none=>rfl
  |some i=>simp![sliceBounds,LR,Option.getD_none,show(1:Int)>0 by decide,if_true];by_cases h:i<0<;>simp![h,if_true,if_false]<;>lia
def i5 (k:Z Ml) (lo hi:G Int):slicePick k.toArray lo hi B=(pE k lo hi).toArray:=by
 let(u,g,j):=qF lo hi k.toArray.size;unfold slicePick pE;rw[u,g,j];simp![sliceRange_one,pick_run,Nc]<;>rfl
def tA {k:Type}(xs:Z k):(pE xs l u).length<=xs.length:=by ext pE;simp;lia
def Rs.cut (r:Rs m M ds vs):Rs m M (pE ds l u) (pE vs l u):=by ext pE;rw[r.length];show(r.drop _).take _
def CT (f:DE X Y a fa) (w:DO X lo fl) (d:DO X hi fh):DF X (.Subscript a (.Slice lo hi B p2) pos) (λO=>cR (fa O) (fl O) (fh O)):=⟨rfl,λI e k=>ub f w d I e λx l u v vl b c s' M' y j r hs p p2 g=>by
 split at g<;>ext g
 let(m,o,vs,rfl,q,t,rs):=r;let z:=t.1;show⟨"list",_,slot_list_getitem.lookup,(t.is j.heap q).typeIs,wpAny_getItem_list_slice (t.is j.heap q) hs p p2 .none (by simp) ?_ (by simp;rfl')⟩
 rw[i5];show k _ _ _ _ y (j.push (t:=s'.toks)) (j.fresh (Mj _)) (Mm _ rfl) ⟨_,⟨ME (tA _) z,_,rfl⟩,rs.cut⟩⟩
end
end L2
namespace L2
open PySem PySem.Spec PyProof.Rows PySem.W Md
variable[Md]
section
variable{X:Cx}{M M':Mp}{O:DEnv}{s:Mn}{Q:Ml->Mn->Prop}{a b:Expr}{es:Z Expr}{fa fb:DEnv->G D}{fs:DEnv->G (Z D)}{m m' mm:Bool}{p p2 pos apos cpos:Q6}
def CQ (g:Bn X "list") (l:DE X Y a fa):DF X (.Call (.Name "list" p) [a] [] pos) (λO=>CC (fa O)):=⟨rfl,λI e k=>by
 let(d,s,h):=ag e;let(ds,x,i):=ag h;ext i;show cZ g (by rfl:bootBuiltins "list"=U (.type "list")) l I s λv j M1 m y r=>?_
 let(c,o,vs,rfl,q,t,rs):=r.items x;let fin:vs.length<=sizeLine->∀(u:OF) (n:Nat),(∀b f,j.heap.get? b=U f->u.get? b=U f)->u.get? j.heap.objs.size=U {cls:=.type "list",dict:=B,data:=.seq vs.toArray n,slots:=#[]}->_:=λz u n kp e=>
  k j.heap.objs.size _ {j with heap:=u} M1 m (y.kp kp) (y.fresh (Mj _)) e ⟨vs,⟨z,n,rfl⟩,rs⟩
 rcases t with t|t
 .let z:=t.1;let(o,ho,w,n,hd):=t.is y.heap q
  show call_list_seq c (.inl rfl) ho w hd (fin z) (by simp;rfl')
 .let z:=t.1.1;let(o,ho,w,n,hd):=t.is y.heap q
  show call_list_seq c (.inr rfl) ho w hd (fin z) (by simp;rfl')⟩
def Inv.newT' (I:Inv X M O s) (r:Rs m M ds vs) (z:vs.length<=sizeLine) (k:Post X M O m (.tup ds) Q) {s':Mn}(j:∀b o,s.heap.get? b=U o->s'.heap.get? b=U o) (hg:s'.os=s.os/\s'.gens=s.gens) (e:s'.heap.get? c=U o) (g:s.heap.objs.size<=c) (t:TupO o vs):Q (.ref c) s':=by
 let f:=I.fresh g;show k _ _ _ (dg f.m) ((I.kp j hg).put f e) ⟨_,_,vs,rfl,⟨.f,ak,rfl⟩,t,r.to (dY f.m)⟩
def Ag (g:Bn X "tuple") (w:DE X m a fa):DE X m (.Call (.Name "tuple" p) [a] [] pos) (λO=>m7 (fa O)):=⟨rfl,λI e k=>by
 let(d,x,i):=ag e;let(ds,l,n):=ag i;ext n;show cZ g (by rfl:bootBuiltins "tuple"=U (.type "tuple")) w I x λv y M1 u j r=>?_
 let(c,o,vs,rfl,q,t,rs):=r.items l
 rcases t with t|t
 .let z:=t.1
  show call_tuple_list (t.is j.heap q) (λf kp=>?_) (by simp;rfl')
  show(j.kp (s':={y with heap:=f}) kp).newT' rs z (Post.to k u) (λb o e=>Mg _ e) ⟨rfl,rfl⟩ (Mm _ rfl) (Mj _) ⟨⟨z,rfl⟩,rfl,_,rfl⟩
 .show call_tuple_same (t.is j.heap q) (k _ _ _ u j ⟨c,o,vs,rfl,q,t,rs⟩)⟩
def B0 (v:DE X m a fa) (u:DE X m' b fb):DE X mm (.BinOp a .Add b pos) (λO=>GE (fa O) (fb O)):=nU (λI g j e k=>by
 split at e<;>try cases e
 split at e<;>ext e
 let(t,rfl):=g;let(t',rfl):=j;show add_str (λt' tk=>k _ _ _ Ext.refl I.tok ⟨_,rfl⟩) (aG (by assumption))) v u
def TupO.obj (t:TupO o vs) (H:Hm M s.heap) (q:Rd m M c o):∃dd n j,s.heap.get? c=U ⟨.type "tuple",dd,.seq vs.toArray n,j⟩:=by
 let(k,e,_):=q;let(_,v,n,u):=t;let(c,dd,g,j):=o;ext v;ext u;show⟨dd,n,j,H _ _ _ e⟩
nonrec theorem As (C:DE X m a fa) (S:DE X m b fb):DE X m (.BinOp a .Add b pos) (λO=>G8 (fa O) (fb O)):=⟨rfl,λI e k=>wpAny_BinOp (L6 C S I e λx y v u P H d r W N w=>by
 split at w<;>try cases w
 split at w<;>ext w
 rename_i ds es hz;let i:=W;let l:=N;let(c,o,vs,rfl,q,t,rs):=W;let(K,Q,vs',rfl,R,t',p):=N;let(dd,n,f,ho):=t.obj r.heap q;let(z,h,g,j):=t'.obj r.heap R;let A:=rs.length;let E:=p.length
 by_cases s:vs=[]
 .obtain rfl:ds=[]:=by simp_all
  show Sv ⟨_,ho,rfl⟩ ⟨_,j,rfl⟩ SJ seq_tuple_add QJ Qx (Qq _ _) (tuple_addW0 c K vs.toArray vs'.toArray n h dd z f g (by simp[s])) ⟨ho,j,k _ _ _ d r l⟩
 .by_cases T:vs'=[]
  .obtain rfl:es=[]:=by simp_all
   show Sv ⟨_,ho,rfl⟩ ⟨_,j,rfl⟩ SJ seq_tuple_add QJ Qx (Qq _ _) (tuple_addW1 c K vs.toArray vs'.toArray n h dd z f g (by simpa using s) (by simp[T])) ⟨ho,j,k _ _ _ d r (by rw[PC];show i)⟩
  .show Sv ⟨_,ho,rfl⟩ ⟨_,j,rfl⟩ SJ seq_tuple_add QJ Qx (Qq _ _) (tuple_addW2 c K vs.toArray vs'.toArray n h dd z f g (by simpa using s) (by simpa using T) (by simp_all [aG])) ⟨ho,j,?_⟩
   rw[show vs.toArray++vs'.toArray=(vs++vs').toArray by simp]
   show r.newT (rs.append p) (by simpa using hz) (Post.to k d))⟩
def xi (l:MM) (items:Array Ml) (n:Nat) (b:MM) (k:Array Ml) (u:Nat) (g j:Array (G Ml)) (y:items.size+k.size<=sizeLine):
  Meets (Ou.«list.__add__» ⟨[.ref l,.ref b],[]⟩) (λ_ R s=>s.heap.get? l=U ⟨.type "list",B,.seq items n,g⟩/\s.heap.get? b=U ⟨.type "list",B,.seq k u,j⟩/\R (.ok (.ret (Value.ref s.heap.objs.size))) {s with heap:=s.heap.push {cls:=Oo "list",data:=Data.seq (items++k)}}):=
 .of_wp λprog w A R s h=>by
  let(v,z,h):=h;let q:=AutoSeq1.sub_list_list;wp_walk using Ql v,Ql z;show⟨_,rfl,h⟩
def LstO.obj (t:LstO o vs) (H:Hm M s.heap) (q:Rd m M c o):∃n,s.heap.get? c=U {cls:=.type "list",data:=.seq vs.toArray n}:=by
 let(k,e,_):=q;let(_,n,rfl):=t;show⟨n,H _ _ _ e⟩
def Gk {ds ls:Z D}(I:Inv X M O s) (z:R m M (.lst ds) v) (y:R m' M (.lst ls) u) (hz:ds.length+ls.length<=LZ) (k:∀vs vs',Rs m M ds vs->Rs m' M ls vs'->Q (.ref s.heap.objs.size) {s with heap:=s.heap.push {cls:=.type "list",data:=.seq (vs++vs').toArray}}):WP X (binaryOp .Add v u) Q s:=by
 let(c,o,vs,rfl,q,t,rs):=z;let(w,d,vs',rfl,p,t',g):=y;let(n,ho):=t.obj I.heap q;let(r,j):=t'.obj I.heap p;let b:=rs.length;let f:=g.length;show Sv ⟨_,ho,rfl⟩ ⟨_,j,rfl⟩ noFill_list_add seq_list_add F.slot_list_add F.entry_list_add (F.args_list_add_2 _ _) (xi c vs.toArray n w vs'.toArray r #[] #[] (by simp_all [aG])) ⟨ho,j,?_⟩
 simp_all
nonrec theorem Fy (t:DE X Y a fa) (r:DE X Y b fb):DF X (.BinOp a .Add b pos) (λO=>tv (fa O) (fb O)):=⟨rfl,λI e k=>wpAny_BinOp (L6 t r I e λx y v u d f z g p q j=>by
 split at j<;>try cases j
 split at j<;>ext j
 rename_i hz;show Gk g p q hz λvs vs' c w=>g.newL (c.append w) (by simpa using hz) (PostF.to k z))⟩
mutual
theorem R.flat (ho:∀a k o,M a=U (k,o)->k.own=V->Ow o):∀{d v},d.flat=V->R m M d v->R Y M d v
 |.non,v,_,h=>by show h
 |.bl b,v,_,h=>by show h
 |.int i,v,_,h=>by show h
 |.str x,v,_,h=>by show h
 |.tup ds,v,f,h=>by
  let(a,o,vs,e,(k,q,j),t,rs):=h;show⟨a,o,vs,e,KR.mpr ?_,t,Rs.flat ho f rs⟩
  cases k with
  |f=>show q
  |p=>ext j
  |_=>show absurd t.2.1 (ho _ _ _ q rfl).1
 |.lst ds,v,f,_=>by ext f
 |.dK _ _,v,f,_=>by ext f
 |.dD _ _,v,f,_=>by ext f
 |.ob _ _ _,v,f,_=>by ext f
 |.loc _ _,v,f,_=>by ext f
 |.ptr _,v,f,_=>by ext f
theorem Rs.flat (ho:∀a k o,M a=U (k,o)->k.own=V->Ow o):∀{ds vs},D.flats ds=V->Rs m M ds vs->Rs Y M ds vs
 |[],vs,_,h=>by show h
 |d::ds,vs,f,h=>by
  simp![D.flats,Mo]at f;let(x,r,j,u,g):=h;show⟨x,r,j,R.flat ho f.1 u,Rs.flat ho f.2 g⟩
end
def EJ (g:DE X m a fa):DE X mm (.UnaryOp .USub a pos) (λO=>yQ (fa O)):=⟨rfl,λ{M O s d Q} I e k=>by
 unfold yQ at e;split at e<;>ext e
 show UnaryOp_ (g.ev I (by assumption) λv y M1 j u r=>by let(t,rfl):=r;show neg_int (k _ _ _ j u.tok ⟨_,rfl⟩))⟩
nonrec theorem nJ:∀{ds} {ns:Z MJ},vm ds=U ns->ds=ns.map D.str
 |[],ns,h=>by ext h;rfl
 |d::ds,ns,h=>by
  cases d<;>simp![vm]at h<;>try cases h
  split at h<;>ext h
  rename_i q;rw[nJ q];rfl
theorem Rs.strs:∀{ns:Z MJ}{vs},Rs m M (ns.map D.str) vs->StrsAre vs ns
 |[],_,h=>by subst h;show .nil
 |n::ns,_,h=>by let(x,r,rfl,(t,rfl),k):=h;show .cons n t (Rs.strs k)
nonrec theorem Dy (s:DE X m a fa) (h:DE X m' b fb) (l:(apos.endLine==cpos.line)=V):DE X mm (.Call (.Attribute a "join" apos) [b] [] cpos) (λO=>Ai (fa O) (fb O)):=⟨rfl,λI e k=>by
 let(x,y,W,N,j):=nQ e;split at j<;>try cases j
 let(ys,K,g):=ag j;split at g<;>ext g
 rename_i z ds i;obtain rfl:=nJ K;show yd PySem.F.plainAttrs_str PySem.F.slot_str_join PySem.F.type_str_join l s (b9 h fZ) ∅ I W (ds:=[_]) (by rw[N];rfl) (λ_ r=>?_) λv vs T M1 w p n f=>?_
 .let(t,rfl):=r;show⟨typeIs_str _ z t,λ_ e=>nomatch e⟩
 .let(t,rfl):=n
  let(u,rfl,d):=f.is1;let(c,o,vs,rfl,q,t,rs):=d;show join_list (t.is p.heap q) (by simpa using rs.strs) i λt' tk=>k _ _ _ w p.tok ⟨t',rfl⟩⟩
def nV:Ml->Bool|.none=>V|_=>Y
def yD (r:R m M d v):decide (d=.non)=nV v:=by
 cases d<;>simp![R]at r<;>first|(subst r;rfl)|(let(_,rfl):=r;rfl)|(let(_,_,_,rfl,_):=r;rfl)|(let(_,_,_,_,rfl,_):=r;rfl)|(let(_,_,_,_,_,rfl,_):=r;rfl)|(let(_,_,_,rfl,_):=r;rfl)
def Rs.emp (rs:Rs m M ds vs):(!ds.isEmpty)=!vs.toArray.isEmpty:=by have:=rs.length;ext ds<;>ext vs<;>simp_all
theorem EV (u:DE X m a fa):DT X (.Compare a [.Is] [.Constant .none j p] pos) (λO=>o7 (fa O)):=λ{M O s c Q} I e k=>by
 cases q:fa O with
 |none=>simp[o7,q]at e
 |some d=>
  simp![o7,q]at e;ext e;show Pq (u.ev I q λv z M1 g y r=>Constant_none (is_none_gen (Ng (by rw[yD r]at k;ext v<;>show k _ _ g y)))) rfl
theorem Ct (u:DE X m a fa):DT X (.Compare a [.IsNot] [.Constant .none j p] pos) (λO=>a7 (o7 (fa O))):=λ{M O s c Q} I e k=>by
 cases q:fa O with
 |none=>simp[o7,a7,q]at e
 |some d=>
  simp![o7,a7,q]at e;ext e;show Pq (u.ev I q λv z M1 g y r=>Constant_none (isnot_none_gen (Ng (by rw[yD r]at k;ext v<;>show k _ _ g y)))) rfl
nonrec theorem EK (h:LP a=V) (u:DE X m a fa):DT X a (λO=>jD (fa O)):=λ{M O s c Q} I e k=>by
 let hs:=rf;cases q:fa O with
 |none=>simp[jD,q]at e
 |some d=>
  show Su (u.ev I q λv y M1 g j r=>?_) (oK h)
  simp![jD,q]at e;cases d<;>dsimp only at e<;>try cases e
  .ext r;show truthy_none (k _ _ g j)
  .ext r;show Ng (k _ _ g j)
  .let(t,rfl):=r;show PySem.P.truthy_int (k _ _ g j)
  .split at e<;>ext e
   rename_i hz;have:=aG hz;let(t,rfl):=r;show PySem.P.truthy_str () (k _ _ g j.tok)
  .let(c,o,vs,rfl,q,t,rs):=r
   let z:=t.1;show truthy_tuple (t.is j.heap q) (by simp![Nc];lia) (by rw[<-rs.emp];show k _ _ g j.tok)
  .let(c,o,vs,rfl,q,t,rs):=r
   let z:=t.1;show wpAny_truthy_list (t.is j.heap q) (by simp![Nc];lia) (by rw[<-rs.emp];show k _ _ g j.tok)
end
end L2
namespace L2
open PySem PySem.Spec PyProof.Rows Md
variable[Md]
def Ret (X:Cx) (M:Mp) (s:Mn) (d:D) (v:Ml):Bool->Prop
 |false=>R Y M d v
 |true=>∃a o,v=.ref a/\s.heap.get? a=U o/\C M d o/\(Free X M a\/∃i,M a=U (.o i,o))
def OutP (X:Cx) (M:Mp) (Q:Flow->Mn->Prop):Out->Prop
 |.next O=>∀s' M',Sx M M'->Inv X M' O s'->Q .next s'
 |.brk O=>∀s' M',Sx M M'->Inv X M' O s'->Q .brk s'
 |.cont O=>∀s' M',Sx M M'->Inv X M' O s'->Q .cont s'
 |.ret d fr O=>∀v s' M',Sx M M'->Inv X M' O s'->Ret X M' s' d v fr->Q (.ret v) s'
def DS (X:Cx) (st:NN) (g:DEnv->G Out):Prop:=∀{M O s o} {Q:Flow->Mn->Prop},Inv X M O s->g O=U o->OutP X M Q o->WP X (exec st X.env) Q s
def Lh (X:Cx) (st:Z NN) (g:DEnv->G Out):Prop:=∀{M O s o} {Q:Flow->Mn->Prop},Inv X M O s->g O=U o->OutP X M Q o->WP X (execs st X.env) Q s
section
variable{X:Cx}{M M':Mp}{O:DEnv}{s:Mn}{a b c:Expr}{es:Z Expr}{fa fb:DEnv->G D}{fs:DEnv->G (Z D)}{m m' mm:Bool}{p p2 pos pos' px apos cpos:Q6}{st:NN}{rest:Z NN}{g g1 g2:DEnv->G Out}{fc:DEnv->G Bool}{Q:Flow->Mn->Prop}
def OutP.to (h:OutP X M Q o) (x:Sx M M'):OutP X M' Q o:=by
 cases o with
 |next O=>show λs' k y=>h s' k (x.trans y)
 |brk O=>show λs' k y=>h s' k (x.trans y)
 |cont O=>show λs' k y=>h s' k (x.trans y)
 |ret d fr O=>show λv s' k y=>h v s' k (x.trans y)
def C6:Lh X [] aU:=λI e k=>by ext e;show Qm (k _ _ Sx.refl I)
theorem pD (v:DS X st g1) (u:Lh X rest g2):Lh X (st::rest) (λO=>aq (g1 O) g2):=λ{M O s o Q} I e k=>by
 cases q:g1 O with
 |none=>simp[q,aq]at e
 |some o1=>
  simp![q,aq]at e;show wpAny_execs_cons (v I q ?_)
  cases o1 with
  |next j=>show λz M1 g y=>u y e (k.to g)
  |brk j=>ext e;show k
  |cont j=>ext e;show k
  |ret d fr j=>ext e;show k
theorem sU (h:DS X st g):Lh X [st] g:=λ{M O s o Q} I e k=>wpAny_execs_cons (h I e (by cases o with|next O=>show λv M1 j u=>Qm (k _ _ j u)|_=>show k))
def B7 (i:Nat) (h:∃x,Nm X i x) (hs:Lh X rest g):Lh X rest (λO=>g (mG i O)):=λ{M O s o Q} I e k=>by
 let(x,h):=h;unfold mG at e;dsimp only at e;split at e
 .let(M',u,j,z,y,_):=I.frz (by assumption) h.n h.v
  show hs y e (k.to ⟨u,λa o q=>(j a o).mp q,λa o q=>(j a o).mpr q⟩)
 .show hs I e k
theorem HF (u:DT X c fc) (z:Lh X x g1) (v:Lh X y g2):DS X (.If c x y pos) (λO=>JZ (fc O) (g1 O) (g2 O)):=λ{M O s o Q} I e k=>by
 cases q:fc O with
 |none=>simp[JZ,q]at e
 |some t=>
  simp![JZ,q]at e;show wpAny_If (u I q λp M1 j g=>?_)
  ext t
  .show v g e (k.to j.sx)
  .show z g e (k.to j.sx)
def yh (h:cC i x O=U o):∃d,x=U d/\o=.next (O.set i (U (d,Y))):=by unfold cC at h;split at h;split at h<;>simp_all;ext h
def qx (h:gE i x O=U o):∃d,x=U d/\o=.next (O.set i (U (d,V))):=by unfold gE at h;split at h;split at h<;>simp_all;ext h
def Cd (hx:Lc X i x) (ha:DE X Y a fa) (hs:swapsWith a (U (.Name x pos')) pos.line X.env=pure Y):DS X (.Assign [.Name x pos'] a pos) (λO=>cC i (fa O) O):=λI e k=>by
 let(d,e1,rfl):=yh e;show Sq (ha.ev I e1 λv s1 M1 x1 I1 r=>I1.store hx (b:=Y) r λs2 _ I2 _ _=>k _ _ x1.sx I2) hs
def zH (hx:Lc X i x) (ha:DF X a fa) (hs:swapsWith a (U (.Name x pos')) pos.line X.env=pure Y):DS X (.Assign [.Name x pos'] a pos) (λO=>gE i (fa O) O):=λI e k=>by
 let(d,e1,rfl):=qx e;show Sq (ha.ev I e1 λa o s1 M1 x1 I1 f q c=>I1.setOwn f q c hx λs2 M2 _ I2 h1 h2 _ _ _=>k _ _ (x1.sx.trans ⟨h1,λa o q=>(h2 a o).mp q,λa o q=>(h2 a o).mpr q⟩) I2) hs
theorem Bg (g:DE X Y a fa):DS X (.Return (U a) pos) (λO=>bN (fa O) O):=λ{M O s o Q} I e k=>by
 cases q:fa O with
 |none=>simp[bN,q]at e
 |some d=>simp![bN,q]at e;ext e;show QU (g.ev I q λv y M1 j u r=>k v _ _ j.sx u r)
theorem vY (ha:DF X a fa):DS X (.Return (U a) pos) (λO=>j4 (fa O) O):=λ{M O s o Q} I e k=>by
 cases q:fa O with
 |none=>simp[j4,q]at e
 |some d=>simp![j4,q]at e;ext e;show QU (ha.ev I q λa o s1 M1 x1 I1 f h c=>k _ _ _ x1.sx I1 ⟨a,o,rfl,h,c,.inl f⟩)
def bO (h:dh i O=U d):O[i]?=U (U (d,V)):=by unfold dh at h;split at h<;>simp_all
theorem Aa (h:Nm X i x):DS X (.Return (U (.Name x px)) pos) (λO=>j4 (dh i O) O):=λ{M O s o Q} I e k=>by
 cases q:dh i O with
 |none=>simp[j4,q]at e
 |some d=>
  simp![j4,q]at e;ext e;show QU (Py (I.load h (bO q) λv r=>by let(a,o,rfl,q,c):=r;show k _ _ _ Sx.refl I ⟨a,o,rfl,I.heap _ _ _ q,c,.inr ⟨i,q⟩⟩) h.d)
def DG (X:Cx) (k:Expr) (τ:D->DEnv->G DEnv):Prop:=∀{M O s d v δ'} {Q:Unit->Mn->Prop},Inv X M O s->R Y M d v->τ d O=U δ'->(∀s',Inv X M δ' s'->Q q_ s')->WP X (assign k X.env v) Q s
def KW (X:Cx) (ts:Z Expr) (τ:Z D->DEnv->G DEnv):Prop:=∀{M O s ds vs δ'} {Q:Unit->Mn->Prop},Inv X M O s->Rs Y M ds vs->τ ds O=U δ'->(∀s',Inv X M δ' s'->Q q_ s')->WP X (assignInOrder ((assignEach ts X.env).map (·.2)) vs) Q s
def du (h:ae i d O=U δ'):δ'=O.set i (U (d,Y)):=by unfold ae at h;split at h<;>simp_all
theorem z9 (j:Lc X i x):DG X (.Name x pos) (ae i):=λI r e k=>by
 obtain rfl:=du e;show wpAny_assign_Name (I.store j (b:=Y) r λs' _ g _ _=>k s' g)
theorem D5:KW X [] aY:=λ{M O s ds vs δ' Q} I r e k=>by
 cases ds with
 |nil=>ext e;show assignInOrder_nil (k _ I)
 |cons d ds=>ext e
def Kk:Expr->Bool|.Starred .. =>Y|_=>V
def DP (h:Kk e=V):assignEach (e::es) v=(Y,assign e v)::assignEach es v:=by cases e<;>first|rfl|cases h
theorem yY (hp:Kk e=V) (h1:DG X e τ) (h2:KW X es υ):KW X (e::es) (ah τ υ):=λ{M O s ds vs δ' Q} I r e k=>by
 cases ds with
 |nil=>ext e
 |cons d ds=>
  let(δ1,e1,e2):=ag e;let(v,r,rfl,r1,r2):=r;rw[DP hp];show assignInOrder_cons (h1 I r1 e1 λs1 I1=>h2 I1 r2 e2 k)
def eS (h:∀ds O δ',υ ds O=U δ'->ds.length=n) (ds:Z D) (O δ':DEnv) (e:ah τ υ ds O=U δ'):ds.length=n+1:=by
 cases ds with
 |nil=>ext e
 |cons d ds=>let(δ1,_,e2):=ag e;rw[MX,h _ _ _ e2]
def pK (ds:Z D) (O δ':DEnv) (e:aY ds O=U δ'):ds.length=0:=by cases ds with|nil=>rfl|cons d ds=>ext e
theorem Gq (h:KW X es j) (y:∀ds O δ',j ds O=U δ'->ds.length=n) (u:(assignEach es X.env).length=n) (hst:(assignEach es X.env).findIdx? (·.1)=B):DG X (.Tuple es k pos) (aW j):=λ{M O s d v δ' Q} I r e k=>by
 cases d<;>try cases e
 let(a,o,vs,rfl,q,t,rs):=r;show assign_Tuple_tuple I.ok.room.hd (t.is I.heap q) (by simp[u,<-y _ _ _ e,rs.length]) hst λz g=>?_
 show h (I.kp (s':={s with heap:=z}) λb o e=>g b o (MU (MD e)) e) (by simpa using rs) e k
def EL {name:MJ}{Q:Ml->Mn->Prop}(pa:PlainAttrs T) (slot:Slot T name j) (g:typeOf (.builtin j)=pure (.type "method_descriptor")) (l:(apos.endLine==cpos.line)=V) (h:Nm X i x) (p:DA X m' (b::es) fs) (y:es.length<20) (I:Inv X M O s) (e:O[i]?=U (U (d,V))) (t:fs O=U ds) (u:∀{M:Mp}{o},C M d o->o.cls=.type T/\o.dict=B) (k:∀a o vs s' M',Ext M M'->Inv X M' O s'->M' a=U (.o i,o)->C M' d o->Rs m' M' ds vs->WP X (call (.builtin j) (.ref a::vs)) Q s'):WP X (eval (.Call (.Attribute (.Name x px) name apos) (b::es) [] cpos) X.env) Q s:=
 BB (Z9:=λM v=>Va M i d v V) pa slot g l rfl p y t (λkk=>Py (I.load h e λv r=>kk v _ _ Ext.refl I r) h.d) (λH z=>by
  let(a,o,rfl,q,c):=z;show⟨⟨o,H _ _ _ q,(u c).1⟩,λb e=>by ext e;show⟨o,H _ _ _ q,(u c).2⟩⟩) (λx z=>z.to x.sub λa o q=>(x.e a).elim (λw=>w.trans q) λw=>by rw[w.1]at q;ext q) λv vs s' M' x f z r=>by
  let(a,o,rfl,q,c):=z;show k a o vs s' M' x f q c r
def dS (c:C M (.lst ds) o):o.cls=.type "list"/\o.dict=B:=by let(vs,(_,n,rfl),_):=c;show⟨rfl,rfl⟩
def BH:Ow {cls:=.type "list",data:=.seq vs n}:=⟨by simp,λ_ z=>nomatch z⟩
def Inv.lset {c:MM}{vs us:Z Ml}(I:Inv X M O s) (h:Nm X i x) (nd:X.N.Nodup) (e:O[i]?=U (U (.lst ds,V))) (q:M c=U (.o i,{cls:=.type "list",data:=.seq vs.toArray n})) (j:f vs.toArray=us.toArray) (r:Rs Y M ds' us) (hz:ds'.length<=LZ):
  ∃M',Inv X M' (O.set i (U (.lst ds',V))) {s with heap:=s.heap.update c (Na f),toks:=t}/\Sx M M':=by
 let g:=RB (I.heap _ _ _ q) f;rw[j]at g;let(v,u,k):=I.chg (s':={s with heap:=s.heap.update c (Na f),toks:=t}) e h.n q (λb ob z w=>(Nn s.heap (Na f) (MR z)).trans w) g BH (d':=.lst ds') ⟨us,⟨by rw[<-r.length];show aG hz,_,rfl⟩,r⟩
 show⟨_,v,u,λa o=>(k a o).mp,λa o=>(k a o).mpr⟩
def Inv.quiet (I:Inv X M O s):interactive X.env=Y:=by simp[interactive,I.ok.kind]
nonrec theorem vD (h:Nm X i x) (nd:X.N.Nodup) (K:DE X Y a fa) (l:(apos.endLine==cpos.line)=V):DS X (.Expr (.Call (.Attribute (.Name x px) "append" apos) [a] [] cpos) pos) (λO=>rH i (fa O) O):=λ{M O s o Q} I e k=>by
 unfold rH at e;dsimp only at e;split at e<;>try cases e
 split at e<;>ext e
 rename_i ds d g W R;show O7 (EL OW Qp Qo l h (b9 K fZ) ∅ I (bO g) (ds:=[d]) (by rw[W];rfl) dS λa o vs w M1 p v q c r=>?_) I.quiet rfl
 let(u,rfl,b):=r.is1;let(vs,(z,n,rfl),rs):=c;let j:=v.heap _ _ _ q;let m:=rs.length;have:LZ<sizeLine:=by decide +kernel
 let(S,T,y):=v.lset (f:=λa=>a.push u) (us:=vs++[u]) (t:=w.toks) h nd (bO g) q (by simp) (rs.append (.one b)) ⋯
 show Pj Qp ⟨_,j,rfl⟩ Qk (Qd _ _) (Qu a vs.toArray n u (by simp;rfl')) ⟨j,k _ _ (p.sx.trans y) T⟩
nonrec theorem vC (h:Nm X i x) (nd:X.N.Nodup) (P:DF X a fa) (l:(apos.endLine==cpos.line)=V):DS X (.Expr (.Call (.Attribute (.Name x px) "extend" apos) [a] [] cpos) pos) (λO=>Eb i (fa O) O):=λ{M O s o Q} I e k=>by
 unfold Eb at e;dsimp only at e;split at e<;>try cases e
 split at e<;>ext e
 rename_i ds es w E p;show O7 (EL OW Sz Sw l h (b9 (m:=Y) P.share fZ) ∅ I (bO w) (ds:=[.lst es]) (by rw[E];rfl) dS λa o us K M1 b v q c r=>?_) I.quiet rfl
 let(u,rfl,W):=r.is1;let(A,L,vs',rfl,T,t',j):=W;let(vs,(z,n,rfl),rs):=c;let y:=v.heap _ _ _ q;let(R,g):=t'.obj v.heap T;let C:=rs.length;let S:=j.length;let D:=t'.1;have:=aG p;let(M2,H,d):=v.lset (f:=λa=>a++vs'.toArray) (us:=vs++vs') (t:=K.toks) h nd (bO w) q (by simp) (rs.append j) (by simpa using p)
 show Pj F.slot_list_extend ⟨_,y,rfl⟩ F.entry_list_extend (F.args_list_extend_2 _ _) (RA a vs.toArray n A vs'.toArray R ?_ (by rw[Nc];rfl') ⋯) ⟨y,g,k _ _ (b.sx.trans d) H⟩
 rw[show RS (vs.toArray.size+vs'.toArray.size)=Y from decide_eq_false (by simp;rfl'),Bool.and_false];show Og
theorem AH {body:Z NN}(n:Nat) (hc:DT X c ft) (hb:Lh X body gb):DS X (.While c body [] pos) (λO=>cA ft gb n O):=λ{M O s o Q} I e k=>by
 show wpAny_While (codeAny_whileLoop (λj s'=>∃δ' M',Sx M M'/\Inv X M' δ' s'/\cA ft gb j δ'=U o) ?_ n ⟨O,M,Sx.refl,I,e⟩)
 rintro j s1 ⟨δ1,M1,x1,I1,e1⟩
 cases j with
 |zero=>ext e1
 |succ j=>
  unfold cA at e1;cases q:ft δ1 with
  |none=>simp[q]at e1
  |some t=>
   simp![q]at e1;show N4 NX (hc I1 q λs2 M2 x2 I2=>?_)
   cases t with
   |false=>ext e1;show Qm (k _ _ (x1.trans x2.sx) I2)
   |true=>
    cases q2:gb δ1 with
    |none=>simp[q2]at e1
    |some o1=>
     simp![q2]at e1;show N4 NX (hb I2 q2 ?_)
     let x12:=x1.trans x2.sx;cases o1 with
     |next δ3=>show λs3 M3 x3 I3=>⟨j,Nj j,δ3,M3,x12.trans x3,I3,e1⟩
     |cont δ3=>show λs3 M3 x3 I3=>⟨j,Nj j,δ3,M3,x12.trans x3,I3,e1⟩
     |brk δ3=>ext e1;show λs3 M3 x3 I3=>k _ _ (x12.trans x3) I3
     |ret d fr δ3=>ext e1;show λv s3 M3 x3 I3 r=>k _ _ _ (x12.trans x3) I3 r
end
def Ch (fp:Z MM) (s s':Mn):Prop:=(s'.os=s.os/\s'.gens=s.gens)/\∀b o,b∉fp->s.heap.get? b=U o->s'.heap.get? b=U o
def La (m:Bool) (M:Mp) (s s':Mn) (d:D) (u:Ml):Prop:=R m M d u\/∃t o,s.heap.objs.size<=t/\s'.heap.get? t=U o/\R m (LV M t (U (.f,o))) d u
structure Turn2 (A:Nl) (tg:Expr) (m m':Bool) (M:Mp) (ds:Z D) (fp:Z MM) (it:MM) (tn:Nat->OF->Prop):Prop where
 ex:∀{i h},tn i h->∀b∈fp,∃o,h.get? b=U o
 keep:∀{i h h'},tn i h->(∀b∈fp,∀o,h.get? b=U o->h'.get? b=U o)->tn i h'
 item:∀{i s d},tn i s.heap->(∀a o,Rd m M a o->s.heap.get? a=U o)->ds[i]?=U d->wpAny (model P w) A (pyNext (.ref it)) (λr s1=>∃u,r=U u/\
  wpAny (model P w) A (letOwnedTupleGo tg (.ref it) u) (λ_ s2=>Ch fp s s2/\tn (i+1) s2.heap/\La m' M s s2 d u) (λ_ _=>False) s1) (λ_ _=>False) s
 done:∀{s},tn ds.length s.heap->(∀a o,Rd m M a o->s.heap.get? a=U o)->wpAny (model P w) A (pyNext (.ref it)) (λr s1=>r=B/\Ch fp s s1) (λ_ _=>False) s
 self:∀{A:Nl}{i s} {Q E:Ml->Mn->Prop},tn i s.heap->Q (.ref it) s->wpAny (model P w) A (pyIter (.ref it)) Q E s
abbrev BV (A:Nl) (tg:Expr) (m:Bool):=Turn2 A tg m m
abbrev Hq (X:Cx) (tg:Expr) (M:Mp) (O:DEnv) (m m':Bool) (ds:Z D) (Q:Ml->Mn->Prop):Prop:=∀it fp tn s' M',Ext M M'->Inv X M' O s'->Turn2 X.A tg m m' M' ds fp it tn->tn 0 s'.heap->(∀b∈fp,Free X M' b)->Q (.ref it) s'
structure DI2 (X:Cx) (m m':Bool) (tg iter:Expr) (f:DEnv->G (Z D)):Prop where
 pl:Jw iter=V
 ev:∀{M O s ds} {Q:Ml->Mn->Prop},Inv X M O s->f O=U ds->Hq X tg M O m m' ds Q->WP X (eval iter X.env) (λv s1=>WP X (pyIter v) Q s1) s
abbrev DI (X:Cx) (m:Bool):=DI2 X m m
section
variable{X:Cx}{M M' M1:Mp}{O:DEnv}{s s':Mn}{tg iter:Expr}{es:Z Expr}{fa fb:DEnv->G D}{m m' mm:Bool}{p pos tp:Q6}
def Inv.ch (I:Inv X M O s) (h:Ch fp s s') (k:∀b∈fp,Free X M b):Inv X M O s':=I.wr fp k (λb o j=>h.2 b o j) h.1
def AD (h:Sub m M m' M'):Sub m (LV M a (U (.f,o))) m' (LV M' a (U (.f,o))):=⟨λb ob ⟨k,e,z⟩=>(by
 by_cases q:b=a
 .subst q;rw[ak]at e;ext e;show⟨.f,ak,rfl⟩
 .rw[ax q]at e;let(u,v,g):=h b ob ⟨k,e,z⟩;show⟨u,by rw[ax q];show v,g⟩),λj x e=>h.r j x e⟩
def Inv.got (I:Inv X M' O s) (hs:Sub m M m' M') (g:La m M s s' d u) (c:Ch fp s s') (y:∀b∈fp,Free X M' b):∃k,Ext M' k/\Inv X k O s'/\R m' k d u/\∀b o,Free X M' b->s.heap.get? b=U o->Free X k b:=by
 let v:=I.ch c y
 rcases g with g|⟨t,o,j,q,z⟩
 .show⟨M',Ext.refl,v,g.to hs,λb _ f _=>f⟩
 .let f:=I.fresh j
  show⟨_,dg f.m,v.put f q,z.to (AD hs),λb o f e=>⟨?_,f.l,f.c,f.t,f.s⟩⟩
  rw[ax];show f.m
  rintro rfl
  show absurd (MD e) (RJ.mpr j)
def Ret.unp (r:Ret X M1 s d v fr) (h1:Sub Y M1 Y M') (h2:∀a,M1 a=B->M' a=B) (h3:∀a k o,k.own=V->M1 a=U (k,o)->M' a=U (k,o)):Ret X M' s d v fr:=by
 cases fr with
 |false=>show R.to h1 r
 |true=>
  let(a,o,e,q,c,z):=r;show⟨a,o,e,q,c.to h1,z.imp (λf=>⟨h2 _ f.m,f.l,f.c,f.t,f.s⟩) λ⟨i,w⟩=>⟨i,h3 _ _ _ rfl w⟩⟩
def FT {body:Z NN}(hi:DI X Y tg iter fi) (hg:DG X tg τ) (c:Lh X body gb):DS X (.For tg iter body [] pos) (λO=>ac (fi O) λds=>av (λd O=>ac (τ d O) gb) ds O):=λ{M O s o Q} I e k=>by
 let(ds,e1,e2):=ag e;show wpAny_For (hi.ev I e1 λit fp tn s1 M1 x1 I1 T t0 f1=>?_) λx=>oQ hi.pl
 show codeAny_forLoop_any (λn s'=>∃i δ' M',n=ds.length - i/\i<=ds.length/\Sx M1 M'/\Inv X M' δ' s'/\tn i s'.heap/\(∀b∈fp,Free X M' b)/\av (λd O=>ac (τ d O) gb) (ds.drop i) δ'=U o) ?_ ds.length ⟨0,O,M1,rfl,Nw _,Sx.refl,I1,t0,f1,e2⟩
 rintro n s2 ⟨i,F,M2,rfl,hi',R,I2,P,L,t⟩
 let W:∀a o,Rd Y M1 a o->s2.heap.get? a=U o:=λa o q=>I2.heap _ _ _ (KR.mp (R.f _ _ q))
 let E:=k.to (x1.sx.trans R)
 by_cases l:i<ds.length
 .rw[N5 l]at t
  simp![av]at t;show N4 NX (IS (T.item P W (d:=ds[i]) (by simp[l])) λr s3 hz=>?_)
  let(u,rfl,N):=hz;show N4 NX (IS N λ_ s4 hz=>?_)
  let(c4,t4,g4):=hz;let(M4,x4,I4,r4,H):=I2.got R.f g4 c4 L;let f4:∀b∈fp,Free X M4 b:=λb c=>by let(o,e):=T.ex P b c;show H b o (L b c) e
  cases q:ac (τ ds[i] F) gb with
  |none=>simp[q]at t
  |some o1=>
   simp![q]at t;let(δ5,q1,q2):=ag q;show N4 NX (hg I4.pin (r4.to o9) q1 λs5 I5=>?_)
   show N4 NX (c I5 q2 ?_)
   let fin:∀{j g z},Sx (pin X M4 s4.heap) g->Inv X g j z->∃w,Sx M2 w/\Inv X w j z/\tn (i+1) z.heap/\(∀b∈fp,Free X w b)/\Sub Y g Y w/\(∀a,g a=B->w a=B)/\∀a k o,k.own=V->g a=U (k,o)->w a=U (k,o):=λy Z7=>by
    let(K,h,N,C,A,S):=I4.unp Z7 y;show⟨_,x4.sx.trans h,K,T.keep t4 λb c o e=>(S b o (f4 b c) e).1,λb c=>by let(o,e):=T.ex t4 b c;show(S b o (f4 b c) e).2,N,C,A⟩
   let p:∀{j g z},Sx (pin X M4 s4.heap) g->Inv X g j z->av (λd O=>ac (τ d O) gb) (ds.drop (i+1)) j=U o->∃m,m<ds.length - i/\∃i δ' M',m=ds.length - i/\i<=ds.length/\Sx M1 M'/\Inv X M' δ' z/\tn i z.heap/\(∀b∈fp,Free X M' b)/\av (λd O=>ac (τ d O) gb) (ds.drop i) δ'=U o:=λy Z7 e=>by
    let(w,K,h,N,C,_):=fin y Z7;show⟨ds.length - (i+1),(),i+1,_,w,rfl,l,R.trans K,h,N,C,e⟩
   cases o1 with
   |next j=>show λz g y Z7=>p y Z7 t
   |cont j=>show λz g y Z7=>p y Z7 t
   |brk j=>ext t;show λz g y Z7=>by let(w,K,h,_):=fin y Z7;show E _ _ K h
   |ret d fr j=>ext t;show λv z g y Z7 r=>by let(w,K,h,N,C,A,S,h7):=fin y Z7;show E _ _ _ K h (r.unp A S h7)
 .obtain rfl:i=ds.length:=()
  rw[R7]at t;ext t;show N4 NX (IS (T.done P W) λr s3 hz=>?_)
  let(rfl,c3):=hz;show Qm (E _ _ Sx.refl (I2.ch c3 L))
def vn {vs:Array Ml}(ho:s.heap.get? it=U o) (hc:o.cls=.type n) (hd:o.data=.fields vs) (hn:["enumerate","zip","dict_itemiterator","dict_reverseitemiterator","odict_iterator","itertools.zip_longest","itertools.pairwise"].contains n=Y) (hQ:Q q_ s):wpAny (model P w) A (letOwnedTupleGo tg (.ref it) u) Q E s:=by
 cases tg<;>first
  |show Mf hQ
  |(cases u<;>first
    |show Mf hQ
    |(show or (Rm ho ?_)
      rw[hc,hd];change wpAny _ A (if(["enumerate","zip","dict_itemiterator","dict_reverseitemiterator","odict_iterator","itertools.zip_longest","itertools.pairwise"].contains n&&vs[0]?==U (rawInt _))=V then _ else _) Q E s
      rw[o_ (by intro h;rw[hn,Bool.false_and]at h;ext h)]
      show Mf hQ))
def iG (h:Nv it s.heap k):Ch [it] s {s with heap:=k,toks:=t}:=⟨⟨rfl,rfl⟩,λb o j e=>(h.2 b λz=>j (by simp[z])).trans e⟩
def gR (h:PH it s.heap k):Ch [it] s {s with heap:=k}:=⟨⟨rfl,rfl⟩,λb o j e=>h b o (λz=>j (by simp[z])) e⟩
def po (h:∀a o,Rd m M a o->s.heap.get? a=U o) (q:Rd m M c o) (t:LstO o vs):s.heap.IsList c vs.toArray:=by let(_,n,rfl):=t;show⟨_,h _ _ q,rfl,n,rfl⟩
def tT (h:∀a o,Rd m M a o->s.heap.get? a=U o) (q:Rd m M c o) (t:TupO o vs):s.heap.IsTuple c vs.toArray:=⟨_,h _ _ q,t.2⟩
def vT (hh:A.handled=B) (q:Rd m M c o) (t:LstO o vs) (rs:Rs m' M ds vs):Turn2 A tg m m' M ds [it] it (λi h=>h.IsListIter it c i) where
 ex:=λ⟨o,e,_⟩ b hb=>by
   obtain rfl:b=it:=by simpa using hb
   show⟨o,e⟩
 keep:=λst k=>st.at λo e=>k it (by simp) o e
 item:=λ{i s d} st h e=>by
  let(u,h1,h2):=rs.get e;show PS st (po h q t) (x:=u) (by simpa using h1) λh' st' sb=>?_
  let(o,e,c,d):=id st';show⟨u,rfl,vn (s:={s with heap:=h'}) e c d ∅ ⟨iG (t:=s.toks) sb,st',.inl h2⟩⟩
 done:=λst h=>PY hh st (po h q t) (by simp[rs.length]) λh' eb=>⟨rfl,gR eb⟩
 self:=λst h=>wpAny_pyIter_listiter st h
def uJ (hh:A.handled=B) (q:Rd m M c o) (t:TupO o vs) (rs:Rs m M ds vs):BV A tg m M ds [it] it (λi h=>h.IsTupleIter it c i) where
 ex:=λ⟨o,e,_⟩ b hb=>by
   obtain rfl:b=it:=by simpa using hb
   show⟨o,e⟩
 keep:=λst k=>st.at λo e=>k it (by simp) o e
 item:=λ{i s d} st h e=>by
  let(u,h1,h2):=rs.get e;show wpAny_pyNext_tuple_item st (tT h q t) (x:=u) (by simpa using h1) λh' st' sb=>?_
  let(o,e,c,d):=id st';show⟨u,rfl,vn (s:={s with heap:=h'}) e c d ∅ ⟨iG (t:=s.toks) sb,st',.inl h2⟩⟩
 done:=λst h=>wpAny_pyNext_tuple_end hh st (tT h q t) (by simp[rs.length]) λh' eb=>⟨rfl,gR eb⟩
 self:=λst h=>wpAny_pyIter_tupleiter st h
def xo (I:Inv X M O s):∀b∈[s.heap.objs.size],Free X M b:=λb k=>by rw[My.mp k];show I.fresh (Mj _)
def jg (h:aV x=U ds):x=U (.lst ds):=by unfold aV at h;split at h<;>simp_all
def qR (h:yR x=U ds):x=U (.tup ds):=by unfold yR at h;split at h<;>simp_all
variable{a b:Expr}
def D8 (h:DE X m a fa):DI X m tg a (λO=>aV (fa O)):=⟨h.pl,λI e k=>h.ev I (jg e) λv u M1 g j r=>by
 let(c,o,vs,rfl,q,t,rs):=r;show Pr (t.is j.heap q) (k _ _ _ _ _ g (j.push (t:=u.toks)) (vT I.ok.room.hd q t rs) ⟨_,Mm _ rfl,rfl,rfl⟩ (xo j))⟩
def FL (h:DE X m a fa):DI X m tg a (λO=>yR (fa O)):=⟨h.pl,λI e k=>h.ev I (qR e) λv u M1 g j r=>by
 let(c,o,vs,rfl,q,t,rs):=r;show wpAny_pyIter_tuple (t.is j.heap q) (k _ _ _ _ _ g (j.push (t:=u.toks)) (uJ I.ok.room.hd q t rs) ⟨_,Mm _ rfl,rfl,rfl⟩ (xo j))⟩
def zI {lo:Int}(h:(jH lo n)[i]?=U d):i<n/\d=.int (lo+i):=by
 unfold jH at h
 by_cases hi:i<n
 .rw[MO,List.getElem?_range hi]at h;ext h;show⟨hi,rfl⟩
 .rw[ON (by simpa using RJ.mp hi)]at h;ext h
def u6 (hh:A.handled=B) (lo:Int) (n:Nat):BV A tg m M (jH lo n) [it] it (λi h=>IsRangeIter h it (lo+(i:Nat)*1) ((n:Int) - (i:Nat)) 1) where
 ex:=λst b hb=>by
   obtain rfl:b=it:=by simpa using hb
   show⟨_,st⟩
 keep:=λst k=>k it (by simp) _ st
 item:=λ{i s d} st h e=>by
  let(hi,rfl):=zI e;let W:=Walks.range (prog:=P) (w:=w) hh it lo 1 n;show W.item i s _ _ hi st λv h' tk hv st' kk=>?_
  let(t,rfl):=hv;show⟨_,rfl,vn (s:={s with heap:=h',toks:=tk}) (n:="range_iterator") st' rfl rfl ∅ ⟨⟨⟨rfl,rfl⟩,λb o hb e=>kk b o (by simpa using hb) e⟩,st',.inl ⟨t,by rw[Int.mul_one]⟩⟩⟩
 done:=λ{s} st h=>wpAny_pyNext_range_end hh st (by
   have:(jH lo n).length=n:=by simp[jH]
   rfl') λh' eb=>⟨rfl,gR eb⟩
 self:=λst h=>wpAny_pyIter_rangeiter st h
nonrec theorem CM (g:Bn X "range") (h:DE X m a fa):DI X mm tg (.Call (.Name "range" p) [a] [] pos) (λO=>rI (fa O)):=⟨rfl,λ{M O s ds Q} I e k=>by
 unfold rI at e;split at e<;>try cases e
 split at e<;>ext e
 rename_i j q u;let u:=of_decide_eq_true u;show cZ g boot_range h I q λv w M1 z y r=>?_
 let(t,rfl):=r;show call_range_1 (wpAny_pyIter_range (IsRange.new ..) (small_one ⟨⟩ ⟨⟩ u.1 u.2) ?_)
 show k _ _ _ _ _ z (y.push.push (t:=w.toks+2)) (u6 I.ok.room.hd 0 j.toNat) ?_ λb c=>?_
 .rw[show(0:Int)+((0:Nat):Int)*1=0 by simp,show((j.toNat:Nat):Int) - ((0:Nat):Int)=Builtin.Range.rangeSize 0 j 1 by rw[rangeSize_one];split<;>lia]
  show Mm _ rfl
 .rw[My.mp c];show y.fresh (by rw[NL];show OA _)⟩
end
end L2
namespace L2
open PySem PySem.Spec PyProof.Rows Md
mutual
noncomputable def lb (k:Nat):D->Bool
 |.tup ds=>KO k ds
 |.lst ds=>KO k ds
 |.dK _ ds=>KO k ds
 |.dD ks ds=>KO k ks&&KO k ds
 |.ob _ _ ds=>KO k ds
 |.loc _ j=>decide (j<k)
 |_=>V
noncomputable def KO (k:Nat):Z D->Bool
 |[]=>V
 |d::ds=>lb k d&&KO k ds
end
def lbE (k:Nat):G (D×Bool)->Bool|some x=>lb k x.1|none=>V
def JL (k:Nat):DEnv->DEnv->Bool
 |[],_=>V
 |x::J,y::τ=>(decide (x=y)||lbE k y)&&JL k J τ
 |_::_,[]=>Y
def pF (J:DEnv) (d:D) (fr:Bool) (τ:DEnv):D×Bool×DEnv:=if(lb J.length d&&JL J.length J τ)=V then(d,fr,τ.take J.length) else(d,fr,τ)
def eV (n:Nat) (J:DEnv) (x:G Out):G (D×Bool×DEnv):=match x with|some (.ret d fr O)=>U (pF J d fr (O.drop n))|some (.next O)=>U (pF J .non Y (O.drop n))|_=>B
def kB (n k:Nat) (g:DEnv->G Out) (ds:Z D) (J:DEnv):G (D×Bool×DEnv):=if ds.length=k then eV n J (g (bP n ds++J)) else B
variable[Md]
mutual
theorem R.lb:∀{d:D}{v},R m M d v->lb M.r.length d=V
 |.tup ds,v,r=>by let(a,o,vs,e,q,t,rs):=r;show rs.lb
 |.lst ds,v,r=>by let(a,o,vs,e,q,t,rs):=r;show rs.lb
 |.dK ks ds,v,r=>by let(a,o,us,vs,e,q,t,k,rs):=r;show rs.lb
 |.dD ks ds,v,r=>by let(a,o,us,vs,e,q,t,k,rs):=r;change(L2.KO _ ks&&L2.KO _ ds)=V;rw[k.lb,rs.lb];rfl
 |.ob c ks ds,v,r=>by let(x,ox,a,o,vs,e,q,i,p,t,rs):=r;show rs.lb
 |.loc c j,v,r=>by let(x,a,e,_):=r;show decide_eq_true (L9.mp e).1
 |.non,_,_=>rfl
 |.bl _,_,_=>rfl
 |.int _,_,_=>rfl
 |.str _,_,_=>rfl
 |.ptr _,_,_=>rfl
theorem Rs.lb:∀{ds:Z D}{vs},Rs m M ds vs->KO M.r.length ds=V
 |[],_,_=>rfl
 |d::ds,_,r=>by let(v,t,e,j,k):=r;change(L2.lb _ d&&L2.KO _ ds)=V;rw[j.lb,k.lb];rfl
end
mutual
theorem R.sht {M M':Mp}(h:∀a o,Rd m M a o->Rd m M' a o) (g:∀j x,j<k->M.r[j]?=U x->M'.r[j]?=U x):∀{d v},R m M d v->lb k d=V->R m M' d v
 |.tup ds,v,r,z=>by let(a,o,vs,e,q,t,rs):=r;show⟨a,o,vs,e,h _ _ q,t,rs.sht h g z⟩
 |.lst ds,v,r,z=>by let(a,o,vs,e,q,t,rs):=r;show⟨a,o,vs,e,h _ _ q,t,rs.sht h g z⟩
 |.dK ks ds,v,r,z=>by let(a,o,us,vs,e,q,t,u,rs):=r;show⟨a,o,us,vs,e,h _ _ q,t,u,rs.sht h g z⟩
 |.dD ks ds,v,r,z=>by let(a,o,us,vs,e,q,t,u,rs):=r;let z:=Mo _ _ |>.mp z;show⟨a,o,us,vs,e,h _ _ q,t,u.sht h g z.1,rs.sht h g z.2⟩
 |.ob c ks ds,v,r,z=>by let(x,ox,a,o,vs,e,q,i,p,t,rs):=r;show⟨x,ox,a,o,vs,e,h _ _ q,i,h _ _ p,t,rs.sht h g z⟩
 |.loc c j,v,r,z=>by
  let(x,a,e,q,l):=r;show⟨x,a,g _ _ (of_decide_eq_true z) e,q,?_⟩
  cases c with
  |none=>show l
  |some c=>let(ox,q,i):=l;show⟨ox,h _ _ q,i⟩
 |.non,_,r,_=>r
 |.bl _,_,r,_=>r
 |.int _,_,r,_=>r
 |.str _,_,r,_=>r
 |.ptr _,_,r,_=>r
theorem Rs.sht {M M':Mp}(h:∀a o,Rd m M a o->Rd m M' a o) (g:∀j x,j<k->M.r[j]?=U x->M'.r[j]?=U x):∀{ds vs},Rs m M ds vs->KO k ds=V->Rs m M' ds vs
 |[],_,r,_=>r
 |d::ds,_,r,z=>by let(v,t,e,y,u):=r;let z:=Mo _ _ |>.mp z;show⟨v,t,e,y.sht h g z.1,u.sht h g z.2⟩
end
def Ca.sht {M M':Mp}(h:∀a o,Rd Y M a o->Rd Y M' a o) (v:∀j x,j<k->M.r[j]?=U x->M'.r[j]?=U x) (c:Ca M d o) (z:lb k d=V):Ca M' d o:=by
 rcases c with c|⟨c,ks,ds,vs,rfl,u,g⟩
 .left
  cases d with
  |lst ds=>let(vs,u,g):=c;show⟨vs,u,g.sht h v z⟩
  |dK ks ds=>let(us,vs,u,g,y):=c;show⟨us,vs,u,g,y.sht h v z⟩
  |dD ks ds=>let(us,vs,u,g,y):=c;let z:=Mo _ _ |>.mp z;show⟨us,vs,u,g.sht h v z.1,y.sht h v z.2⟩
  |_=>show c.elim
 .show .inr ⟨c,ks,ds,vs,rfl,u,g.sht h v z⟩
def C.sht {M M':Mp}(h:∀a o,Rd Y M a o->Rd Y M' a o) (g:∀j x,j<k->M.r[j]?=U x->M'.r[j]?=U x) (c:C M d o) (z:lb k d=V):C M' d o:=by
 rcases Ca.sht h g (.inl c) z with u|⟨_,_,_,_,rfl,_⟩
 .show u
 .show c.elim
def Ca.lb (c:Ca M d o):lb M.r.length d=V:=by
 rcases c with c|⟨c,ks,ds,vs,rfl,g,k⟩
 .cases d with
  |lst ds=>let(vs,g,k):=c;show k.lb
  |dK ks ds=>let(us,vs,g,k,j):=c;show j.lb
  |dD ks ds=>let(us,vs,g,k,j):=c;change(L2.KO _ ks&&L2.KO _ ds)=V;rw[k.lb,j.lb];rfl
  |_=>show c.elim
 .show k.lb
theorem yC:∀{J τ:DEnv}{j:Nat}{x},JL k J τ=V->J[j]?=U x->∃y,τ[j]?=U y/\(x=y\/lbE k y=V)
 |[],_,_,_,_,h=>by simp at h
 |x::J,[],_,_,h,_=>by ext h
 |x::J,y::τ,0,z,h,e=>by
  simp![JL,Mo,P5,decide_eq_true_eq]at h;ext e;show⟨y,rfl,h.1⟩
 |x::J,y::τ,j+1,z,h,e=>by
  simp![JL,Mo]at h;show yC (J:=J) (τ:=τ) (j:=j) h.2 (by simpa using e)
def mh (k:Nat) (M:Mp):Mp:=⟨λa=>match M a with|some (.s j,o)=>if j<k then U (.s j,o) else B|x=>x,M.r.take k⟩
def b8 (h:M a=U (κ,o)) (g:∀j,κ=.s j->j<k):mh k M a=U (κ,o):=by
 ext mh;left;rw[h];cases κ with
 |s j=>show n_ (g j rfl)
 |_=>rfl
nonrec theorem bL (h:mh k M a=U (κ,o)):M a=U (κ,o)/\∀j,κ=.s j->j<k:=by
 unfold mh at h;dsimp only at h;split at h
 .split at h
  .rename_i e u;ext h;show⟨e,λj z=>by ext z;show u⟩
  .ext h
 .rename_i g
  show⟨h,λj z=>?_⟩
  subst z;show absurd h (g _ _)
def cw (h:M a=B):mh k M a=B:=by ext mh;left;rw[h]
def sA:∀a o,Rd Y M a o->Rd Y (mh k M) a o:=λa o q=>KR.mpr (b8 (KR.mp q) λj z=>nomatch z)
def qE:∀(j:Nat) x,j<k->M.r[j]?=U x->(mh k M).r[j]?=U x:=λj x h e=>by change(M.r.take k)[j]?=_;rw[MP h];show e
section
variable{X:Cx}{M:Mp}{O:DEnv}{s:Mn}
nonrec theorem Inv.cut (I:Inv X M O s) (hst:X.st=V) (C:X.S=B) (E:k<=M.r.length) (h:∀(j:Nat) d b,j<k->O[X.N.length+j]?=U (U (d,b))->lb k d=V):Inv X (mh k M) (Rg X.N.length B++(O.drop X.N.length).take k) s:=by
 let(m,R,Q):=I.loc;let hd:=I.stl hst;let lt:∀{a j o},M a=U (.s j,o)->j<M.r.length:=λz=>I.slo _ _ _ z
 show⟨I.ok,I.og,λa κ o z=>I.heap _ _ _ (bL z).1,λa o z=>b8 (I.base a o z) (λ_ z=>nomatch z),⟨m,R,λi x d b l g K=>?_⟩,cw I.free,λx c z=>⟨(I.cell x c z).1,(I.cell x c z).2.imp cw λ⟨f,o,q⟩=>⟨f,o,b8 q λ_ z=>nomatch z⟩⟩,λq T=>?_,λa κ o z w=>I.own _ _ _ (bL z).1 w,λa b κ o P w z W=>I.uni _ _ _ _ _ w (bL z).1 (bL W).1,by simp,λκ o z=>I.sys _ _ (bL z).1,λ_=>?_,λj d b z=>?_,λM0 z=>(by rw[C]at z;ext z),λa j o z=>?_⟩
 .rw[Me (by simpa using(L9.mp l).1),QP]at g
  split at g<;>ext g
 .let(n,ps,p,y,v):=I.tabs q T
  show⟨cw n,ps,p,y,λpos F z=>?_⟩
  let(c,oc,vs,t,l,g,K):=v pos F z;show⟨c,oc,vs,t,l,b8 g (λ_ z=>nomatch z),K⟩
 .change _=_+(M.r.take k).length
  simp![MF,Tj,Nu,R5];rfl'
 .rw[MK (by simp),Tj,NZ,List.getElem?_take]at z
  split at z<;>try cases z
  rename_i u;rw[Ox]at z
  let(n,e,o,p,y,v):=I.sto j d b z;show⟨n,e,o,qE j e u p,b8 y (λi w=>by ext w;show u),v.sht sA qE (h j d b u z)⟩
 .have:=(bL z).2 j rfl
  change j<(M.r.take k).length;simp;rfl'
end
structure Bas (M:Mp) (s:Mn):Prop where
 og:s.os=Md.os/\s.gens=gens
 heap:Hm M s.heap
 base:∀a o,base.get? a=U o->M a=U (.p,o)
 tabs:TabOk M s.heap
 own:∀a k o,M a=U (k,o)->k.own=V->Ow o/\∃j,k=.s j
 uni:∀a b j o o',M a=U (.s j,o)->M b=U (.s j,o')->a=b
 slo:∀a j o,M a=U (.s j,o)->j<M.r.length
 full:∀a o,s.heap.get? a=U o->M a≠B\/∃q∈tb,a=q.1
 sys:∀k o,M sysModules=U (k,o)->k=.p
def wt (k:Tn) (ps:Z MJ):Prop:=∀(s:Mn) (us:Z Ml),us.length=ps.length->BindsTo s k ⟨us,[]⟩ (ps.zip us)
structure Sto (st:Bool) (M:Mp) (J:DEnv):Prop where
 l:st=V->J.length=M.r.length
 n:st=Y->J=[]/\∀a j o,M a≠U (.s j,o)
 s:∀(j:Nat) d b,J[j]?=U (U (d,b))->b=V/\Sl M j d
def LA (p:MM) (k:Nat) (st ro:Bool) (f:Z D->DEnv->G (D×Bool×DEnv)):Prop:=∀{A s M us ds J r fr J'},Room k A->Mod->Bas M s->Rs Y M ds us->Sto st M J->f ds J=U (r,fr,J')->
  codeAny (model P w) A (.call (.ref p) ⟨us,[]⟩) (λres s'=>∃v g M1 j,res=.ok (.ret v)/\Sx M M1/\Inv g M1 j s'/\g.st=st/\g.S=(if ro=V then U M else B)/\(ro=Y->j.drop g.N.length=J')/\Ret g M1 s' r v fr) s
structure FnF (k:Nat) (x:MJ) (st ro:Bool) (f:Z D->DEnv->G (D×Bool×DEnv)):Prop where
 ex:∃p,mg x=U (.ref p)/\R9 K (.ref p)=V/\LA p k st ro f
def mn (f:Z D->G (D×Bool)) (ds:Z D) (_:DEnv):G (D×Bool×DEnv):=match f ds with|some x=>U (x.1,x.2,[])|none=>B
abbrev FnM (k:Nat) (x:MJ) (f:Z D->G (D×Bool)):Prop:=FnF k x Y V (mn f)
def Room.mono (r:Room k A) (h:j<=k):Room j A:=⟨r.hd,by have:=r.dp;lia,by have:=r.un;lia⟩
def Room.deeper (r:Room (k+1) A) (env:Env):Room k (A.deeper env):=
 ⟨r.hd,by have:=r.dp;change A.depth+1+3*k+5<_;lia,by have:=r.un;simp;lia⟩
section
variable{X:Cx}{M:Mp}{O:DEnv}{s:Mn}{vb ko ks:Bool}{a:Expr}{es:Z Expr}{fs:DEnv->G (Z D)}{m:Bool}{p pos:Q6}{f:Z D->DEnv->G (D×Bool×DEnv)}
def Av (h:M b=U (k',o')) (e:LC m ko ks M h' ex b=U (k,o)):o=o'/\(k.own=V->k=k'/\(ko=V\/(ks=V/\∃j,k=.s j))):=by
 unfold LC at e;dsimp only at e;rw[h]at e;cases k'<;>cases m<;>cases ko<;>cases ks<;>simp at e<;>let(rfl,rfl):=e<;>show⟨rfl,λz=>?_⟩<;>first|(cases z;done)|show⟨rfl,.inl rfl⟩|show⟨rfl,.inr ⟨rfl,_,rfl⟩⟩
def te (I:Inv X M O s) (e:LC m ko ks M s.heap ex b=U (k,o)):s.heap.get? b=U o/\(k.own=V->M b=U (k,o)/\(ko=V\/(ks=V/\∃j,k=.s j))):=by
 cases h:M b with
 |some x=>
  let(y,v):=x;let(rfl,z):=Av h e;show⟨I.heap _ _ _ h,λw=>by let(u,g):=z w;show⟨by rw[u],g⟩⟩
 |none=>
  unfold LC at e;dsimp only at e;rw[h]at e;dsimp only at e;split at e;ext e;cases q:s.heap.get? b with
  |none=>rw[q]at e;ext e
  |some v=>rw[q]at e;ext e;show⟨rfl,λz=>nomatch z⟩
def uh (h:M b=U (.s j,o)):LC m ko V M hp ex b=U (.s j,o):=by ext LC;left;rw[h];rfl
def Inv.calI (I:Inv X M O s) (i:∀b∈ex,Free X M b):Hm (LC m ko ks M s.heap ex) s.heap/\(∀b o,Md.base.get? b=U o->LC m ko ks M s.heap ex b=U (.p,o))/\TabOk (LC m ko ks M s.heap ex) s.heap/\∀b k o,k.own=V->LC m ko ks M s.heap ex b=U (k,o)->M b=U (k,o)/\(ko=V\/(ks=V/\∃j,k=.s j)):=by
 show⟨λb k o e=>(te I e).1,λb o e=>by ext LC;left;rw[I.base b o e],λq g=>?_,λb k o w e=>(te I e).2 w⟩
 let(r,ps,y,v,u):=I.tabs q g;show⟨by ext LC;left;rw[r];show n_ (.inr ⟨q,g,rfl⟩),ps,y,v,λpos l z=>?_⟩
 let(c,oc,vs,t,n,f,d):=u pos l z;show⟨c,oc,vs,t,n,Ao f,d⟩
def Inv.calS (I:Inv X M O s) (e:LC m ko ks M s.heap ex sysModules=U (k,o)):k=.p:=by
 cases q:M sysModules with
 |some x=>
  let(g,j):=x;obtain rfl:=I.sys _ _ q;unfold LC at e;dsimp only at e;rw[q]at e;ext e;rfl
 |none=>
  unfold LC at e;dsimp only at e;rw[q]at e;dsimp only at e;split at e;ext e;cases w:s.heap.get? sysModules with
  |none=>rw[w]at e;ext e
  |some j=>rw[w]at e;ext e;rfl
nonrec theorem Inv.bas (I:Inv X M O s):Bas (LC m Y ks M s.heap []) s:=by
 let(c,t,r,g):=I.calI (m:=m) (ko:=Y) (ks:=ks) (ex:=[]) λ_ z=>nomatch z
 show⟨I.og,c,t,r,λb k o e w=>?_,λa b j o q z y=>I.uni _ _ _ _ _ rfl (g _ _ _ rfl z).1 (g _ _ _ rfl y).1,λa j o z=>I.slo _ _ _ (g _ _ _ rfl z).1,λb o e=>?_,λ_ _ e=>I.calS e⟩
 .let(v,u):=g b k o w e
  show⟨I.own _ _ _ v w,u.elim (λz=>nomatch z) λz=>z.2⟩
 .ext LC;left
  cases h:M b with
  |some x=>let(p,q):=x;ext p<;>show .inl (by simp)
  |none=>
   left;split
   .rename_i z;rcases z with z|z;ext z;show .inr z
   .rw[e];show .inl (by simp)
def Inv.sto' (I:Inv X M O s) (h:vb=V->X.st=V/\J=O.drop X.N.length) (h':vb=Y->J=[]):Sto vb (LC m Y vb M s.heap ex) J:=by
 show⟨λz=>?_,λz=>⟨h' z,λa j o w=>?_⟩,λj d b e=>?_⟩
 .let(h1,rfl):=h z
  rw[R5,I.stl h1];show NZ ..
 .subst z
  have:=(te I w).2 rfl
  rcases this.2 with z|⟨z,_⟩<;>ext z
 .cases vb with
  |false=>rw[h' rfl]at e;simp at e
  |true=>
   let(h1,rfl):=h rfl;rw[Ox]at e
   let(e1,xa,o,e2,e3,e4):=I.sto j d b e;show⟨e1,xa,o,e2,uh e3,e4.to ky⟩
def Inv.newIn (I:Inv X M O s) (Z7:Inv X' M2 δ2 s2) (Tx:Bas Mc s) (x:Sx Mc M2) (hs:∀j o,Mc c=U (.s j,o)->∃κ u,M2 c=U (κ,u)/\∀i,κ≠.o i) (z:Free X' M2 c\/∃i,M2 c=U (.o i,o)):s.heap.get? c=B/\M c=B/\c≠X.env.locals/\(∀y,X.env.cells.lookup y≠U c)/\(∀q∈tb,c≠q.1)/\c≠sysModules:=by
 let new:s.heap.get? c=B:=by
  cases w:s.heap.get? c with
  |none=>rfl
  |some u=>
   exfalso
   rcases Tx.full c u w with k|⟨t,k,g⟩
   .cases q:Mc c with
    |none=>show k q
    |some y=>
     let(r,o2):=y;cases r with
     |f=>have:=KR.mp (x.f _ _ (KR.mpr q));rcases z with z|⟨i,z⟩;(rw[z.m]at this;ext this);(rw[z]at this;ext this)
     |p=>have:=x.p _ _ q;rcases z with z|⟨i,z⟩;(rw[z.m]at this;ext this);(rw[z]at this;ext this)
     |o i=>let(_,j,w):=Tx.own _ _ _ q rfl;ext w
     |s j=>let(κ,u,this,w):=hs j o2 q;rcases z with z|⟨i,z⟩;(rw[z.m]at this;ext this);(rw[z]at this;ext this;show w i rfl)
   .rcases z with z|⟨i,z⟩
    .show z.t t k g
    .have:=(Z7.tabs t k).1;rw[<-g,z]at this;ext this
 show⟨new,?_,?_,λy k=>?_,λt k g=>?_,λk=>z.elim (λf=>f.s k) λ⟨i,w⟩=>by rw[k]at w;show nomatch Z7.sys _ _ w⟩
 .cases w:M c with
  |none=>rfl
  |some y=>have:=I.heap _ _ _ w;rw[new]at this;ext this
 .rintro rfl;let(_,(o,_,_,k,_),_):=I.loc;rw[new]at k;ext k
 .let((_,o,g,_),_):=I.cell y c k;rw[new]at g;ext g
 .let(_,ps,v,_):=I.tabs t k;rw[<-g,new]at v;ext v
def Jj (X:Cx) (M:Mp) (s:Mn) (m:Bool) (d:D) (v:Ml):Prop:=∃c o,v=.ref c/\Free X M c/\s.heap.get? c=U o/\Cm m M d o
def sW {us:Z Ml}{RR:R8->Mn->Prop}(F:LA q k vb V f) (x:Room k A) (I:Inv X M O s) (rs:Rs m M ds us) (K:m=V->vb=Y) (h:vb=V->X.st=V/\J=O.drop X.N.length) (S:vb=Y->J=[]) (e:f ds J=U (r,fr,J')) (kk:∀v s' M',Ext M M'->Inv X M' O s'->(fr=Y->R m M' r v)->(fr=V->Jj X M' s' m r v)->RR (.ok (.ret v)) s'):codeAny (model P w) A (.call (.ref q) ⟨us,[]⟩) RR s:=by
 let Tx:=I.bas (m:=m) (ks:=vb);show Rq (F x I.ok.mod Tx (rs.to (sG K)) (I.sto' h S) e) λres s' hz=>?_
 let(v,E,H,p,rfl,g,Z7,hst,T,_,u):=hz;let(C,y):=Z7.cap _ T;let(Q,sb):=I.ret (ex:=[]) Z7.lft (λ_ z=>nomatch z) (λ_ z=>nomatch z) g (λa k o w z=>by let(_,j,rfl):=Tx.own a k o z w;show(y a j o).mpr z) C
 show kk v s' _ oC Q (λz=>?_) λz=>?_
 .subst z;show R.to sb u
 .subst z
  let(c,o,rfl,W,cc,z):=u;let(n1,l,n,b,d,t):=I.newIn Z7 Tx g (λj o w=>⟨_,_,(y c j o).mpr w,λi z=>nomatch z⟩) z
  show⟨c,o,rfl,⟨?_,n,b,d,t⟩,W,cc.to sb⟩
  ext JQ;left;rw[l];left;rw[o_ (by simp[n1])]
  rcases z with z|⟨i,z⟩
  .rw[z.m]
  .rw[z]
end
end L2
namespace L2
open PySem PySem.Spec PyProof.Rows Md
variable[Md]
noncomputable def vN (M:Mp) (h:OF) (M1:Mp):Mp:=⟨λa=>match M a with
 |some (.s _,_)=>(match M1 a with|some (.s j,o)=>U (.s j,o)|some (.f,o)=>U (.f,o)|_=>B)
 |some x=>U x
 |none=>if h.get? a≠B then B else(match M1 a with|some (.s j,o)=>U (.s j,o)|some (.f,o)=>U (.f,o)|_=>B),M1.r⟩
section
variable{X:Cx}{M M1:Mp}{O:DEnv}{s s1:Mn}{vb ko ks ro:Bool}{a:Expr}{es:Z Expr}{fs:DEnv->G (Z D)}{m:Bool}{p pos:Q6}{f:Z D->DEnv->G (D×Bool×DEnv)}
nonrec theorem xh {us:Z Ml}{RR:R8->Mn->Prop}(F:LA q k V Y f) (hr:Room k A) (I:Inv X M O s) (hst:X.st=V) (hS:X.S=B) (rs:Rs Y M ds us) (e:f ds (O.drop X.N.length)=U (r,Y,J')) (kk:∀v s' M',Sx M M'->(∀a i o,M a=U (.o i,o)->M' a=U (.o i,o))->(∀a o,Free X M a->s.heap.get? a=U o->s'.heap.get? a=U o/\Free X M' a)->Inv X M' (O.take X.N.length++J') s'->R Y M' r v->RR (.ok (.ret v)) s'):codeAny (model P w) A (.call (.ref q) ⟨us,[]⟩) RR s:=by
 let Tx:=I.bas (m:=Y) (ks:=V);show Rq (F hr I.ok.mod Tx (rs.to ky) (I.sto' (vb:=V) (λ_=>⟨hst,rfl⟩) λz=>nomatch z) e) λres s' hz=>?_
 let(v,X',W,δ2,rfl,H,Z7,D,hS',C,rt):=hz;let C:=C rfl;let cp:∀{a o},M a=U (.p,o)->W a=U (.p,o):=λh=>H.p _ _ (by ext LC;left;rw[h])
 let cf:∀{a o},M a=U (.f,o)->W a=U (.f,o):=λh=>KR.mp (H.f _ _ (KR.mpr (Ao h)))
 let co:∀{a i o},M a=U (.o i,o)->W a=U (.p,o):=λh=>H.p _ _ (by ext LC;left;rw[h];rfl)
 let cn:∀{a o},M a=B->s.heap.get? a=U o->(∀q∈tb,a≠q.1)->W a=U (.p,o):=λh q z=>H.p _ _ (by ext LC;left;rw[h];left;rw[o_ (by rintro(w|⟨t,w1,w2⟩);ext w;show z t w1 w2),q];rfl)
 let of:∀{a k o},M a=U (k,o)->(∀j,k≠.s j)->vN M s.heap W a=U (k,o):=λ{a k o} h z=>by
  unfold vN;left;rw[h];cases k<;>first|rfl|show absurd rfl (z _)
 let no:∀{a o},M a=B->s.heap.get? a=U o->vN M s.heap W a=B:=λh q=>by ext vN;left;rw[h];left;rw[n_ (by simp[q])]
 let kn:∀{a k o},vN M s.heap W a=U (k,o)->(M a=U (k,o)/\∀j,k≠.s j)\/(W a=U (k,o)/\(k=.f\/∃j,k=.s j)/\((∃j Q,M a=U (.s j,Q))\/(M a=B/\s.heap.get? a=B))):=λ{a k o} h=>by
  unfold vN at h;dsimp only at h;split at h
  .rename_i q
   split at h<;>ext h
   .rename_i w;show .inr ⟨w,.inr ⟨_,rfl⟩,.inl ⟨_,_,q⟩⟩
   .rename_i w;show .inr ⟨w,.inl rfl,.inl ⟨_,_,q⟩⟩
  .rename_i n q;ext h;show .inl ⟨q,λj z=>by subst z;show n _ _ rfl⟩
  .rename_i q
   split at h<;>try cases h
   rename_i hh;split at h<;>ext h
   .rename_i w;show .inr ⟨w,.inr ⟨_,rfl⟩,.inr ⟨q,Tg.mp hh⟩⟩
   .rename_i w;show .inr ⟨w,.inl rfl,.inr ⟨q,Tg.mp hh⟩⟩
 let up:∀{a k o},W a=U (k,o)->(k=.f\/∃j,k=.s j)->vN M s.heap W a=U (k,o):=λ{a k o} h z=>by
  let np:∀{Q},W a≠U (.p,Q):=λw=>by rw[h]at w;rcases z with rfl|⟨_,rfl⟩<;>ext w
  cases q:M a with
  |some x=>
   let(k',Q):=x;cases k' with
   |f=>have:=cf q;rw[h]at this;ext this;show of q λ_ z=>nomatch z
   |p=>show absurd (cp q) np
   |o i=>show absurd (co q) np
   |s j=>ext vN;left;rw[q];left;rw[h];rcases z with rfl|⟨_,rfl⟩<;>rfl
  |none=>
   ext vN;left;rw[q];left;rw[o_,h]
   .rcases z with rfl|⟨_,rfl⟩<;>rfl
   .intro w
    cases y:s.heap.get? a with
    |none=>show w y
    |some Q=>show np (cn q y λt ht e=>by have:=(Z7.tabs t ht).1;rw[<-e,h]at this;ext this)
 let sb:Sub Y W Y (vN M s.heap W):=.of λa o h=>up h (.inl rfl)
 let sf:Sub Y M Y (vN M s.heap W):=.of (λa o h=>of h λ_ z=>nomatch z) λj x z=>H.f.r j x z
 let k3:∀{a k o},M a=U (k,o)->(∀j,k≠.s j)->s'.heap.get? a=U o:=λ{a k o} h z=>by
  cases k with
  |f=>show Z7.heap _ _ _ (cf h)
  |p=>show Z7.heap _ _ _ (cp h)
  |o i=>show Z7.heap _ _ _ (co h)
  |s j=>show absurd rfl (z j)
 let ntL:∀{m},s.heap.Ns X.env.locals m->∀q∈tb,X.env.locals≠q.1:=λhn q L z=>by
  let(_,ps,h,_):=I.tabs q L;let(o,es,ep,T,E,_):=hn;rw[z,h]at T;ext T;ext E
 let ntC:∀x c,X.env.cells.lookup x=U c->∀q∈tb,c≠q.1:=λx c z q L w=>by
  let(_,ps,h,_):=I.tabs q L;let((v,o,T,E),_):=I.cell x c z;rw[w,h]at T;ext T;ext E
 let kc:∀x c o,X.env.cells.lookup x=U c->s.heap.get? c=U o->s'.heap.get? c=U o:=λx c o z q=>by
  rcases(I.cell x c z).2 with h|⟨_,Q,h⟩
  .show Z7.heap _ _ _ (cn h q (ntC x c z))
  .have:=I.heap _ _ _ h;rw[q]at this;ext this;show k3 h λ_ z=>nomatch z
 let(m0,hns,hl):=id I.loc;let(oL,es,ep,hL,hL2):=id hns;let g:(O.take X.N.length).length=X.N.length:=by rw[Nu];show Pf I.len
 let K:Inv X (vN M s.heap W) (O.take X.N.length++J') s':=by
  show⟨I.ok,Z7.og,λa k o h=>(kn h).elim (λz=>k3 z.1 z.2) λz=>Z7.heap _ _ _ z.1,λa o h=>of (I.base a o h) λ_ z=>(nomatch z),⟨m0,⟨oL,es,ep,Z7.heap _ _ _ (cn I.free hL (ntL hns)),hL2⟩,λi x d b e1 e2 e3=>?_⟩,no I.free hL,λx c z=>?_,Z7.tabs.to sb (λq L=>?_) (λ_ _ _ h=>h),λa k o h w=>(kn h).elim (λz=>I.own _ _ _ z.1 w) λz=>Z7.own _ _ _ z.1 w,λa b k o Q w h h'=>?_,by rw[MF,g];show PU _ _,λk o h=>(kn h).elim (λz=>I.sys k o z.1) λz=>Z7.sys k o z.1,λ_=>?_,λj d b h=>?_,λM0 z=>(by rw[hS]at z;ext z),λa j o h=>(kn h).elim (λz=>absurd rfl (z.2 j)) λz=>Z7.slo _ _ _ z.1⟩
  .let hi:=(L9.mp e1).1
   rw[Me (by rw[g];show hi),MP hi]at e2
   let(u,l,va):=hl i x d b e1 e2 e3;show⟨u,pi l λc o=>kc x c o,va.to sf λa o h=>of h λ_ z=>nomatch z⟩
  .let((v,o,T,E),h3):=I.cell x c z
   show⟨⟨v,o,kc x c o z T,E⟩,h3.imp (λq=>no q T) λ⟨f,o,q⟩=>⟨f,o,of q λ_ z=>nomatch z⟩⟩
  .let(hn0,ps0,h0,_):=I.tabs q L
   show no hn0 h0
  .rcases kn h with⟨z1,z2⟩|⟨z1,z2,_⟩<;>rcases kn h' with⟨y1,y2⟩|⟨y1,y2,_⟩
   .show I.uni _ _ _ _ _ w z1 y1
   .rcases y2 with rfl|⟨_,rfl⟩
    .ext w
    .show absurd rfl (z2 _)
   .rcases z2 with rfl|⟨_,rfl⟩
    .ext w
    .show absurd rfl (y2 _)
   .show Z7.uni _ _ _ _ _ w z1 y1
  .have:=Z7.stl D
   rw[MF,g,<-C,R5,this,NZ];rfl
  .rw[MK (by rw[g];show PU _ _),g,NZ,<-C,Ox]at h
   let(T,xa,o,E,h3,h4):=Z7.sto j d b h;show⟨T,xa,o,E,up h3 (.inr ⟨_,rfl⟩),h4.to sb⟩
 show kk v s' _ ⟨sf,λa o h=>of h λ_ z=>(nomatch z),λa o h=>(kn h).elim (λz=>z.1) λz=>by rcases z.2.1 with w|⟨_,w⟩<;>cases w⟩ (λa i o h=>of h λ_ z=>nomatch z) (λa o f h=>⟨Z7.heap _ _ _ (cn f.m h f.t),no f.m h,f.l,f.c,f.t,f.s⟩) K (R.to sb rt)
def xI (j:mg x=U (.ref q)) (u:R9 K (.ref q)=V) (g:Gb X x) (I:Inv X M O s) (k:(a::es).all Jw=V) (h:WP X (spliced (backTo pos (starEach (a::es) X.env))) (λvs s'=>K.In s'.heap/\wpAny (model P w) X.A (call (.ref q) vs) Q (λ_ _=>False) s') s):WP X (eval (.Call (.Name x p) (a::es) [] pos) X.env) Q s:=by
 rw[Ni,Mo]at k;show NI (Pp I.ok.kind g.g (QL (by rw[I.ok.glob];show I.ok.mod.glob.keeps I.bk) j ?_) g.d)
 show Rt (h₀:=base) I.ok.mod.kin u h (aK k.1) (gn k.2)
def vS {f:Z D->G (D×Bool)}(F:FnM k x f) (w:Room k X.A) (g:Gb X x) (j:DA X m (a::es) fs) (I:Inv X M O s) (l:fs O=U ds) (n:f ds=U (r,fr)) (kk:∀v s' M',Ext M M'->Inv X M' O s'->(fr=Y->R m M' r v)->(fr=V->Jj X M' s' m r v)->Q v s'):WP X (eval (.Call (.Name x p) (a::es) [] pos) X.env) Q s:=by
 let(q,b,d,c):=F.ex;show xI b d g I j.pl (j.ev I l (λvs s1 M1 t u rs=>⟨u.kIn,P8 (sW c w u rs (λ_=>rfl) (λz=>nomatch z) (λ_=>rfl) (show mn f ds []=U (r,fr,[]) by ext mn;rw[n]) λv s' M' y=>kk v s' M' (t.trans y))⟩) pos)
theorem zY {f:Z D->G (D×Bool)}(F:FnM k x f) (hr:Room k X.A) (g:Gb X x) (ha:DA X m (a::es) fs):DE X m (.Call (.Name x p) (a::es) [] pos) (λO=>JT (ac (fs O) f)):=⟨rfl,λ{M O s d Q} I e k=>by
 cases q:ac (fs O) f with
 |none=>simp[JT,q]at e
 |some y=>
  let(d',fr):=y;simp![JT,q]at e;ext e;let(ds,e1,e2):=ag q;show vS F hr g ha I e1 e2 λv s1 M1 x1 I1 h1 h2=>?_
  cases fr with
  |false=>show k _ _ _ x1 I1 (h1 rfl)
  |true=>
   let(c,o,rfl,f,z,cc):=h2 rfl;show k _ _ _ (x1.trans (dg f.m)) (I1.put f z) (cc.rep (dY f.m) ⟨.f,ak,rfl⟩)⟩
theorem zW {f:Z D->G (D×Bool)}(F:FnM k x f) (u:Room k X.A) (g:Gb X x) (r:DA X Y (a::es) fs):DF X (.Call (.Name x p) (a::es) [] pos) (λO=>Km (ac (fs O) f)):=⟨rfl,λ{M O s d Q} I e k=>by
 cases q:ac (fs O) f with
 |none=>simp[Km,q]at e
 |some y=>
  let(d',fr):=y;let(ds,b,w):=ag q;obtain⟨rfl,rfl⟩:fr=V/\d'=d:=by ext d'<;>ext fr<;>simp_all [Km]
  show vS F u g r I b w λv s1 M1 j m n t=>?_
  let(c,o,rfl,f,z,cc):=t rfl;show k _ _ _ _ j m f z cc⟩
end
structure FnScope (N P:Z MJ) (sc:O1):Prop where
 kind:sc.kind=.function
 co:sc.isCoroutine=Y
 gen:sc.isGenerator=Y
 nd:N.Nodup
 pre:N.take P.length=P
 par:∀x∈P,sc.names.lookup x=U .local\/sc.names.lookup x=U .cell
 nofree:∀y∈sc.names,y.2≠.free
theorem pH {kindOf:MJ->G OQ}:∀{binds:Z (MJ×Ml)}{m:MJ->G Ml},(∀v,(x,v)∉binds)->bindL kindOf binds m x=m x
 |[],_,_=>rfl
 |(n,v)::r,m,h=>by
  unfold bindL;rw[pH λw k=>h w (MA _ k)]
  split
  .grind
  .rfl
theorem qJ {kindOf:MJ->G OQ}:∀{binds:Z (MJ×Ml)}{m:MJ->G Ml},(∀v,(x,v)∉binds)->bindC kindOf binds m x=m x
 |[],_,_=>rfl
 |(n,v)::r,m,h=>by
  unfold bindC;rw[qJ λw k=>h w (MA _ k)]
  split
  .rfl
  grind
theorem tJ {kindOf:MJ->G OQ}:∀{P:Z MJ}{vs:Z Ml}{i:Nat}{m:MJ->G Ml},P.Nodup->P[i]?=U x->vs[i]?=U v->(kindOf x=U .local->bindL kindOf (P.zip vs) m x=U v)/\(kindOf x≠U .local->bindC kindOf (P.zip vs) m x=U v)
 |[],_,_,_,_,h,_=>by simp at h
 |_::_,[],_,_,_,_,h=>by simp at h
 |p::P,w::vs,0,m,nd,g,j=>by
  simp at g j;subst g;subst j;let no:∀v,(p,v)∉P.zip vs:=λv y=>(N0.mp nd).1 (Sk y).1
  constructor<;>intro k
  .change bindL kindOf ((p,w)::P.zip vs) m p=_
   unfold bindL;rw[pH no,n_ k];simp
  .change bindC kindOf ((p,w)::P.zip vs) m p=_
   unfold bindC;rw[qJ no,o_ k];simp
 |p::P,w::vs,i+1,m,nd,g,j=>by
  let u:=λm=>tJ (i:=i) (m:=m) (kindOf:=kindOf) (N0.mp nd).2 (by simpa using g) (by simpa using j)
  show⟨λk=>(u _).1 k,λk=>(u _).2 k⟩
abbrev Lu (N:Z MJ) (qual:MJ) (scope:O1) (f:MM) (cd:Ml) (A:Nl) (L:MM) (vb:Bool) (S:G Mp):Cx:={A:=A.deeper (envOfC qual scope L f cd),N:=N,env:=envOfC qual scope L f cd,fn:=V,st:=vb,S:=S}
def vx {i:Nat}(h:(bP n ds)[i]?=U (U (d,b))):b=Y/\ds[i]?=U d:=by
 unfold bP at h
 by_cases hi:i<ds.length
 .rw[Me (by simpa using hi),MO]at h
  cases q:ds[i]?<;>simp_all
 .rw[MK (by simpa using hi),QP]at h
  split at h<;>ext h
def xm {N ps:Z MJ}{qual:MJ}{scope:O1}{f:MM}{cd:Ml}{A:Nl}{s s1:Mn}{us:Z Ml}{M:Mp}(S:FnScope N ps scope) (Q:Room 0 (A.deeper (envOfC qual scope s.heap.objs.size f cd))) (mo:Mod) (Tx:Bas M s) (T:Sto vb M J) (F:G Mp) (K:∀M0,F=U M0->M0=M) (hl:ds.length=ps.length) (r:Rs Y M ds us)
  (x:InCallC s s.heap.objs.size (bindL (envOfC qual scope s.heap.objs.size f cd).kindOf (ps.zip us) λ_=>B) (cellsFrom (s.heap.objs.size+1) scope.names []) (bindC (envOfC qual scope s.heap.objs.size f cd).kindOf (ps.zip us) λ_=>B) s1):
  Inv (Lu N qual scope f cd A s.heap.objs.size vb F) M (bP N.length ds++J) s1:=by
 let g:ds.length<=N.length->(bP N.length ds).length=N.length:=λh=>by ext bP;simp;rfl'
 let E:ps.length<=N.length:=by have:=p_ NS S.pre;rw[Nu]at this;lia
 let(p,tk,rfl,C):=x.done;let no:∀{c},s.heap.objs.size<=c->M c=B:=λ{c} h=>by
  cases q:M c with
  |none=>rfl
  |some y=>show absurd (MD (Tx.heap _ _ _ q)) (RJ.mpr h)
 let has:∀{n:Nat}{x:MJ},scope.names.lookup x=U .cell->∃c,(cellsFrom n scope.names []).lookup x=U c:=λ{n x} h=>Qv.mp (SO scope.names n [] (.inl h))
 show⟨⟨mo,S.kind,rfl,rfl,λy z c p t=>name_of_addr x.apart (NG p) (NG t),λy v=>?_,Q⟩,Tx.og,λb k o e=>C _ _ (Tx.heap _ _ _ e),Tx.base,⟨_,x.toInCall.ns,λi y d b p t h3=>?_⟩,no (Mj _),λy c h=>⟨⟨_,x.cell y c h⟩,.inl (no (OD (x.above y c (NG h))))⟩,Tx.tabs.to Sub.refl (λq h=>(Tx.tabs q h).1) λq _ o e=>C _ _ e,λb κ o e w=>(Tx.own _ _ _ e w).1,λb c κ o L w e D=>(by let(_,j,rfl):=Tx.own _ _ _ e w;show Tx.uni _ _ _ _ _ e D),by rw[MF,g ⟨⟩];show PU _ _,Tx.sys,λz=>by rw[MF,g ⟨⟩,T.l z],λj d b z=>T.s j d b (by rw[MK (by rw[g ⟨⟩];show PU _ _),g ⟨⟩]at z;rw[<-z];congr 1;show(NZ ..).symm),λM0 z=>(by obtain rfl:=K M0 z;show⟨rfl,λ_ _ _=>QD⟩),Tx.slo⟩
 .rcases v with v|v
  .show has v
  .show absurd rfl (S.nofree _ (NG v))
 .rw[Me (by rw[g ⟨⟩];show(L9.mp p).1)]at t
  let(rfl,hd):=vx t;let(u,P,I):=r.get hd;let hi:=(L9.mp hd).1
  let R:ps[i]?=U y:=by rw[<-S.pre,MP ⟨⟩];show p
  let a:ps.Nodup:=by rw[<-S.pre];show S.nd.sublist (List.take_sublist _ _)
  let(H,X):=tJ (kindOf:=(envOfC qual scope s.heap.objs.size f cd).kindOf) (m:=λ_=>B) a R P
  show⟨u,?_,I⟩
  rcases S.par y (Mr R)with k|k
  .show .inl ⟨k,H k⟩
  .let(c,e):=has (n:=s.heap.objs.size+1) k
   show .inr ⟨.inl k,c,e,?_⟩
   let q:=x.cell y c e;rw[X (by change scope.names.lookup y≠_;rw[k];simp)]at q
   show q
structure Fun (K:PySem.W.Frag) (x qual:MJ) (st:NN) (f:MM) (fd:Tn):Prop where
 ex:∃(oc:Ml) (od:G MM) (kV doc pm:Ml) (an:G MM) (cdv ct:Ml) (osl:Array (G Ml)),
  fd=PySem.W.fnOf x qual (lF st) (bc st) (ar st) .none kV doc pm an cdv ct/\K.lookup f=U ⟨oc,od,.func fd,osl⟩/\PySem.W.codeIn K cdv qual=V
 kp:R9 K (.ref f)=V
nonrec theorem wK {x qual:MJ}{st:NN}{N ps:Z MJ}{vb ro:Bool}(F:Fun K x qual st f fd) (S:FnScope N ps (ar st)) (hb:wt fd ps) (body:∀(A:Nl) (L:MM) (S0:G Mp),Room k (A.deeper (envOfC qual (ar st) L f fd.code))->(ro=Y->S0=B)->(ro=V->S0≠B)->Lh (Lu N qual (ar st) f fd.code A L vb S0) (bc st) g) (hv:ro=Y->vb=V) (hh:∀{ds J r fr J'},h ds J=U (r,fr,J')->ds.length=ps.length/\((∃O,g (bP N.length ds++J)=U (.ret r fr O)/\(ro=Y->(fr,J')=(pF J r fr (O.drop N.length)).2))\/(r=.non/\fr=Y/\∃O,g (bP N.length ds++J)=U (.next O)/\(ro=Y->(fr,J')=(pF J r fr (O.drop N.length)).2)))):LA f (k+1) vb ro h:=by
 intro A s M us ds J r fr J' hr mo Tx rs T e;let(oc,od,kV,doc,pm,an,cdv,ct,osl,rfl,lk,hcd):=F.ex;let(hl,hg):=hh e;let bk:∀b o,base.get? b=U o->s.heap.get? b=U o:=λb o e=>Tx.heap _ _ _ (Tx.base b o e)
 let KX:=mo.kin.keeps bk;let hkind:∀y∈ps.zip us,(ar st).names.lookup y.1=U .local\/((ar st).names.lookup y.1=U .cell/\((cellsFrom (s.heap.objs.size+1) (ar st).names []).lookup y.1).isSome=V):=λ⟨n,v⟩ hy=>by
  rcases S.par n (Sk hy).1 with q|q
  .show .inl q
  .show .inr ⟨q,SO _ _ _ (.inl q)⟩
 show codeAny_call_function (by have:=hr.dp;lia) (KX _ _ lk) rfl S.co S.gen rfl (PySem.W.codeRec_of KX hcd) (hb s us (by rw[<-rs.length,hl]) _ _ _ _ ?_)
 show wpAny_newFunctionEnv_cells S.kind hkind λenv he s1 x=>?_
 subst he;show⟨(mo.nolimit.keeps bk).keeps x.toInCall.keep,codeAny_func ?_⟩
 let I:=xm (N:=N) (cd:=cdv) (A:=A) S ((hr.deeper _).mono (Nw _)) mo Tx T (if ro=V then U M else B) (λM0 z=>by split at z<;>ext z;rfl) hl rs x
 let fin:∀{δ1 s' M' v} (d:D) (b:Bool),Sx M M'->Inv (Lu N qual (ar st) f cdv A s.heap.objs.size vb (if ro=V then U M else B)) M' δ1 s'->Ret (Lu N qual (ar st) f cdv A s.heap.objs.size vb (if ro=V then U M else B)) M' s' d v b->(ro=Y->(b,J')=(pF J d b (δ1.drop N.length)).2)->
   ∃v' X' M1 δ1,(Except.ok (Flow.ret v):R8)=.ok (.ret v')/\Sx M M1/\Inv X' M1 δ1 s'/\X'.st=vb/\X'.S=(if ro=V then U M else B)/\(ro=Y->δ1.drop X'.N.length=J')/\Ret X' M1 s' d v' b:=λ{δ1 s' M' v} d b x1 I1 rt hc=>by
  cases ro with
  |true=>show⟨v,_,M',δ1,rfl,x1,I1,rfl,rfl,(λz=>nomatch z),rt⟩
  |false=>
   let hc:=hc rfl;obtain rfl:=hv rfl;unfold pF at hc;split at hc
   .rename_i hok
    rw[Mo]at hok;ext hc;let hlen:J.length=M.r.length:=T.l rfl;let hle:J.length<=M'.r.length:=by
     rw[hlen]
     rcases Nat.eq_zero_or_pos M.r.length with z|z
     .rfl'
     .have:=x1.f.r (M.r.length - 1) _ (Mq ())
      have:=(L9.mp this).1;lia
    let Z7:=I1.cut rfl rfl hle λj d b hj z=>by
     rw[<-Ox]at z
     let(y,h1,h2):=yC hok.2 (Mq hj)
     rw[z]at h1;ext h1
     rcases h2 with h2|h2
     .rw[hlen];show(T.s j d b (by rw[Mq hj,h2])).2.elim λxa ⟨o,_,_,c⟩=>c.lb
     .show h2
    let sb:Sub Y M Y (mh J.length M'):=.of (λa o z=>b8 (KR.mp (x1.f _ _ (KR.mpr z))) λj z=>nomatch z) λj y z=>qE j y (by rw[hlen];show(L9.mp z).1) (x1.f.r j y z)
    show⟨v,_,_,_,rfl,⟨sb,λa o z=>b8 (x1.p _ _ z) λj z=>(nomatch z),λa o z=>x1.n _ _ (bL z).1⟩,Z7,rfl,rfl,λ_=>?_,?_⟩
    .change List.drop N.length (Rg N.length B++_)=_
     rw[Sm (by simp)]
    .cases b with
     |false=>show R.sht sA qE rt hok.1
     |true=>
      let(a,o,h1,h2,h3,h4):=rt;show⟨a,o,h1,h2,h3.sht sA qE hok.1,h4.imp (λf=>⟨cw f.m,f.l,f.c,f.t,f.s⟩) λ⟨i,z⟩=>⟨i,b8 z λj z=>nomatch z⟩⟩
   .ext hc;show⟨v,_,M',δ1,rfl,x1,I1,rfl,rfl,λ_=>rfl,rt⟩
 rcases hg with⟨δ1,e1,e2⟩|⟨rfl,rfl,δ1,e1,e2⟩
 .show NO (body A s.heap.objs.size _ (hr.deeper _) (λz=>by rw[z];rfl) (λz=>by rw[z];simp) I e1 ?_:WP _ _ (λfl s'=>_) _) (λfl s' hs=>hs) λ_ _ z=>z.elim
  show λv s' M' x1 I1 rt=>fin _ _ x1 I1 rt e2
 .show NO (body A s.heap.objs.size _ (hr.deeper _) (λz=>by rw[z];rfl) (λz=>by rw[z];simp) I e1 ?_:WP _ _ (λfl s'=>_) _) (λfl s' hs=>hs) λ_ _ z=>z.elim
  show λs' M' x1 I1=>fin (v:=.none) .non Y x1 I1 rfl e2
abbrev IP (X:Cx) (scope:O1) (bo:Bool) (cl:Z (MJ×MM)) (C:MM) (S:Mp):Cx:={A:=X.A,N:=X.N,env:=compEnvC scope cl C X.env,fn:=Y,st:=X.st&&!bo,S:=U S}
def Ko (X:Cx) (ifs:Z Expr) (f:DEnv->G Bool):Prop:=∀{M O s c} {Q:Bool->Mn->Prop},Inv X M O s->f O=U c->(∀s' M',Ext M M'->Inv X M' O s'->Q c s')->
 WP X (forIn ifs V λc r=>if r=V then do let ok <-isTrue c X.env (eval c X.env);pure (NT ok) else pure (NT r)) Q s
theorem DJ:Ko X [] (λ_=>U V):=λI e k=>by ext e;show wpAny_tests_nil (k _ _ Ext.refl I)
theorem Ec (h:DT X c f):Ko X [c] f:=λI e k=>wpAny_tests_one (h I e k)
def be (env:Env):Z (MJ×OQ)->Z (MJ×MM)->Z (MJ×MM)
 |[],acc=>acc
 |(n,k)::r,acc=>if(k==Pv)=V then be env r ((n,(env.cells.lookup n).getD 0)::acc) else be env r acc
theorem nR (env:Env):∀(names:Z (MJ×OQ)) (acc:Z (MJ×MM)),(∀y∈names,y.2=.free->∃c,env.cells.lookup y.1=U c)->
  (forIn names acc (λ(x:MJ×OQ) (cs:Z (MJ×MM))=>(match x with
   |(name,kind)=>if(kind==.free)=V then(do let c <-cellOf env name;pure (NT ((name,c)::cs))) else pure (NT cs):Sem (ForInStep (Z (MJ×MM))))))=pure (be env names acc)
 |[],acc,_=>rfl
 |(n,k)::r,acc,h=>by
  let hr:=λy hy=>h y (MA _ hy)
  rw[P4];ext be;cases hk:k==Pv with
  |true=>
   let(c,e):=h (n,k) MB (eq_of_beq hk);let ec:cellOf env n=pure c:=by unfold cellOf;rw[e]
   simp![if_true,ec,QA,hk,e,Option.getD_some];show nR env r _ hr
  |false=>
   simp![MZ,if_false,QA,hk];show nR env r acc hr
nonrec theorem hE (env:Env):∀(names:Z (MJ×OQ)) (acc:Z (MJ×MM)),(∀y∈names,y.2=.free->∃c,env.cells.lookup y.1=U c)->
  (∀x c,acc.lookup x=U c->env.cells.lookup x=U c)->∀x c,(be env names acc).lookup x=U c->env.cells.lookup x=U c
 |[],acc,_,ha=>ha
 |(n,k)::r,acc,h,ha=>by
  let hr:=λy hy=>h y (MA _ hy)
  ext be;split
  .rename_i hk
   let(c,e):=h (n,k) MB (eq_of_beq hk);show hE env r _ hr λx d hx=>?_
   rw[R4]at hx;cases q:x==n with
   |true=>simp_all
   |false=>rw[q]at hx;show ha x d hx
  .show hE env r acc hr ha
theorem i8 (env:Env) (x:MJ):∀(j:Z (MJ×OQ)) (acc:Z (MJ×MM)),((x,Pv)∈j\/∃c,acc.lookup x=U c)->∃c,(be env j acc).lookup x=U c
 |[],acc,h=>h.elim (λz=>nomatch z) id
 |(n,k)::r,acc,h=>by
  ext be;split
  .show i8 env x r _ ?_
   by_cases q:(x==n)=V
   .simp_all
   .rcases h with h|⟨c,h⟩
    .simp_all
    .show .inr ⟨c,by rw[R4];simp[q,h]⟩
  .show i8 env x r _ ?_
   grind
def fy {scope:O1}{env:Env}(h:∀y∈scope.names,y.2=.free->∃c,env.cells.lookup y.1=U c):closureFor scope env=pure (be env scope.names []):=by
 let q:closureFor scope env=((forIn scope.names [] (λ(x:MJ×OQ) (cs:Z (MJ×MM))=>(match x with
   |(name,kind)=>if(kind==.free)=V then(do let c <-cellOf env name;pure (NT ((name,c)::cs))) else pure (NT cs):Sem (ForInStep (Z (MJ×MM)))))) >>= λcs=>pure cs):=rfl
 rw[q,nR env scope.names [] h,QA]
theorem cj {env:Env}:∀{j:Z (MJ×OQ)}{x:MJ}{k:OQ},
  (j.map λ(n,k)=>if(k==Pv&&env.scope.kind==.function&&env.kindOf n==U .cell) then(n,Ra) else(n,k)).lookup x=U k->
  j.lookup x=U k\/(j.lookup x=U .free/\k=.cell)
 |[],_,_,h=>by simp at h
 |(n,g)::r,x,k,h=>by
  let u:=@cj env r x k
  grind
structure CompScope (X:Cx) (scope:O1) (bs:Z Bool):Prop where
 kind:scope.kind=.function
 cell:∀y∈scope.names,y.2≠.cell
 loc:∀y∈scope.names,y.2=.local->scope.names.lookup y.1=U .local
 fre:∀y∈scope.names,y.2=.free->scope.names.lookup y.1=U .free/\(X.env.kindOf y.1=U .cell\/X.env.kindOf y.1=U .free)
 len:bs.length=X.N.length
 vis:∀(i:Nat) (x:MJ),X.N[i]?=U x->bs[i]?=U V->scope.names.lookup x=U .free
nonrec theorem yg {bo:Bool}{bs:Z Bool}(hi:i<bs.length) (v:bs.length<=O.length) (h:(eX bo bs O)[i]?=U (U (d,ow))):bs[i]?=U V/\ow=Y/\∃b0,O[i]?=U (U (d,b0))/\(b0=V->bo=V):=by
 unfold eX at h;rw[Me (by rw[Rz];rfl'),List.getElem?_zipWith]at h
 cases k:bs[i]? with
 |none=>simp[k]at h
 |some b=>
  cases j:O[i]? with
  |none=>simp[k,j]at h
  |some o=>
   ext b<;>ext o<;>simp[k,j]at h
   rename_i y;let(d',u):=y;let(g,rfl,rfl):=h;show⟨rfl,rfl,u,rfl,g⟩
def zm {bo:Bool}{bs:Z Bool}(hl:bs.length<=O.length):(eX bo bs O)[bs.length+j]?=if bo=V then B else O[bs.length+j]?:=by
 ext eX;rw[MK (by rw[Rz];rfl'),Rz,Pf hl,NZ]
 cases bo with
 |true=>simp
 |false=>simp
def rz {bo:Bool}{bs:Z Bool}(k:bs.length<=O.length):(eX bo bs O).length=if bo=V then bs.length else O.length:=by
 ext eX;ext bo<;>simp<;>rfl'
section
variable{X:Cx}{M M' M1:Mp}{O:DEnv}{s s':Mn}{scope:O1}{bs:Z Bool}{bo:Bool}{fp:Z MM}{elt tg iter:Expr}{ifs:Z Expr}{pos:Q6}{fi:DEnv->G (Z D)}{τ:D->DEnv->G DEnv}{ft:DEnv->G Bool}{fe:DEnv->G D}
def CompScope.has (S:CompScope X scope bs) (I:Inv X M O s):∀y∈scope.names,y.2=.free->∃c,X.env.cells.lookup y.1=U c:=λy k e=>I.ok.has y.1 (S.fre y k e).2
def th {m:MJ->G Ml}{C:MM}(S:CompScope X scope bs) (I:Inv X M O s) (hf:∀b∈fp,Free X M b) (hC:s.heap.objs.size<=C) (hns:s'.heap.Ns C m) (hk:∀b o,s.heap.get? b=U o->s'.heap.get? b=U o) (hg:s'.os=s.os/\s'.gens=s.gens):
  Inv (IP X scope bo (be X.env scope.names []) C (LC bo V (!bo) M s.heap fp)) (LC bo V (!bo) M s.heap fp) (eX bo bs O) s':=by
 let hh:=S.has I;let cons:=hE X.env scope.names [] hh (λx c e=>by simp at e)
 let(k1,k2,k3,k4):=I.calI (m:=bo) (ko:=V) (ks:=!bo) λb hb=>hf b hb
 let(m0,hn0,hl):=I.loc;let hle:bs.length<=O.length:=by rw[S.len];show I.len
 show⟨⟨I.ok.mod,S.kind,I.ok.glob,I.ok.blt,λx y c h1 h2=>I.ok.inj x y c (cons x c h1) (cons y c h2),λx hx=>?_,I.ok.room⟩,⟨hg.1.trans I.og.1,hg.2.trans I.og.2⟩,λa k o e=>hk _ _ (k1 _ _ _ e),k2,⟨m,hns,λi x d b h1 h2 h3=>?_⟩,?_,λx c e=>?_,k3.to Sub.refl (λq h=>(k3 q h).1) λq _ o e=>hk _ _ e,λa k o e w=>I.own a k o (k4 _ _ _ w e).1 w,λa b k o o' w e e'=>I.uni a b k o o' w (k4 _ _ _ w e).1 (k4 _ _ _ w e').1,by rw[rz hle];change X.N.length<=_;rw[<-S.len];split<;>rfl',(λ_ _ e=>I.calS e),λz=>?_,λj d b z=>?_,λM0 z=>(by ext z;show⟨rfl,λ_ _ _=>QD⟩),λa j o z=>I.slo _ _ _ (k4 _ _ _ rfl z).1⟩
 .let key:(x,Pv)∈scope.names:=by
   rcases hx with q|q
   .rcases cj q with q|⟨q,_⟩
    .show absurd rfl (S.cell _ (NG q))
    .show NG q
   .rcases cj q with q|⟨_,q⟩
    .show NG q
    .ext q
  show i8 X.env x scope.names [] (.inl key)
 .let(hb,rfl,b0,ho,hbo):=yg (by rw[S.len];show(L9.mp h1).1) hle h2
  let hfr:=S.vis i x h1 hb;let(_,hkd):=S.fre _ (NG hfr) rfl;let(u,lk,va):=hl i x d b0 h1 ho (hkd.elim (λz=>.inr (.inl z)) λz=>.inr (.inr z))
  show⟨u,.inr ⟨?_,?_⟩,(va.rep (m:=bo) hbo).to (sG λz=>by rw[z];rfl)⟩
  .rcases h3 with q|q|q
   .rcases cj (show(relabel scope X.env).names.lookup x=U .local from q)with q|⟨_,q⟩
    .rfl'
    .ext q
   .show .inl q
   .show .inr q
  .rcases lk with⟨kl,_⟩|⟨_,c,ec,oc,q1,q2⟩
   .rfl'
   .let(c',e'):=i8 X.env x scope.names [] (.inl (NG hfr))
    have:=cons x c' e';rw[ec]at this;ext this;show⟨c,e',oc,hk c oc q1,q2⟩
 .let f:=I.fresh hC
  change LC bo V (!bo) M s.heap fp C=B;ext LC;left;rw[f.m];left;split
  .rfl
  .rw[Ri hC];rfl
 .let ce:=cons x c e
  let((v,o,q1,q2),z):=I.cell x c ce;show⟨⟨v,o,hk _ _ q1,q2⟩,.inr ⟨rfl,?_⟩⟩
  rcases z with z|⟨_,o',z⟩
  .show⟨o,?_⟩
   ext LC;left;rw[z];left;rw[o_,q1];rfl
   rintro(w|⟨q,w1,w2⟩)
   .show(hf c w).c x ce
   .let(_,ps,w3,_):=I.tabs q w1
    lia
  .show⟨o',by ext LC;left;rw[z]⟩
 .rw[Mo]at z
  let hb:bo=Y:=by ext bo<;>simp_all
  subst hb;rw[rz hle];show I.stl z.1
 .rw[show(IP X scope bo (be X.env scope.names []) C (LC bo V (!bo) M s.heap fp)).N.length=bs.length from S.len.symm,zm hle]at z
  cases bo with
  |true=>ext z
  |false=>
   rw[o_ Og,S.len]at z;let(h1,xa,o,h2,h3,h4):=I.sto j d b z;show⟨h1,xa,o,h2,uh h3,h4.to ky⟩
def Ev (τ:D->DEnv->G DEnv):Prop:=∀d d' O δ',τ d O=U δ'->τ d' δ'=τ d' O
def yJ (i:Nat):Ev (ae i):=λd d' O δ' h=>by obtain rfl:=du h;ext ae;simp
nonrec theorem yy (i j:Nat) (k:i≠j):Ev (aW (ah (ae i) (ah (ae j) aY))):=λd d' O δ' h=>by
 cases d<;>try cases h
 rename_i ds
 match ds,h with
 |[a,b],h=>
  let(u,y,h):=ag h;let(g,v,h):=ag h;cases h;obtain rfl:=du y;obtain rfl:=du v;cases d'<;>try rfl
  rename_i es
  match es with
  |[]=>rfl
  |[c]=>simp![aW,ah,ae,O8];split<;>rfl
  |c::e::es=>
   let z:(((List.set O i (U (a,Y))).set j (U (b,Y))).set i (U (c,Y))).set j (U (e,Y))=(List.set O i (U (c,Y))).set j (U (e,Y)):=by
    rw[List.set_comm _ _ k.symm,Ta,Ta]
   simp_all [aW,ah,ae,O8,ac,z]
 |[],h=>ext h
 |[a],h=>let(_,_,h):=ag h;ext h
 |a::b::c::ds,h=>let(_,_,h):=ag h;let(_,_,h):=ag h;ext h
theorem sS {R:R8->Mn->Prop}{it acc:Ml}{env:Env}{A:Nl}(I:Nat->Mn->Prop)
  (turn:∀n s,I n s->wpAny (model P w) A (pyNext it) (λr s₁=>match r with
   |none=>R (.ok .next) s₁
   |some v=>wpAny (model P w) A (letOwnedTupleGo tg it v) (λ_ s₁=>wpAny (model P w) A (assign tg env v) (λ_ s₂=>
     wpAny (model P w) A (forIn ifs V λc r=>if r=V then do let ok <-isTrue c env (eval c env);pure (NT ok) else pure (NT r)) (λok s₃=>
      if ok=V then wpAny (model P w) A (eval elt env) (λx s₄=>
       wpAny (model P w) A (call (.builtin "list.append") [acc,x]) (λ_ s₅=>∃m,m<n/\I m s₅) (λ_ _=>False) s₄) (λ_ _=>False) s₃
      else ∃m,m<n/\I m s₃) (λ_ _=>False) s₂) (λ_ _=>False) s₁) (λ_ _=>False) s₁) (λ_ _=>False) s)
  (n:Nat) (h:I n s):
  codeAny (model P w) A (.compLoop (.ListComp elt [⟨tg,iter,ifs,0⟩] scope pos) 0 it acc env) R s:=by
 show codeAny_loop rfl I (λn s hI=>?_) n h
 show wpAny_noted ?_
 show or (Q1 (or (NO (turn n s hI) (λr s₁ h₁=>?_) λ_ _ h'=>h'.elim)))
 cases r with
 |none=>show Mf h₁
 |some v=>
  show or (NO h₁ (λ_ s₁' h₁'=>?_) λ_ _ h'=>h'.elim)
  show or (NO h₁' (λ_ s₂ h₂=>or (NO h₂ (λok s₃ h₃=>?_) λ_ _ h'=>h'.elim)) λ_ _ h'=>h'.elim)
  cases ok with
  |false=>show Mf ⟨rfl,h₃⟩
  |true=>
   show or (or (NO h₃ (λx s₄ h₄=>or (NO h₄ (λ_ s₅ h₅=>Mf (Mf ⟨rfl,h₅⟩)) λ_ _ h'=>h'.elim)) λ_ _ h'=>h'.elim))
nonrec theorem Ext.unp (h:Ext (pin X M hp) M1):Ext M (L2.unp X M hp M1):=⟨λa=>(by
 unfold L2.unp;left;split
 .rename_i z;show .inl z.1.m.symm
 .rename_i z
  let e:pin X M hp a=M a:=by
   ext pin;left;split
   .rename_i f
    cases q:hp.get? a with
    |none=>simp[f.m]
    |some o=>rfl'
   .rfl
  rw[<-e];show h.e a),h.r⟩
nonrec theorem xd {RR:Ml->MM->R8->Mn->Prop}(hτ:Ev τ) (S:CompScope X scope bs) (hg:∀cl C S0,DG (IP X scope bo cl C S0) tg τ) (ht:∀cl C S0,Ko (IP X scope bo cl C S0) ifs ft) (he:∀cl C S0,DE (IP X scope bo cl C S0) Y elt fe) (I:Inv X M O s) (T:Turn2 X.A tg bm bo M ds fp it tn) (t0:tn 0 s.heap) (hf:∀b∈fp,Free X M b) (e2:bS bo bs τ ft fe O ds=U ls) (k:∀acc C m s' M' vs,Ext M M'->Inv X M' O s'->Free X M' acc->Free X M' C->s'.heap.Ns C m->acc≠C->(∃n,s'.heap.get? acc=U {cls:=.type "list",data:=.seq vs.toArray n})->vs.length<=LZ->Rs bo M' ls vs->RR (.ref acc) C (.ok .next) s'):
  WP X (newList []) (λacc s₃=>WP X (newFunctionEnv scope X.env.globals (be X.env scope.names []) [] X.env.qual B .none (U X.env)) (λcenv s₄=>
   codeAny (model P w) X.A (.compStart (.ListComp elt [⟨tg,iter,ifs,0⟩] scope pos) 0 (.ref it) acc {cenv with scope:=relabel scope X.env}) (RR acc cenv.locals) s₄) s₃) s:=by
 unfold bS at e2;split at e2<;>try cases e2
 show NM ?_
 let hz:({s with heap:=s.heap.push {cls:=.type "list",dict:=B,data:=.seq ([]:Z Ml).toArray}}:Mn).heap.objs.size=s.heap.objs.size+1:=NL ..
 show wpAny_newFunctionEnv S.cell (λy hy=>by simp at hy) (λh₁ hns₁ hsb₁=>?_) S.kind
 rw[hz]at hns₁ hsb₁⊢;let keep:∀b o,(s.heap.push {cls:=.type "list",dict:=B,data:=.seq ([]:Z Ml).toArray}).get? b=U o->h₁.get? b=U o:=λb o e=>(hsb₁.2 b (by have:=MD e;rw[NL]at this;show MU this)).trans (Mg _ e)
 let hex:=T.ex t0;generalize hs5:({s with heap:=h₁,toks:=s.toks+([]:Z (MJ×Ml)).length}:Mn)=s5
 let h5:s5.heap=h₁:=by rw[<-hs5]
 let kp5:∀b o,s.heap.get? b=U o->s5.heap.get? b=U o:=λb o e=>by rw[h5];show keep b o (Mg _ e)
 let I5:=th (bo:=bo) (s':=s5) S I hf (OA _) (by rw[h5];show hns₁) kp5 (by rw[<-hs5];show⟨rfl,rfl⟩)
 let hacc:s5.heap.get? s.heap.objs.size=U {cls:=.type "list",data:=.seq ([]:Z Ml).toArray}:=by rw[h5];show keep _ _ (Mm _ rfl)
 let fa:Free X M s.heap.objs.size:=I.fresh (Mj _);let lt:∀b∈fp,b<s.heap.objs.size:=λb hb=>by let(o,e):=hex b hb;show MD e
 let cons:=hE X.env scope.names [] (S.has I) (λx c e=>by simp at e)
 let frC:∀{b},LC bo V (!bo) M s.heap fp b=B->Free X M b->b≠s.heap.objs.size+1->Free (IP X scope bo (be X.env scope.names []) (s.heap.objs.size+1) (LC bo V (!bo) M s.heap fp)) (LC bo V (!bo) M s.heap fp) b:=λ{b} z f ne=>⟨z,ne,λx e=>f.c x (cons x _ e),f.t,f.s⟩
 let cn:LC bo V (!bo) M s.heap fp s.heap.objs.size=B:=by
  ext LC;left;rw[fa.m];left;split;rfl;rw[Ri (Mj _)];rfl
 let f0:∀b∈s.heap.objs.size::fp,Free (IP X scope bo (be X.env scope.names []) (s.heap.objs.size+1) (LC bo V (!bo) M s.heap fp)) (LC bo V (!bo) M s.heap fp) b:=λb hb=>by
  rcases MG.mp hb with rfl|hb
  .show frC cn fa (MU (Nj _))
  .show frC (by ext LC;left;rw[(hf b hb).m];show n_ (.inl hb)) (hf b hb) (MU (Nat.lt_succ_of_lt (lt b hb)))
 let loop:codeAny (model P w) X.A (.compLoop (.ListComp elt [⟨tg,iter,ifs,0⟩] scope pos) 0 (.ref it) (.ref s.heap.objs.size) (compEnvC scope (be X.env scope.names []) (s.heap.objs.size+1) X.env)) (RR (.ref s.heap.objs.size) (s.heap.objs.size+1)) s5:=by
  show sS (λn s'=>∃i δ' M' vs l1 l2 e,n=ds.length - i/\i<=ds.length/\vs.length<=i/\Ext (LC bo V (!bo) M s.heap fp) M'/\Inv (IP X scope bo (be X.env scope.names []) (s.heap.objs.size+1) (LC bo V (!bo) M s.heap fp)) M' δ' s'/\tn i s'.heap/\(∀b∈s.heap.objs.size::fp,Free (IP X scope bo (be X.env scope.names []) (s.heap.objs.size+1) (LC bo V (!bo) M s.heap fp)) M' b)/\
   (∀d,τ d δ'=τ d (eX bo bs O))/\s'.heap.get? s.heap.objs.size=U {cls:=.type "list",data:=.seq vs.toArray e}/\Rs Y M' l1 vs/\ls=l1++l2/\dz (dk τ ft fe (eX bo bs O)) (ds.drop i)=U l2) ?_ ds.length
   ⟨0,_,_,[],[],ls,_,rfl,Nw _,Mj _,Ext.refl,I5,T.keep t0 λb _ o e=>kp5 b o e,f0,λ_=>rfl,hacc,rfl,rfl,e2⟩
  rintro n s6 ⟨i,δ6,M6,vs,l1,l2,ep,rfl,hi,hvs,x6,I6,t6,f6,hd6,ha6,rs6,hls,ec⟩
  let sb6:Sub bo M Y M6:=(sG (ko:=V) (ks:=!bo) λz=>by rw[z];rfl).trans x6.sub
  let rd6:∀a o,Rd bm M a o->s6.heap.get? a=U o:=λa o ⟨k,q,_⟩=>by
   obtain⟨k',w⟩:∃k',LC bo V (!bo) M s.heap fp a=U (k',o):=by ext LC;left;rw[q];ext k<;>show⟨_,rfl⟩
   rcases x6.e a with z|z
   .show I6.heap _ _ _ (z.trans w)
   .rw[z.1]at w;ext w
  let f6':∀b∈fp,Free (IP X scope bo (be X.env scope.names []) (s.heap.objs.size+1) (LC bo V (!bo) M s.heap fp)) M6 b:=λb hb=>f6 b (.tail _ hb)
  by_cases hlt:i<ds.length
  .rw[N5 hlt]at ec
   simp![dz]at ec;show IS (T.item t6 rd6 (d:=ds[i]) (by simp[hlt])) λr s7 hz=>?_
   let(u,rfl,h7):=hz;show IS h7 λ_ s8 hz=>?_
   let(c8,t8,g8):=hz;let ne:s.heap.objs.size∉fp:=λz=>absurd (lt _ z) (PB _)
   let(M8,x8,I8,r8,f8'):=I6.got sb6 g8 c8 f6';let ha8:=c8.2 _ _ ne ha6;let f8:∀b∈s.heap.objs.size::fp,Free (IP X scope bo (be X.env scope.names []) (s.heap.objs.size+1) (LC bo V (!bo) M s.heap fp)) M8 b:=λb hb=>by
    rcases MG.mp hb with rfl|z
    .show f8' _ _ (f6 _ hb) ha6
    .let(o,e):=T.ex t6 b z;show f8' b o (f6 _ hb) e
   let fin:∀{δ9 M9 s9},Ext (pin (IP X scope bo (be X.env scope.names []) (s.heap.objs.size+1) (LC bo V (!bo) M s.heap fp)) M8 s8.heap) M9->Inv (IP X scope bo (be X.env scope.names []) (s.heap.objs.size+1) (LC bo V (!bo) M s.heap fp)) M9 δ9 s9->∃M7,Ext M8 M7/\Inv (IP X scope bo (be X.env scope.names []) (s.heap.objs.size+1) (LC bo V (!bo) M s.heap fp)) M7 δ9 s9/\tn (i+1) s9.heap/\(∀b∈s.heap.objs.size::fp,Free (IP X scope bo (be X.env scope.names []) (s.heap.objs.size+1) (LC bo V (!bo) M s.heap fp)) M7 b)/\
     s9.heap.get? s.heap.objs.size=U {cls:=.type "list",data:=.seq vs.toArray ep}/\Sub Y M9 Y M7:=λy Z7=>by
    let(h1,h2,h3,h4,h5,h6):=I8.unp Z7 y.sx;show⟨_,y.unp,h1,T.keep t8 λb hb o e=>(h6 b o (f8 b (.tail _ hb)) e).1,λb hb=>by
     rcases MG.mp hb with rfl|z
     .show(h6 _ _ (f8 _ hb) ha8).2
     .let(o,e):=T.ex t8 b z;show(h6 b o (f8 b hb) e).2,(h6 _ _ (f8 _ (.head _)) ha8).1,h3⟩
   cases q:dk τ ft fe (eX bo bs O) ds[i]with
   |none=>rw[q]at ec;ext ec
   |some oy=>
    rw[q]at ec;let(δ1,q1,q2):=ag q;let q1':τ ds[i] δ6=U δ1:=by rw[hd6];show q1
    let hd1:∀d,τ d δ1=τ d (eX bo bs O):=λd=>by rw[hτ _ d _ _ q1',hd6 d]
    show hg _ _ _ I8.pin (r8.to o9) q1' λs9 I9=>?_
    split at q2
    .rename_i qt
     show ht _ _ _ I9 qt λs10 M10 x10 I10=>?_
     split at q2<;>ext q2
     rename_i y qe;dsimp only at ec;split at ec<;>ext ec
     rename_i l3 qc;show(he _ _ _).ev I10 qe λv s11 M11 x11 I11 r11=>?_
     let(M7,y1,Z7,t7,f7,ha7,sb):=fin (x10.trans x11) I11;let hl:LZ<sizeLine:=by decide +kernel
     let g:=RB ha7 (λa=>a.push v)
     show Pj Qp ⟨_,ha7,rfl⟩ Qk (Qd _ _) (Qu s.heap.objs.size vs.toArray ep v ⋯) ⟨ha7,ds.length - (i+1),(),i+1,δ1,M7,vs++[v],l1++[y],l3,_,rfl,hlt,by simp;rfl',(x6.trans x8).trans y1,Z7.wr (s':={s11 with heap:=s11.heap.update s.heap.objs.size (Na λa=>a.push v)}) [s.heap.objs.size] (λb hb=>f7 b (by simp_all)) (λb o hb e=>(Nn _ _ (λz=>hb (by simp[z]))).trans e),T.keep t7 λb hb o e=>(Nn _ _ (λz=>ne (by rw[z];show hb))).trans e,f7,hd1,by simpa using g,((rs6.up x8).up y1).append (.one (r11.to sb)),by simp[hls],qc⟩
    .rename_i qt
     ext q2;show ht _ _ _ I9 qt λs10 M10 x10 I10=>?_
     let(M7,y1,Z7,t7,f7,ha7,sb):=fin x10 I10;show⟨ds.length - (i+1),(),i+1,δ1,M7,vs,l1,l2,ep,rfl,hlt,(),(x6.trans x8).trans y1,Z7,t7,f7,hd1,ha7,(rs6.up x8).up y1,hls,ec⟩
    .ext q2
  .obtain rfl:i=ds.length:=()
   rw[R7]at ec;ext ec;rw[PC]at hls;subst hls;show IS (T.done t6 rd6) λr s7 hz=>?_
   let(rfl,c7):=hz;let Z7:=I6.ch c7 f6';let(I7,sb):=I.ret (m:=bo) Z7.lft hf (λb hb=>(f6' b hb).m) x6.sx (λa k o _ z=>(x6.e a).elim (λw=>w.trans z) λw=>by rw[w.1]at z;ext z) x6.r
   let fr:∀c,s.heap.objs.size<=c->M6 c=B->Free X (JQ M s.heap M6) c:=λc h z=>by
    let f:=I.fresh h;show⟨by ext JQ;left;rw[f.m];left;rw[o_ (by simp[Ri h]),z],f.l,f.c,f.t,f.s⟩
   let(m',hn,_):=Z7.loc;show k _ _ m' s7 _ vs oC I7 (fr _ (Mj _) (f6 _ (.head _)).m) (fr _ (OA _) Z7.free) hn (MU (Nj _)) ⟨ep,c7.2 _ _ (λz=>absurd (lt _ z) (PB _)) ha6⟩ () (rs6.to sb)
 show codeAny_compStart_list loop (T.self (T.keep t0 λb _ o e=>kp5 b o e) loop)
def vy {bm bo:Bool}(hτ:Ev τ) (hi:DI2 X bm bo tg iter fi) (S:CompScope X scope bs) (hg:∀cl C S0,DG (IP X scope bo cl C S0) tg τ) (ht:∀cl C S0,Ko (IP X scope bo cl C S0) ifs ft) (he:∀cl C S0,DE (IP X scope bo cl C S0) Y elt fe) (I:Inv X M O s) (e:ac (fi O) (bS bo bs τ ft fe O)=U ls) (fl:bo=V->D.flats ls=V) (k:PostF X M O (.lst ls) Q):
  WP X (eval (.ListComp elt [⟨tg,iter,ifs,0⟩] scope pos) X.env) Q s:=by
 let(ds,e1,e2):=ag e;show wpAny_comprehension_free (use:=B) rfl (λx=>oQ hi.pl) (fy (S.has I)) S.kind S.loc (hi.ev I e1 λit fp tn s1 M1 x1 I1 T t0 f1=>?_)
 show xd (RR:=λacc C=>compPost (model P w) X.A (λ_ _=>False) B Q acc C) hτ S hg ht he I1 T t0 f1 e2 ?_
 intro acc C m s' M' vs x2 I2 fa fC hn ne ⟨n,ha⟩ hl rs;let rs':Rs Y M' ls vs:=by
  cases bo with
  |false=>show rs
  |true=>show Rs.flat I2.own (fl rfl) rs
 show⟨m,hn,λh' hs=>k _ _ _ M' (x1.trans x2) (I2.wr (s':={s' with heap:=h'}) [C] (λb hb=>by simp_all) λb o hb e=>(hs.2 b λz=>hb (by simp[z])).trans e) fa ((hs.2 acc ne).trans ha) ⟨vs,⟨aG hl,n,rfl⟩,rs'⟩⟩
theorem D0 (hτ:Ev τ) (hi:DI2 X bm Y tg iter fi) (S:CompScope X scope bs) (hg:∀cl C S0,DG (IP X scope Y cl C S0) tg τ) (ht:∀cl C S0,Ko (IP X scope Y cl C S0) ifs ft) (he:∀cl C S0,DE (IP X scope Y cl C S0) Y elt fe):
  DF X (.ListComp elt [⟨tg,iter,ifs,0⟩] scope pos) (λO=>au (ac (fi O) (bS Y bs τ ft fe O))):=⟨rfl,λ{M O s d Q} I e k=>by
 cases q:ac (fi O) (bS Y bs τ ft fe O)with
 |none=>simp[q,au]at e
 |some ls=>simp![q,au]at e;ext e;show vy hτ hi S hg ht he I q (λz=>nomatch z) k⟩
theorem zK (H:Lc X i y) (p:Ev τ) (hi:DI2 X bm Y tg iter fi) (S:CompScope X scope bs) (hg:∀cl C u,DG (IP X scope Y cl C u) tg τ) (D:∀cl C u,Ko (IP X scope Y cl C u) ifs ft) (he:∀cl C u,DE (IP X scope Y cl C u) Y elt fe) (r:swapsWith (.ListComp elt [⟨tg,iter,ifs,0⟩] scope pos) (U (.Name y v)) j.line X.env=pure V):DS X (.Assign [.Name y v] (.ListComp elt [⟨tg,iter,ifs,0⟩] scope pos) j) (λO=>gE i (au (ac (fi O) (bS Y bs τ ft fe O))) O):=λ{M O s o Q} I e k=>by
 let(d,K,rfl):=qx e;cases q:ac (fi O) (bS Y bs τ ft fe O)with
 |none=>simp[q,au]at K
 |some ls=>
  simp![q,au]at K;ext K;let(ds,e1,e2):=ag q;rw[exec_Assign_Name_used _ _ _ _ r];show or (Q1 (or ?_))
  show or (NO (wpAny_comprehension_free (use:=U (assign (.Name y v) X.env)) (Q:=λ_ s'=>Q .next s') rfl (λx=>oQ hi.pl) (fy (S.has I)) S.kind S.loc
   (hi.ev I e1 λit fp tn s1 M1 R I1 T F f1=>?_)) (λ_ s' L=>Mf (Mf L)) λ_ _ e=>e)
  show xd (RR:=λacc C=>compPost (model P w) X.A (λ_ _=>False) (U (assign (.Name y v) X.env)) (λ_ s'=>Q .next s') acc C) p S hg D he I1 T F f1 e2 ?_
  intro acc C m s' M' vs W I2 fa g hn ne ⟨n,ha⟩ hl rs;show wpAny_assign_Name (I2.setOwn fa ha (d:=.lst ls) ⟨vs,⟨aG hl,n,rfl⟩,rs⟩ H λE M3 c I3 h1 N h3 h h5=>?_)
  let hC:C≠c:=by
   rcases h with rfl|h
   .show g.l
   .rintro rfl;show g.c y h
  show⟨m,hn.sameBut h3 hC,λh' hs=>k _ M3 ((R.trans W).sx.trans ⟨h1,λa o q=>(N a o).mp q,λa o q=>(N a o).mpr q⟩) (I3.wr (s':={E with heap:=h'}) [C] (λb f=>by rw[My.mp f];show⟨h5 _ g.m (MR ne),g.l,g.c,g.t,g.s⟩) λb o f e=>(hs.2 b λz=>f (by simp[z])).trans e)⟩
end
mutual
noncomputable def eO:D->Nat
 |.int _=>1
 |.str _=>1
 |.tup ds=>cF ds+1
 |_=>0
noncomputable def cF:Z D->Nat
 |[]=>0
 |d::ds=>eO d+cF ds
end
theorem lm:∀a b:Z D,cF (a++b)=cF a+cF b
 |[],b=>by simp[cF]
 |d::a,b=>by simp[cF,lm a b,Nat.add_assoc]
theorem m5 (w:O0):∀ds,tS w ds=ds.map (eW w)
 |[]=>rfl
 |d::ds=>by simp[tS,m5 w ds]
def AP (h:fU n (.tup ds)=V):∃k,n=k+1/\ds.all (fU k)=V:=by cases n with|zero=>ext h|succ k=>show⟨k,rfl,h⟩
def nO:∀{n d},fU n d=V->KY n d=V:=by
 intro n
 induction n with
 |zero=>intro d h;ext d<;>simp_all [fU,KY]
 |succ n ih=>intro d h;ext d<;>simp_all [fU,KY]
def Kd (hd:fU n d=V) (r:R m M d u):(∃i t,d=.int i/\u=.int i t)\/(∃i t,d=.str i/\u=.str i t)\/∃ds a o vs k,d=.tup ds/\u=.ref a/\n=k+1/\ds.all (fU k)=V/\Rd m M a o/\TupO o vs/\Rs m M ds vs:=by
 cases d with
 |int i=>let(t,rfl):=r;show .inl ⟨_,_,rfl,rfl⟩
 |str i=>let(t,rfl):=r;show .inr (.inl ⟨_,_,rfl,rfl⟩)
 |tup ds=>let(a,o,vs,rfl,v,g,j):=r;let(k,rfl,h):=AP hd;show .inr (.inr ⟨_,a,o,vs,k,rfl,rfl,rfl,h,v,g,j⟩)
 |_=>simp[fU]at hd
def ug:∀(n:Nat) {d u} {A:Nl}{s:Mn}{Q:Int->Mn->Prop}{E:Ml->Mn->Prop},Hm M s.heap->fU n d=V->A.units+2*n+2<cLine->R m M d u->Q (eW w d) {s with toks:=s.toks+eO d}->wpAny (model P w) A (pyHash u) Q E s:=by
 intro n
 induction n using Oq with
 |ind n ih=>
 intro d u A s Q E H hd hA r hQ
 rcases Kd hd r with⟨i,t,rfl,rfl⟩|⟨i,t,rfl,rfl⟩|⟨ds,a,o,vs,k,rfl,rfl,rfl,hd',q,t,rs⟩
 .show wpAny_pyHash_int hQ
 .show wpAny_pyHash_str hQ
 .let(o,ho,hc,m,hdat):=t.is H q
  let hT:s.TypeIs (.ref a) "tuple":=⟨o,ho,hc⟩;unfold pyHash;show or (wpAny_cRoomFor_or (.inr ()) (or (OX hT QQ.lookup ?_)))
  show or (OX hT QQ.lookup ?_)
  show or (wpAny_callSpecialIfBoundUnlessNone?_slot hT QQ (MT QQ hT F.entry_tuple_hash ?_ (F.args_tuple_hash_1 _)))
  change wpAny _ _ (Builtin.Tuple.tupleItemsOf (.ref a) >>= _) _ _ _;show or (wpAny_tupleItemsOf ho hdat (or ?_))
  rw[<-Array.forIn_toList];show P7 _ (λrest (b:Array Int) s'=>∃done left,ds=done++left/\Rs _ M left rest/\b.toList=done.map (eW w)/\s'={s with toks:=s.toks+cF done}) _ ?_ ?_ _ _ ⟨[],ds,rfl,by trivial,rfl,rfl⟩
  .rintro v rest b s' ⟨done,left,rfl,hl,hb,rfl⟩
   cases left with
   |nil=>ext hl
   |cons d' left'=>
    let(v',r',e',r1,r2):=hl;ext e';let hd1:fU k d'=V:=by simp_all
    show or (ih k ⟨⟩ (s:={s with toks:=s.toks+cF done}) H hd1 (show A.units+1+2*k+2<cLine by lia) r1 ?_)
    let et:({s with toks:=s.toks+cF done+eO d'}:Mn)={s with toks:=s.toks+cF (done++[d'])}:=by rw[lm];simp[cF,Nat.add_assoc]
    first
     |show Mf ⟨done++[d'],left',by simp,r2,by simp[hb],et⟩
     |show or (Mf (Mf ⟨done++[d'],left',by simp,r2,by simp[hb],et⟩))
  .rintro b s' ⟨done,left,rfl,hl,hb,rfl⟩
   obtain rfl:left=[]:=by
    have:=hl.length
    simp_all
   rw[PC]at hQ;simp![eW,m5,eO]at hQ;change wpAny _ _ (retInt (Om b.toList)) _ _ _;rw[hb];show wpAny_ret_mkInt ?_
   change wpAny _ _ (if(decide (-(2:Int) ^ 63<=Om (done.map (eW w)))&&decide (Om (done.map (eW w))<2 ^ 63))=V then _ else _) Q E _
   unfold reduceHash at hQ
   by_cases hr:(decide (-(2:Int) ^ 63<=Om (done.map (eW w)))&&decide (Om (done.map (eW w))<2 ^ 63))=V
   .rw[n_ hr]at hQ⊢;show Mf hQ
   .rw[o_ hr]at hQ⊢;show or (Oz (Mf hQ))
def CE:∀(n:Nat) {d u} {A:Nl}{s:Mn}{Q:Bool->Mn->Prop}{E:Ml->Mn->Prop},Hm M s.heap->fU n d=V->R m M d u->Q V s->wpAny (model P w) A (eqIsQuiet n u) Q E s:=by
 intro n
 induction n using Oq with
 |ind n ih=>
 intro d u A s Q E H hd r hQ
 rcases Kd hd r with⟨i,t,rfl,rfl⟩|⟨i,t,rfl,rfl⟩|⟨ds,a,o,vs,k,rfl,rfl,rfl,hd',q,t,rs⟩
 .unfold eqIsQuiet;show Mf hQ
 .unfold eqIsQuiet;show Mf hQ
 .let(o,ho,hc,m,hdat):=t.is H q
  let hT:s.TypeIs (.ref a) "tuple":=⟨o,ho,hc⟩;unfold eqIsQuiet;show or (OX hT F.slot_tuple_eq.lookup ?_)
  show or (O6 hT isSubtype_tuple_tuple ?_)
  show or (Ot ho hdat (or ?_))
  rw[<-Array.forIn_toList];show P7 _ (λrest b s'=>b.1=B/\s'=s/\∃left,left.all (fU k)=V/\Rs _ M left rest) _ ?_ ?_ _ _ ⟨rfl,rfl,ds,hd',by trivial⟩
  .rintro v rest b s' ⟨hb,rfl,left,hall,hl⟩
   cases left with
   |nil=>ext hl
   |cons d' left'=>
    let(v',r',e',r1,r2):=hl;ext e';rw[Ni,Mo]at hall;show or (ih k ⟨⟩ H hall.1 r1 ?_)
    show Mf ⟨rfl,rfl,left',hall.2,r2⟩
  .rintro⟨b1,b2⟩ s' ⟨hb,rfl,_⟩
   simp only at hb;subst hb;show Mf hQ
def fm (h:OF):Mp:=⟨λa=>(h.get? a).map λo=>(.f,o),[]⟩
def AF:Hm (fm h) h:=λa k o e=>by
 unfold fm at e
 simp_all
def Hm.fm (H:Hm M h):∀a o,Rd m M a o->Rd Y (fm h) a o:=λa o ⟨k,e,_⟩=>KR.mpr (by unfold L2.fm;left;rw[H _ _ _ e];rfl)
def R.key (g:∀a o vs,Rd m M a o->TupO o vs->Rd m' M' a o):∀{n d u},fU n d=V->R m M d u->R m' M' d u:=by
 intro n
 induction n using Oq with
 |ind n ih=>
 intro d u hd r
 rcases Kd hd r with⟨i,t,rfl,rfl⟩|⟨i,t,rfl,rfl⟩|⟨ds,a,o,vs,k,rfl,rfl,rfl,hd',q,t,rs⟩
 .assumption
 .assumption
 .show⟨a,o,vs,rfl,g _ _ _ q t,t,?_⟩
  clear r hd t q
  induction ds generalizing vs with
  |nil=>show rs
  |cons d ds ih2=>
   let(v,r,rfl,r1,r2):=rs;rw[Ni,Mo]at hd';show⟨v,r,rfl,ih k (Nj k) hd'.1 r1,ih2 r hd'.2 r2⟩
def kw:HeapKind P w D where
 is h d a:=fU 8 d=V/\R Y (fm h) d (.ref a)
 hash:=eW w
 draws:=eO
 room A:=A.units+30<cLine
 inj u g:=R.inj (nO u.1) (nO g.1) u.2 g.2
 keeps:=λ{h p k a d o es r} j ho hd hs=>⟨j.1,j.2.key (λb ob vs q c=>KR.mpr (by
  let e:=AF _ _ _ (KR.mp q);ext fm;left;rw[(hs.2 b (λz=>by subst z;rw[ho]at e;ext e;let(_,_,n,c):=c;rfl')).trans e];rfl)) j.1⟩
 pyHash:=λ{A E s k a Q} v j h=>ug 8 AF j.1 () j.2 h
 eqBool:=λ{A E s x y a b Q} v u g h=>(Er AF 8 A (nO u.1) (nO g.1) () u.2 g.2).2.1 P w E Q h
 quiet:=λ{A E s k a Q} j h=>CE 8 AF j.1 j.2 h
def rP:D->Ml->Bool
 |.int i,.int j _=>i==j
 |.str x,.str y _=>y==x
 |_,_=>Y
theorem fA (h:rP k v=V):(∃i t,k=.int i/\v=.int i t)\/∃x t,k=.str x/\v=.str x t:=by
 unfold rP at h;split at h
 .cases beq_iff_eq.mp h;show .inl ⟨_,_,rfl,rfl⟩
 .cases beq_iff_eq.mp h;show .inr ⟨_,_,rfl,rfl⟩
 .ext h
def k9:PySem.KeyKind P w D where
 is:=rP
 hash:=eW w
 inj:=λv a b p q=>by
  grind [fA]
 byValue:=λk v h=>by
  rcases fA h with⟨i,t,rfl,rfl⟩|⟨x,t,rfl,rfl⟩<;>rfl
 pyHash:=λg h=>by
  rcases fA g with⟨i,t,rfl,rfl⟩|⟨x,t,rfl,rfl⟩
  .show wpAny_pyHash_int h
  .show wpAny_pyHash_str h
 eqBool:=λ{A E s a b u v Q} z g h=>by
  rcases fA z with⟨i,t,rfl,rfl⟩|⟨x,t,rfl,rfl⟩<;>rcases fA g with⟨j,t',rfl,rfl⟩|⟨y,t',rfl,rfl⟩
  .rw[show decide (D.int i=D.int j)=(i==j) by lia]at h;show SS i t j t' _ _ _ _ h
  .show Qh.int_str i t y t' _ _ _ _ h
  .show Qh.str_int x t j t' _ _ _ _ h
  .rw[show decide (D.str x=D.str y)=(x==y) by lia]at h;show SR x t y t' _ _ _ _ h
 «strs»:=λk x t v h=>by
  rcases fA h with⟨i,u,rfl,e⟩|⟨y,u,rfl,e⟩<;>ext e
  ext v<;>rfl
nonrec theorem ye (H:Hm M h):∀{ks:Z D}{l:Z OB}{us},l.map (·.hash)=ks.map (eW w)->l.map (·.key)=us->ks.all (Jq V)=V->Rs m M ks us->∃xs:Z (D×MM×Ml),l=xs.map (entryOfKey kw)/\xs.map (·.1)=ks/\xs.map (·.2.2)=l.map (·.val)/\∀x∈xs,kw.is h x.1 x.2.1
 |[],l,us,h1,h2,_,rs=>by simp_all
 |k::ks,l,us,h1,h2,hk,rs=>by
  cases l with
  |nil=>simp at h1
  |cons e l=>
   rw[Ni,Mo]at hk;let(u,r,rfl,r1,r2):=rs;simp![Mx,RL]at h1 h2;let(xs,g1,g2,g3,g4):=ye H h1.2 h2.2 hk.2 r2;ext k<;>simp[Jq]at hk
   rename_i ds;let rr:=r1.key (λa o _ q _=>H.fm a o q) (n:=8) (by simpa using hk.1)
   let(a,o,vs,rfl,_):=r1;show⟨(.tup ds,a,e.val)::xs,?_,by simp[g2],by simp[g3],λx hx=>?_⟩
   .let(eh,ek,ev):=e;simp only at h1 h2;rw[Mx,<-g1,h1.1,h2.1];rfl
   .rcases MG.mp hx with rfl|hx
    .show⟨by simpa using hk.1,rr⟩
    .show g4 x hx
def FE (g:Jq Y k'=V) (j:Jq Y k=V) (r:R m M k' v):rP k v=decide (k'=k):=by
 ext k'<;>simp[Jq]at g<;>ext k<;>simp[Jq]at j<;>let(t,rfl):=r<;>rw[Pe]<;>simp[rP]
 show eq_comm
def fx (h:Jq b k=V):fU 8 k=V:=by ext k<;>simp_all [Jq,fU]
section
variable{M:Mp}{s:Mn}{A:Nl}{E:Ml->Mn->Prop}{m m' b:Bool}{o:QY}{ks:Z D}{us vs:Z Ml}{k:D}{u v:Ml}{d:MM}
def DcO.at (c:DcO b o ks us vs) (e:o.data=.dict es ep):es.size=ks.length/\us.length=ks.length/\vs.length=ks.length/\∀(i:Nat),(es[i]?.map (·.hash))=(ks[i]?).map (eW w)/\(es[i]?.map (·.key))=us[i]?/\(es[i]?.map (·.val))=vs[i]?:=by
 let(_,_,_,_,z,q,h,u,g,j):=c;rw[e]at h;ext h;let k:=p_ NS u;let y:=p_ NS g;let v:=p_ NS j;simp![Ms,OZ]at k y v;show⟨k,⟨⟩,⟨⟩,λi=>⟨?_,?_,?_⟩⟩
 .rw[<-MO,<-u,MO,N8]
 .rw[<-g,MO,N8]
 .rw[<-j,MO,N8]
def Kn (hu:A.units+30<cLine) (H:Hm M s.heap) (hd:s.heap.get? d=U o) (c:DcO b o ks us vs) (rk:Rs m M ks us) (hk:Jq b k=V) (r:R m' M k u) (hn:k∉ks->Q B s) (hy:∀j:Nat,ks[j]?=U k->Q (U j) s):wpAny (model P w) A (dictFind d u (eW w k)) Q E s:=by
 obtain⟨es,ep,he⟩:∃es ep,o.data=.dict es ep:=by let(_,_,_,_,es,ep,h,_):=c;show⟨es,ep,h⟩
 let(l1,l2,l3,ha):=c.at he;let(_,_,nd,al,es',ep',h,h1,h2,h3):=c;rw[he]at h;ext h;cases b with
 |false=>
  let at1:∀(i:Nat) (hi:i<es.size),∃k',ks[i]?=U k'/\Jq Y k'=V/\es[i].hash=eW w k'/\R m M k' es[i].key:=λi hi=>by
   let(g1,g2,_):=ha i;rw[NA hi]at g1 g2
   let hk':ks[i]?=U (ks[i]'()):=by simp
   let(v,e1,e2):=rk.get hk';rw[e1]at g2;rw[hk']at g1;simp at g1 g2;show⟨_,hk',(MH.mp al) _ (OH _),g1,by rw[g2];show e2⟩
  let ru:rP k u=V:=by rw[FE hk hk r];simp
  show wpAny_dictFind_of (knd:=k9) (k:=k) ru hd he (λe hin=>?_) ?_
  .let(i,hi,rfl):=Q5.mp hin
   let(k',_,z1,z2,z3):=at1 i hi;show⟨k',by change rP k' _=V;rw[FE z1 z1 z3];simp,z2⟩
  .let key:∀(i:Nat) (hi:i<es.size),rP k es[i].key=decide (ks[i]?=U k):=λi hi=>by
    let(k',z0,z1,z2,z3):=at1 i hi;rw[FE z1 hk z3,z0];simp
   cases q:es.findIdx? (λe=>rP k e.key)with
   |none=>
    change Q (es.findIdx? λe=>rP k e.key) s
    rw[q];show hn λz=>?_
    let(i,hi):=MV.mp z;let hl:i<es.size:=by rw[l1];show(L9.mp hi).1
    have:=(Array.findIdx?_eq_none_iff.mp q) es[i] (Array.getElem_mem hl)
    rw[key i hl,hi]at this;simp at this
   |some i=>
    change Q (es.findIdx? λe=>rP k e.key) s
    rw[q];let(hl,h5):=Array.findIdx?_eq_some_iff_getElem.mp q
    let h5:=h5.1;rw[key i hl]at h5;show hy i (of_decide_eq_true h5)
 |true=>
  let(xs,g1,g2,g3,g4):=ye H h1 h2 al rk;let rr:=r.key (λa o _ q _=>H.fm a o q) (n:=8) (fx hk)
  let hk8:=fx hk;obtain⟨a,rfl⟩:∃a,u=.ref a:=by ext k<;>simp[Jq]at hk;let(a,o',ws,rfl,_):=r;lia
  show wpAny_dictFind_heap (knd:=kw) (show kw.room A from hu) ⟨hk8,rr⟩ hd he g1 g4 (by rw[g2];show nd) (λz=>hn λy=>?_) λj p z=>hy j ?_
  .let(i,hi):=MV.mp y
   rw[<-g2,MO]at hi
   cases w:xs[i]? with
   |none=>simp_all
   |some x=>rw[w]at hi;injection hi with hi;show z i x.2 (by rw[w,<-hi])
  .rw[<-g2,MO,z];rfl
theorem hG {β:Type}:∀{ks:Z D}{xs:Z β},k∉ks->aP k ks xs=B
 |[],_,_=>rfl
 |_::_,[],_=>rfl
 |x::ks,y::xs,h=>by simp![MG,not_or]at h;ext aP;rw[o_ (MR h.1)];show hG h.2
theorem pt {β:Type}:∀{ks:Z D}{xs:Z β}{j:Nat},ks.Nodup->ks[j]?=U k->aP k ks xs=xs[j]?
 |[],_,_,_,h=>by simp at h
 |x::ks,[],j,_,h=>rfl
 |x::ks,y::xs,0,_,h=>by simp at h;simp[aP,h]
 |x::ks,y::xs,j+1,nd,h=>by
  ext aP;rw[o_ λ(z:x=k)=>(N0.mp nd).1 (z▸Mr h),pt (N0.mp nd).2 h];rfl
def FP (q:A.units+30<cLine) (H:Hm M s.heap) (hd:s.heap.get? d=U o) (c:DcO b o ks us vs) (y:Rs m M ks us) (g:Jq b k=V) (r:R m' M k u) (h:∀tk,Q (aP k ks vs) {s with toks:=tk}):wpAny (model P w) A (dictGet d u) Q E s:=by
 unfold dictGet
 try with_reducible show MQ ?_
 show or (ug 8 H (fx g) () r (or (Kn (s:={s with toks:=s.toks+eO k}) q H hd c y g r (λz=>?_) λj z=>?_)))
 .rw[hG z]at h;show Mf (h _)
 .let nd:=c.2.2.1
  let(_,_,_,_,es,p,v,_):=id c;show or (Pu (s:={s with toks:=s.toks+eO k}) hd v (Mf ?_))
  rw[((c.at v).2.2.2 j).2.2,<-pt nd z];show h _
theorem tj {β:Type}{v:β}:∀{ks:Z D}{xs:Z β}{j:Nat},ks.Nodup->ks[j]?=U k->ks.length=xs.length->cx k v ks xs=xs.set j v
 |[],_,_,_,h,_=>by simp at h
 |x::ks,[],j,_,h,e=>by simp at e
 |x::ks,y::xs,0,nd,h,e=>by
  simp at h;subst h;let no:∀{ks:Z D}{xs:Z β},x∉ks->ks.length=xs.length->cx x v ks xs=xs:=by
   intro ks
   induction ks with
   |nil=>intro xs _ e;ext xs<;>simp_all [cx]
   |cons z ks ih=>intro xs h e;cases xs with
    |nil=>simp at e
    |cons y xs=>simp![MG,not_or]at h;ext cx;rw[o_ (MR h.1),ih h.2 (by simpa using e)]
  ext cx;simp_all
 |x::ks,y::xs,j+1,nd,h,e=>by
  ext cx;rw[o_ λ(z:x=k)=>(N0.mp nd).1 (z▸Mr h),tj (N0.mp nd).2 h (by simpa using e)];rfl
def DcO.new (c:DcO b o ks us vs) (g:Jq b k=V) (hz:ks.length<sizeLine) (z:k∉ks) (j:o.data=.dict es ep):DcO b (o.mapDictKeys (·.push ⟨eW w k,u,v⟩)) (ks++[k]) (us++[u]) (vs++[v]):=by
 let(f,y,nd,al,t,d,h,r,p,q):=c;rw[j]at h;ext h;show⟨by simp;lia,y.mapDictKeys _,?_,by simp[al,g],_,_,Ru j _,by simp[r],by simp[p],by simp[q]⟩
 rw[NQ];grind
def DcO.old (c:DcO b o ks us vs) (hj:j<ks.length) (he:o.data=.dict es ep):DcO b (o.mapDict (·.modify j λe=>{e with val:=v})) ks us (vs.set j v):=by
 let(h1,h2,nd,al,es',ep',h,g1,g2,g3):=c;rw[he]at h;ext h;let l1:=p_ NS g1;simp![Ms,OZ]at l1;show⟨h1,h2.mapDict _,nd,al,_,_,Obj.data_mapDict he _,?_,?_,?_⟩<;>show PK λi=>?_<;>simp![MO,N8,Array.getElem?_modify,List.getElem?_set]
 .rw[<-MO,<-g1,MO,N8];split<;>cases es[i]?<;>rfl
 .rw[<-g2,MO,N8];split<;>cases es[i]?<;>rfl
 .rw[<-g3];simp![MO,N8,Ms,OZ]
  split
  .simp_all
  .rfl
def Bh (k:D) (u:Ml) (ks:Z D) (us:Z Ml):Z Ml:=if k∈ks then us else us++[u]
def BR (hu:A.units+30<cLine) (H:Hm M s.heap) (hd:s.heap.get? d=U o) (c:DcO b o ks us vs) (rk:Rs m M ks us) (hk:Jq b k=V) (r:R m' M k u) (hz:ks.length<sizeLine) (h:∀h' tk o',Nv d s.heap h'->h'.get? d=U o'->DcO b o' (aJ k ks) (Bh k u ks us) (cU k v ks vs)->Q q_ {s with heap:=h',toks:=tk}):wpAny (model P w) A (dictSet d u v) Q E s:=by
 unfold dictSet
 try with_reducible show MQ ?_
 show or (ug 8 H (fx hk) () r ?_)
 unfold dictSetHashed
 try with_reducible show MQ ?_
 let(_,_,nd,_,es,ep,he,_):=id c;let(l1,l2,l3,ha):=c.at he;show or (Kn (s:={s with toks:=s.toks+eO k}) hu H hd c rk hk r (λz=>?_) λj z=>?_)
 .show or (Oz (wpAny_updateDictKeys (hz:=⟨⟩) (s:={s with toks:=s.toks+eO k}) hd he (h _ _ _ (Nh ..) (Nf _ hd (RC (Ru he _))) ?_)))
  unfold aJ Bh cU;rw[o_ z,o_ z,o_ z];show c.new hk hz z he
 .let hm:=Mr z
  let hj:=(L9.mp z).1
  show or (Oz (or (wpAny_updateDict (s:={s with toks:=s.toks+eO k}) hd he (wpAny_point (h _ _ _ (Nh ..) (Nf _ hd (RC (Obj.data_mapDict he _))) ?_)))))
  unfold aJ Bh cU;rw[n_ hm,n_ hm,n_ hm,tj nd z ⟨⟩];show c.old hj he
def Ie (l:A.units+30<cLine) (H:Hm M s.heap) (hd:s.heap.get? d=U o) (c:DcO b o ks us vs) (f:Rs m M ks us) (q:Jq b k=V) (r:R m' M k u) (hz:k∉ks->ks.length<sizeLine) (h:∀x tk,aP k ks vs=U x->Q x {s with toks:=tk}) (e:∀p tk t,k∉ks->Nv d s.heap p->p.get? d=U t->DcO b t (aJ k ks) (Bh k u ks us) (cU k v ks vs)->Q v {s with heap:=p,toks:=tk}):wpAny (model P w) A (dictSetDefault d u v) Q E s:=by
 unfold dictSetDefault
 try with_reducible show MQ ?_
 let(_,_,nd,_,es,W,y,_):=id c;let(n,N,K,a):=c.at y;show or (ug 8 H (fx q) () r (or (Kn (s:={s with toks:=s.toks+eO k}) l H hd c f q r (λz=>?_) λj z=>?_)))
 .show or (Oz (or (wpAny_updateDictKeys (hz:=by have:=hz z;rfl') (s:={s with toks:=s.toks+eO k}) hd y (Mf (e _ _ _ z (Nh ..) (Nf _ hd (RC (Ru y _))) ?_)))))
  unfold aJ Bh cU;rw[o_ z,o_ z,o_ z];show c.new q (hz z) z y
 .let i:j<es.size:=by rw[n];show(L9.mp z).1
  show or (Pu (s:={s with toks:=s.toks+eO k}) hd y ?_)
  let g:=(a j).2.2;rw[NA i]at g⊢
  show or (Oz (Mf (h _ _ (by rw[pt nd z,<-g];rfl))))
end
def JE:D->G (Bool×Z D×Z D)
 |.dK ks vs=>U (Y,ks.map kD,vs)
 |.dD ks vs=>U (V,ks,vs)
 |_=>B
theorem Ks.rs:∀{ks us},Ks ks us↔Rs m M (ks.map kD) us
 |[],us=>QD
 |.inl i::ks,us=>⟨λ⟨t,r,e,h⟩=>⟨_,r,e,⟨t,rfl⟩,Ks.rs.mp h⟩,λ⟨v,r,e,⟨t,z⟩,h⟩=>⟨t,r,by rw[<-z];show e,Ks.rs.mpr h⟩⟩
 |.inr i::ks,us=>⟨λ⟨t,r,e,h⟩=>⟨_,r,e,⟨t,rfl⟩,Ks.rs.mp h⟩,λ⟨v,r,e,⟨t,z⟩,h⟩=>⟨t,r,by rw[<-z];show e,Ks.rs.mpr h⟩⟩
def R.dc (r:R m M d v) (h:JE d=U (b,ks,ds)):∃a o us vs,v=.ref a/\Rd m M a o/\DcO b o ks us vs/\Rs m M ks us/\Rs m M ds vs:=by
 ext d<;>ext h
 .let(a,o,us,vs,e,q,c,k,rs):=r;show⟨a,o,us,vs,e,q,c,Ks.rs.mp k,rs⟩
 .show r
def Cm.dc (r:Cm m M d o) (h:JE d=U (b,ks,ds)):∃us vs,DcO b o ks us vs/\Rs m M ks us/\Rs m M ds vs:=by
 ext d<;>ext h
 .let(us,vs,c,k,rs):=r;show⟨us,vs,c,Ks.rs.mp k,rs⟩
 .show r
theorem xT:∀{a b:J8},kD a=kD b->a=b
 |.inl _,.inl _,h=>by ext h;rfl
 |.inr _,.inr _,h=>by ext h;rfl
theorem pW {β:Type}:∀{ks:Z J8}{ds:Z β},aP (kD kk) (ks.map kD) ds=aP kk ks ds
 |[],_=>rfl
 |_::_,[]=>rfl
 |x::ks,d::ds=>by
  simp![Mx,aP,pW]
  by_cases h:x=kk
  .rfl'
  .rw[o_ h,o_ λz=>h (xT z)]
def tQ {ks:Z J8}:kD kk∈ks.map kD↔kk∈ks:=by
 rw[MC];show⟨λ⟨x,h,e⟩=>xT e▸h,λh=>⟨kk,h,rfl⟩⟩
def kE {β:Type}{v:β}{ks:Z J8}{ds:Z β}:cU (kD kk) v (ks.map kD) ds=cU kk v ks ds:=by
 let g:∀{ks:Z J8}{ds:Z β},cx (kD kk) v (ks.map kD) ds=cx kk v ks ds:=by
  intro ks
  induction ks with
  |nil=>intro ds;rfl
  |cons x ks ih=>intro ds;cases ds with
   |nil=>rfl
   |cons d ds=>
    simp![Mx,cx,ih]
    by_cases h:x=kk
    .rw[n_ h,n_ (by rw[h])]
    .rw[o_ h,o_ λz=>h (xT z)]
 ext cU;rw[g]
 by_cases h:kk∈ks
 .rw[n_ h,n_ (tQ.mpr h)]
 .rw[o_ h,o_ λz=>h (tQ.mp z)]
def gv {ks:Z J8}:aJ (kD kk) (ks.map kD)=(aJ kk ks).map kD:=by
 ext aJ
 by_cases h:kk∈ks
 .rw[n_ h,n_ (tQ.mpr h)]
 .rw[o_ h,o_ λz=>h (tQ.mp z),Mu];rfl
def iy (h:tG d=U kk):d=kD kk/\Jq Y d=V:=by ext d<;>ext h<;>show⟨rfl,rfl⟩
def rJ (h:(fU 8 d&&yU d)=V):Jq V d=V:=by ext d<;>simp_all [yU,Jq]
nonrec theorem bR (h:j9 x y=U o):∃d k b ks ds,x=U d/\y=U k/\JE d=U (b,ks,ds)/\Jq b k=V/\o=aP k ks ds:=by
 unfold j9 at h;split at h
 .split at h<;>ext h
  rename_i kk j;let(rfl,j):=iy j;show⟨_,_,_,_,_,rfl,rfl,rfl,j,pW.symm⟩
 .split at h<;>ext h
  show⟨_,_,_,_,_,rfl,rfl,rfl,rJ (by assumption),rfl⟩
 .ext h
nonrec theorem cT (h:kT x k v=U y):∃b ks ds,JE x=U (b,ks,ds)/\Jq b k=V/\ks.length<LZ/\JE y=U (b,aJ k ks,cU k v ks ds)/\∀{m M o us vs},DcO b o (aJ k ks) us vs->Rs m M (aJ k ks) us->Rs m M (cU k v ks ds) vs->Cm m M y o:=by
 unfold kT at h;split at h
 .split at h<;>try cases h
  split at h<;>ext h
  rename_i kk z p;let(rfl,z):=iy z;show⟨_,_,_,rfl,z,by simpa using p,by rw[gv,kE];rfl,λ{m M o us vs} u g j=>?_⟩
  rw[gv]at u g;rw[kE]at j;show⟨us,vs,u,Ks.rs.mpr g,j⟩
 .split at h<;>ext h
  rename_i q;rw[Mo,decide_eq_true_iff]at q;show⟨_,_,_,rfl,rJ q.1,q.2,rfl,λ{m M o us vs} u g j=>⟨us,vs,u,g,j⟩⟩
 .ext h
theorem fu:∀{ks:Z D}{ds:Z D}{vs},Rs m M ds vs->(aP k ks ds=B->aP k ks vs=B)/\∀d,aP k ks ds=U d->∃v,aP k ks vs=U v/\R m M d v
 |[],_,_,_=>⟨λ_=>rfl,λ_ h=>nomatch h⟩
 |x::ks,[],_,r=>by ext r;show⟨λ_=>rfl,λ_ h=>nomatch h⟩
 |x::ks,d::ds,_,⟨v,r,e,g,j⟩=>by
  subst e;ext aP
  by_cases h:x=k
  .simp_all
  .rw[o_ h,o_ h];show fu j
def ji {ks ds:Z D}{vs:Z Ml}(r:Rs m M ds vs) (h:R m M d v):Rs m M (cU k d ks ds) (cU k v ks vs):=by
 let g:∀{ks ds:Z D}{vs:Z Ml},Rs m M ds vs->Rs m M (cx k d ks ds) (cx k v ks vs):=by
  intro ks
  induction ks with
  |nil=>intro ds vs _;rfl
  |cons x ks ih=>intro ds vs r;cases ds with
   |nil=>ext r;rfl
   |cons e ds=>
    let(u,t,rfl,h1,h2):=r;show⟨_,_,rfl,?_,ih h2⟩
    split
    .show h
    .show h1
 ext cU;split
 .show g r
 .show r.append (.one h)
def hZ {ks:Z D}{us:Z Ml}(r:Rs m M ks us) (h:R m M k u):Rs m M (aJ k ks) (Bh k u ks us):=by
 unfold aJ Bh;split
 .show r
 .show r.append (.one h)
section
variable{X:Cx}{M M':Mp}{O:DEnv}{s:Mn}{Q:Ml->Mn->Prop}{a b c:Expr}{fa fb fc:DEnv->G D}{m m' mm bb:Bool}{p px pos pos' apos cpos:Q6}
def Inv.nsys (I:Inv X M O s) (q:Rd m M d o):(d==sysModules)=Y:=by
 let(k,e,h):=q;rw[beq_eq_false_iff_ne];rintro rfl;obtain rfl:=I.sys _ _ e;ext h
def DcO.ty (c:DcO bb o ks us vs) (e:s.heap.get? d=U o):s.TypeIs (.ref d) "dict":=⟨o,e,c.2.1.1⟩
def Rd.heap (q:Rd m M d o) (H:Hm M s.heap):s.heap.get? d=U o:=by let(k,e,_):=q;show H _ _ _ e
nonrec theorem EF (w:DE X m a fa) (y:DE X m' b fb):DE X m (.Subscript a b pos) (λO=>ix (fa O) (fb O)):=⟨rfl,λ{M O s d Q} I e k=>by
 unfold ix at e;split at e<;>ext e
 rename_i q;let(d1,S,b1,ks,ds,N,K,h,x,i):=bR q;show P9 (w.ev I N λv R M1 z W t=>y.ev W K λu T C g j r=>?_)
 let(l,o,us,vs,rfl,q,c,p,rs):=(t.up g).dc h;let ho:=q.heap j.heap;let un:=j.un;let(v,n,f):=(fu rs).2 _ i.symm;show Sr (c.ty ho) slot_dict_getitem.lookup ?_ (nI y.pl)
 unfold getItem
 try with_reducible show MQ ?_
 show or (QT (c.ty ho) ∅ ?_)
 show or (NK (name:=Nq "__getitem__") (c.ty ho) QW (MT QW (c.ty ho) entry_dict_getitem ?_ (args_dict_getitem _ _)))
 change wpAny _ _ (dictGet l u >>= _) _ _ _;show or (FP (show X.A.units+1+30<cLine by lia) j.heap ho c p x r λtk=>?_)
 rw[n];show Mf ⟨v,rfl,Mf (k _ _ _ (z.trans g) j.tok f)⟩⟩
theorem wL (i:DE X m a fa) (r:DE X m' b fb):DT X (.Compare a [.NotIn] [b] pos) (λO=>a7 (pw (fa O) (fb O))):=λ{M O s c Q} I e k=>by
 unfold pw at e;cases q:j9 (fb O) (fa O)with
 |none=>simp[q,a7]at e
 |some og=>
  simp![q,a7]at e;ext e;let(d1,p,b1,ks,ds,C,S,R,T,W):=bR q;show Pq (i.ev I S λu E M1 w F n=>r.ev F C λv P H g j f=>?_) (oB r.pl)
  let(l,o,us,vs,rfl,q,c,d,rs):=f.dc R;let ho:=q.heap j.heap;let un:=j.un;let x:=j.nsys q;show or ?_
  unfold contains
  try with_reducible show MQ ?_
  show or (OX (c.ty ho) slot_dict_contains.lookup ?_)
  show or (Si (name:=Nq "__contains__") (c.ty ho) QG (MT QG (c.ty ho) entry_dict_contains ?_ (args_dict_contains _ _)))
  change wpAny _ _ (dictGet l u >>= _) _ _ _;show or (FP (show X.A.units+1+30<cLine by lia) j.heap ho c d T (n.up g) λtk=>?_)
  let fin:=k _ _ (w.trans g) (j.tok (t:=tk));subst W;let(N,K):=fu (k:=p) (ks:=ks) rs;cases z:aP p ks ds with
  |none=>
   rw[N z];rw[z]at fin;show or (wpAny_pendingKey_other x (Mf ⟨_,rfl,Ng (Mf (Ng fin))⟩))
  |some y=>
   let(v,h,_):=K y z;rw[h];rw[z]at fin;show Mf ⟨_,rfl,Ng (Mf (Ng fin))⟩
nonrec theorem BN (T:DE X m a fa) (W:DE X m b fb) (N:DE X m c fc) (l:(apos.endLine==cpos.line)=V):DE X m (.Call (.Attribute a "get" apos) [b,c] [] cpos) (λO=>bd (fa O) (fb O) (fc O)):=⟨rfl,λ{M O s d Q} I e k=>by
 unfold bd at e;split at e<;>ext e
 rename_i og z K h;let(d1,g,b1,ks,ds,e1,e2,t,L,D):=bR K;show yd PA SU PySem.F.type_dict_get l T (b9 W (b9 N fZ)) (by simp) I e1 (ds:=[g,z]) (by rw[e2,h];rfl) (λH r=>?_) λv ws s1 M1 p j x i=>?_
 .let(l,o,us,vs,rfl,q,c,_):=r.dc t
  show⟨c.ty (q.heap H),λb e=>by ext e;show⟨o,q.heap H,c.2.1.2.1⟩⟩
 .let(u,v2,rfl,n,f):=i.is2
  let(l,o,us,vs,rfl,q,c,w,rs):=x.dc t;let ho:=q.heap j.heap;let un:=j.un;let R:=j.nsys q;show MT SU (c.ty ho) PySem.F.entry_dict_get ?_ (PySem.F.args_dict_get_3 _ _ _)
  change wpAny _ _ (dictGet l u >>= _) _ _ _;show or (FP (show X.A.units+1+30<cLine by lia) j.heap ho c w L n λtk=>?_)
  subst D;let(E,P):=fu (k:=g) (ks:=ks) rs;cases z:aP g ks ds with
  |none=>
   rw[E z];rw[z]at k;show or (wpAny_missed_other R (Mf ⟨_,rfl,k _ _ _ p j.tok f⟩))
  |some y=>
   let(v,C,S):=P y z;rw[C];rw[z]at k;show Mf ⟨_,rfl,k _ _ _ p j.tok S⟩⟩
def mZ:DcO bb {cls:=.type "dict",data:=.dict #[]} [] [] []:=⟨Nw _,⟨rfl,rfl,rfl⟩,Nr,rfl,#[],_,rfl,rfl,rfl,rfl⟩
def AN:DF X (.Dict [] [] pos) (λ_=>U (.dK [] [])):=⟨rfl,λI e k=>by
 ext e;show wpAny_Dict_empty (k _ _ _ _ Ext.refl I.push (I.fresh (Mj _)) (Mm _ rfl) ⟨[],[],mZ,rfl,rfl⟩)⟩
def AE:DF X (.Dict [] [] pos) (λ_=>U (.dD [] [])):=⟨rfl,λI e k=>by
 ext e;show wpAny_Dict_empty (k _ _ _ _ Ext.refl I.push (I.fresh (Mj _)) (Mm _ rfl) ⟨[],[],mZ,rfl,rfl⟩)⟩
end
structure DX (X:Cx) (e:Expr) (f:DEnv->G (D×DEnv)):Prop where
 pl:Jw e=V
 ev:∀{M O s d δ'} {Q:Ml->Mn->Prop},Inv X M O s->f O=U (d,δ')->(∀v s' M',Sx M M'->Inv X M' δ' s'->R Y M' d v->Q v s')->WP X (eval e X.env) Q s
section
variable{X:Cx}{M M':Mp}{O:DEnv}{s:Mn}{a b c:Expr}{fa fb fc:DEnv->G D}{m m' mm bb:Bool}{p px pos pos' apos cpos:Q6}{g1 g2:DEnv->G Out}
def uX (c:DcO bb o ks us vs):Ow o:=by let(_,k,_,_,es,g,j,_):=c;show⟨by rw[k.1];simp,λ_ z=>()⟩
theorem R.keyF (I:Inv X M O s) (h:fU 8 k=V) (r:R m M k u):R Y M k u:=r.key (λa o vs ⟨kk,e,q⟩ t=>by
 cases kk with
 |f=>show KR.mpr e
 |p=>ext q
 |_=>show absurd t.2.1 (I.own _ _ _ e rfl).1) h
def Inv.dput {tk:Nat}{a:MM}(I:Inv X M O s) (h:Nm X i x) (nd:X.N.Nodup) (e:O[i]?=U (U (d,V))) (q:M a=U (.o i,o)) (sb:Nv a s.heap k) (g:k.get? a=U o') (dc:DcO bb o' ks us vs) (c:C M y o'):∃M',Inv X M' (O.set i (U (y,V))) {s with heap:=k,toks:=tk}/\Sx M M':=by
 let(v,u,j):=I.chg (s':={s with heap:=k,toks:=tk}) e h.n q (λb ob z w=>(sb.2 b z).trans w) g (uX dc) c
 show⟨_,v,u,λa o=>(j a o).mp,λa o=>(j a o).mpr⟩
nonrec theorem Db (h:Nm X i x) (nd:X.N.Nodup) (E:DE X m b fb) (P:DE X Y c fc) (hs:swapsWith c (U (.Subscript (.Name x px) b pos')) pos.line X.env=pure Y):DS X (.Assign [.Subscript (.Name x px) b pos'] c pos) (λO=>nS i (fb O) (fc O) O):=λ{M O s o Q} I e k=>by
 unfold nS at e;dsimp only at e;split at e<;>try cases e
 split at e<;>ext e
 rename_i d kd vd F C S _ y R;let n:=bO F;let(b1,ks,ds,D,a,e5,_,H):=cT R;show wpAny_Assign_Subscript (P.ev I S λr s1 M1 W K T=>Py (K.load h n λv z=>E.ev K C λu s2 L p j f=>?_) h.d) hs
 let(l,o,rfl,q,c):=z;let q:L l=U (.o i,o):=by rcases p.e l with w|w;rw[w,q];rw[w.1]at q;ext q
 let c:=c.to p.sub;let(us,vs,c,t,rs):=c.dc D;let ho:=j.heap _ _ _ q;let un:=j.un;let hl:=aG (Mj LZ);unfold setItem
 try with_reducible show MQ ?_
 show or (QT (c.ty ho) ∅ ?_)
 show or (NK (name:=Nq "__setitem__") (c.ty ho) QV (MT QV (c.ty ho) entry_dict_setitem ?_ (args_dict_setitem _ _ _)))
 show or (NY (c.ty ho) ?_)
 change wpAny _ _ (dictSet l u r >>= _) _ _ _;show or (BR (show X.A.units+1+30<cLine by lia) j.heap ho c t a f () λh' tk o' sb g dc=>?_)
 let(M3,I3,x3):=j.dput (tk:=tk) h nd n q sb g dc (H dc (hZ t (f.keyF j (fx a))) (ji rs (T.up p)));show Mf ⟨.none,rfl,Mf (k _ _ ((W.trans p).sx.trans x3) I3)⟩
def gY (h:JE d=U (bb,ks,ds)) (c:C M d o):o.cls=.type "dict"/\o.dict=B:=by let(_,_,c,_):=c.dc h;show⟨c.2.1.1,c.2.1.2.1⟩
end
section
variable{prog:Ol}{w:O0}{A:Nl}{E:Ml->Mn->Prop}{s:Mn}
def kU {es:Array OB}(hd:(d==sysModules)=Y) (ho:s.heap.get? d=U o) (g:o.ExactDict) (k:o.data=.dict es j) (u:Q (.ref s.heap.objs.size) {s with heap:=s.heap.push {cls:=.type "dict_keyiterator",data:=.fields #[.ref d,.int 0 0,.int es.size 0,.int j 0]}}):wpAny (model prog w) A (pyIter (.ref d)) Q E s:=by
 let ty:s.TypeIs (.ref d) "dict":=⟨o,ho,g.1⟩;show Sp ty F.slot_dict_iter (MT F.slot_dict_iter ty F.entry_dict_iter ?_ (F.args_dict_iter_1 _))
 show or ?_
 show or (NY ty (Mf ?_))
 change wpAny _ _ (PD d >>= _) _ E s;unfold PD;rw[o_ ⟨⟩]
 show or (Mf (or (Pu ho k (or (Ry ho k (or (NM (Mf ⟨_,rfl,"dict_keyiterator",_,⟨_,Mm _ rfl,rfl⟩,Qi.lookup,?_⟩))))))))
 assumption
def eG {es:Array OB}(t:A.handled=B) (k:s.heap.IsKeyIter it d i es.size q) (ho:s.heap.get? d=U o) (j:o.data=.dict es q) (item:∀e,es[i]?=U e->∀g,g.IsKeyIter it d (i+1) es.size q->Nv it s.heap g->Q (U e.key) {s with heap:=g}) (u:es[i]?=B->∀g,PH it s.heap g->Q B {s with heap:=g}):wpAny (model prog w) A (pyNext (.ref it)) Q E s:=by
 let(f,z,c,y):=id k;show or (PJ (NK (name:=Nq "__next__") k.typeIs Qi (MT Qi k.typeIs F.entry_dict_keyiterator_next ?_ (F.args_dict_keyiterator_next_1 _))))
 show or (Mf (or (or ?_)))
 first|show or (Qg k.typeIs (Mf ?_))|show or (Q0 k.typeIs (Mf ?_))
 show or (wpAny_fieldsOf z y ?_)
 show or (Mf (or (Pu ho j ?_)))
 rw[o_ (by simp)]
 show or (Mf (or (Ry ho j ?_)))
 rw[o_ (by simp)]
 show Mf ?_
 by_cases p:i<es.size
 .let v:=NA p
  simp![show ¬((i:Int)<0) from ⟨⟩,if_false,OV,v]
  show or ?_
  first|show or (Qg k.typeIs (Mf ?_))|show or (Q0 k.typeIs (Mf ?_))
  show or (wpAny_isOneOf_keyiter k.typeIs ?_)
  change wpAny _ _ (setField (.ref it) 1 (rawInt ((i:Int)+1)) >>= _) _ _ s;let r:(s.heap.update it (N2 (·.setIfInBounds 1 (rawInt ((i:Int)+1))))).IsKeyIter it d (i+1) es.size q:=⟨_,Nf _ z (Pk (OM y _)),(RT ..).trans c,by rw[OM y];rfl⟩
  show or (PR z y (by simp) (or (MQ (or (wpAny_isOneOf_keyiter (s:={s with heap:=s.heap.update it (N2 (·.setIfInBounds 1 (rawInt ((i:Int)+1))))}) r.typeIs ?_)))))
  show Mf (Mf ⟨_,rfl,Mf (item _ v _ r (Nh ..))⟩)
 .let v:es[i]?=B:=N3 ⟨⟩
  simp![show ¬((i:Int)<0) from ⟨⟩,if_false,OV,v]
  show or ?_
  first|show or (Qg k.typeIs (Mf ?_))|show or (Q0 k.typeIs (Mf ?_))
  change wpAny _ _ (setField (.ref it) 0 .none >>= _) _ _ s;show or (PR z y (by simp) ?_)
  show or (or (NM ?_ (by size_fits)))
  show or (m:=firstArgMember _ _) (RH (a:=OI) (by rfl) (NM ?_ (by size_fits)))
  show or (wpAny_handled ?_)
  rw[show A.in1.handled=B from t]
  show or (Mf (wpAny_throw ?_))
  show or (O6 (T:="StopIteration") (b:=V) ⟨_,Mm _ rfl,rfl⟩ RI ?_)
  show Mf (u v _ (((Nh ..).extBut.push _).push _))
def u8 (r:A.handled=B) (I d:MM) (y:d≠I) {es:Array OB}(k:o.data=.dict es c):
  Walks prog w A I [I,d] [I] es.size (λi v=>∃e,es[i]?=U e/\v=e.key) (λi h=>h.IsKeyIter I d i es.size c/\h.get? d=U o) where
 sub:=λb g=>by simp_all
 frame:=λ_ _ _ st p=>⟨st.1.at λo e=>p I (by simp) o e,p d (by simp) _ st.2⟩
 item:=λi s Q E hi st j=>eG r st.1 st.2 k (λe t q u sb=>j _ q s.toks ⟨e,t,rfl⟩ ⟨u,(sb.2 d y).trans st.2⟩ λb o g e=>(sb.2 b (λz=>g (by simp[z]))).trans e) λm=>by
  simp_all
 done:=λs Q E st j=>eG r st.1 st.2 k (λe t=>by simp_all) λ_ q f=>j q s.toks λb o g e=>f b o (λz=>g (by simp[z])) e
 self:=λ_ _ _ _ st j=>RG st.1 j
def kS {R:R8->Mn->Prop}(P:A.handled=B) {es:Array OB}(hd:(d==sysModules)=Y) (ho:s.heap.get? d=U o) (K:o.ExactDict) (g:o.data=.dict es z) (I:es.size<=sizeLine) (res:Ml) (C:s.heap.get? S=U {cls:=.type "list",data:=.seq #[] u}) (Q:∀T tk k q,(∀b o,b≠S->s.heap.get? b=U o->T.get? b=U o)->T.get? S=U {cls:=.type "list",dict:=B,data:=.seq k q,slots:=#[]}->SC (λi v=>∃e,es[i]?=U e/\v=e.key) k es.size->R (.ok (.ret res)) {s with heap:=T,toks:=tk}):
  wpAny (model prog w) A.in1 (RF (.ref S) (.ref d) res)
   (λfin s'=>match fin with|.done f=>R (.ok f) s'|.again q=>q.quiet=V/\codeAny (model prog w) A q R s') (λe s'=>R (.error e) s') s:=by
 let ty:s.TypeIs (.ref d) "dict":=⟨o,ho,K.1⟩;let p:S≠d:=λe=>⟨⟩
 let a:=MU (MD C);let l:=MU (MD ho);let x:S∉[s.heap.objs.size,d]:=λh=>by
  simp_all
 show or (Pi ty ?_)
 simp![show Pn (.ref S) (.ref d)=Y by simp[Pn,p],show(Oo "dict"==Oo "list")=Y by decide,show(Oo "dict"==Oo "tuple")=Y by decide,Bool.or_false,MZ,if_false]
 show or (kU hd ho K g (or (MQ ?_)))
 let r:(s.heap.push {cls:=.type "dict_keyiterator",data:=.fields #[.ref d,.int 0 0,.int es.size 0,.int z 0]}).get? d=U o:=Mg _ ho
 let y:Ov {s with heap:=s.heap.push {cls:=.type "dict_keyiterator",data:=.fields #[.ref d,.int 0 0,.int es.size 0,.int z 0]}} (.ref d) "dict":=⟨o,r,K.1⟩
 show or (OX y F.slot_dict_len.lookup ?_)
 show or (O6 y (b:=V) (by rfl) ?_)
 show or (Pi y (Mf ?_))
 let n:(s.heap.push {cls:=.type "dict_keyiterator",data:=.fields #[.ref d,.int 0 0,.int es.size 0,.int z 0]}).get? S=U {cls:=.type "list",data:=.seq #[] u}:=Mg _ C
 show or (Oz (or ?_))
 let m:=Nf (Na (·.push OI)) n rfl
 show or (Po n rfl (Po (hz:=by seq_fits) m rfl ?_))
 let N:=Nf (Na (·.pop)) m rfl
 let oth:∀b o,b≠S->(s.heap.push {cls:=.type "dict_keyiterator",data:=.fields #[.ref d,.int 0 0,.int es.size 0,.int z 0]}).get? b=U o->(((s.heap.push {cls:=.type "dict_keyiterator",data:=.fields #[.ref d,.int 0 0,.int es.size 0,.int z 0]}).update S (Na (·.push OI))).update S (Na (·.pop))).get? b=U o:=
  λb o t e=>(Nn _ _ (MR t)).trans ((Nn _ _ (MR t)).trans e)
 show Mf ⟨Oh F.plain_extend_loop _,codeAny_extend_loopS (u8 (A:=A.in1) (show A.in1.handled=B from P) s.heap.objs.size d l g).toS I _ x _ es.size 0 _ _ _ rfl (Nw _) ⟨⟨_,oth _ _ (MR a) (Mm _ rfl),rfl,rfl⟩,oth _ _ (MR p) r⟩ N (ItemsOf.nil _) λs' k q h W c=>?_⟩
 rw[Moved.eq_with h];show Q s'.heap s'.toks k q (λb ob t e=>h.heap b ob (λj=>?_) (oth b ob t (Mg _ e))) W c
 rcases MG.mp j with E|j
 .show t E
 .rw[My.mp j]at e;show absurd (MD e) (PB _)
def iw {Q:Ml->Mn->Prop}(m:A.handled=B) {es:Array OB}(hd:(d==sysModules)=Y) (ho:s.heap.get? d=U o) (n:o.ExactDict) (u:o.data=.dict es x) (c:es.size<=sizeLine) (l:∀z tk k t,(∀b o,s.heap.get? b=U o->z.get? b=U o)->z.get? s.heap.objs.size=U {cls:=.type "list",dict:=B,data:=.seq k t,slots:=#[]}->SC (λi v=>∃e,es[i]?=U e/\v=e.key) k es.size->Q (.ref s.heap.objs.size) {s with heap:=z,toks:=tk}):
  wpAny (model prog w) A (call (.type "list") [.ref d]) Q E s:=by
 show QH (Q₁:=λobj j=>obj=.ref s.heap.objs.size/\j={s with heap:=s.heap.push {cls:=.type "list",data:=.seq #[]}}) F.called_list (F.typeCall_list_1 _) F.entry_list_init (code_list_new _ ⟨rfl,rfl⟩) λobj j g=>?_
 let(rfl,rfl):=g;let q:(s.heap.push {cls:=.type "list",data:=.seq #[]}).get? s.heap.objs.size=U {cls:=.type "list",data:=.seq #[]}:=Mm _ rfl
 show⟨⟨_,q,rfl⟩,F.args_list_init_2 _ _,?_⟩
 show or ?_
 show or (Ot q rfl (Mf ?_))
 let p:=Nf (Na (λ_=>(#[]:Array Ml))) q rfl
 let up:∀b ob,s.heap.get? b=U ob->((s.heap.push {cls:=.type "list",data:=.seq #[]}).update s.heap.objs.size (Na (λ_=>(#[]:Array Ml)))).get? b=U ob:=λb ob e=>(Nn _ _ (MR (MU (MD e)))).trans (Mg _ e)
 show or (Po q rfl (or (Pg ?_)))
 show kS (A:=A.in1) m hd (up d o ho) n u c .none p λz tk k t f r y=>⟨rfl,l z tk k t (λb ob e=>f b ob (MU (MD e)) (up b ob e)) r y⟩
end
open PySem.W in
section
open PySem.W
def bi:entryFor table "dict.update.loop"=U Ou.«dict.update.loop»:=entryFor_of_tree (by kernel_rfl)
def bq:plainId "dict.update.loop"=V:=by decide +kernel
def xN:typeLookup (.type "list") "keys"=pure B:=by rfl
def xg {prog:Ol}{xs:Array Ml}(z:s.heap.get? a=U o) (q:o.cls=.type "list") (j:o.data=.seq xs k) (hd:o.dict=B) (f:A.handled=B) (h:∀y tk,(∀b o,s.heap.get? b=U o->y.get? b=U o)->Q B {s with heap:=y,toks:=tk}):wpAny (model prog w) A (getAttr? (.ref a) "keys") Q E s:=by
 let(c,m,dat,r):=o;simp only at q j hd;subst q j hd;let(t,g,d,tk,os):=s;let p:∀u,(⟨t,g,d,u,os⟩:Mn).TypeIs (.ref a) "list":=λ_=>⟨_,z,rfl⟩
 let N:=sub_AttributeError;let K:=QS.lookup;let x:=QS.bind (.ref a);let i:=am_list_getattr_none;unfold getAttr? getAttrBy? getAttrBy
 repeat (any_goals (first|assumption|show p _|((with_reducible change wpAny _ _ (call (Value.builtin "list.__getattribute__") _ _) _ _ _);show Pj QS (p _) am_entry_list_getattribute (F.args_list_getattribute_2 _ _) (meets_getattribute_miss_list a xs k r _ _ xN ∅ ∅) ⟨z,f,λy u e v=>?_⟩)|wp_step))
 let(t',n,l):=v.there;change wpAny _ _ (getattributeRaised _ _ _ _ _ _ _) _ _ _;unfold getattributeRaised
 repeat (any_goals (first|assumption|wp_step))
 show h _ _ v.keeps
end
section
variable{X:Cx}{M M':Mp}{O:DEnv}{s:Mn}{tg a:Expr}{fa:DEnv->G D}{m m' bb:Bool}{p pos:Q6}
def xR (hh:A.handled=B) (q:Rd m M c o) (dc:DcO bb o ks us vs) (he:o.data=.dict es ep) (rk:Rs m M ks us):BV A tg m M ks [it] it (λi h=>h.IsKeyIter it c i es.size ep) where
 ex:=λ⟨o,e,_⟩ b hb=>by
   obtain rfl:b=it:=by simpa using hb
   show⟨o,e⟩
 keep:=λst k=>st.at λo e=>k it (by simp) o e
 item:=λ{i s d} st h e=>by
  let(l1,l2,l3,ha):=dc.at he;let(u,h1,h2):=rk.get e;show eG hh st (h _ _ q) he (λen hen h' st' sb=>?_) λhn=>?_
  .have:=(ha i).2.1
   rw[hen,h1]at this;injection this with this;subst this
   let(o,e,c,d):=id st';show⟨_,rfl,vn (s:={s with heap:=h'}) e c d ∅ ⟨iG (t:=s.toks) sb,st',.inl h2⟩⟩
  .have:=(ha i).2.1;rw[hn,h1]at this;ext this
 done:=λ{s} st h=>by
  let(l1,l2,l3,ha):=dc.at he;show eG hh st (h _ _ q) he (λen hen=>by rw[N3 ⟨⟩]at hen;ext hen) λhn h' eb=>⟨rfl,gR eb⟩
 self:=λst h=>RG st h
def pe {us:Z Ml}{acc:Array Ml}{P:Nat->Ml->Prop}(h:SC P acc us.length) (k:∀i v,P i v->us[i]?=U v):acc=us.toArray:=by
 show Array.ext_getElem? λi=>?_
 by_cases hi:i<acc.size
 .rw[NA hi,Ph,k i _ (h.2 i _ (NA hi))]
 .have:=h.1;rw[N3 ⟨⟩,N3 (by simp;rfl')]
def rN (h:xy d=U (k,v)):d=.tup [k,v]/\Jq V k=V:=by
 unfold xy at h;split at h<;>try cases h
 split at h<;>ext h
 show⟨rfl,rJ (by assumption)⟩
nonrec theorem u9 (hu:A.units+40<cLine) (hh:A.handled=B) (ql:Rd Y M l ol) (tl:LstO ol ws) (rl:Rs Y M dsl ws) (hne:it≠d) (fd:Free X M d) (fi:Free X M it):
  ∀(n i:Nat) (t:Tok) (s:Mn) (o:QY) (ks ds:Z D) (us vs:Z Ml) (ps:Z (D×D)),i+n=dsl.length->jo (dsl.drop i)=U ps->Inv X M O s->s.heap.get? d=U o->DcO V o ks us vs->Rs Y M ks us->Rs Y M ds vs->ks.length+n<LZ->s.heap.IsListIter it l i->
   (∀s' o' us' vs',Inv X M O s'->s'.heap.get? d=U o'->DcO V o' (oH ks ds ps).1 us' vs'->Rs Y M (oH ks ds ps).1 us'->Rs Y M (oH ks ds ps).2 vs'->R' (.ok (.ret .none)) s')->
   codeAny (model P w) A (.builtin "dict.update.loop" ⟨[.ref d,.ref it,.int i t,.none],[]⟩) R' s:=by
 intro n
 induction n with
 |zero=>
  intro i t s o ks ds us vs ps hi hp I hd dc rk rs hl st hR;show Oj bi ?_
  show or (PY hh st (tl.is I.heap ql) (by have:=rl.length;simp;rfl') λh' eb=>?_)
  rw[Tc ⟨⟩]at hp;ext hp
  show or (Mf (Mf (hR _ _ _ _ (I.ch (gR eb) (λb hb=>by rw[My.mp hb];show fi)) (eb _ _ (MR hne) hd) dc rk rs)))
 |succ n ih=>
  intro i t s o ks ds us vs ps hi hp I hd dc rk rs hl st hR;show Oj bi ?_
  let hip:i<dsl.length:=()
  rw[N5 hip]at hp;simp![jo]at hp;split at hp<;>ext hp
  rename_i pp ps' q1 q2;let(pk,pv):=pp;let(ed,hk):=rN q1;let(u,hu1,ru):=rl.get (i:=i) (d:=dsl[i]) (by simp[hip])
  show or (PS st (tl.is I.heap ql) (x:=u) (by simpa using hu1) λh' st' sb=>?_)
  let I1:Inv X M O {s with heap:=h'}:=I.ch (iG (t:=s.toks) sb) λb hb=>by rw[My.mp hb];show fi
  rw[ed]at ru;let(b,to,tis,rfl,tq,tt,rr):=ru;let(ku,vu,rfl,rk1,rv1):=rr.is2;let(to,tg,tc,tn,td):=tt.is I1.heap tq;show or (MQ (or (OO ?_)))
  show or (Pi (show Ov {s with heap:=h'} (.ref b) "tuple" from⟨_,tg,tc⟩) ?_)
  show or (or (Rm tg ?_))
  rw[td];show Mf (Mf ?_)
  let hlim:=aG (Mj LZ);show MQ (BR (s:={s with heap:=h'}) (show A.units+1+30<cLine by lia) I1.heap ((sb.2 d (MR hne)).trans hd) dc rk hk rk1 () λh2 tk o2 hs2 g2 dc2=>?_)
  show Mf ⟨Oh bq _,?_⟩
  let hlen:(aJ pk ks).length<=ks.length+1:=by ext aJ;split<;>simp
  show ih (i+1) 0 _ o2 (aJ pk ks) (cU pk pv ks ds) _ _ ps' () q2 (I1.wr (s':={s with heap:=h2,toks:=tk}) [d] (λb hb=>by rw[My.mp hb];show fd) λb o hb e=>(hs2.2 b (λz=>hb (by simp[z]))).trans e) g2 dc2 (hZ rk rk1) (ji rs rv1) () ?_ hR
  let(o,ho,hc,hd'):=st';show⟨o,(hs2.2 it hne).trans ho,hc,hd'⟩
nonrec theorem yW (g:Bn X "dict") (H:DE X Y a fa):DF X (.Call (.Name "dict" p) [a] [] pos) (λO=>m8 (fa O)):=⟨rfl,λ{M O s d Q} I e k=>by
 unfold m8 at e;split at e<;>try cases e
 split at e<;>try cases e
 split at e<;>ext e
 rename_i ds P _ ps C E;show cZ g (by rfl:bootBuiltins "dict"=U (.type "dict")) H I P λv j M1 S K r=>?_
 let(l,ol,ws,rfl,m,tl,rl):=r;let N:=I.ok.room.hd;let un:=K.un;show QH (Q₁:=λobj u=>obj=.ref j.heap.objs.size/\u={j with heap:=j.heap.push {cls:=.type "dict",data:=.dict #[]}}) SD (RE _) Sf (SK _ ⟨rfl,rfl⟩) ?_
 rintro obj u ⟨rfl,rfl⟩
 let T:=K.fresh (Mj _);let R:Inv X M1 O {j with heap:=j.heap.push {cls:=.type "dict",data:=.dict #[]}}:=K.push (t:=j.toks)
 let W:Ov {j with heap:=j.heap.push {cls:=.type "dict",data:=.dict #[]}} (.ref j.heap.objs.size) "dict":=⟨_,Mm _ rfl,rfl⟩
 let(n,q):=tl.obj R.heap m;show⟨W,RY _ _,?_⟩
 show or (or (NY W (Mf ?_)))
 show or (Pi (show Ov {j with heap:=j.heap.push {cls:=.type "dict",data:=.dict #[]}} (.ref l) "list" from⟨_,q,rfl⟩) ?_)
 show or (xg q rfl rfl rfl (by simp[N]) λD y z=>?_)
 let x:Inv X M1 O {j with heap:=D,toks:=y}:=R.kp z
 show or (Oz (or (Pr (tl.is x.heap m) (Mf ⟨Oh bq _,?_⟩))))
 let w:=z _ _ (Mm (h:=j.heap) (o:={cls:=.type "dict",data:=.dict #[]}) rfl)
 show u9 (X:=X) (O:=O) (A:=X.A.in1) (show X.A.units+1+40<cLine by lia) (by simp[N]) m tl rl (NV (MD w)) T (x.fresh (Mj _)) ds.length 0 0 _ _ [] [] [] [] ps ⟨⟩ (by simpa using C) (x.push (t:=y)) (Mg _ w) mZ rfl rfl (by simpa using E) ⟨_,Mm _ rfl,rfl,rfl⟩ λs' o' c vs' I' L i b f=>?_
 show⟨rfl,k _ _ _ _ S I' T L ⟨c,vs',i,b,f⟩⟩⟩
end
end L2
namespace L2
open PySem PySem.Spec PyProof.Rows Md
def ItAt (t:Bool) (h:OF) (c q:MM) (n:Nat):Prop:=if t=V then h.IsTupleIter c q n else h.IsListIter c q n
def SqAt (t:Bool) (h:OF) (q:MM) (vs:Array Ml):Prop:=if t=V then h.IsTuple q vs else h.IsList q vs
def ItAt.obj {t:Bool}{h:OF}{c q:MM}{n:Nat}(x:ItAt t h c q n):∃o,h.get? c=U o/\o.cls=.type (if t=V then "tuple_iterator" else "list_iterator")/\o.data=.fields #[.ref q,.int n 0]:=by
 ext t<;>show x
def ItAt.to {t:Bool}{h j:OF}{c q:MM}{n:Nat}(x:ItAt t h c q n) (k:∀o,h.get? c=U o->j.get? c=U o):ItAt t j c q n:=by
 ext t<;>(let(o,e,r):=x;show⟨o,k o e,r⟩)
def SqAt.to {t:Bool}{h j:OF}{q:MM}{vs:Array Ml}(x:SqAt t h q vs) (k:∀o,h.get? q=U o->j.get? q=U o):SqAt t j q vs:=by
 ext t<;>(let(o,e,r):=x;show⟨o,k o e,r⟩)
section
variable{prog:Ol}{w:O0}{A:Nl}{E:Ml->Mn->Prop}{s:Mn}
def AL {c q:MM}{n:Nat}{vs:Array Ml}{Q:Ml->Mn->Prop}(t:A.handled=B) (z:s.heap.IsTupleIter c q n) (r:s.heap.IsTuple q vs)
  (k:∀v,vs[n]?=U v->∀g,g.IsTupleIter c q (n+1)->Nv c s.heap g->Q v {s with heap:=g})
  (j:vs[n]?=B->∀g e,PH c s.heap g->(∃o,g.get? e=U o/\o.cls=.type "StopIteration")->E (.ref e) {s with heap:=g}):
  wpAny (model prog w) A (Rb (.ref c)) Q E s:=by
 let ty:=z.typeIs;let(oc,u,p,dc):=z;let(b,d,_,m,f):=r;show or (NK (name:=Nq "__next__") ty S5 (MT S5 ty F.entry_tuple_iterator_next ?body (F.args_tuple_iterator_next_1 _)))
 change wpAny _ _ (field (.ref c) 0 >>= _) _ E s;show or (N9 u dc (x:=.ref q) rfl ?_)
 show or (N9 u dc (x:=.int n 0) rfl (or (Ot d f ?_)))
 simp![OV]
 rcases y:vs[n]? with _|v
 .show or (Oz (or (PR u dc (by simp) (or (or (NM ?_ (by size_fits)))))))
  show or (m:=firstArgMember _ _) (RH (a:=OI) (by rfl) (NM ?_ (by size_fits)))
  show or (wpAny_handled ?_)
  rw[show A.in1.handled=B from t]
  show or (Mf (wpAny_throw (j y _ _ (((Nh ..).extBut.push _).push _) ⟨_,Mm _ rfl,rfl⟩)))
 .show or (PR u dc (by simp) (Mf ⟨v,rfl,Mf (k v y _ ⟨_,Nf _ u (Pk (OM dc _)),?_,?_⟩ (Nh ..))⟩))
  .rw[RT];show p
  .rw[OM dc];rfl
theorem GW {t:Bool}{c q:MM}{n:Nat}{vs:Array Ml}{Q:Ml->Mn->Prop}(hh:A.handled=B) (hc:ItAt t s.heap c q n) (hq:SqAt t s.heap q vs)
  (some':∀v,vs[n]?=U v->∀h',ItAt t h' c q (n+1)->Nv c s.heap h'->Q v {s with heap:=h'})
  (none':vs[n]?=B->∀h' e,PH c s.heap h'->(∃o,h'.get? e=U o/\o.cls=.type "StopIteration")->E (.ref e) {s with heap:=h'}):
  wpAny (model prog w) A (Rb (.ref c)) Q E s:=by
 cases t with
 |true=>show AL hh hc hq some' none'
 |false=>
  rcases hv:vs[n]? with _|v
  .show wpAny_nextOf_list_end hh hc hq hv (none' hv)
  .show wpAny_nextOf_list_item hc hq hv (some' v hv)
end
structure Zp (t u:Bool) (h:OF) (z P Z8 c d p q:MM) (n:Nat) (f:Ml):Prop where
 zz:IsZip h z P Z8 f
 pp:Se h P (.ref c) (.ref d)
 oo:∃a b,Se h Z8 a b
 cc:ItAt t h c p n
 dd:ItAt u h d q n
structure Ap (z P Z8 c d p q:MM):Prop where
 nd:[z,P,Z8,c,d].Nodup
 p:p∉[z,P,Z8,c,d]
 q:q∉[z,P,Z8,c,d]
def aj {a b:MM}{h j:OF}{o:QY}(k:Nv a h j) (n:b≠a) (e:h.get? b=U o):j.get? b=U o:=(k.2 b n).trans e
section
variable{prog:Ol}{w:O0}{A:Nl}{E:Ml->Mn->Prop}{s:Mn}
def Au {t u:Bool}{z P Z8 c d p q:MM}{n:Nat}{xs ys:Array Ml}{Q:Ml->Mn->Prop}(hh:A.handled=B) (ap:Ap z P Z8 c d p q) (Z9:Zp t u s.heap z P Z8 c d p q n .none)
  (hp:SqAt t s.heap p xs) (hq:SqAt u s.heap q ys)
  (item:∀x y,xs[n]?=U x->ys[n]?=U y->∀R,Zp t u R z P Z8 c d p q (n+1) (rawInt s.heap.objs.size)->Se R s.heap.objs.size x y->R.objs.size=s.heap.objs.size+1->
   (∀b o,b∉[z,P,Z8,c,d]->s.heap.get? b=U o->R.get? b=U o)->Q (.ref s.heap.objs.size) {s with heap:=R})
  (F:(xs[n]?=B\/ys[n]?=B)->∀R e,(∀b o,b∉[z,P,Z8,c,d]->s.heap.get? b=U o->R.get? b=U o)->(∃o,R.get? e=U o/\o.cls=.type "StopIteration")->E (.ref e) {s with heap:=R}):
  wpAny (model prog w) A (Ou.«zip.__next__» ⟨[.ref z],[]⟩) (λr s'=>∃v,r=.done (.ret v)/\Q v s') E s:=by
 let(zz,pp,(a,b,oo),cc,dd):=Z9;let nd:=ap.nd;let np:=ap.p;let nq:=ap.q;simp![N0,MG,Nt,or_false,not_or,Nr,and_true,not_false_eq_true]at nd np nq;let((zP,zO,zc,zd),(PO,Pc,Pd),(Oc,Od),cd):=nd;let(pz,pP,pO,pc,pd):=np;let(qz,qP,qO,qc,qd):=nq;change wpAny _ _ (field (.ref z) 2 >>= _) _ E s;show or (N9 zz rfl (x:=.bool Y) rfl ?_)
 show or (N9 zz rfl (x:=.ref P) rfl (or (Ot pp rfl ?_)))
 show or (or (N9 zz rfl (x:=.none) rfl (Mf ?_)))
 show or (Oz (or (N9 zz rfl (x:=.ref Z8) rfl (or (NH zz (by simp) λk₁ g₁ m=>or ?_)))))
 let K:=g₁;show or (or (wpAny_onRaise ?_))
 show or (GW (t:=t) hh (cc.to λo e=>aj m (MR zc) e) (hp.to λo e=>aj m pz e) (λx hx k₂ c₂ j=>Mf ?_) λhx k₂ e j he=>?_)
 .let H:=aj j Oc (aj m (MR zO) oo)
  show or (Ot H rfl (or (wpAny_updateSeq_pair H λD g₃ k=>or (Pg (Mf ?_)))))
  let o₃:=g₃;show or (or (wpAny_onRaise ?_))
  show or (GW (t:=u) hh (dd.to λo e=>aj k (MR Od) (aj j (MR cd) (aj m (MR zd) e))) (hq.to λo e=>aj k qO (aj j qc (aj m qz e))) (λy hy k₄ d₄ i=>Mf ?_) λhy k₄ e i he=>?_)
  .let X:=aj i Od o₃
   show or (Ot X rfl (or (wpAny_updateSeq_pair X λh g₅ l=>or (Pg (Mf (Mf ?_))))))
   let I:Se h Z8 x y:=g₅;let old:∀f o,f≠z->f≠Z8->f≠c->f≠d->s.heap.get? f=U o->h.get? f=U o:=λf o n1 n2 n3 n4 e=>aj l n2 (aj i n4 (aj k n2 (aj j n3 (aj m n1 e))))
   let sz:h.objs.size=s.heap.objs.size:=by rw[l.1,i.1,k.1,j.1,m.1]
   let C:=aj l zO (aj i zd (aj k zO (aj j zc K)));show or (Ot I rfl (or (QF ?_)))
   let z₆:IsZip (h.push {cls:=.type "tuple",data:=.seq #[x,y]}) z P Z8 .ellipsis:=Mg _ C
   show or (or (NH z₆ (by simp) λk₇ g₇ W=>?_))
   let L:=g₇;show NH L (by simp) λT g₈ N=>Mf ⟨_,rfl,?_⟩
   let S:=g₈;let up:∀f o,f≠z->h.get? f=U o->T.get? f=U o:=λf o n1 e=>aj N n1 (aj W n1 (Mg _ e))
   let lz:=MD C;let new:=aj N (NV lz) (aj W (NV lz) (Mm _ rfl))
   let sz8:T.objs.size=h.objs.size+1:=by rw[N.1,W.1,NL]
   rw[sz]at S new sz8⊢;show item x y hx hy T ⟨S,up _ _ (MR zP) (old _ _ (MR zP) PO Pc Pd pp),⟨x,y,up _ _ (MR zO) I⟩,?_,?_⟩ new sz8 λf o M e=>?_
   .show c₂.to λo e=>up _ o (MR zc) (aj l (MR Oc) (aj i cd (aj k (MR Oc) e)))
   .show d₄.to λo e=>up _ o (MR zd) (aj l (MR Od) e)
   simp_all
  .let(oe,ge,ke):=he
   let z₄:=i _ _ zd (aj k zO (aj j zc K));let ez:e≠z:=λr=>()
   show NH z₄ (by simp) λh _ l=>F (.inr hy) h e (λf o M g=>?_) ⟨oe,aj l ez ge,ke⟩
   simp![MG,Nt,or_false,not_or]at M;let(n1,_,n2,n3,n4):=M;show aj l n1 (i _ _ n4 (aj k n2 (aj j n3 (aj m n1 g))))
 .let(oe,ge,ke):=he
  let z₂:=j _ _ zc K;let ez:e≠z:=λr=>()
  show NH z₂ (by simp) λD _ k=>F (.inl hx) D e (λf o M g=>?_) ⟨oe,aj k ez ge,ke⟩
  simp![MG,Nt,or_false,not_or]at M;show aj k M.1 (j _ _ M.2.2.2.1 (aj m M.1 g))
end
section
variable{prog:Ol}{w:O0}{A:Nl}{E:Ml->Mn->Prop}{s:Mn}
def ur {t u:Bool}{z P Z8 c d p q:MM}{n:Nat}{xs ys:Array Ml}{Q:G Ml->Mn->Prop}(i:A.handled=B) (N:Ap z P Z8 c d p q) (Z9:Zp t u s.heap z P Z8 c d p q n .none)
  (m:SqAt t s.heap p xs) (f:SqAt u s.heap q ys)
  (item:∀x y,xs[n]?=U x->ys[n]?=U y->∀j,Zp t u j z P Z8 c d p q (n+1) (rawInt s.heap.objs.size)->Se j s.heap.objs.size x y->j.objs.size=s.heap.objs.size+1->
   (∀b o,b∉[z,P,Z8,c,d]->s.heap.get? b=U o->j.get? b=U o)->Q (U (.ref s.heap.objs.size)) {s with heap:=j})
  (g:(xs[n]?=B\/ys[n]?=B)->∀j,(∀b o,b∉[z,P,Z8,c,d]->s.heap.get? b=U o->j.get? b=U o)->Q B {s with heap:=j}):
  wpAny (model prog w) A (pyNext (.ref z)) Q E s:=by
 let ty:s.TypeIs (.ref z) "zip":=⟨_,Z9.zz,rfl⟩;show or (PJ (NK (name:=Nq "__next__") ty F.slot_zip_next (MT F.slot_zip_next ty F.entry_zip_next (Au i N Z9 m f (λx y r v j b1 b2 b3 K=>Mf (item x y r v j b1 b2 b3 K)) λl j e k a=>?_) (F.args_zip_next_1 _))))
 let(o,ho,h):=a;show or (O6 (T:="StopIteration") (b:=V) ⟨o,ho,h⟩ RI (Mf (g l j k)))
end
def JB (t:Bool) (p:MM):QY:={cls:=.type (if t=V then "tuple_iterator" else "list_iterator"),data:=.fields #[.ref p,.int 0 0]}
def dP {prog:Ol}{w:O0}{A:Nl}{E:Ml->Mn->Prop}{s:Mn}{t:Bool}{p:MM}{xs:Array Ml}{Q:Ml->Mn->Prop}(hp:SqAt t s.heap p xs) (h:Q (.ref s.heap.objs.size) {s with heap:=s.heap.push (JB t p)}):wpAny (model prog w) A (pyIter (.ref p)) Q E s:=by
 cases t with
 |true=>show wpAny_pyIter_tuple hp h
 |false=>show Pr hp h
def zO (a b:Ml):QY:={cls:=.type "tuple",data:=.seq #[a,b]}
def Gu (t u:Bool) (h:OF) (p q:MM):OF:=
 ((((h.push (JB t p)).push (JB u q)).push (zO (.ref h.objs.size) (.ref (h.push (JB t p)).objs.size))).push (zO .none .none)).push
  {cls:=.type "zip",data:=.fields #[.none,.bool Y,.bool Y,.ref ((h.push (JB t p)).push (JB u q)).objs.size,.ref (((h.push (JB t p)).push (JB u q)).push (zO (.ref h.objs.size) (.ref (h.push (JB t p)).objs.size))).objs.size]}
def BM (t u:Bool) (p q:MM) (xs ys:Array Ml):
  Meets (Ou.«zip.__new__» ⟨[.type "zip",.ref p,.ref q],[]⟩) (λ_ R s=>SqAt t s.heap p xs/\SqAt u s.heap q ys/\
   R (.ok (.ret (.ref (((((s.heap.push (JB t p)).push (JB u q)).push (zO (.ref s.heap.objs.size) (.ref (s.heap.push (JB t p)).objs.size))).push (zO .none .none)).objs.size)))) {s with heap:=Gu t u s.heap p q}):=
 .of_wp λprog w A R s h=>by
  let(y,g,d,tk,os):=s;let(r,z,h):=h;let k:=sub_zip;let v:=r;let j:SqAt u (Shared.heap ⟨y.push (JB t p),g,d,tk,os⟩) q ys:=z.to λo e=>Mg _ e
  wp_walk using dP v,dP j
  show⟨_,rfl,h⟩
def zT {prog:Ol}{w:O0}{A:Nl}{E:Ml->Mn->Prop}{s:Mn}{t u:Bool}{p q:MM}{xs ys:Array Ml}{Q:Ml->Mn->Prop}(N:SqAt t s.heap p xs) (K:SqAt u s.heap q ys)
  (h:∀z P Z8 c d m,Ap z P Z8 c d p q->Zp t u m z P Z8 c d p q 0 .none->(∀b∈[z,P,Z8,c,d],s.heap.objs.size<=b)->(∀b o,s.heap.get? b=U o->m.get? b=U o)->Q (.ref z) {s with heap:=m}):
  wpAny (model prog w) A (call (.type "zip") [.ref p,.ref q]) Q E s:=by
 show callType_new F.called_zip ∅ (F.typeCall_zip_2 _ _) (F.newCall_zip_2 _ _) (λobj=>F.args_object_init_3 obj _ _) F.entry_zip_new (BM t u p q xs ys) ⟨N,K,?_⟩
 let D:p<s.heap.objs.size:=by ext t<;>(let(o,e,_):=N;show MD e)
 let H:q<s.heap.objs.size:=by ext u<;>(let(o,e,_):=K;show MD e)
 generalize r:s.heap.push (JB t p)=k1;generalize y:k1.push (JB u q)=k2;generalize v:k2.push (zO (.ref s.heap.objs.size) (.ref k1.objs.size))=k3;generalize g:k3.push (zO .none .none)=k4;let W:Gu t u s.heap p q=k4.push {cls:=.type "zip",data:=.fields #[.none,.bool Y,.bool Y,.ref k2.objs.size,.ref k3.objs.size]}:=by ext Gu;rw[r,y,v,g]
 let a:k1.objs.size=s.heap.objs.size+1:=by rw[<-r];show NL ..
 let x:k2.objs.size=s.heap.objs.size+2:=by rw[<-y,NL,a]
 let i:k3.objs.size=s.heap.objs.size+3:=by rw[<-v,NL,x]
 let R:k4.objs.size=s.heap.objs.size+4:=by rw[<-g,NL,i]
 let T:∀{b o},s.heap.get? b=U o->k1.get? b=U o:=λe=>by rw[<-r];show Mg _ e
 let l:∀{b o},k1.get? b=U o->k2.get? b=U o:=λe=>by rw[<-y];show Mg _ e
 let f:∀{b o},k2.get? b=U o->k3.get? b=U o:=λe=>by rw[<-v];show Mg _ e
 let j:∀{b o},k3.get? b=U o->k4.get? b=U o:=λe=>by rw[<-g];show Mg _ e
 let k:∀{b o},k4.get? b=U o->(Gu t u s.heap p q).get? b=U o:=λe=>by rw[W];show Mg _ e
 let n:IsZip (Gu t u s.heap p q) k4.objs.size k2.objs.size k3.objs.size .none:=by rw[W];show Mm _ rfl
 let C:=k (by rw[<-g];show Mm _ rfl)
 let S:=k (j (by rw[<-v];show Mm _ rfl))
 let I:=k (j (f (by rw[<-y];show Mm _ rfl)))
 let X:=k (j (f (l (by rw[<-r];show Mm _ rfl))))
 show⟨⟨_,n,rfl⟩,h k4.objs.size k2.objs.size k3.objs.size s.heap.objs.size k1.objs.size _ ⟨?_,?_,?_⟩ ⟨n,S,⟨_,_,C⟩,?_,?_⟩ ?_ λb o e=>k (j (f (l (T e))))⟩
 .rw[a,x,i,R]
  simp![N0,MG,Nt,or_false,not_or,Nr,and_true,not_false_eq_true];show⟨⟨?_,?_,?_,?_⟩,⟨?_,?_,?_⟩,⟨?_,?_⟩,?_⟩<;>(intro e;let M:(_:Nat)=_:=e;rfl')
 .simp;lia
 .simp;lia
 .ext t<;>show⟨_,X,rfl,rfl⟩
 .ext u<;>show⟨_,I,rfl,rfl⟩
 simp;rfl'
def mS:Z D->Z D->Z D
 |d::ds,e::es=>.tup [d,e]::mS ds es
 |_,_=>[]
theorem qG:∀(ds es:Z D) (i:Nat) (x:D),(mS ds es)[i]?=U x->∃d e,ds[i]?=U d/\es[i]?=U e/\x=.tup [d,e]
 |[],_,i,x,h=>by trivial
 |d::ds,[],i,x,h=>by trivial
 |d::ds,e::es,0,x,h=>by simp[mS]at h;show⟨d,e,rfl,rfl,h.symm⟩
 |d::ds,e::es,i+1,x,h=>by simpa using qG ds es i x h
theorem qS:∀ds es:Z D,(mS ds es).length=min ds.length es.length
 |[],_=>by rfl
 |d::ds,[]=>by rfl
 |d::ds,e::es=>by simp[mS,qS ds es]
def HA (t:Bool) (x:G D):G (Z D):=if t=V then yR x else aV x
def Hy (t u:Bool) (x y:G D):G (Z D):=ac (HA t x) λds=>ac (HA u y) λes=>U (mS ds es)
abbrev JS (h:OF) (z P Z8:MM) (f:Ml) (b:Bool):Prop:=
 h.get? z=U {cls:=.type "zip",dict:=B,data:=.fields #[f,.bool b,.bool Y,.ref P,.ref Z8],slots:=#[]}
structure Zq (t u:Bool) (h:OF) (z P Z8 c d p q:MM) (n:Nat) (T:MM) (b:Bool):Prop where
 zz:JS h z P Z8 (rawInt T) b
 al:∃o,h.get? T=U o
 pp:Se h P (.ref c) (.ref d)
 oo:∃a b,Se h Z8 a b
 cc:ItAt t h c p n
 dd:ItAt u h d q n
section
variable{prog:Ol}{w:O0}{A:Nl}{E:Ml->Mn->Prop}{s:Mn}
def jv {M:Model}{A:Nl}{E:Ml->Mn->Prop}{s:Mn}{a:MM}{Q:G QY->Mn->Prop}(h:Q (s.heap.get? a) s):wpAny M A (loadIfAlive a) Q E s:=λk p _=>by
 assumption
def ZS (t u:Bool) (h:OF) (z P Z8 c d p q:MM) (n:Nat):Prop:=Zp t u h z P Z8 c d p q n .none\/∃T b,T∉[z,P,Z8,c,d]/\Zq t u h z P Z8 c d p q n T b
def ZS.to {t u:Bool}{h j:OF}{z P Z8 c d p q:MM}{n:Nat}{S:MM}(Z9:ZS t u h z P Z8 c d p q n) (k:∀b o,b≠S->h.get? b=U o->j.get? b=U o) (y:S∉[z,P,Z8,c,d]) (r:∃o,j.get? S=U o):ZS t u j z P Z8 c d p q n:=by
 let ne:∀b∈[z,P,Z8,c,d],b≠S:=λb v e=>y (by rw[<-e];show v)
 rcases Z9 with⟨zz,pp,⟨a,b,oo⟩,cc,dd⟩|⟨T,bo,g,⟨zz,⟨o,al⟩,pp,⟨a,b,oo⟩,cc,dd⟩⟩
 .show .inl ⟨k _ _ (ne z (by simp)) zz,k _ _ (ne P (by simp)) pp,⟨a,b,k _ _ (ne Z8 (by simp)) oo⟩,cc.to λo e=>k _ o (ne c (by simp)) e,dd.to λo e=>k _ o (ne d (by simp)) e⟩
 .show .inr ⟨T,bo,g,k _ _ (ne z (by simp)) zz,?_,k _ _ (ne P (by simp)) pp,⟨a,b,k _ _ (ne Z8 (by simp)) oo⟩,cc.to λo e=>k _ o (ne c (by simp)) e,dd.to λo e=>k _ o (ne d (by simp)) e⟩
  grind
def Made (h:OF) (lo:MM) (xs ys:Array Ml):Nat->Z Ml->Prop
 |_,[]=>True
 |i,v::r=>∃T x y,v=.ref T/\lo<=T/\xs[i]?=U x/\ys[i]?=U y/\Se h T x y/\(∀k∈r,k≠v)/\Made h lo xs ys (i+1) r
theorem Made.to {h g:OF}{lo:MM}{xs ys:Array Ml}:∀{i:Nat}{l:Z Ml},Made h lo xs ys i l->(∀T,.ref T∈l->∀o,h.get? T=U o->g.get? T=U o)->Made g lo xs ys i l
 |_,[],_,_=>trivial
 |i,v::r,hz,k=>by let(T,x,y,j,c,w,t,p,q,z):=hz;show⟨T,x,y,j,c,w,t,k T (by rw[j];simp) _ p,q,z.to λd u=>k d (MA _ u)⟩
theorem Made.snoc {h:OF}{lo T:MM}{xs ys:Array Ml}{x y:Ml}:∀{i:Nat}{l:Z Ml},Made h lo xs ys i l->lo<=T->xs[i+l.length]?=U x->ys[i+l.length]?=U y->Se h T x y->(∀v∈l,v≠.ref T)->Made h lo xs ys i (l++[.ref T])
 |i,[],_,a1,a2,j,u,_=>⟨T,x,y,rfl,a1,a2,j,u,λv a=>⟨⟩,trivial⟩
 |i,v::r,hz,a1,a2,j,u,z=>by
  let(n,p,q,m,b,f,d,c,w,t):=hz;show⟨n,p,q,m,b,f,d,c,λg k=>?_,t.snoc a1 (by rw[MX]at a2;rw[show i+1+r.length=i+(r.length+1) by lia];show a2) (by rw[MX]at j;rw[show i+1+r.length=i+(r.length+1) by lia];show j) u λg k=>z g (MA _ k)⟩
  rcases Mw.mp k with k|k
  .show w g k
  .rw[My.mp k];show MR (z v (MB ..))
theorem Made.lt {h:OF}{lo:MM}{xs ys:Array Ml}:∀{i:Nat}{l:Z Ml},Made h lo xs ys i l->∀v∈l,∃T,v=.ref T/\T<h.objs.size/\lo<=T
 |_,[],_,v,k=>by trivial
 |i,v::r,hz,j,k=>by
  let(T,x,y,q,z,w,t,u,p,g):=hz
  rcases MG.mp k with rfl|k
  .show⟨T,q,MD u,z⟩
  .show g.lt j k
end
structure En (h:OF) (e c p:MM) (n:Nat):Prop where
 ee:∃old,SP h e c n old
 cc:h.IsListIter c p n
def xU {prog:Ol}{w:O0}{A:Nl}{E:Ml->Mn->Prop}{s:Mn}{elts:Z Expr}{x1} {pos:Q6}{e c T:MM}{i:Int}{x:Ml}{Q:Unit->Mn->Prop}(j:IsEnumOut s.heap e c i x T)
  (g:∀k,SP k e c i x->Nv e s.heap k->Q q_ {s with heap:=k}):wpAny (model prog w) A (letOwnedTupleGo (.Tuple elts x1 pos) (.ref e) (.ref T)) Q E s:=by
 show or (Rm j ?_)
 change wpAny _ _ (if(["enumerate","zip","dict_itemiterator","dict_reverseitemiterator","odict_iterator","itertools.zip_longest","itertools.pairwise"].contains "enumerate"&&(#[rawInt T,.bool Y,.ref c,rawInt i,.none,x]:Array Ml)[0]?==U (rawInt T))=V then _ else _) Q E s
 rw[n_ (by simp)]
 show or (Oz (NH j (by simp) λk u m'=>g k u m'))
def LF (h:OF) (p:MM):OF:=(h.push (JB Y p)).push {cls:=.type "enumerate",data:=.fields #[.none,.bool Y,.ref h.objs.size,rawInt 0,.none,.none]}
nonrec theorem A0 (p:MM) (xs:Array Ml):Meets (Ou.«enumerate.__new__» ⟨[.type "enumerate",.ref p],[]⟩) (λ_ R s=>SqAt Y s.heap p xs/\R (.ok (.ret (.ref (s.heap.push (JB Y p)).objs.size))) {s with heap:=LF s.heap p}):=
 .of_wp λprog w A R s h=>by
  let(y,g,d,tk,os):=s;let(u,h):=h;let j:=sub_enumerate;let k:=u
  wp_walk using dP k
  show wpAny_stack_any λst=>Mf ?_
  split
  .rename_i v _ _ _ _ _
   cases (v==Oo "enumerate")<;>(wp_walk using dP k;show⟨_,rfl,h⟩)
  .wp_walk using dP k
   show⟨_,rfl,h⟩
def qm {prog:Ol}{w:O0}{A:Nl}{E:Ml->Mn->Prop}{s:Mn}{p:MM}{xs:Array Ml}{Q:Ml->Mn->Prop}(u:SqAt Y s.heap p xs)
  (h:∀k,SP k (s.heap.objs.size+1) s.heap.objs.size 0 .none->k.IsListIter s.heap.objs.size p 0->(∀b o,s.heap.get? b=U o->k.get? b=U o)->Q (.ref (s.heap.objs.size+1)) {s with heap:=k}):
  wpAny (model prog w) A (call (.type "enumerate") [.ref p]) Q E s:=by
 show callType_new F.called_enumerate ∅ (F.typeCall_enumerate_1 _) (F.newCall_enumerate_1 _) (λobj=>F.args_object_init_2 obj _) F.entry_enumerate_new (A0 p xs) ⟨u,?_⟩
 let j:(s.heap.push (JB Y p)).objs.size=s.heap.objs.size+1:=NL ..;let g:(LF s.heap p).get? (s.heap.push (JB Y p)).objs.size=U {cls:=.type "enumerate",data:=.fields #[.none,.bool Y,.ref s.heap.objs.size,rawInt 0,.none,.none]}:=Mm _ rfl
 let v:(LF s.heap p).get? s.heap.objs.size=U (JB Y p):=Mg _ (Mm _ rfl)
 rw[j]at g;show⟨⟨_,by rw[j];show g,rfl⟩,?_⟩
 rw[j];show h _ g ⟨_,v,rfl,rfl⟩ λb o e=>Mg _ (Mg _ e)
def lM (i:Nat):Z D->Z D
 |[]=>[]
 |d::ds=>.tup [.int i,d]::lM (i+1) ds
theorem la:∀(ds:Z D) (j i:Nat) (x:D),(lM j ds)[i]?=U x->∃d,ds[i]?=U d/\x=.tup [.int ((j+i:Nat):Int),d]
 |[],j,i,x,h=>by trivial
 |d::ds,j,0,x,h=>by simp_all [lM,h]
 |d::ds,j,i+1,x,h=>by
  let(e,g,k):=la ds (j+1) i x h;show⟨e,by trivial,by rw[k,show j+1+i=j+(i+1) by lia]⟩
theorem lQ:∀(j:Nat) (ds:Z D),(lM j ds).length=ds.length
 |_,[]=>rfl
 |j,d::ds=>by simp[lM,lQ (j+1) ds]
def oU (x:G D):G (Z D):=match x with|some (.lst ds)=>U (lM 0 ds)|_=>B
variable[Md]
section
variable{X:Cx}{M M':Mp}{O:DEnv}{s:Mn}{elts:Z Expr}{x1:Nat}{tp:Q6}{a b:Expr}{fa fb:DEnv->G D}{m m':Bool}{p p2 pos pos2:Q6}{t u:Bool}{A:Nl}
def SqO (t:Bool) (o:QY) (vs:Z Ml):Prop:=if t=V then TupO o vs else LstO o vs
def SqO.at (q:SqO t o vs) (h:s.heap.get? c=U o):SqAt t s.heap c vs.toArray:=by
 cases t with
 |true=>show⟨o,h,q.2⟩
 |false=>let(_,n,rfl):=q;show⟨_,h,rfl,n,rfl⟩
def Bb {v:Ml}(h:HA t x=U ds):∃d,x=U d/\∀{m M v},R m M d v->∃c o vs,v=.ref c/\Rd m M c o/\SqO t o vs/\Rs m M ds vs:=by
 cases t with
 |true=>show⟨_,qR h,λr=>r⟩
 |false=>show⟨_,jg h,λr=>r⟩
def HL:TupO {cls:=.type "tuple",data:=.seq #[x,y]} [x,y]:=⟨⟨by change 2<=sizeLine;decide,rfl⟩,rfl,_,rfl⟩
def R.pairN {h:OF}(rd:∀a o,Rd m M a o->h.get? a=U o) (u:h.objs.size<=T) (g:R m M d x) (j:R m M e y):R m (LV M T (U (.f,{cls:=.type "tuple",data:=.seq #[x,y]}))) (.tup [d,e]) (.ref T):=by
 let sb:Sub m M m (LV M T (U (.f,{cls:=.type "tuple",data:=.seq #[x,y]}))):=⟨λb o ⟨k,e,z⟩=>⟨k,(by
  rw[ax];show e
  rintro rfl;show absurd (MD (rd _ _ ⟨k,e,z⟩)) (RJ.mpr u)),z⟩,λ_ _ h=>h⟩
 show⟨T,_,[x,y],rfl,⟨.f,ak,rfl⟩,HL,⟨x,[y],rfl,g.to sb,.one (j.to sb)⟩⟩
def Zp.ex {t u:Bool}{h:OF}{z P Z8 c d p q:MM}{n:Nat}{f:Ml}(Z9:Zp t u h z P Z8 c d p q n f):∀b∈[z,P,Z8,c,d],∃o,h.get? b=U o:=λb k=>by
 let(zz,pp,(a,j,oo),cc,dd):=Z9;simp![MG,Nt,or_false]at k
 rcases k with rfl|rfl|rfl|rfl|rfl
 .show⟨_,zz⟩
 .show⟨_,pp⟩
 .show⟨_,oo⟩
 .let(o,e,_):=cc.obj;show⟨o,e⟩
 .let(o,e,_):=dd.obj;show⟨o,e⟩
def Ak {z y Z8 c d p q:MM}(P:A.handled=B) (K:Ap z y Z8 c d p q) (I:Rd m M p o1) (T:SqO t o1 xs) (C:Rs m M ds xs) (F:Rd m M q o2) (W:SqO u o2 ys) (S:Rs m M es ys):
  BV A (.Tuple elts x1 tp) m M (mS ds es) [z,y,Z8,c,d] z (λn h=>Zp t u h z y Z8 c d p q n .none) where
 ex:=λst=>st.ex
 keep:=λst k=>by
  let(zz,pp,(a,N,oo),cc,dd):=st;show⟨k z (by simp) _ zz,k y (by simp) _ pp,⟨a,N,k Z8 (by simp) _ oo⟩,cc.to λo e=>k c (by simp) o e,dd.to λo e=>k d (by simp) o e⟩
 item:=λ{i s x} st h e=>by
  let(d1,d2,e1,e2,rfl):=qG _ _ _ _ e;let(L,g1,g2):=C.get e1;let(D,g3,g4):=S.get e2;show ur P K st (T.at (h _ _ I)) (W.at (h _ _ F)) (λux uy f r l E new sz k=>?_) λhn=>by simp_all
  simp![Ph]at f r
  rw[g1]at f;ext f;rw[g3]at r;ext r;show⟨_,rfl,?_⟩
  let(zz,pp,(a,N,oo),cc,dd):=E;let nd:=K.nd;simp![N0,MG,Nt,or_false,not_or,Nr,and_true,not_false_eq_true]at nd;let X:z≠s.heap.objs.size:=MU (MD st.zz);show wpAny_letOwnedTupleGo_zip (s:={s with heap:=l}) zz λk2 H j=>⟨⟨⟨rfl,rfl⟩,λb o Q e=>aj j (λw=>Q (by simp[w])) (k b o Q e)⟩,⟨H,aj j (MR nd.1.1) pp,⟨a,N,aj j (MR nd.1.2.1) oo⟩,cc.to λo e=>aj j (MR nd.1.2.2.1) e,dd.to λo e=>aj j (MR nd.1.2.2.2) e⟩,.inr ⟨s.heap.objs.size,_,Mj _,aj j (MR X) new,R.pairN h (Mj _) g2 g4⟩⟩
 done:=λ{s} st h=>ur P K st (T.at (h _ _ I)) (W.at (h _ _ F)) (λL D v g l E new sz k=>by
  exfalso;let l1:=C.length;let l2:=S.length;rw[qS]at v g;let a1:=(SF.mp v).1
  let a2:=(SF.mp g).1
  simp at a1 a2;lia) λhn l k=>⟨rfl,⟨rfl,rfl⟩,k⟩
 self:=λst h=>wpAny_pyIter_zip st.zz h
def FS {Q:Ml->Mn->Prop}(g:Bn X "zip") (h:DE X m a fa) (j:DE X m b fb) (I:Inv X M O s) (e:Hy t u (fa O) (fb O)=U ls) (k:∀z n Z8 c d p q o1 o2 xs ys ds es j y M1,ls=mS ds es->Ext M M1->Inv X M1 O y->Ap z n Z8 c d p q->Zp t u j z n Z8 c d p q 0 .none->(∀b∈[z,n,Z8,c,d],y.heap.objs.size<=b)->(∀b o,y.heap.get? b=U o->j.get? b=U o)->Rd m M1 p o1->SqO t o1 xs->Rs m M1 ds xs->Rd m M1 q o2->SqO u o2 ys->Rs m M1 es ys->Q (.ref z) {y with heap:=j}):
  WP X (eval (.Call (.Name "zip" p) [a,b] [] pos) X.env) Q s:=by
 let(ds,A,e):=ag e;let(es,E,e):=ag e;ext e;let(d1,F,S):=Bb (v:=.none) A;let(d2,C,R):=Bb (v:=.none) E;show A6 g boot_zip (b9 h (b9 j fZ)) I (ds:=[d1,d2]) (by rw[F,C];rfl) λvs y M1 x1 l r=>?_
 let(L,D,rfl,T,W):=r.is2;let(l1,o1,xs,rfl,N,x,f):=S T;let(l2,o2,ys,rfl,K,i,w):=R W;show zT (x.at (N.heap l.heap)) (i.at (K.heap l.heap)) λz P Z8 c d j H Z9 hi kk=>k _ _ _ _ _ _ _ _ _ _ _ _ _ _ _ _ rfl x1 l H Z9 hi kk N x f K i w
def EE {t u:Bool}(g:Bn X "zip") (h:DE X m a fa) (j:DE X m b fb):DI X m (.Tuple elts x1 tp) (.Call (.Name "zip" p) [a,b] [] pos) (λO=>Hy t u (fa O) (fb O)):=⟨rfl,λI e k=>
 FS g h j I e λz K Z8 c d p q o1 o2 xs ys ds es j w M1 e x1 v o Z9 hi kk i r n l y f=>by
  subst e;show wpAny_pyIter_zip (s:={w with heap:=j}) Z9.zz (k _ _ _ _ _ x1 (v.kp kk) (Ak I.ok.room.hd o i r n l y f) Z9 λb x=>v.fresh (hi b x))⟩
def yn {e c p:MM}(K:A.handled=B) (ne:e≠c) (d:Rd m M p o1) (r:LstO o1 xs) (t:Rs m M ds xs):BV A (.Tuple elts x1 tp) m M (lM 0 ds) [e,c] e (λn h=>En h e c p n) where
 ex:=λ⟨⟨old,ee⟩,cc⟩ b j=>by
  simp![MG,Nt,or_false]at j
  rcases j with rfl|rfl
  .show⟨_,ee⟩
  .let(o,g,_):=cc;show⟨o,g⟩
 keep:=λ⟨⟨old,ee⟩,cc⟩ k=>⟨⟨old,k e (by simp) _ ee⟩,cc.at λo g=>k c (by simp) o g⟩
 item:=λ{i s x} st h a=>by
  let(d1,C,rfl):=la _ _ _ _ a;let(l,W,N):=t.get C;let((old,ee),cc):=st;show wpAny_pyNext_enum_item ee cc (po h d r) (x:=l) (by simpa using W) ne λf u y new F k=>⟨_,rfl,?_⟩
  let T:e≠s.heap.objs.size:=MU (MD ee);show xU (s:={s with heap:=f,toks:=s.toks+1}) u λI S v=>⟨⟨⟨rfl,rfl⟩,λb o j g=>aj v (λw=>j (by simp[w])) (k b o (λz=>j (by simp[z])) (λz=>j (by simp[z])) g)⟩,⟨⟨_,S⟩,y.at λo g=>aj v (MR ne) g⟩,.inr ⟨s.heap.objs.size,_,Mj _,aj v (MR T) new,R.pairN h (Mj _) ⟨_,by rw[RU]⟩ N⟩⟩
 done:=λ{s} ⟨⟨old,ee⟩,cc⟩ h=>wpAny_pyNext_enum_end K ee cc (po h d r) (by simp[lQ,t.length]) λf k=>⟨rfl,⟨rfl,rfl⟩,λb o j q=>k b o (λz=>j (by simp[z])) q⟩
 self:=λ⟨⟨old,ee⟩,cc⟩ h=>PT ee h
nonrec theorem Ea (g:Bn X "enumerate") (h:DE X m a fa):DI X m (.Tuple elts x1 tp) (.Call (.Name "enumerate" p) [a] [] pos) (λO=>oU (fa O)):=⟨rfl,λ{M O s ds Q} I e k=>by
 unfold oU at e;split at e<;>ext e
 rename_i z;show cZ g Th h I z λv y M1 x1 j r=>?_
 let(c,o,vs,rfl,q,t,rs):=r;show qm (p:=c) (t.is j.heap q) λw ee cc kk=>?_
 show PT (s:={y with heap:=w}) ee (k _ _ _ _ _ x1 (j.kp kk) (yn I.ok.room.hd (NV (Nj _)) q t rs) ⟨⟨_,ee⟩,cc⟩ λb u=>j.fresh ?_)
 simp![MG,Nt,or_false]at u
 rcases u with rfl|rfl
 .show OA _
 .show Mj _⟩
def w6 (x:G D):G D:=match x with|some (.int j)=>if decide (0<=j/\j<=1000)=V then U (.lst (jH 0 j.toNat)) else B|_=>B
def GY:∀{n:Nat}{ds:Z D}{vs:Z Ml},ds.length=vs.length->(∀(i:Nat) (h:i<ds.length),∃v,vs[i]?=U v/\R m M ds[i] v)->Rs m M ds vs:=by
 intro n ds
 induction ds with
 |nil=>intro vs e _;cases vs with
  |nil=>rfl
  |cons=>ext e
 |cons d ds ih=>intro vs e h;cases vs with
  |nil=>ext e
  |cons v vs=>show⟨v,vs,rfl,by let(v',h1,h2):=h 0 (by simp);ext h1;show h2,ih (by simpa using e) λi hi=>by let(v',h1,h2):=h (i+1) (by simpa using hi);show⟨v',by simpa using h1,by simpa using h2⟩⟩
nonrec theorem zp (x:Bn X "list") (l:Bn X "range") (h:DE X m a fa):DF X (.Call (.Name "list" p) [.Call (.Name "range" p2) [a] [] pos2] [] pos) (λO=>w6 (fa O)):=⟨rfl,λ{M O s d Q} I e k=>by
 unfold w6 at e;split at e<;>try cases e
 split at e<;>ext e
 rename_i j w z;let z:=of_decide_eq_true z;show NI (I.bltn x (by rfl:bootBuiltins "list"=U (.type "list")) (Oy ?_ rfl rfl))
 show MY (cZ l boot_range h I w λv y M1 x1 q r=>?_)
 let(t,rfl):=r;show call_range_1 (Ny ?_)
 show call_list_range (n:=j.toNat) I.ok.room.hd (IsRange.new ..) (small_one ⟨⟩ ⟨⟩ () ()) (by rw[rangeSize_one];split<;>lia) () λb tk acc K c f g=>?_
 let N:=(q.push (t:=y.toks+1) (o:=_)).kp (s':={y with heap:=b,toks:=tk}) c
 let W:1000<=sizeLine:=by decide
 let u:=g.1;show k _ _ _ _ x1 N (q.fresh (by rw[NL];show OA _)) f ⟨acc.toList,⟨by simp;lia,K,by simp⟩,GY (n:=0) (by simp[jH,u]) λi hi=>?_⟩
 simp![jH,Ms,OU]at hi;let(t,e):=g.2 i acc[i] (by simp[u,hi])
 show⟨acc[i],by simp[u,hi],?_⟩
 rw[show(jH 0 j.toNat)[i]=.int i by simp[jH]];show⟨t,by rw[e];simp⟩⟩
end
end L2
namespace SM
open PySem PyProof.Rows
def sbA{a b c:Nat}(h:a+1≤b):c≤c+b-(a+1):=by lia
def sbB{b c:Nat}(h:1≤b):c+b-1<c+b:=by lia
def sbC{a b c:Nat}(h:a<b):c≤c+b-1-a:=by lia
def sbD{a b c x:Nat}(h:a<b)(g:c≤x):c+b-1-x<b:=by lia
local macro_rules|`(tactic|lia)=>`(tactic|with_reducible first|exact Nat.sub_le_sub_left (Nat.le_add_left _ _) _|exact Nat.sub_le_sub_left (by assumption) _|exact sbA (by assumption)|exact sbB (by assumption)|exact sbB (Nat.le_trans (Nat.le_add_left _ _) (by assumption))|exact sbC (by assumption)|exact sbD (by assumption) (by assumption)|fail)
structure OrdK (LT:Nb->Nb->Bool):Prop where
 asym:∀x y,LT x y=V->LT y x=Y
 tr:∀x y z,LT y x=Y->LT z y=Y->LT z x=Y
def OrdK.irr {LT:Nb->Nb->Bool}(Z8:OrdK LT) (x:Nb):LT x x=Y:=by
 cases h:LT x x with
 |false=>rfl
 |true=>show h.symm.trans (Z8.asym x x h)
def LS (LT:Nb->Nb->Bool) (ps:Nb->Nat) (x y:Nb):Bool:=LT x y||(!LT y x&&decide (ps x<ps y))
def LS_iff {LT:Nb->Nb->Bool}{ps:Nb->Nat}{x y:Nb}:LS LT ps x y=Y↔LT x y=Y/\(LT y x=V\/ps y<=ps x):=by
 ext LS;cases LT x y<;>cases LT y x<;>simp
theorem OrdK.fine {LT:Nb->Nb->Bool}(Z8:OrdK LT) (ps:Nb->Nat):OrdK (LS LT ps):=⟨λx y h=>by
 rw[LS_iff];cases h1:LT x y with
 |true=>show⟨Z8.asym _ _ h1,.inl rfl⟩
 |false=>unfold LS at h;rw[h1]at h;simp at h;show⟨h.1,.inr ()⟩,λx y z h g=>by
 rw[LS_iff]at*;show⟨Z8.tr _ _ _ h.1 g.1,?_⟩
 cases c:LT x z with
 |true=>show .inl rfl
 |false=>
  let h2:=h.2.resolve_left (by rw[Z8.tr _ _ _ g.1 c];show Og)
  let g2:=g.2.resolve_left (by rw[Z8.tr _ _ _ c h.1];show Og)
  show .inr ()⟩
def E3 {LT:Nb->Nb->Bool}{ps:Nb->Nat}(h:LT x y=V):LS LT ps x y=V:=by ext LS;rw[h];rfl
def vW {LT:Nb->Nb->Bool}{ps:Nb->Nat}(h:LT x y=Y) (p:ps y<=ps x):LS LT ps x y=Y:=LS_iff.mpr ⟨h,.inr p⟩
def AA {LT:Nb->Nb->Bool}{ps:Nb->Nat}(h:LS LT ps x y=Y):LT x y=Y:=(LS_iff.mp h).1
def KJ (prog:Ol) (w:O0) (A:Nl) (s:Mn) (κ:Q9) (LT:Nb->Nb->Bool) (T:Array Nb):Prop:=
 ∀x∈T,∀y∈T,∀C:Bool->Mn->Prop,C (LT x y) s->wpAny (model prog w) A (keyLt' κ x.1 y.1) C (λ_ _=>False) s
abbrev nK:Nb:=(OI,OI)
def K (a:Array Nb) (i:Nat):Nb:=(a[i]?).getD nK
def Ha {a:Array Nb}{i:Nat}(h:i<a.size):a[i]?=U (K a i):=by unfold K;simp_all
def FW {a:Array Nb}{i:Nat}(h:i<a.size):K a i∈a:=by unfold K;simp_all
def FG {a b:Array Nb}{i j:Nat}(h:a[i]?=b[j]?):K a i=K b j:=by unfold K;rw[h]
def jm {a:Array Nb}{i j:Nat}(g:j<=a.size) (k:Nat):K (mirror a i j ((j - i) / 2)) k=if i<=k/\k<j then K a (i+j - 1 - k) else K a k:=by
 let e:=getElem?_mirror_all (i:=i) g k
 by_cases h:i<=k/\k<j
 .rw[n_ h]at e⊢;show FG e
 .rw[o_ h]at e⊢;show FG e
def wH {a:Array Nb}{j d:Nat}(hs:j<a.size) (hd:d<=j) (k:Nat):K (bubble a j d) k=if k=j - d then K a j else if j - d<k/\k<=j then K a (k - 1) else K a k:=by
 let e:=getElem?_bubble hs d hd k
 by_cases h:k=j - d
 .rw[n_ h]at e⊢;show FG e
 .rw[o_ h]at e⊢
  by_cases g:j - d<k/\k<=j
  .rw[n_ g]at e⊢;show FG e
  .rw[o_ g]at e⊢;show FG e
section
variable{prog:Ol}{w:O0}{A:Nl}{E:Ml->Mn->Prop}{s:Mn}{LT:Nb->Nb->Bool}{T:Array Nb}{κ:Q9}{st:QI}
def Up (LT:Nb->Nb->Bool) (a:Array Nb) (i j:Nat):Prop:=∀p q,i<=p->p<=q->q<j->LT (K a q) (K a p)=Y
def Dn (LT:Nb->Nb->Bool) (a:Array Nb) (i j:Nat):Prop:=∀p q,i<=p->p<=q->q<j->LT (K a p) (K a q)=Y
def Up.one (Z8:OrdK LT) {a:Array Nb}{i:Nat}:Up LT a i (i+1):=λp q g j k=>by
 let e:p=q:=()
 rw[e];show Z8.irr _
def Dn.one (Z8:OrdK LT) {a:Array Nb}{i:Nat}:Dn LT a i (i+1):=λp q g j k=>by
 let e:p=q:=()
 rw[e];show Z8.irr _
def Up.snoc (Z8:OrdK LT) {a:Array Nb}{i j:Nat}(h:Up LT a i j) (u:i<j) (g:LT (K a j) (K a (j - 1))=Y):Up LT a i (j+1):=λp q k v z=>by
 by_cases e:q=j
 .subst e
  by_cases y:p=q
  .rw[y];show Z8.irr _
  .show Z8.tr _ _ _ (h p (q - 1) k () ()) g
 .show h p q k v ()
def Dn.snoc (Z8:OrdK LT) {a:Array Nb}{i j:Nat}(h:Dn LT a i j) (u:i<j) (g:LT (K a (j - 1)) (K a j)=Y):Dn LT a i (j+1):=λp q k v z=>by
 by_cases e:q=j
 .subst e
  by_cases y:p=q
  .rw[y];show Z8.irr _
  .show Z8.tr _ _ _ g (h p (q - 1) k () ())
 .show h p q k v ()
def HZ (H:KJ prog w A s κ LT T) (g:kindOf st=κ) {x y:Nb}{Q:G Bool->QI->Prop}(j:x∈T) (k:y∈T) (h:Q (U (LT x y)) st):wpS (model prog w) A E s (lt' x y) Q st:=by
 rw[lt'_eq];show NP (S6 ?_)
 rw[g];show NP (wpS_lift (PJ (NO (H x j y k (λb s'=>s'=s/\wpS (model prog w) A E s (pure (U b)) Q st) ⟨rfl,Os h⟩) (λ_ _ h=>h) λ_ _ h=>h.elim)))
def yc {a:Array Nb}{i:Nat}{Q:Nb->QI->Prop}(hi:i<a.size) (h:Q (K a i) st):wpS (model prog w) A E s (elem' a i) Q st:=by
 rw[elem'_eq,Ha hi];show Os h
def l9 (H:KJ prog w A s κ LT T) (g:kindOf st=κ) (k:(arrOf st).Perm T) {i j:Nat}{Q:G Bool->QI->Prop}(hi:i<T.size) (u:j<T.size) (h:Q (U (LT (K (arrOf st) i) (K (arrOf st) j))) st):
  wpS (model prog w) A E s (ltAt' i j) Q st:=by
 let hz:=k.size_eq;rw[ltAt'_eq];show NP (S6 ?_)
 show NP (yc ⟨⟩ (NP (yc ⟨⟩ (HZ H g (k.mem_iff.mp (FW ⟨⟩)) (k.mem_iff.mp (FW ⟨⟩)) h))))
structure Chg (T a:Array Nb) (lw:Nat) (a':Array Nb):Prop where
 perm:a'.Perm T
 keep:∀k,k<lw->K a' k=K a k
def Chg.rev {a u:Array Nb}{g i j:Nat}(h:Chg T a g u) (hi:g<=i) (y:j<=T.size):Chg T a g (mirror u i j ((j - i) / 2)):=by
 let hz:=h.perm.size_eq;show⟨(mirror_perm u i j _).trans h.perm,λk v=>?_⟩
 rw[jm ⟨⟩,o_ ()];show h.keep k v
def Chg.bub {a u:Array Nb}{g j d:Nat}(h:Chg T a g u) (hs:j<T.size) (hd:g+d<=j):Chg T a g (bubble u j d):=by
 let hz:=h.perm.size_eq;show⟨(bubble_perm u j d).trans h.perm,λk v=>?_⟩
 rw[wH ⟨⟩ (),o_ (),o_ ()];show h.keep k v
def zu {a:Array Nb}{i j:Nat}(k:j<=a.size) (h:Dn LT a i j):Up LT (mirror a i j ((j - i) / 2)) i j:=λp q u v g=>by
 rw[jm k,jm k,n_ ⟨(),g⟩,n_ ⟨u,()⟩]
 show h _ _ () () ()
def Tl (ps:Nb->Nat) (a:Array Nb) (k x hi:Nat):Prop:=∀p q,k<=p->p<=q->x<=q->q<hi->ps (K a p)<=ps (K a q)
def Tl.up {ps:Nb->Nat}{a:Array Nb}(h:Tl ps a lw x hi) (u:x<=y):Tl ps a lw y hi:=λp q g j v k=>h p q g j () k
def Tl.rev {ps:Nb->Nat}{a:Array Nb}(h:Tl ps a lw x hi) (k:j<=a.size) (v:lw<=i) (r:j<=x):Tl ps (mirror a i j ((j - i) / 2)) lw x hi:=λp q z y u g=>by
 rw[jm k,jm k,o_ (show ¬(i<=q/\q<j) by lia)]
 split
 .show h _ _ () () u g
 .show h _ _ z y u g
def Tl.bub {ps:Nb->Nat}{a:Array Nb}(h:Tl ps a lw (lw+k) hi) (hs:lw+k<a.size) (hd:d<=k):Tl ps (bubble a (lw+k) d) lw (lw+(k+1)) hi:=λp q u g v j=>by
 rw[wH hs (),wH hs ()]
 rw[o_ (show ¬(q=lw+k - d) by lia),o_ (show ¬(lw+k - d<q/\q<=lw+k) by lia)]
 split
 .show h _ _ ⟨⟩ () () j
 .split
  .show h _ _ () () () j
  .show h _ _ u g () j
variable{ps:Nb->Nat}
def Bk (Z8:OrdK LT) (H:KJ prog w A s κ LT T) (hk:kindOf st=κ) (hc:(arrOf st).Perm T) {lw n nrem:Nat}(hz:lw+nrem<=T.size) (hn:1<=n) (hnn:n<=nrem) (tl:Tl ps (arrOf st) lw (lw+n) (lw+nrem)) (hu:Up (LS LT ps) (arrOf st) lw (lw+n))
  {β:Type}{Q:β->QI->Prop}{f:G (G Nat)×Nat->StateT QI Sem β}(h:∀m,n<=m->m<=nrem->Up (LS LT ps) (arrOf st) lw (lw+m)->(m<nrem->LT (K (arrOf st) (lw+m)) (K (arrOf st) (lw+m - 1))=V)->wpS (model prog w) A E s (f (B,m)) Q st):
  wpS (model prog w) A E s (forIn [n:nrem] ((B,n):G (G Nat)×Nat) (λ_ r=>do
   let x <-ltAt' (lw+r.2) (lw+r.2 - 1)
   match x with
   |some smaller=>if smaller=V then pure (RX (B,r.2)) else pure (NT (B,r.2+1))
   |_=>pure (RX (U B,r.2))) >>= f) Q st:=by
 show NP (So (Qw (I:=λx c st'=>c=(B,x)/\st'=st/\n<=x/\Up (LS LT ps) (arrOf st) lw (lw+x)) (Q:=λc st'=>∃m,c=(B,m)/\st'=st/\n<=m/\m<=nrem/\Up (LS LT ps) (arrOf st) lw (lw+m)/\(m<nrem->LT (K (arrOf st) (lw+m)) (K (arrOf st) (lw+m - 1))=V)) ?_ ?_ ⟨rfl,rfl,Mj _,hu⟩) ?_)
 .intro x c st' h1 h2 hz;let(rfl,rfl,h3,h4):=hz
  left;show NP (l9 H hk hc () () ?_)
  cases hl:LT (K (arrOf st') (lw+x)) (K (arrOf st') (lw+x - 1))with
  |true=>show Os ⟨x,rfl,rfl,h3,(),h4,λ_=>hl⟩
  |false=>show Os ⟨rfl,rfl,(),h4.snoc (Z8.fine ps) () (vW hl (tl _ _ () ⟨⟩ ⟨⟩ ⟨⟩))⟩
 .intro c st' hz;let(rfl,rfl,h3,h4):=hz
  let e:max n nrem=nrem:=⟨⟩
  rw[e]at h4⊢;show⟨nrem,rfl,rfl,hnn,Mj _,h4,λh=>absurd h (PB _)⟩
 simp_all
end
section
variable{prog:Ol}{w:O0}{A:Nl}{E:Ml->Mn->Prop}{s:Mn}{LT:Nb->Nb->Bool}{T:Array Nb}{κ:Q9}{st:QI}{ps:Nb->Nat}
def HJ (LT:Nb->Nb->Bool) (a:Array Nb) (i j:Nat):Prop:=∀p q,i<=p->i<=q->p<j->q<j->LT (K a p) (K a q)=Y
def wZ (Z8:OrdK LT) (H:KJ prog w A s κ LT T) (t:kindOf st=κ) {a v:Array Nb}{k n g:Nat}(q:Chg T a k v) (hz:k+g<=T.size) (r:1<=n) (z:n<=g) (tl:Tl ps v k (k+n) (k+g)) (hd:Dn (LS LT ps) v k (k+n))
  {Q:G Nat->QI->Prop}(h:∀m u,1<=m->m<=g->Chg T a k u->Up (LS LT ps) u k (k+m)->Tl ps u k (k+m) (k+g)->Q (U m) (setArr st u)):
  wpS (model prog w) A E s (do
   let mut n:=n
   reverseSlice' k (k+n)
   for _ in [n:g] do
    let U smaller <-ltAt' (k+n) (k+n - 1)|return B
    if smaller then break
    n:=n+1
   return U n) Q (setArr st v):=by
 let e:=q.perm.size_eq;show NP (Rk ?_)
 let p:=q.rev (i:=k) (j:=k+n) (Mj _) ()
 let Tt:=zu (LT:=LS LT ps) (a:=v) (i:=k) (j:=k+n) () hd
 let y:=tl.rev (i:=k) (j:=k+n) () (Mj _) (Mj _)
 show Bk (st:=setArr st (mirror v k (k+n) ((k+n - k) / 2))) Z8 H t p.perm hz r z y Tt λm f d c _=>Os (h m _ () d p c (y.up ⟨⟩))
structure Rn (LT:Nb->Nb->Bool) (ps:Nb->Nat) (a:Array Nb) (lw x q nrem:Nat):Prop where
 d:Dn (LS LT ps) a lw (lw+x - (q+1))
 b:∀p p',lw<=p->p<lw+x - (q+1)->lw+x - (q+1)<=p'->p'<lw+x->LT (K a p') (K a p)=V
 l:HJ LT a (lw+x - (q+1)) (lw+x)
 p:∀p p',lw+x - (q+1)<=p->p<=p'->p'<lw+x->ps (K a p)<=ps (K a p')
 t:Tl ps a lw (lw+x) (lw+nrem)
def wP (Z8:OrdK LT) {a:Array Nb}{g e j:Nat}(u:j<=a.size) (z:g<=e) (D:Dn (LS LT ps) a g e) (Tx:∀p k,g<=p->p<e->e<=k->k<j->LT (K a k) (K a p)=V) (L:HJ LT a e j) (P:∀p k,e<=p->p<=k->k<j->ps (K a p)<=ps (K a k)):Dn (LS LT ps) (mirror a e j ((j - e) / 2)) g j:=λp q v y r=>by
 rw[jm u,jm u]
 by_cases t:e<=p
 .rw[n_ (),n_ ()]
  show vW (L _ _ () () () ()) (P _ _ () () ())
 .rw[o_ ()]
  split
  .have:=Tx p (e+j - 1 - q) v ⟨⟩ () ()
   ext LS;rw[Z8.asym _ _ this,this];rfl
  .show D _ _ v y ⟨⟩
nonrec theorem xM (Z8:OrdK LT) (H:KJ prog w A s κ LT T) (hk:kindOf st=κ) {a a':Array Nb}{lw n nrem:Nat}(hC:Chg T a lw a') (hz:lw+nrem<=T.size) (hn:1<=n) (hnn:n<nrem) (tl:Tl ps a' lw (lw+n) (lw+nrem)) (hd:Dn (LS LT ps) a' lw (lw+n)) (hl:LT (K a' (lw+n)) (K a' (lw+n - 1))=V)
  {Q:G Nat->QI->Prop}(h:∀m a'',1<=m->m<=nrem->Chg T a lw a''->Up (LS LT ps) a'' lw (lw+m)->Tl ps a'' lw (lw+m) (lw+nrem)->Q (U m) (setArr st a'')):
  wpS (model prog w) A E s (do
   let mut n:=n
   rule "list.sort.descending-run"
   n:=n+1
   let mut neq:=0
   for _ in [n:nrem] do
    let U smaller <-ltAt' (lw+n) (lw+n - 1)|return B
    if smaller then
     if neq>0 then reverseSlice' (lw+n - (neq+1)) (lw+n)
     neq:=0
    else
     let U larger <-ltAt' (lw+n - 1) (lw+n)|return B
     if larger then break
     neq:=neq+1
    n:=n+1
   if neq>0 then reverseSlice' (lw+n - (neq+1)) (lw+n)
   reverseSlice' lw (lw+n)
   for _ in [n:nrem] do
    let U smaller <-ltAt' (lw+n) (lw+n - 1)|return B
    if smaller then break
    n:=n+1
   return U n) Q (setArr st a'):=by
 show NP (wpS_lift (Oz ⟨rfl,?_⟩))
 let key:∀{x y z:Nb},LT z y=V->LT x y=Y->LT z x=V:=λ{x y z} h1 h2=>by
  cases c:LT z x with
  |true=>rfl
  |false=>rw[Z8.tr _ _ _ h2 c]at h1;ext h1
 let b0:∀p p',lw<=p->p<lw+(n+1) - (0+1)->lw+(n+1) - (0+1)<=p'->p'<lw+(n+1)->LT (K a' p') (K a' p)=V:=λp p' h1 h2 h3 h4=>by rw[show p'=lw+n by lia];show key hl (AA (hd _ _ h1 () ()))
 show NP (So (Qw (I:=λx c st'=>∃q a1,c=(B,x,q)/\st'=setArr st a1/\Chg T a lw a1/\n+1<=x/\q+1<=x/\Rn LT ps a1 lw x q nrem)
  (Q:=λc st'=>∃x q a1,c=(B,x,q)/\st'=setArr st a1/\Chg T a lw a1/\x<=nrem/\n+1<=x/\q+1<=x/\Rn LT ps a1 lw x q nrem) ?_ ?_ ⟨0,a',rfl,rfl,hC,Mj _,⟨⟩,hd,b0,λp q h1 h2 h3 h4=>by rw[show p=q by lia];show Z8.irr _,λp q h1 h2 h3=>by rw[show p=q by lia];show Mj _,tl.up ⟨⟩⟩) ?_)
 .intro x c st' h1 h2 hz;let(q,a1,rfl,rfl,C1,h3,h4,R1):=hz
  let e:=C1.perm.size_eq;let e':(arrOf (setArr st a1)).size=T.size:=e;left;show NP (l9 (st:=setArr st a1) H hk C1.perm () () ?_)
  cases hl:LT (K a1 (lw+x)) (K a1 (lw+x - 1))with
  |true=>
   let all:∀p,lw<=p->p<lw+x->LT (K a1 (lw+x)) (K a1 p)=V:=λp g1 g2=>key hl (by
    by_cases c:p<lw+x - (q+1)
    .show Z8.asym _ _ (R1.b _ _ g1 c () ())
    .show R1.l _ _ ⟨⟩ () ⟨⟩ ())
   by_cases hq:q>0
   .rw[n_ hq,reverseSlice'_eq]
    show NP (Rk (Os ⟨0,_,rfl,rfl,C1.rev () (),(),⟨⟩,wP Z8 () () R1.d R1.b R1.l R1.p,λp p' g1 g2 g3 g4=>?_,λp q h1 h2 h3 h4=>by rw[show p=q by lia];show Z8.irr _,λp q h1 h2 h3=>by rw[show p=q by lia];show Mj _,(R1.t.rev () () ⟨⟩).up ⟨⟩⟩))
    rw[show p'=lw+x by lia,jm (),jm (),o_ ⟨⟩]
    split
    .show all _ () ()
    .show all _ g1 ⟨⟩
   .rw[o_ hq]
    obtain rfl:q=0:=⟨⟩
    show Os ⟨0,a1,rfl,rfl,C1,(),⟨⟩,λp p' g1 g2 g3=>?_,λp p' g1 g2 g3 g4=>by rw[show p'=lw+x by lia];show all _ g1 ⟨⟩,λp q h1 h2 h3 h4=>by rw[show p=q by lia];show Z8.irr _,λp q h1 h2 h3=>by rw[show p=q by lia];show Mj _,R1.t.up ⟨⟩⟩
    by_cases c:p'<lw+x - (0+1)
    .show R1.d _ _ g1 g2 c
    .by_cases c2:p=p'
     .rw[c2];show(Z8.fine ps).irr _
     .have:=R1.b p p' g1 () ⟨⟩ ⟨⟩
      show(Z8.fine ps).asym _ _ (E3 this)
  |false=>
   show NP (l9 (st:=setArr st a1) H hk C1.perm () () ?_)
   cases hg:LT (K a1 (lw+x - 1)) (K a1 (lw+x))with
   |true=>show Os ⟨x,q,a1,rfl,rfl,C1,(),h3,h4,R1⟩
   |false=>
    let eq:lw+(x+1) - (q+1+1)=lw+x - (q+1):=()
    show Os ⟨q+1,a1,rfl,rfl,C1,(),⟨⟩,by rw[eq];show R1.d,λp p' g1 g2 g3 g4=>?_,λp p' h1 h2 h5 h6=>?_,λp p' g1 g2 g3=>?_,R1.t.up ⟨⟩⟩
    .rw[eq]at g2 g3
     by_cases c:p'=lw+x
     .rw[c];show key (x:=K a1 p) (y:=K a1 p) (z:=K a1 (lw+x)) (by
       cases c2:LT (K a1 (lw+x)) (K a1 p)with
       |true=>rfl
       |false=>have:=R1.b p (lw+x - 1) g1 g2 () ();rw[Z8.tr _ _ _ c2 hg]at this;ext this) (Z8.irr _)
     .show R1.b _ _ g1 g2 g3 ()
    .rw[eq]at h1 h2
     let key:∀p,lw+x - (q+1)<=p->p<lw+(x+1)->LT (K a1 p) (K a1 (lw+x - 1))=Y/\LT (K a1 (lw+x - 1)) (K a1 p)=Y:=λp h1 h2=>by
      by_cases e:p=lw+x
      .rw[e];show⟨hl,hg⟩
      .show⟨R1.l _ _ ⟨⟩ () () (),R1.l _ _ () ⟨⟩ () ()⟩
     show Z8.tr _ _ _ (key p' h2 h6).2 (key p h1 h5).1
    .rw[eq]at g1
     by_cases c:p'=lw+x
     .rw[c];show R1.t _ _ () ⟨⟩ ⟨⟩ ⟨⟩
     .show R1.p _ _ g1 g2 ()
 .intro c st' hz;let(q,a1,rfl,rfl,C1,h3,h4,R1):=hz
  rw[show max (n+1) nrem=nrem by lia]at*
  show⟨nrem,q,a1,rfl,rfl,C1,Mj _,h3,h4,R1⟩
 .intro c st' hz;let(x,q,a1,rfl,rfl,C1,h1,h3,h4,R1):=hz
  let e:=C1.perm.size_eq;left;let D:=wP Z8 (j:=lw+x) () () R1.d R1.b R1.l R1.p
  by_cases hq:q>0
  .rw[n_ hq]
   show NP ?_
   show Rk (wZ Z8 H hk (C1.rev () ()) hz () h1 (R1.t.rev () () ⟨⟩) D h)
  .rw[o_ hq]
   obtain rfl:q=0:=⟨⟩
   show wZ Z8 H hk C1 hz ⟨⟩ h1 R1.t (λp p' g1 g2 g3=>?_) h
   have:=D p p' g1 g2 g3;rw[jm (),jm ()]at this
   split at this<;>split at this<;>first|(rw[show p=p' by lia];show(Z8.fine ps).irr _)|show this|(rename_i c1 c2;rw[show lw+x - (0+1)+(lw+x) - 1 - p'=p' by lia]at this;show this)|lia
def rS (Z8:OrdK LT) (H:KJ prog w A s κ LT T) (hk:kindOf st=κ) {lw nrem:Nat}(hp:(arrOf st).Perm T) (hz:lw+nrem<=T.size) (hn:1<=nrem) (tl:Tl ps (arrOf st) lw lw (lw+nrem))
  {Q:G Nat->QI->Prop}(h:∀m a',1<=m->m<=nrem->Chg T (arrOf st) lw a'->Up (LS LT ps) a' lw (lw+m)->Tl ps a' lw (lw+m) (lw+nrem)->Q (U m) (setArr st a')):wpS (model prog w) A E s (countRun' lw nrem) Q st:=by
 let e:=hp.size_eq;let C0:Chg T (arrOf st) lw (arrOf st):=⟨hp,λ_ _=>rfl⟩
 show Bk (ps:=ps) Z8 H hk hp hz (Mj 1) hn (tl.up ⟨⟩) (Up.one (Z8.fine ps)) λm h1 h2 h3 h4=>?_
 left
 by_cases hm:m=nrem
 .rw[n_ (beq_iff_eq.mpr hm)]
  show Os (h m (arrOf st) h1 h2 C0 h3 (tl.up ⟨⟩))
 .rw[o_ (λq=>hm (beq_iff_eq.mp q))]
  let hl:=h4 ()
  by_cases h5:m>1
  .rw[n_ h5]
   show NP (l9 H hk hp () () ?_)
   cases hr:LT (K (arrOf st) lw) (K (arrOf st) (lw+m - 1))with
   |true=>
    show Os (h m (arrOf st) h1 h2 C0 h3 (tl.up ⟨⟩))
   |false=>
    let al:HJ LT (arrOf st) lw (lw+m):=λp q h1 h2 h5 h6=>Z8.tr _ _ _ (AA (h3 q (lw+m - 1) h2 () ())) (Z8.tr _ _ _ hr (AA (h3 lw p (Mj _) h1 ⟨⟩)))
    show xM Z8 H hk (C0.rev (Mj _) ()) hz h1 () ((tl.up (y:=lw+m) ⟨⟩).rev () (Mj _) (Mj _)) (wP Z8 () (Mj _) (λp q g1 g2 g3=>absurd g3 ()) (λp p' g1 g2=>absurd g2 ()) al λp p' g1 g2 g3=>tl _ _ g1 g2 () ()) ?_ h
    rw[jm (),jm (),o_ ⟨⟩,n_ ()]
    cases hc:LT (K (arrOf st) (lw+m)) (K (arrOf st) (lw+(lw+m) - 1 - (lw+m - 1)))with
    |true=>rfl
    |false=>show absurd (Z8.tr _ _ _ (al (lw+(lw+m) - 1 - (lw+m - 1)) (lw+m - 1) () () () ()) hc) ⟨⟩
  .rw[o_ h5]
   let hm1:m=1:=()
   show xM Z8 H hk C0 hz h1 () (tl.up ⟨⟩) (by subst hm1;show Dn.one (Z8.fine ps)) hl h
end
section
variable{prog:Ol}{w:O0}{A:Nl}{E:Ml->Mn->Prop}{s:Mn}{LT:Nb->Nb->Bool}{T:Array Nb}{κ:Q9}{st:QI}{ps:Nb->Nat}
def F5 (Z8:OrdK LT) (hs:lw+k<a.size) (hl:l<=k) (hu:Up LT a lw (lw+k)) (h1:∀p,p<l->LT (K a (lw+k)) (K a (lw+p))=Y) (h2:∀p,l<=p->p<k->LT (K a (lw+k)) (K a (lw+p))=V):
  Up LT (bubble a (lw+k) (lw+k - (lw+l))) lw (lw+(k+1)):=λp q g1 g2 g3=>by
 let h2':∀p,lw+l<=p->p<lw+k->LT (K a p) (K a (lw+k))=Y:=λp a1 a2=>by
  have:=h2 (p - lw) () ()
  rw[show lw+(p - lw)=p by lia]at this
  show Z8.asym _ _ this
 let h1':∀p,lw<=p->p<lw+l->LT (K a (lw+k)) (K a p)=Y:=λp a1 a2=>by
  have:=h1 (p - lw) ()
  simp_all
 let e:lw+k - (lw+k - (lw+l))=lw+l:=()
 rw[wH hs ⟨⟩,wH hs ⟨⟩,e]
 repeat' split
 all_goals first
  |show Z8.irr _
  |(exfalso;lia)
  |show h2' _ () ()
  |show h1' _ ⟨⟩ ()
  |show hu _ _ () () ()
def n9 (Z8:OrdK LT) (H:KJ prog w A s κ LT T) (hk:kindOf st=κ) (hp:(arrOf st).Perm T) (hz:lw+n<=T.size) (hok:ok<=n) (hn:1<=n) (tl:Tl ps (arrOf st) lw (lw+max ok 1) (lw+n)) (hu:Up (LS LT ps) (arrOf st) lw (lw+ok)) (h:∀a',Chg T (arrOf st) lw a'->Up (LS LT ps) a' lw (lw+n)->Q V (setArr st a')):wpS (model prog w) A E s (binarySort' lw n ok) Q st:=by
 let e:=hp.size_eq;let C0:Chg T (arrOf st) lw (arrOf st):=⟨hp,λ_ _=>rfl⟩
 let O2:=Z8.fine ps;let hu1:Up (LS LT ps) (arrOf st) lw (lw+max ok 1):=by
  by_cases c:ok=0
  .subst c;show Up.one O2
  .rw[show max ok 1=ok by lia];show hu
 show NP (So (Qw (I:=λx c st'=>c=(B,q_)/\∃a1,st'=setArr st a1/\Chg T (arrOf st) lw a1/\Up (LS LT ps) a1 lw (lw+x)/\Tl ps a1 lw (lw+x) (lw+n))
  (Q:=λc st'=>c=(B,q_)/\∃a1,st'=setArr st a1/\Chg T (arrOf st) lw a1/\Up (LS LT ps) a1 lw (lw+n)) ?_ ?_ ⟨rfl,arrOf st,rfl,C0,hu1,tl⟩) ?_)
 .intro k c st' h1 h2 hz;let(rfl,a1,rfl,C1,U1,T1):=hz
  let e1:=C1.perm.size_eq;show NP (So (Qw (I:=λx c st'=>∃l r,c=(B,l,r)/\st'=setArr st a1/\l<=r/\r<=k/\r - l+x<=k/\(∀p,p<l->LS LT ps (K a1 (lw+k)) (K a1 (lw+p))=Y)/\∀p,r<=p->p<k->LS LT ps (K a1 (lw+k)) (K a1 (lw+p))=V)
   (Q:=λc st'=>∃l r,c=(B,l,r)/\st'=setArr st a1/\l<=k/\(∀p,p<l->LS LT ps (K a1 (lw+k)) (K a1 (lw+p))=Y)/\∀p,l<=p->p<k->LS LT ps (K a1 (lw+k)) (K a1 (lw+p))=V) ?_ ?_ ⟨0,k,rfl,rfl,Nw _,Mj _,⟨⟩,λp hp=>absurd hp (OC _),λp q1 q2=>absurd q2 ()⟩) ?_)
  .intro x c st' g1 g2 hz;let(l,r,rfl,rfl,g3,g4,g5,g6,g7):=hz
   left
   by_cases hlr:l>=r
   .rw[n_ hlr]
    have:l=r:=()
    show Os ⟨l,r,rfl,rfl,⟨⟩,g6,by rw[this];show g7⟩
   .rw[o_ hlr]
    show NP (l9 (st:=setArr st a1) H hk C1.perm () () ?_)
    cases hl:LT (K a1 (lw+k)) (K a1 (lw+(l+r) / 2))with
    |true=>
     show Os ⟨l,(l+r) / 2,rfl,rfl,(),(),(),g6,λp q1 q2=>?_⟩
     cases hc:LS LT ps (K a1 (lw+k)) (K a1 (lw+p))with
     |true=>rfl
     |false=>show absurd (O2.tr _ _ _ (U1 (lw+(l+r) / 2) (lw+p) ⟨⟩ ⟨⟩ ⟨⟩) hc) (by rw[E3 hl];show λq=>nomatch q)
    |false=>
     show Os ⟨(l+r) / 2+1,r,rfl,rfl,(),g4,(),λp q1=>?_,g7⟩
     show O2.tr _ _ _ (U1 (lw+p) (lw+(l+r) / 2) ⟨⟩ () ()) (vW hl (T1 _ _ ⟨⟩ () ⟨⟩ ⟨⟩))
  .intro c st' hz;let(l,r,rfl,rfl,g3,g4,g5,g6,g7):=hz
   have:l=r:=()
   show⟨l,r,rfl,rfl,⟨⟩,g6,by rw[this];show g7⟩
  .intro c st' hz;let(l,r,rfl,rfl,g1,g2,g3):=hz
   left;show NP (Rk (Os ⟨rfl,_,rfl,C1.bub () (),F5 O2 (show lw+k<a1.size by lia) g1 U1 g2 g3,T1.bub () ()⟩))
 .intro c st' hz;let(rfl,a1,rfl,C1,U1,_):=hz
  show⟨rfl,a1,rfl,C1,by rw[show max (max ok 1) n=n by rfl']at U1;show U1⟩
 .intro c st' hz;let(rfl,a1,rfl,C1,U1):=hz
  show Os (h a1 C1 U1)
end
section
variable{prog:Ol}{w:O0}{A:Nl}{E:Ml->Mn->Prop}{s:Mn}{LT:Nb->Nb->Bool}{T:Array Nb}{κ:Q9}{ps:Nb->Nat}
def R (LT:Nb->Nb->Bool) (x y:Nb):Prop:=LT y x=Y
def F7 (u:Up LT c 0 c.size):c.toList.Pairwise (R LT):=Pw.mpr λi j hi g k=>by
 have:=u i j (Nw _) (OD k) (by simpa using g)
 unfold R;rw[show K c i=c.toList[i] by unfold K;rw[getElem?_pos c i (by simpa using hi)];simp,show K c j=c.toList[j] by unfold K;rw[getElem?_pos c j (by simpa using g)];simp]at this
 show this
def lZ (Z8:OrdK LT) (H:KJ prog w A s κ LT T) (C:2<=T.size) (z:T.size<64) (tl:Tl ps T 0 0 T.size) (l:∀a p g,a.Perm T->Up (LS LT ps) a 0 T.size->Q q_ (OR κ a p g B)):wpS (model prog w) A E s sortRuns' Q (OR κ T #[] g B):=by
 rw[sortRuns'_eq];show NP (S6 ?_)
 let o:∀a p g,arrOf (OR κ a p g B)=a:=λ_ _ _=>rfl
 let i:∀a p g,pendingOf (OR κ a p g B)=p:=λ_ _ _=>rfl
 simp![o];let t:minRun' T.size T.size 0=T.size:=by
  obtain⟨n,b⟩:∃n,T.size=n+1:=⟨T.size - 1,()⟩
  rw[b]at z⊢;rw[minRun'_succ,n_ z]
 rw[t];show NP (So (Qw (I:=λx c k=>∃a p g u,c=(B,u)/\k=OR κ a p g B/\x<=u/\(u=0/\a=T/\p=#[]\/u=T.size/\a.Perm T/\Up (LS LT ps) a 0 T.size/\p.size<=1))
  (Q:=λc k=>∃a p g,c=(B,T.size)/\k=OR κ a p g B/\a.Perm T/\Up (LS LT ps) a 0 T.size/\p.size<=1) ?_ ?_ ⟨T,#[],g,0,rfl,rfl,Mj _,.inl ⟨rfl,rfl,rfl⟩⟩) ?_)
 .intro x c k _ S hz;let(a,p,g,u,rfl,rfl,q,r):=hz
  left
  rcases r with⟨rfl,rfl,rfl⟩|⟨rfl,y,v,hs⟩
  .rw[o_ ()]
   show NP (rS (st:=OR κ a #[] g B) Z8 H rfl (Array.Perm.refl _) ⟨⟩ () (by simpa using tl) λm a1 R W f j K=>?_)
   left
   by_cases d:m<a.size
   .rw[n_ d]
    show NP (wpS_lift (Oz ⟨rfl,?_⟩))
    show NP (n9 (st:=OR κ a1 #[] g B) Z8 H rfl f.perm ⟨⟩ ⟨⟩ () (by rw[show max m 1=m by rfl',show min (a.size - 0) a.size=a.size - 0 by rfl'];show K) j λa1 N j=>?_)
    simp![SX,MZ,if_false];show NP (S6 ?_)
    rw[show min (a.size - 0) a.size=a.size by rfl']at j⊢
    show NP (Rk (Os ⟨_,_,_,_,rfl,rfl,(),.inr ⟨⟨⟩,N.perm,by rw[RU]at j;show j,Mj 1⟩⟩))
   .rw[o_ d]
    show NP (S6 ?_)
    let e:m=a.size:=()
    subst e;show NP (Rk (Os ⟨_,_,_,_,rfl,rfl,⟨⟩,.inr ⟨⟨⟩,f.perm,by rw[RU]at j;show j,Mj 1⟩⟩))
  .rw[n_ (Mj _)]
   show Os ⟨a,p,g,rfl,rfl,y,v,hs⟩
 .intro c k hz;let(a,p,g,u,rfl,rfl,q,r):=hz
  rcases r with⟨rfl,rfl,rfl⟩|⟨rfl,y,v,hs⟩
  .rfl'
  .show⟨a,p,g,rfl,rfl,y,v,hs⟩
 .intro c k hz;let(a,p,g,rfl,rfl,y,v,hs):=hz
  left;show NP (So (Qw (I:=λx c k=>c=(B,q_)/\k=OR κ a p g B)
   (Q:=λc k=>c=(B,q_)/\k=OR κ a p g B) ?_ (λ_ _ h=>h) ⟨rfl,rfl⟩) ?_)
  .intro x c k _ _ hz;let(rfl,rfl):=hz
   show NP (S6 ?_)
   simp![i];rw[n_ hs];show Os ⟨rfl,rfl⟩
  .intro c k hz;let(rfl,rfl):=hz
   show Os (l a p g y v)
end
end SM
namespace L2
open PySem PySem.Spec PyProof.Rows PySem.W Md
section
variable{prog:Ol}{w:O0}{A:Nl}{E:Ml->Mn->Prop}{s:Mn}{vs:Z Ml}{a:MM}
def zL {P:PySem.Fin->Mn->Prop}{LT:Ml->Ml->Bool}(ho:s.heap.get? a=U (seqObj "list" vs.toArray n)) (I:vs.length<64) (Z8:SM.OrdK λx y=>LT x.1 y.1) (L:2<=vs.length->∀j,(∀b o,b≠a->s.heap.get? b=U o->j.get? b=U o)->∀Q:Q9->Mn->Prop,Q κ {s with heap:=j}->wpAny (model prog w) A (keyKind' vs.toArray) Q (λ_ _=>False) {s with heap:=j}) (f:2<=vs.length->∀j,(∀b o,b≠a->s.heap.get? b=U o->j.get? b=U o)->∀(u v:Ml) (C:Bool->Mn->Prop),u∈vs->v∈vs->C (LT u v) {s with heap:=j}->wpAny (model prog w) A (keyLt' κ u v) C (λ_ _=>False) {s with heap:=j}) (h:∀us:Z Ml,us.Perm vs->us.Pairwise (λu v=>LT v u=Y)->∀j c,(∀b o,b≠a->s.heap.get? b=U o->j.get? b=U o)->j.get? a=U (seqObj "list" us.toArray c)->P (.done (.ret .none)) {s with heap:=j}):
  wpAny (model prog w) A (Ou.«list.sort» ⟨[.ref a],[]⟩) P E s:=by
 let hz:vs.length<=sizeLine:=by rw[QX];lia
 rw[list_sort_plain];show or (listItems_at ho rfl (or (Qf ho rfl ?_ (by assumption) (Nw _))))
 obtain⟨K,X⟩:∃K,(s.heap.update a (Na λ_=>(#[]:Array Ml))).get? a=U (seqObj "list" #[] K):=⟨_,Qn ho λ_=>#[]⟩
 show or (SQ X rfl (or (QF ?_ hz)))
 show or (RZ ?_ (Nw _))
 show MQ ?_
 let keep:∀b o,b≠a->s.heap.get? b=U o->(((s.heap.update a (Na λ_=>(#[]:Array Ml))).push (seqObj "tuple" vs.toArray 0)).push (seqObj "list" #[] 0)).get? b=U o:=λb o m e=>
  Mg _ (Mg _ ((Nn s.heap _ (MR m)).trans e))
 let i:(((s.heap.update a (Na λ_=>(#[]:Array Ml))).push (seqObj "tuple" vs.toArray 0)).push (seqObj "list" #[] 0)).get? a=U (seqObj "list" #[] K):=Mg _ (Mg _ X)
 generalize hH:(((s.heap.update a (Na λ_=>(#[]:Array Ml))).push (seqObj "tuple" vs.toArray 0)).push (seqObj "list" #[] 0))=H1 at*
 let fin:∀st:QI,((arrOf st).map (·.2)).toList.Perm vs->((arrOf st).map (·.2)).toList.Pairwise (λu v=>LT v u=Y)->failedOf st=B->
   wpAny (model prog w) A (do
    let k:=(<-seqEpoch a) != K
    Builtin.List.listUpdate (.ref a) λ_=>(arrOf st).map (·.2)
    if let U e:=failedOf st then rule "list.sort.comparison-raised";throw e
    if k then rule "list.sort.modified";raiseError "ValueError" "list modified during sort"
    ret .none) P E {s with heap:=H1}:=λst z hs F=>by
  rw[F];show or (SQ i rfl (or (Qf i rfl ?_ (Nw _) ?_)))
  .simp![bne_self_eq_false,MZ,if_false]
   obtain⟨c,g4⟩:∃c,(H1.update a (Na λ_=>(arrOf st).map (·.2))).get? a=U (seqObj "list" ((arrOf st).map (·.2)) c):=⟨_,Qn i λ_=>(arrOf st).map (·.2)⟩
   show Mf (h _ z hs _ c (λb o m e=>(Nn H1 _ (MR m)).trans (keep b o m e)) (by assumption))
  .have:=z.length_eq;rw[OZ]at this;lia
 let zs:∀l:Z Ml,(l.toArray.zip l.toArray).map (·.2)=l.toArray:=λl=>by
  rw[show l.toArray.zip l.toArray=(l.zip l).toArray by simp];simp[R0]
 by_cases t:vs.toArray.size<2
 .rw[n_ t,n_ t]
  let H:(arrOf (OR general' (vs.toArray.zip vs.toArray) #[] 7 B)).map (·.2)=vs.toArray:=zs vs
  show fin (OR general' (vs.toArray.zip vs.toArray) #[] 7 B) (by rw[H]) ?_ rfl
  rw[H];clear fin f L h ho keep hH i X H
  rcases vs with _|⟨v,_|⟨v',r⟩⟩
  .show .nil
  .show S1 _ _
  .show absurd t (by simp)
 .rw[o_ t,o_ t]
  rw[Nc]at t;show or (NO (L ⟨⟩ H1 keep _ ?_) (λ_ _ q=>q) λ_ _ x=>x.elim)
  let S:∀x∈vs.toArray.zip vs.toArray,x.1=x.2/\x.1∈vs:=λx d=>mem_zip_self (by simp_all)
  let N:(vs.toArray.zip vs.toArray).size=vs.length:=by simp
  let R:=SM.lZ (prog:=prog) (w:=w) (A:=A) (E:=E) (s:={s with heap:=H1}) (κ:=κ) (T:=vs.toArray.zip vs.toArray) (g:=7) (LT:=λx y=>LT x.1 y.1) Z8
   (λx d y D C hC=>f ⟨⟩ H1 keep x.1 y.1 C (S x d).2 (S y D).2 hC) ⟨⟩ (by rw[N];show I) (ps:=λ_=>0) (λ_ _ _ _ _ _=>Mj _)
   (Q:=λ_ st=>((arrOf st).map (·.2)).toList.Perm vs/\((arrOf st).map (·.2)).toList.Pairwise (λu v=>LT v u=Y)/\failedOf st=B) (λb p g z M=>by
    let he:∀x∈b,x.1=x.2:=λx d=>(S x (z.mem_iff.mp d)).1
    show⟨?_,?_,rfl⟩
    .have:=(SE.mp z).map (·.2)
     simp_all
    .rw[Array.toList_map,N7]
     let bz:b.size=vs.length:=by rw[z.size_eq,N]
     rw[N,<-bz]at M;show(SM.F7 λp q h1 t h3=>SM.AA (M p q h1 t h3)).imp_of_mem λ{x y} d D q=>?_
     rw[<-he x (by simp_all),<-he y (by simp_all)];show q)
  show or (NO R ?_ λ_ _ e=>e)
  rintro⟨⟨⟩,W⟩ s' ⟨rfl,z,hs,F⟩
  show fin W z hs F
end
def iO (lt:D->D->G Bool):Z D->Z D->G Bool
 |[],[]=>U Y
 |[],_::_=>U V
 |_::_,[]=>U Y
 |x::xs,y::ys=>if x=y then iO lt xs ys else lt x y
def KH:Nat->D->D->G Bool
 |_,.int i,.int j=>U (decide (i<j))
 |_,.str x,.str y=>U (decide (x.cps.toList<y.cps.toList))
 |n+1,.tup xs,.tup ys=>iO (KH n) xs ys
 |_,_,_=>B
theorem Eg {x y:MJ}(h:x.cps.toList=y.cps.toList):x=y:=by
 let⟨a⟩:=x;simp_all
section
variable{lt:D->D->G Bool}
theorem wa (h:∀x y z,lt x y=U V->lt y z=U V->lt x z=U V) (hi:∀x y,lt x y=U V->lt y x≠U V):∀xs ys k,iO lt xs ys=U V->iO lt ys k=U V->iO lt xs k=U V
 |[],[],_,a,_=>by simp[iO]at a
 |[],_::_,[],_,b=>by assumption
 |[],_::_,_::_,_,_=>by rfl
 |_::_,[],_,a,_=>by simp[iO]at a
 |_::_,_::_,[],_,b=>by assumption
 |x::xs,y::ys,z::k,a,b=>by
  simp![iO]at a b⊢
  by_cases g:x=y
  .subst g
   rw[n_ rfl]at a
   by_cases j:x=z
   .subst j
    rw[n_ rfl]at b⊢;show wa h hi xs ys k a b
   rfl'
  grind
theorem yj (hi:∀x y,lt x y=U V->lt y x≠U V):∀xs ys,iO lt xs ys=U V->iO lt ys xs≠U V
 |[],[],a=>by simp[iO]at a
 |[],_::_,_=>by simp[iO]
 |_::_,[],a=>by simp[iO]at a
 |x::xs,y::ys,a=>by
  simp![iO]at a⊢
  by_cases k:x=y
  .subst k
   rw[n_ rfl]at a⊢;show yj hi xs ys a
  .rw[o_ k]at a
   rw[o_ (MR k)];show hi _ _ a
theorem tR (h:∀x y,lt x y=U Y->x=y\/lt y x=U V):∀xs ys,iO lt xs ys=U Y->xs=ys\/iO lt ys xs=U V
 |[],[],_=>.inl rfl
 |[],_::_,a=>by simp[iO]at a
 |_::_,[],_=>.inr (by rfl)
 |x::xs,y::ys,a=>by
  simp![iO]at a⊢
  by_cases k:x=y
  .simp_all [n_,tR]
  grind
end
def rB (h:KH n d e=U r):(∃i j,d=.int i/\e=.int j/\r=decide (i<j))\/(∃x y,d=.str x/\e=.str y/\r=decide (x.cps.toList<y.cps.toList))\/∃k xs ys,n=k+1/\d=.tup xs/\e=.tup ys/\iO (KH k) xs ys=U r:=by
 unfold KH at h;split at h
 .ext h;show .inl ⟨_,_,rfl,rfl,rfl⟩
 .ext h;show .inr (.inl ⟨_,_,rfl,rfl,rfl⟩)
 .show .inr (.inr ⟨_,_,_,rfl,rfl,rfl,h⟩)
 .ext h
def HE (n:Nat) (i j:Int):KH n (.int i) (.int j)=U (decide (i<j)):=by rw[KH]
def G5 (n:Nat) (x y:MJ):KH n (.str x) (.str y)=U (decide (x.cps.toList<y.cps.toList)):=by rw[KH]
theorem tM (n:Nat):∀(x y:D),KH n x y=U V->KH n y x≠U V:=by
 induction n using Oq with
 |_ n g=>
  intro x y h
  rcases rB h with⟨i,j,rfl,rfl,e⟩|⟨a,b,rfl,rfl,e⟩|⟨k,xs,ys,rfl,rfl,rfl,e⟩
  .rw[HE];simp at e⊢;lia
  .rw[G5];show λq=>List.lt_asymm (of_decide_eq_true e.symm) (of_decide_eq_true (NB q))
  .show yj (g k k.lt_succ_self) _ _ e
theorem Gc (n:Nat):∀(x y z:D),KH n x y=U V->KH n y z=U V->KH n x z=U V:=by
 induction n using Oq with
 |_ n v=>
  intro x y z h p
  rcases rB h with⟨i,j,rfl,rfl,e⟩|⟨a,b,rfl,rfl,e⟩|⟨k,xs,ys,rfl,rfl,rfl,e⟩<;>rcases rB p with⟨_,_,q,rfl,g⟩|⟨_,_,q,rfl,g⟩|⟨_,_,_,u,q,rfl,g⟩<;>ext q
  .rw[HE];simp at e g⊢;lia
  .rw[G5];show p_ U (decide_eq_true (List.lt_trans (of_decide_eq_true e.symm) (of_decide_eq_true g.symm)))
  .ext u;show wa (v k k.lt_succ_self) (tM k) _ _ _ e g
theorem yB (n:Nat):∀(x y:D),KH n x y=U Y->x=y\/KH n y x=U V:=by
 induction n using Oq with
 |_ n g=>
  intro x y h
  rcases rB h with⟨i,j,rfl,rfl,e⟩|⟨a,b,rfl,rfl,e⟩|⟨k,xs,ys,rfl,rfl,rfl,e⟩
  .rw[HE];simp at e⊢;lia
  .rw[G5];simp![OJ,decide_eq_true_eq,D.str.injEq];let e:=of_decide_eq_false e.symm;grind [Eg,List.le_antisymm]
  .show(tR (g k k.lt_succ_self) _ _ e).imp (p_ _) id
def LtAt (A:Nl) (s:Mn) (y x:Ml) (b:Bool):Prop:=
 ∀(prog:Ol) (w:O0) (E:Ml->Mn->Prop) (Q:Ml->Mn->Prop),Q (.bool b) s->wpAny (model prog w) A (richCompare .Lt y x) Q E s
inductive LexAt (A:Nl) (s:Mn):Z Ml->Z Ml->Bool->Prop
 |none:LexAt A s [] [] Y
 |less {w:Ml}{ws:Z Ml}:LexAt A s [] (w::ws) V
 |more {v:Ml}{vs:Z Ml}:LexAt A s (v::vs) [] Y
 |eq {v w:Ml}{vs ws:Z Ml}{b:Bool}:Qh A s v w V->LexAt A s vs ws b->LexAt A s (v::vs) (w::ws) b
 |ne {v w:Ml}{vs ws:Z Ml}{b:Bool}:Qh A s v w Y->LtAt A s v w b->LexAt A s (v::vs) (w::ws) b
section
open PySem.SeqAt
open PySem.AutoSeq1 (wpAny_loadPart')
open PySem.MeetsSeq PySem.MeetsSeq2 PySem.MeetsSeq3
def xC (l b:MM) (items k:Array Ml) (n W:Nat) (dd o:G MM) (N f:Array (G Ml)) (r:Bool):
  Meets (Ou.«tuple.__lt__» ⟨[.ref l,.ref b],[]⟩)
   (λA R s=>s.heap.get? l=U {cls:=.type "tuple",dict:=dd,data:=.seq items n,slots:=N}/\s.heap.get? b=U {cls:=.type "tuple",dict:=o,data:=.seq k W,slots:=f}/\
    LexAt A.in1 s items.toList k.toList r/\R (.ok (.ret (.bool r))) s):=
 .of_wp λprog w A R s h=>by
  let(K,g,d,tk,os):=s;let(F,I,T,h):=h;let P:=AutoSeq1.sub_tuple_tuple
  wp_walk using SY F,SY I,P7 _ (λz b s'=>b.1=B/\s'=⟨K,g,d,tk,os⟩/\∃(vs t:Z Ml),z=vs.zip t/\
   LexAt A.in1 ⟨K,g,d,tk,os⟩ vs t r/\vs.length+k.size=t.length+items.size) _
  case turn=>
   rintro⟨y,x⟩ z b s' ⟨c,rfl,vs,t,hz,v,j⟩
   cases v with
   |none=>trivial
   |less=>trivial
   |more=>trivial
   |eq e C=>
    injection hz with q u
    injection q with m p
    subst m p;simp![MX]at j;show or (e prog w _ _ ?_)
    wp_walk
    show⟨rfl,rfl,_,_,u,C,()⟩
   |ne e a=>
    injection hz with q u
    injection q with m p
    subst m p;show or (e prog w _ _ ?_)
    let i:=a prog w
    wp_walk using i
    show⟨_,rfl,by simpa using h⟩
  case fin=>
   rintro⟨b1,b2⟩ s' ⟨c,rfl,vs,t,hz,v,j⟩
   subst c;let S:r=decide (items.size<k.size):=by
    cases v with
    |none=>simp![PZ]at j;show(decide_eq_false ⟨⟩).symm
    |less=>simp_all
    |more=>simp![PZ,MX]at j;show(decide_eq_false ()).symm
    |eq _ _=>trivial
    |ne _ _=>trivial
   rw[S]at h
   wp_walk
   show⟨_,rfl,by assumption⟩
  case h=>show⟨rfl,rfl,items.toList,k.toList,rfl,T,by simp;lia⟩
end
def LtAt.tuples (m:s.heap.IsTuple l items) (a:s.heap.IsTuple b k) (f:A.units<cLine) (d:LexAt A.in1 s items.toList k.toList r):LtAt A s (.ref l) (.ref b) r:=λprog w E Q h=>by
 let((cls,dd,q,t),ho,i,n,hd):=id m;let((p,y,z,g),j,v,c,u):=id a;subst i hd v u;show richCompare_meets_room (op:=.Lt) ⟨_,ho,rfl⟩ ⟨_,j,rfl⟩ PySem.F.slot_tuple_lt PySem.F.entry_tuple_lt (PySem.F.args_tuple_lt_2 _ _) (xC l b items k n c dd y t g r)
  ⟨ho,j,d,show Ob r≠Value.notImplemented/\Q (.bool r) s from⟨(λx=>nomatch x),h⟩⟩ f
def JC (x y:D):Prop:=KH 15 y x≠U V
def Dd (x:D):Z D->Z D
 |[]=>[x]
 |y::ys=>if KH 15 y x=U V then y::Dd x ys else x::y::ys
def gH (ds:Z D):Z D:=ds.foldr Dd []
def oi (ds:Z D):Bool:=ds.all λx=>KY 15 x&&ds.all λy=>(KH 15 x y).isSome
def oG {ds:Z D}(h:oi ds=V) (g:x∈ds) (j:y∈ds):∃b,KH 15 x y=U b:=by
 let k:=MH.mp h x g;rw[Mo]at k;show Qv.mp (MH.mp k.2 y j)
def oh {ds:Z D}(h:oi ds=V) (j:x∈ds):KY 15 x=V:=by
 unfold oi at h;let k:=MH.mp h x j;rw[Mo]at k;show k.1
theorem lS (x:D):∀l:Z D,(Dd x l).Perm (x::l)
 |[]=>S4.refl _
 |y::ys=>by
  ext Dd;split
  .show((lS x ys).cons y).trans (S4.swap x y ys)
  rfl
theorem bQ:∀ds:Z D,(gH ds).Perm ds
 |[]=>S4.refl _
 |d::ds=>by
  show(lS d _).trans ((bQ ds).cons d)
def Ba {ds:Z D}(h:oi ds=V) (hx:x∈ds) (hy:y∈ds) (hz:z∈ds) (a:JC x y) (b:JC y z):JC x z:=by
 intro c;let(r1,e1):=oG h hy hx;let(r2,e2):=oG h hz hy;cases r1 with
 |true=>show a e1
 |false=>
  cases r2 with
  |true=>show b e2
  |false=>
   grind [yB,tM,Gc]
def A8 {ds:Z D}(h:oi ds=V) (hx:x∈ds) (hy:y∈ds) (a:JC x y) (b:JC y x):x=y:=by
 let(r1,e1):=oG h hx hy;cases r1 with
 |true=>trivial
 |false=>
  rcases yB 15 _ _ e1 with q|q
  .show q
  trivial
nonrec theorem l0 {ds:Z D}(h:oi ds=V) (j:x∈ds):∀l:Z D,(∀y∈l,y∈ds)->l.Pairwise JC->(Dd x l).Pairwise JC
 |[],_,_=>by simp[Dd]
 |y::ys,k,g=>by
  ext Dd;let(p,v):=OK.mp g;let u:=k y MB;split
  .rename_i c
   show OK.mpr ⟨λz hz=>?_,l0 h j ys (λz hz=>k z (MA _ hz)) v⟩
   rcases MG.mp ((lS x ys).mem_iff.mp hz)with q|q
   .subst q;show tM 15 _ _ c
   simp_all
  .rename_i c
   show OK.mpr ⟨λz hz=>?_,g⟩
   rcases MG.mp hz with q|q
   .subst q;show c
   .show Ba h j u (k z hz) c (p z q)
def dO {ds:Z D}(h:oi ds=V):(gH ds).Pairwise JC:=by
 let key:∀l:Z D,(∀y∈l,y∈ds)->(gH l).Pairwise JC:=by
  intro l
  induction l with
  |nil=>intro _;show Q4
  |cons y l ih=>
   show λhm=>l0 h (hm y MB) _ (λz hz=>hm z (MA _ ((bQ l).mem_iff.mp hz))) (ih λz hz=>hm z (MA _ hz))
 show key ds λ_ h=>h
theorem gW {ds:Z D}(h:oi ds=V):∀(k g:Z D),(∀y∈k,y∈ds)->k.Perm g->k.Pairwise JC->g.Pairwise JC->k=g
 |[],g,_,j,_,_=>(List.nil_perm.mp j).symm
 |a::k,[],_,j,_,_=>(List.perm_nil.mp j)
 |a::k,b::g,q,j,f,d=>by
  let(t,r):=OK.mp f;let(p2,p):=OK.mp d;let v:=λy u=>q y (j.mem_iff.mpr u)
  let ab:a=b:=by
   let c:a∈b::g:=j.mem_iff.mp MB;let w:b∈a::k:=j.mem_iff.mpr MB
   rcases MG.mp c with z|z
   .show z
   .rcases MG.mp w with y|y
    .show y.symm
    .show A8 h (q a MB) (v b MB) (t b y) (p2 a z)
  subst ab;rw[gW h k g (λy u=>q y (MA _ u)) (List.perm_cons a |>.mp j) r p]
inductive KD|st|it|ts|ti
def ma:KD->D->Bool
 |.st,.str _=>V
 |.it,.int _=>V
 |.ts,.tup (.str _::_)=>V
 |.ti,.tup (.int _::_)=>V
 |_,_=>Y
def sL (h:ma .ts d=V):∃x ds,d=.tup (.str x::ds):=by
 unfold ma at h;split at h<;>simp_all
def sX (h:ma .ti d=V):∃x ds,d=.tup (.int x::ds):=by
 unfold ma at h;split at h<;>simp_all
def Dz:KD->Q9
 |.st=>oneType'
 |.it=>oneType'
 |.ts=>tuples' V
 |.ti=>tuples' V
section
variable{prog:Ol}{w:O0}{A:Nl}{E:Ml->Mn->Prop}{s:Mn}
def mX:∀{vs g:Z Ml}{i:Nat},LexAt A s vs g r->(b=Y\/1<=i)->(fin=decide (vs.length<g.length))->Q r s->KatLex prog w A b fin Q (vs.zip g) i s:=by
 intro vs g i h
 induction h generalizing i with
 |none=>
  intro j k q;subst k
  assumption
 |less=>
  intro j k q;subst k
  assumption
 |more=>
  intro j k q;subst k
  assumption
 |eq u p v=>
  intro j k q;show Ss (u prog w _ _ (kat_yes ?_))
  show v (.inr ⟨⟩) (by rw[k];simp) q
 |ne u y=>
  intro j k q;show Ss (u prog w _ _ (kat_no ?_))
  let hz:(b&&i==0)=Y:=by
   rcases j with z|z
   .rw[z,Bool.false_and]
   .lia
  rw[hz];show kat_one _ _ (y prog w _ _ q)
end
def HI {ds:Z D}(h:oi ds=V) {f:Ml->D}(v:ds≠[]->∀u,f u∈ds) (z:ds=[]->∀u,f u=.non):SM.OrdK λx y=>decide (KH 15 (f x.1) (f y.1)=U V):=by
 by_cases g:ds=[]
 .let e:=z g
  show⟨λi j q=>by simp[e,KH],λi j k _ _=>by simp[e,KH]⟩
 .show⟨λi j q=>decide_eq_false (tM 15 _ _ (of_decide_eq_true q)),λi j k a b=>decide_eq_false (Ba h (v g _) (v g _) (v g _) (of_decide_eq_false a) (of_decide_eq_false b))⟩
variable[Md]
section
variable{M:Mp}{s:Mn}{m m':Bool}
theorem BS (H:Hm M s.heap) (l:A.units+n+1<cLine) (b:∀{d e u v r},KY n d=V->KY n e=V->R m M d u->R m' M e v->KH n d e=U r->LtAt A s u v r):
  ∀{ds es us vs r},ds.all (KY n)=V->es.all (KY n)=V->Rs m M ds us->Rs m' M es vs->iO (KH n) ds es=U r->LexAt A s us vs r
 |[],[],us,vs,r,hd,g,j,k,h=>by ext j;ext k;ext h;show .none
 |[],e::es,us,vs,r,hd,g,j,k,h=>by ext j;let(y,t,rfl,_,_):=k;ext h;show .less
 |d::ds,[],us,vs,r,hd,g,j,k,h=>by ext k;let(y,t,rfl,_,_):=j;ext h;show .more
 |d::ds,e::es,us,vs,r,hd,g,j,k,h=>by
  let(x,a,rfl,p,f):=j;let(y,i,rfl,z,w):=k;rw[Ni,Mo]at hd g;let q:=(Er H n A hd.1 g.1 l p z).2.1;simp![iO]at h
  by_cases c:d=e
  .rw[n_ c]at h;rw[decide_eq_true c]at q;show .eq q (BS H l b hd.2 g.2 f w h)
  .rw[o_ c]at h;rw[decide_eq_false c]at q;show .ne q (b hd.1 g.1 p z h)
def IL (H:Hm M s.heap):∀(n:Nat) {d e u v r} (A:Nl),KY n d=V->KY n e=V->A.units+n+1<cLine->R m M d u->R m' M e v->KH n d e=U r->LtAt A s u v r:=by
 intro n
 induction n using Oq with
 |ind n ih=>
 intro d e u v r A hd he hA rd re h
 rcases rB h with⟨i,j,rfl,rfl,rfl⟩|⟨i,j,rfl,rfl,rfl⟩|⟨k,ds,es,rfl,rfl,rfl,h⟩
 .let(t,rfl):=rd;let(t',rfl):=re
  show λprog w E Q hq=>(lt_int hq:wpAny (model prog w) A (compareOp .Lt (.int i t) (.int j t')) Q E s)
 .let(t,rfl):=rd;let(t',rfl):=re
  show λprog w E Q hq=>(lt_str hq:wpAny (model prog w) A (compareOp .Lt (.str i t) (.str j t')) Q E s)
 .let(a,o,us,rfl,q1,t1,r1):=rd
  let(b,o',vs,rfl,q2,t2,r2):=re;let hA':A.in1.units+k+1<cLine:=by change A.units+1+k+1<cLine;lia
  show LtAt.tuples (t1.is H q1) (t2.is H q2) () (by simpa using BS H hA' (λo1 o2 r1 r2 hl=>ih k (Nj k) A.in1 o1 o2 hA' r1 r2 hl) hd he r1 r2 h)
def FC (H:Hm M s.heap) {A:Nl}(hA:A.units+20<cLine) (hd:KY 15 d=V) (N:KY 15 e=V) (K:ma c d=V) (l:ma c e=V) (rd:R m M d u) (re:R m' M e v) (h:KH 15 d e=U r) {C:Bool->Mn->Prop}(q:C r s):wpAny (model P w) A (keyLt' (Dz c) u v) C (λ_ _=>False) s:=by
 let ll:∀{ds es us vs r},ds.all (KY 14)=V->es.all (KY 14)=V->Rs m M ds us->Rs m' M es vs->iO (KH 14) ds es=U r->LexAt A s us vs r:=λh1 h2 h3 h4 h5=>BS H () (λo1 o2 n f hl=>IL H 14 A o1 o2 () n f hl) h1 h2 h3 h4 h5
 cases c with
 |st=>
  ext d<;>simp![ma,MZ]at K
  ext e<;>simp![ma,MZ]at l
  let(t,rfl):=rd;let(t',rfl):=re;simp![KH,OJ]at h;subst h;show oneLt_str q
 |it=>
  ext d<;>simp![ma,MZ]at K
  ext e<;>simp![ma,MZ]at l
  let(t,rfl):=rd;let(t',rfl):=re;simp![KH,OJ]at h;subst h;show oneLt_int q
 |ts=>
  let(i,ds,rfl):=sL K;let(j,es,rfl):=sL l;let(a,o,us,rfl,g,T,n):=rd;let(b,L,vs,rfl,S,W,f):=re;let(_,I,c1,n1,d1):=T.is H g;let(_,F,c2,n2,d2):=W.is H S;show kat_lt I d1 F d2 ?_
  let(x,X,rfl,(t,rfl),p):=n;let(y,E,rfl,(t',rfl),z):=f;simp![KY,Ni,Mo]at hd N;simp![KH,iO,D.str.injEq]at h;let g:=SR (A:=A) (s:=s) i t j t'
  by_cases k:i=j
  .subst k
   rw[n_ rfl]at h;rw[beq_self_eq_true]at g;show Ss (g _ _ _ _ (kat_yes (mX (ll hd.2 N.2 p z h) (.inr (Mj _)) (by simp) q)))
  .rw[o_ k]at h
   let Q:(i==j)=Y:=by simpa using k
   rw[Q]at g;show Ss (g _ _ _ _ (kat_no ?_))
   simp![OJ]at h;subst h;show oneLt_str q
 |ti=>
  let(i,ds,rfl):=sX K;let(j,es,rfl):=sX l;let(a,o,us,rfl,g,T,n):=rd;let(b,L,vs,rfl,S,W,f):=re;let(_,I,c1,n1,d1):=T.is H g;let(_,F,c2,n2,d2):=W.is H S;show kat_lt I d1 F d2 ?_
  let(x,X,rfl,(t,rfl),p):=n;let(y,E,rfl,(t',rfl),z):=f;simp![KY,Ni,Mo]at hd N;simp![KH,iO,D.int.injEq]at h;let g:=SS (A:=A) (s:=s) i t j t'
  by_cases k:i=j
  .subst k
   rw[n_ rfl]at h;rw[beq_self_eq_true]at g;show Ss (g _ _ _ _ (kat_yes (mX (ll hd.2 N.2 p z h) (.inr (Mj _)) (by simp) q)))
  .rw[o_ k]at h
   let Q:(i==j)=Y:=by simpa using k
   rw[Q]at g;show Ss (g _ _ _ _ (kat_no ?_))
   simp![OJ]at h;subst h;show oneLt_int q
theorem xG (H:Hm M s.heap) {T:Ml->Prop}(j:∀{d:D},ma c d=V->∃z es,d=.tup (z::es)/\∀v,R m M z v->T v):∀{ds:Z D}{us},ds.all (ma c)=V->Rs m M ds us->∃fs,KatTups s.heap us fs/\fs.length=us.length/\∀f∈fs,T f
 |[],us,_,r=>by ext r;show⟨[],.nil,rfl,λ_ h=>nomatch h⟩
 |d::ds,us,k,r=>by
  let(x,i,rfl,u,g):=r;rw[Ni,Mo]at k;let(fs,b,w,N):=xG H j k.2 g;let(z,es,rfl,hz):=j k.1;let(a,o,vs,rfl,q,t,rs):=u;let(_,p,n,n1,d1):=t.is H q;let(y,l,rfl,e,_):=rs;show⟨y::fs,.cons p n d1 (by simp) b,by simp[w],λf K=>by
   grind⟩
theorem Al (H:Hm M s.heap) {ds:Z D}{us:Z Ml}(g:2<=us.length) (p:ds.all (ma c)=V) (r:Rs m M ds us) {Q:Q9->Mn->Prop}(q:Q (Dz c) s):
  wpAny (model P w) A (keyKind' us.toArray) Q (λ_ _=>False) s:=by
 let k:∀u∈us,∃d,ma c d=V/\R m M d u:=λu j=>by
  let(d,i,g):=r.mem j;show⟨d,MH.mp p d i,g⟩
 cases c with
 |st=>
  show kas_kind (T:=.type "str") g (λu j=>?_) ∅ ∅ q
  let(d,y,rd):=k u j;ext d<;>simp![ma,MZ]at y
  let(t,rfl):=rd;show .now
 |it=>
  show kas_kind (T:=.type "int") g (λu j=>?_) ∅ ∅ q
  let(d,y,rd):=k u j;ext d<;>simp![ma,MZ]at y
  let(t,rfl):=rd;show .now
 |ts=>
  let(fs,l,a,n):=xG (c:=.ts) (T:=λv=>∃z t,v=.str z t) H (λh=>by let(x,ds,rfl):=sL h;show⟨_,_,rfl,λv ⟨t,e⟩=>⟨x,t,e⟩⟩) p r
  show kat_kind (T:=.type "str") l () (λf b=>?_) ∅ q
  let(z,t,rfl):=n f b;show .now
 |ti=>
  let(fs,l,a,n):=xG (c:=.ti) (T:=λv=>∃z t,v=.int z t) H (λh=>by let(x,ds,rfl):=sX h;show⟨_,_,rfl,λv ⟨t,e⟩=>⟨x,t,e⟩⟩) p r
  show kat_kind (T:=.type "int") l () (λf b=>?_) ∅ q
  let(z,t,rfl):=n f b;show .now
set_option tactic.hygienic true in
open Classical in
theorem E7 {ds:Z D}{us:Z Ml}(r:Rs m M ds us) (hc:oi ds=V):∃f:Ml->D,(ds≠[]->∀u,f u∈ds)/\(ds=[]->∀u,f u=.non)/\us.map f=ds/\∀u∈us,R m M (f u) u:=by
 let val:∀d u,d∈ds->R m M d u->(if h:∃d,d∈ds/\R m M d u then h.choose else ds.headD .non)=d:=λd u hd hr=>by
  let h:∃d,d∈ds/\R m M d u:=⟨d,hd,hr⟩;rw[dif_pos h];show R.inj (oh hc h.choose_spec.1) (oh hc hd) h.choose_spec.2 hr
 show⟨λu=>if h:∃d,d∈ds/\R m M d u then h.choose else ds.headD .non,λhn u=>?_,λhn u=>?_,?_,λu hu=>?_⟩
 .left
  split
  .rename_i h;show h.choose_spec.1
  .cases ds with
   |nil=>show absurd rfl hn
   |cons d ds=>show .head _
 .simp_all
 .show PK λi=>?_
  rw[MO]
  cases e:ds[i]? with
  |none=>have:=r.length;simp_all
  |some d=>let(u,h1,h2):=r.get e;rw[h1,Option.map_some,val d u (Mr e) h2]
 .let(d,h1,h2):=r.mem hu
  left;rw[val d u h1 h2];show h2
theorem Gv:∀{us:Z Ml},(∀u∈us,R m M (f u) u)->Rs m M (us.map f) us
 |[],_=>rfl
 |u::us,h=>⟨u,us,rfl,h u (.head _),Gv λu k=>h u (.tail _ k)⟩
end
def lh (c:KD) (x:G D):G D:=match x with|some (.lst ds)=>if(oi ds&&(decide (ds.length<2)||ds.all (ma c))&&decide (ds.length<64))=V then U (.lst (gH ds)) else B|_=>B
def ua {ds:Z D}(g:oi ds=V) (j:ds.length<2\/ds.all (ma c)=V) (k:ds.length<64):lh c (U (.lst ds))=U (.lst (gH ds)):=by
 ext lh;rfl'
nonrec theorem nF (h:lh c x=U d):∃ds,x=U (.lst ds)/\oi ds=V/\(decide (ds.length<2)||ds.all (ma c))=V/\ds.length<64/\d=.lst (gH ds):=by
 unfold lh at h;split at h<;>try cases h
 split at h<;>ext h
 rename_i z;rw[Mo,Mo]at z;show⟨_,rfl,z.1.1,z.1.2,of_decide_eq_true z.2,rfl⟩
section
variable{X:Cx}{M:Mp}{O:DEnv}{s:Mn}{a b:Expr}{fa fb:DEnv->G D}{m m':Bool}{p p2 pos pos2:Q6}{t u:Bool}{Q:Ml->Mn->Prop}
def k7 {ds:Z D}{us:Z Ml}(I:Inv X M O s) (r:Rs Y M ds us) (h64:ds.length<64) (p:oi ds=V) (F:(decide (ds.length<2)||ds.all (ma c))=V) (q:PostF X M O (.lst (gH ds)) Q):
  wpAny (model P w) X.A.in1 (do
   let l <-newList us
   let _ <-holding [l] (call (.builtin "list.sort") [l] [])
   ret l) (λfin s'=>∃w,fin=.done (.ret w)/\Q w s') (λ_ _=>False) s:=by
 let(f,f1,f0,W,N):=E7 r p;let hl:=r.length;let hz:us.length<=sizeLine:=by rw[QX];lia
 let un:=I.un;let j:2<=us.length->ds.all (ma c)=V:=λh=>by
  rw[P5,decide_eq_true_iff]at F
  rcases F with z|z
  .lia
  .show z
 show or (RZ ?_ hz)
 let E:(s.heap.push (seqObj "list" us.toArray 0)).get? s.heap.objs.size=U (seqObj "list" us.toArray 0):=Mm _ rfl
 let t:∀b o,s.heap.get? b=U o->b≠s.heap.objs.size/\(s.heap.push (seqObj "list" us.toArray 0)).get? b=U o:=λb o e=>⟨MU (MD e),Mg _ e⟩
 show or (MQ (MT slot_list_sort ⟨_,E,rfl⟩ entry_list_sort ?_ (args_list_sort _)))
 let hA:X.A.in1.in1.units+20<cLine:=by change X.A.units+1+1+20<cLine;lia
 show zL (s:={s with heap:=s.heap.push (seqObj "list" us.toArray 0)}) (vs:=us) (κ:=Dz c) (LT:=λu v=>decide (KH 15 (f u) (f v)=U V)) E ⟨⟩ (HI p f1 f0) (λm n kp Q' H=>?_) (λm n kp u R C i d hC=>?_) (λk K hs n cc kp g=>?_)
 .let T:Inv X M O {s with heap:=n}:=I.kp λb o e=>kp b o (t b o e).1 (t b o e).2
  show Al T.heap m (j m) r H
 .let T:Inv X M O {s with heap:=n}:=I.kp λb o e=>kp b o (t b o e).1 (t b o e).2
  let a:f u∈ds:=by rw[<-W];show No i
  let x:f R∈ds:=by rw[<-W];show No d
  let(rr,er):=oG p a x;show FC T.heap hA (oh p a) (oh p x) (MH.mp (j m) _ a) (MH.mp (j m) _ x) (N u i) (N R d) er ?_
  simp_all
 .let es:k.map f=gH ds:=by
   let perm:(k.map f).Perm ds:=by rw[<-W];show K.map f
   show gW p _ _ (λy L=>perm.mem_iff.mp L) (perm.trans (bQ ds).symm) ?_ (dO p)
   rw[N7];show hs.imp λq=>of_decide_eq_false q
  let S:=Gv (us:=k) λu i=>N u (K.mem_iff.mp i)
  rw[es]at S;show⟨_,rfl,Mf ⟨_,rfl,q _ _ {s with heap:=n} M Ext.refl (I.kp λb o e=>kp b o (t b o e).1 (t b o e).2) (I.fresh (Mj _)) g ⟨k,⟨by rw[K.length_eq];show hz,cc,rfl⟩,S⟩⟩⟩
def kN:bootBuiltins "sorted"=U (.builtin "sorted"):=by rfl
def xW (g:Bn X "sorted") (y:DE X Y a fa):DF X (.Call (.Name "sorted" p) [a] [] pos) (λO=>lh c (fa O)):=⟨rfl,λI e k=>by
 let(ds,n,f,d,w,rfl):=nF e;show o5 g kN y I n λv i M1 u j r=>?_
 let(l,o,vs,rfl,q,t,rs):=r;let z:=t.1;show SI kind_sorted plain_sorted entry_sorted (args_sorted1 _) ?_
 show or (m:=checkCount "sorted" 1 1 _) (Mf (or (collect_list (t.is j.heap q) ?_ ⟨⟩)))
 show k7 (j.kp λb o e=>?_) rs w f d (PostF.to k u)
 show(Nn _ _ (NV (MD e))).trans (Mg _ e)⟩
end
end L2
namespace L2
open PySem PySem.Spec PyProof.Rows PySem.W Md
nonrec theorem u5 {pos pos':Q6}(l:Z Ml) (ht:TriplesOk l) (h:codeAmong pos' (l++[rawInt pos.line,rawInt pos.col,c])=U cv):codeAmong pos' l=U cv\/cv=c:=by
 fun_induction TriplesOk l with
 |case1=>
  simp_all [Np,rawInt,codeAmong]
 |case2 a t b u x rest ih=>
  simp![List.cons_append,codeAmong]at h⊢;split at h
  .rename_i hc;rw[n_ hc];show .inl h
  .rename_i hc;rw[o_ hc];show ih ht h
 |case3 l h1 h2=>show ht.elim
def D6 (k vs:Array Ml) (h:k.size=vs.size):(k.zip vs).map (·.2)=vs:=by
 apply Array.ext
 .simp[h]
 .intro i g j;simp
def m4 (h:OF) (vs:Z Ml):OF:=Heap.push (Tq (h.push (seqObj "list" #[] 0)) h.objs.size (Na (· ++vs.toArray))) (seqObj "list" vs.toArray 0)
def wG (h:OF) (vs:Z Ml):(Tq (h.push (seqObj "list" #[] 0)) h.objs.size (Na (· ++vs.toArray))).objs.size=h.objs.size+1/\(m4 h vs).objs.size=h.objs.size+2/\
  (m4 h vs).get? (h.objs.size+1)=U (seqObj "list" vs.toArray 0)/\∀b o,h.get? b=U o->(m4 h vs).get? b=U o:=by
 let e:(Tq (h.push (seqObj "list" #[] 0)) h.objs.size (Na (· ++vs.toArray))).objs.size=h.objs.size+1:=by
  rw[Heap.size_update,size_push']
 show⟨e,by ext m4;simp,?_,λb o q=>?_⟩
 .rw[<-e];show Mm _ rfl
 .show Mg _ ((Heap.get?_update_ne _ _ _ _ (MU (MD q))).trans (Mg _ q))
def BQ (i:Nat) (bs:Z Bool) (fb:DEnv->G D) (O:DEnv) (d:D):G D:=ac (ae i d (eX Y bs O)) fb
variable[Md]
section
variable{X:Cx}{M M':Mp}{O:DEnv}{s s':Mn}
def Inv.tne (I:Inv X M O s) (k:q∈tb):X.env.locals≠q.1/\∀x c,X.env.cells.lookup x=U c->c≠q.1:=by
 let(_,ps,h,_):=I.tabs q k;show⟨λz=>?_,λx c e z=>?_⟩
 .let(_,(o,es,u,g,j,_),_):=I.loc;lia
 .let((v,o,g,j),_):=I.cell x c e;lia
def Inv.grow {P h:MM}{lq:MJ}{ps:Array Ml}{pos:Q6}{R:OF}{t':Nat}(I:Inv X M O s) (hP:(P,lq)∈tb) (hTu:∀q∈tb,q.1=P->q=(P,lq)) (D:s.heap.get? P=U {cls:=.none,data:=.fields ps}) (hx:PH P s.heap R) (L:s.heap.objs.size<=h) (hoc:R.get? h=U oc) (hd:oc.data=.fields vs) (hv:vs[1]?=U (.str lq t))
  (A:R.get? P=U (PySem.W.tabObj (ps++#[rawInt pos.line,rawInt pos.col,.ref h]))):Inv X (LV M h (U (.f,oc))) O {s with heap:=R,toks:=t'}:=by
 let(nl,nc):=I.tne hP;let f:=I.fresh L;let k:∀b o,b≠P->s.heap.get? b=U o->R.get? b=U o:=λb o hb e=>hx b o hb e
 let mP:=(I.tabs _ hP).1;let of:∀{b y},M b=U y->LV M h (U (.f,oc)) b=U y:=λ{b y} e=>by rw[ax (λz=>by rw[z,f.m]at e;ext e)];show e
 let no:∀{b},M b=B->b≠h->LV M h (U (.f,oc)) b=B:=λ{b} e n=>by rw[ax n];show e
 let ow:∀{b k o},LV M h (U (.f,oc)) b=U (k,o)->k.own=V->M b=U (k,o):=λ{b k o} e w=>by
  by_cases z:b=h
  .subst z;rw[ak]at e;ext e;ext w
  .rw[ax z]at e;show e
 let(m,(oL,es,ep,hL,hL2),hl):=I.loc;show⟨I.ok,I.og,λb r o e=>?_,λb o e=>of (I.base b o e),⟨m,⟨oL,es,ep,k _ _ nl hL,hL2⟩,λi x d b e1 e2 e3=>?_⟩,no I.free (MR f.l),λx c e=>?_,λq H=>?_,λb k o e w=>I.own _ _ _ (ow e w) w,λa b k o o' w e e'=>I.uni _ _ _ _ _ w (ow e w) (ow e' w),I.len,λr o e=>?_,I.stl,λj d b z=>?_,λM0 z=>?_,λa j o z=>I.slo _ _ _ (ow z rfl)⟩
 .by_cases z:b=h
  .simp_all [ak]
  .rw[ax z]at e;show k b o (λw=>⟨⟩) (I.heap _ _ _ e)
 .let(u,lk,va):=hl i x d b e1 e2 e3
  show⟨u,pi lk λc o e=>k c o (nc x c e),va.to (dY f.m) λa o=>of⟩
 .let((v,o,N,K),T):=I.cell x c e
  show⟨⟨v,o,k c o (nc x c e) N,K⟩,T.imp (λz=>no z λw=>f.c x (w▸e)) λ⟨g,o,z⟩=>⟨g,o,of z⟩⟩
 .let(N,qs,K,T,h4):=I.tabs q H
  show⟨no N λw=>f.t q H w.symm,?_⟩
  by_cases z:q.1=P
  .obtain rfl:=hTu q H z
   rw[D]at K;ext K;show⟨_,A,by rw[Rx];show TriplesOk_snoc _ _ _ _ T,λp cv e=>?_⟩
   rw[Rx]at e
   rcases u5 _ T e with e|e
   .let(c2,o2,Q,E,F,C,S):=h4 p cv e
    show⟨c2,o2,Q,E,F,of C,S⟩
   .show⟨h,oc,vs,t,e,ak,hd,hv⟩
  .show⟨qs,k _ _ z K,T,λp cv e=>?_⟩
   let(c2,o2,Q,E,F,C,S):=h4 p cv e;show⟨c2,o2,Q,E,F,of C,S⟩
 .rw[ax (MR f.s)]at e;show I.sys _ _ e
 .let(N,K):=I.sto j d b z;show⟨N,K.to (dY f.m) λxa o _ w=>of w⟩
 .let(N,K):=I.cap M0 z;show⟨N,λa j o=>⟨λw=>(K a j o).mp (ow w rfl),λw=>of ((K a j o).mpr w)⟩⟩
def Room.in1 (r:Room (k+1) A):Room k A.in1:=⟨r.hd,by have:=r.dp;change A.depth+_+_<_;lia,by have:=r.un;change A.units+1+_+_<_;lia⟩
end
abbrev EB (qual:MJ) (scope:O1) (cl:Z (MJ×MM)) (L f:MM) (cd:Ml):Env:={scope:=scope,locals:=L,globals:=mainGlobals,cells:=cl,qual:=qual++Nq ".<locals>.",func:=U f,code:=cd,frame:=U L,builtins:=builtinsNs}
abbrev Ki (N:Z MJ) (qual:MJ) (scope:O1) (cl:Z (MJ×MM)) (f:MM) (cd:Ml) (A:Nl) (L:MM) (vb:Bool) (S:Mp):Cx:={A:=A,N:=N,env:=EB qual scope cl L f cd,fn:=Y,st:=vb,S:=U S}
theorem mY {scope:O1}{env:Env}{x:MJ}:∀{j:Z (MJ×OQ)}{k:OQ},j.lookup x=U k->k≠.cell->
  (j.map λ(n,k)=>if(k==Pv&&env.scope.kind==.function&&env.kindOf n==U .cell) then(n,Ra) else(n,k)).lookup x=U k\/k=.free/\(j.map λ(n,k)=>if(k==Pv&&env.scope.kind==.function&&env.kindOf n==U .cell) then(n,Ra) else(n,k)).lookup x=U .cell
 |[],_,h,_=>by simp at h
 |(n,g)::r,k,h,v=>by
  let u:=@mY scope env x r k
  grind
section
variable{X:Cx}{M:Mp}{O:DEnv}{s s':Mn}{scope:O1}{bs:Z Bool}{fp:Z MM}
def Dm {m:MJ->G Ml}{C f:MM}{qual:MJ}{cd:Ml}{A:Nl}(S:CompScope X scope bs) (I:Inv X M O s) (a:∀b∈fp,Free X M b) (e:s.heap.objs.size<=C) (y:s'.heap.Ns C m) (n:∀b o,s.heap.get? b=U o->s'.heap.get? b=U o) (hg:s'.os=s.os/\s'.gens=s.gens)
  (c:Room 0 A):
  Inv (Ki X.N qual scope (be X.env scope.names []) f cd A C X.st (LC Y V V M s.heap fp)) (LC Y V V M s.heap fp) (eX Y bs O) s':=by
 let Z7:=th (bo:=Y) (bs:=bs) (fp:=fp) (m:=m) (C:=C) S I a e y n hg;let vis:∀{x k},scope.names.lookup x=U k->(relabel scope X.env).names.lookup x=U k\/k=.free/\(relabel scope X.env).names.lookup x=U .cell:=λ{x k} h=>mY (scope:=scope) (env:=X.env) h (λz=>S.cell _ (NG h) z)
 show⟨⟨I.ok.mod,S.kind,rfl,rfl,Z7.ok.inj,λx t=>?_,c⟩,Z7.og,Z7.heap,Z7.base,?_,Z7.free,Z7.cell,Z7.tabs,Z7.own,Z7.uni,Z7.len,Z7.sys,λz=>Z7.stl (by change(X.st&&!Y)=V;rw[show X.st=V from z];rfl),Z7.sto,λM0 z=>(by ext z;show⟨rfl,λ_ _ _=>QD⟩),Z7.slo⟩
 .show Z7.ok.has x ?_
  rcases t with h|h
  .show absurd rfl (S.cell _ (NG h))
  .rcases vis h with h|⟨_,h⟩
   .show .inr h
   .show .inl h
 .let(m',K,q):=Z7.loc
  show⟨m',K,λi x d b r p W=>?_⟩
  let T:∀{u},scope.names.lookup x=U .free->AZ (compEnvC scope (be X.env scope.names []) C X.env) s'.heap m' x u->AZ (EB qual scope (be X.env scope.names []) C f cd) s'.heap m' x u:=λ{u} h l=>by
   rcases l with⟨j,g⟩|⟨j,g⟩
   .rcases vis h with w|⟨_,w⟩
    .rw[show(compEnvC scope (be X.env scope.names []) C X.env).kindOf x=_ from w]at j;ext j
    .rw[show(compEnvC scope (be X.env scope.names []) C X.env).kindOf x=_ from w]at j;ext j
   .show .inr ⟨.inr h,g⟩
  rcases W with h|h|h
  .rcases vis h with w|⟨w,_⟩
   .let(u,l,v):=q i x d b r p (.inl w)
    show⟨u,?_,v⟩
    rcases l with⟨j,g⟩|⟨j,g⟩
    .show .inl ⟨h,g⟩
    .rw[show(compEnvC scope (be X.env scope.names []) C X.env).kindOf x=_ from w]at j;rcases j with j|j<;>ext j
   .ext w
  .show absurd rfl (S.cell _ (NG h))
  .let(u,l,v):=q i x d b r p (by rcases vis h with w|⟨_,w⟩;show .inr (.inr w);show .inr (.inl w))
   show⟨u,T h l,v⟩
def GO (M:Mp) (s:Mn) (f j:MM) (lq:MJ) (params:Re) (body:Expr) (scope:O1) (cl:Z (MJ×MM)) (pm k:Ml):Prop:=s.heap.get? f=U (PySem.W.kla_obj "<lambda>" lq params body scope cl pm j k)/\∃oc vs t,M j=U (.f,oc)/\oc.data=.fields vs/\vs[1]?=U (.str lq t)
theorem qW {E:Ml->Mn->Prop}{c P:MM}{lq:MJ}{params:Re}{body:Expr}{pos:Q6}{Q:Ml->Mn->Prop}(S:CompScope X scope bs) (I:Inv X M O s) (F:(P,lq)∈tb) (R:∀q∈tb,q.1=P->q=(P,lq)) (hq:X.env.qual++"<lambda>"=lq)
  (H:Qa base c P) (p:X.env.code=.ref c) (v:defaultsOf params X.env=([],[]))
  (h:∀f n pm k s' M',Ext M M'->Inv X M' O s'->Free X M' f->GO M' s' f n lq params body scope (be X.env scope.names []) pm k->Q (.ref f) s'):wpAny (model Md.P w) X.A (eval (.Lambda params body scope pos) X.env) Q E s:=by
 let y:=fy (S.has I);show PySem.W.kla_eval v ?_
 rw[hq];let(mP,ps,j,tr,rc):=I.tabs _ F;let hg:=I.ok.mod.glob.keeps I.bk;let N:mainGlobals≠P:=λz=>by
  let(o,es,ep,e,d,_):=hg;lia
 let(x,ob,b1,b2,b3,b4,b5,L):=I.ok.mod.bmain;let l:=I.bk _ _ b3;let r:x≠P:=λz=>()
 let b:x≠mainGlobals:=λz=>by
  let(o,es,ep,e,d,_):=hg;rfl'
 cases T:codeAmong pos ps.toList with
 |none=>
  show PySem.W.kla_makeFunction (mg:=mg) y I.ok.glob hg p (H.keeps I.bk) j tr T N ⟨x,ob,b1,b2,b,r,l,b4,b5,L⟩ λn k D tk hx u hlt g a=>?_
  let(c2,oc,vs,t,z,K,hd,C):=g;ext z;let i:=I.grow (t':=tk) F R j hx u K hd C a;let f1:=i.fresh (Mj _);show h _ n _ k _ _ (dg (I.fresh u).m) (i.push (t:=tk)) f1 ⟨Mm _ rfl,oc,vs,t,ak,hd,C⟩
 |some cv=>
  let(n,oc,vs,t,rfl,o1,o2,o3):=rc pos cv T;show PySem.W.kla_makeFunctionHit (mg:=mg) y I.ok.glob hg p (H.keeps I.bk) j tr T ⟨x,ob,b1,b2,b,r,l,b4,b5,L⟩ λk D tk hk hsz=>?_
  let i:Inv X M O {s with heap:=D,toks:=tk}:=I.kp hk
  show h _ n _ k _ _ Ext.refl (i.push (t:=tk)) (i.fresh (Mj _)) ⟨Mm _ rfl,oc,vs,t,o1,o2,o3⟩
theorem jK:∀{j:Z (MJ×OQ)},(∀y∈j,y.2≠.cell)->
  (forIn j cl (λ(x:MJ×OQ) (g:Z (MJ×MM))=>(match x with
   |(name,kind)=>if(kind==.cell)=V then(do let c <-alloc {cls:=.type "cell",data:=.cell B};pure (NT ((name,c)::g))) else pure (NT g):Sem (ForInStep (Z (MJ×MM))))))=pure cl
 |[],_=>rfl
 |(n,k)::r,h=>by
  rw[P4];have:(k==Ra)=Y:=beq_eq_false_iff_ne.mpr (h (n,k) MB);simp![this,MZ,if_false,QA];show jK λy u=>h y (MA _ u)
def Cz {x qual:MJ}{cd u:Ml}(j:∀y∈scope.names,y.2≠.cell) (h:wpAny k A (storeName (EB qual scope cl s.heap.objs.size f cd) x u) (λ_ s'=>Q (EB qual scope cl s.heap.objs.size f cd) s') E {s with heap:=s.heap.push {cls:=.type "frame",data:=.dict #[]}}):
  wpAny k A (newFunctionEnv scope mainGlobals cl [(x,u)] (qual++Nq ".<locals>.") (U f) cd B builtinsNs) Q E s:=by
 unfold newFunctionEnv;show or (wpAny_alloc ?_)
 show or ?_
 rw[jK j];show Mf ?_
 simp![P4,List.forIn_nil,bind_assoc,QA];show or (NO h (λ_ _ z=>Mf z) λ_ _ z=>z)
def Inv.at (I:Inv X M O s) (k:Room 0 A):Inv {X with A:=A} M O s:=⟨⟨I.ok.mod,I.ok.kind,I.ok.glob,I.ok.blt,I.ok.inj,I.ok.has,k⟩,I.og,I.heap,I.base,I.loc,I.free,I.cell,I.tabs,I.own,I.uni,I.len,I.sys,I.stl,I.sto,I.cap,I.slo⟩
def qB {A:Nl}{E:Ml->Mn->Prop}{k i:Nat}{f j:MM}{lq x:MJ}{params:Re}{body:Expr}{pm K:Ml}{d y:D}{u:Ml}{Q:Ml->Mn->Prop}{fb:DEnv->G D}(S:CompScope X scope bs) (I:Inv X M O s) (H:Room (k+2) A) (L:GO M s f j lq params body scope (be X.env scope.names []) pm K) (hco:scope.isCoroutine=Y) (hge:scope.isGenerator=Y)
  (hx:X.N[i]?=U x) (nd:X.N.Nodup) (F:scope.names.lookup x=U .local)
  (hb:BindsTo s (Q2 "<lambda>" lq params body scope (be X.env scope.names []) pm (.ref j) K) ⟨[u],[]⟩ [(x,u)]) (r:R Y M d u)
  (g:∀(cl:Z (MJ×MM)) (f j:MM) (A:Nl) (L:MM) (S0:Mp),Room k A->DE (Ki X.N lq scope cl f (.ref j) A L X.st S0) Y body fb) (e:ac (ae i d (eX Y bs O)) fb=U y)
  (h:∀v s' M',Ext M M'->Inv X M' O s'->R Y M' y v->(∀a o,Free X M a->s.heap.get? a=U o->s'.heap.get? a=U o/\Free X M' a)->Q v s'):wpAny (model P w) A (call (.ref f) [u]) Q E s:=by
 let(hf,oc,vs,t,e1,e2,e3):=L;let(δ1,w1,w2):=ag e;obtain rfl:=du w1;show P8 (PySem.W.kla_callFunE (by have:=H.dp;lia) hf rfl hco hge rfl ⟨j,oc,vs,t,rfl,I.heap _ _ _ e1,e2,e3⟩ (hb _ _ _ _ ?_))
 show Cz S.cell ?_
 let kp:∀b o,s.heap.get? b=U o->(s.heap.push {cls:=.type "frame",data:=.dict #[]}).get? b=U o:=λb o e=>Mg _ e
 let I0:=Dm (fp:=[]) (m:=λ_=>B) (C:=s.heap.objs.size) (f:=f) (qual:=lq) (cd:=.ref j) (A:=A.in1) (s':={s with heap:=s.heap.push {cls:=.type "frame",data:=.dict #[]}}) S I (λ_ z=>nomatch z) (Mj _) ⟨_,#[],_,Mm _ rfl,rfl,λe h=>by simp at h,λ_=>rfl⟩ kp ⟨rfl,rfl⟩ (H.in1.mono (Nw _))
 show NO (I0.store (i:=i) (x:=x) (d:=d) (b:=Y) (Q:=λ_ s'=>s'.heap.NoLimit/\codeAny (model P w) A (Code.expr body (EB lq scope (be X.env scope.names []) s.heap.objs.size f (.ref j))) (λr s'=>match r with|.ok (.ret v)=>Q v s'|.ok _=>False|.error e=>E e s') s') ⟨hx,nd,.inl F⟩ (r.to ky) λs1 c I1 _ _=>?_) (λ_ _ z=>z) λ_ _ z=>z.elim
 show⟨I.ok.mod.nolimit.keeps I1.bk,PySem.W.kla_codeExpr ?_⟩
 let n:Room (k+1) (A.deeper (EB lq scope (be X.env scope.names []) s.heap.objs.size f (.ref j))):=H.deeper _;let Z7:=I1.at (n.mono (Nw _));show NO ((g (be X.env scope.names []) f j _ _ _ (n.mono (OA _))).ev Z7 (d:=y) w2 (λv s' M1 T J1 r1=>?_:Post _ _ _ _ _ (λu s'=>Q u s'))) (λu s' hz=>hz) λ_ _ z=>z.elim
 let(I2,sb):=I.ret (m:=Y) (ko:=V) (ks:=V) (ex:=[]) J1.lft (λ_ z=>nomatch z) (λ_ z=>nomatch z) T.sx (λa k o w z=>T.old z) T.r
 show h v s' _ oC I2 (r1.to sb) λa o fa ha=>?_
 let ca:LC Y V V M s.heap [] a=U (.p,o):=by
  ext LC;left;rw[fa.m];left;rw[o_ (by rintro(z|⟨q,z1,z2⟩);ext z;show fa.t q z1 z2),ha];rfl
 show⟨J1.heap _ _ _ (T.sx.p _ _ ca),by ext JQ;simp[fa.m,ha],fa.l,fa.c,fa.t,fa.s⟩
end
def jY (fk:D->G D):Z D->G (Z Bool)
 |[]=>U []
 |d::ds=>match fk d,jY fk ds with|some (.bl b),U l=>U (b::l)|_,_=>B
nonrec theorem qX {fk:D->G D}:∀{ds:Z D}{ks},jY fk ds=U ks->ds.length=ks.length
 |[],ks,h=>by simp![jY,OJ]at h;subst h;rfl
 |d::ds,ks,h=>by
  simp![jY]at h;split at h
  .rename_i i l j k
   obtain rfl:=NB h;simp[qX k]
  .contradiction
nonrec theorem qZ {fk:D->G D}:∀{ds:Z D}{ks:Z Bool}{i:Nat}{d:D}{k:Bool},jY fk ds=U ks->ds[i]?=U d->ks[i]?=U k->fk d=U (.bl k)
 |[],ks,i,d,k,h,hd,hk=>by simp at hd
 |d'::ds,ks,i,d,k,h,hd,hk=>by
  simp![jY]at h;split at h
  .rename_i i' l q1 q2
   obtain rfl:=NB h;cases i with
   |zero=>simp_all
   |succ i=>simp at hd hk;show qZ q2 hd hk
  .contradiction
def rC (ks:Z Bool):Z Nat:=(MW ks.length).filter (λi=>!ks.getD i Y)++(MW ks.length).filter (λi=>ks.getD i Y)
def eF (ks:Z Bool):(rC ks).Perm (MW ks.length):=(List.perm_append_comm).trans (List.filter_append_perm _ _)
def fw (vs:Z Ml) (p:Z Nat):Z Ml:=p.map λi=>vs.getD i OI
def qn (x:G D) (fk:D->G D):G D:=match x with
 |some (.lst ds)=>if ds.length<64/\ds.Nodup/\ds.all (KY 16)=V then(match jY fk ds with|some ks=>U (.lst ((rC ks).map λi=>ds.getD i .non))|none=>B) else B
 |_=>B
def fT:Ml->Nat|.bool V=>1|_=>0
def Lv (x y:Nb):Bool:=decide (fT x.1<fT y.1)
def E2:SM.OrdK Lv:=⟨λx y h=>by unfold Lv at*;rw[decide_eq_true_iff]at h;show decide_eq_false (),λx y z h g=>by unfold Lv at*;rw[decide_eq_false_iff_not]at*;lia⟩
section
variable{prog:Ol}{w:O0}{A:Nl}{E:Ml->Mn->Prop}{s:Mn}
def vk (h:Q (decide (fT (.bool a)<fT (.bool b))) s):wpAny (model prog w) A (oneLt' V (.bool a) (.bool b)) Q E s:=by
 rw[oneLt'_eq];simp![if_true];show or (wpAny_cRoomFor_byValue rfl ?_)
 show or (wpAny_callSpecialIfBound?_slot (typeIs_bool' s a) SZ (MT SZ (typeIs_bool' s a) PySem.F.entry_int_lt ?_ (PySem.F.args_int_lt_2 _ _)))
 change wpAny _ _ (ret (.bool _)) _ _ s;show Mf ⟨_,rfl,?_⟩
 show Ng ?_
 ext a<;>ext b<;>show h
def pB {ks:Z Bool}(h:2<=ks.length):keyKind' (ks.map Ob).toArray=pure oneType':=by
 let e1:∀ks:Z Bool,(ks.map Ob).mapM firstOfTuple'=pure (ks.map λ_=>B):=λks=>by
  induction ks with
  |nil=>rfl
  |cons b ks ih=>rw[Mx,b_,ih];rfl
 let e2:∀ks:Z Bool,(ks.map Ob).mapM typeOf=pure (ks.map λ_=>Oo "bool"):=λks=>by
  induction ks with
  |nil=>rfl
  |cons b ks ih=>rw[Mx,b_,ih];rfl
 obtain⟨a,b,ks,rfl⟩:∃a b r,ks=a::b::r:=by
  rcases ks with _|⟨a,_|⟨b,r⟩⟩
  .ext h
  .simp at h
  .show⟨a,b,r,rfl⟩
 rw[keyKind'_eq,d_,e1];simp![map_pure,QA];rw[o_ (by simp),o_ (by simp)]
 rw[oneTypeOnly'_eq,d_,e2];simp![map_pure,QA];let hall:((List.map (λ_=>Oo "bool") (a::b::ks)).toArray.all λx=>x==Oo "bool")=V:=by
  simp![List.all_toArray,RP,MH];intro _ _;rfl
 let h0:(List.map (λ_=>Oo "bool") (a::b::ks)).toArray[0]?=U (Oo "bool"):=by simp
 rw[h0];simp![hall,if_true,QA,Option.isSome_some]
end
def lu {vs:Z Ml}(nd:vs.Nodup) (h:i<vs.length):vs.idxOf vs[i]=i:=List.Nodup.idxOf_getElem nd i h
def Ar {ks:Z Bool}{vs:Z Ml}(d:vs.length=ks.length) (nd:vs.Nodup) (c:a.Perm ((ks.map Ob).toArray.zip vs.toArray)) (w:SM.Up (SM.LS Lv λx=>vs.idxOf x.2) a 0 a.size):(a.map (·.2)).toList=fw vs (rC ks):=by
 let hz:((ks.map Ob).toArray.zip vs.toArray).toList=(MW ks.length).map λi=>(Ob (ks.getD i Y),vs.getD i OI):=by
  apply R6
  .simp[d]
  .intro i v u
   simp at v u;simp[Mq u,Mq (show i<vs.length by rfl')]
 let pl:=SE.mp c;rw[hz]at pl;let z:=pl.trans ((eF ks).symm.map _);let key:a.toList=(rC ks).map λi=>(Ob (ks.getD i Y),vs.getD i OI):=by
  show S4.eq_of_pairwise (le:=λx y=>SM.LS Lv (λx=>vs.idxOf x.2) y x=Y) (λx y t r v u=>?_) (SM.F7 w) ?_ z
  .let(i,hi,rfl):=MC.mp (pl.mem_iff.mp t)
   let(j,k,rfl):=MC.mp r;rw[NE]at hi;let k:=(eF ks).mem_iff.mp k;rw[NE]at k;rw[SM.LS_iff]at v u;let a1:=v.2.resolve_left (by rw[u.1];show Og)
   let a2:=u.2.resolve_left (by rw[v.1];show Og)
   let g:∀i,i<ks.length->vs.idxOf (vs.getD i OI)=i:=λi hi=>by
    rw[OL,Mq ⟨⟩];show lu nd ⟨⟩
   dsimp only at a1 a2;rw[g i hi,g j k]at a1 a2;rw[show i=j by lia]
  .rw[N7]
   ext rC;let g:∀i,i<ks.length->vs.idxOf (vs.getD i OI)=i:=λi hi=>by
    rw[OL,Mq ⟨⟩];show lu nd ⟨⟩
   let q:∀p:Nat->Bool,((MW ks.length).filter p).Pairwise λi j=>i<j/\j<ks.length:=λp=>by
    show Sc _ (Pw.mpr λi j hi k h=>?_)
    simp at hi k⊢;rfl'
   let f:∀{i:Nat}{b:Bool},fT (Ob b)=b.toNat:=λ{i b}=>by ext b<;>rfl
   rw[OS];show⟨?_,?_,λi hi j k=>?_⟩
   .show(q _).imp_of_mem λ{i j} hi k ⟨v,u⟩=>?_
    let hi:=(Nk.mp hi).2;let k:=(Nk.mp k).2;show SM.vW ?_ (by left;rw[g i ⟨⟩,g j u];lia)
    ext Lv;simp![Qz]at hi k;left;rw[hi,k];rfl
   .show(q _).imp_of_mem λ{i j} hi k ⟨v,u⟩=>?_
    let hi:=(Nk.mp hi).2;let k:=(Nk.mp k).2;show SM.vW ?_ (by left;rw[g i ⟨⟩,g j u];lia)
    ext Lv;left;rw[hi,k];rfl
   .let hi:=(Nk.mp hi).2;let k:=(Nk.mp k).2
    simp![Qz]at hi;rw[SM.LS_iff];ext Lv;left;rw[hi,k];show⟨rfl,.inl rfl⟩
 rw[Array.toList_map,key,NU];rfl
theorem Rs.order {vs:Z Ml}(r:Rs m M ds vs):∀(p:Z Nat),(∀i∈p,i<ds.length)->Rs m M (p.map λi=>ds.getD i .non) (fw vs p)
 |[],_=>rfl
 |i::p,h=>by
  let hi:=h i (MB ..);let(x,k,rx):=r.get (i:=i) (d:=ds[i]) (by simp[hi])
  show⟨_,_,rfl,?_,Rs.order r p λj g=>h j (MA _ g)⟩
  change R m M (ds.getD i .non) (vs.getD i OI);rw[OL,OL,k,Mq hi]
  show rx
section
variable{X:Cx}{M M':Mp}{O:DEnv}{s:Mn}{P:PySem.Fin->Mn->Prop}{A:Nl}{E:Ml->Mn->Prop}
def wo {f D:MM}{l:Array Ml}{e e1:Nat}{vs:Z Ml}{ks:Z Bool}(I:Inv X M O s) (gk:s.heap.get? f=U (seqObj "list" l e)) (gD:s.heap.get? D=U (seqObj "list" #[] e1)) (fk:Free X M f) (fD:Free X M D) (H:f≠D) (hk:l.toList=ks.map Ob) (nd:vs.Nodup) (R:vs.length=ks.length) (h64:vs.length<64)
  (h:∀h' tk c,Inv X M O {s with heap:=h',toks:=tk}->h'.get? D=U (seqObj "list" (fw vs (rC ks)).toArray c)->P (.done (.ret .none)) {s with heap:=h',toks:=tk}):
  wpAny (model Md.P w) A (ksk_end D Y vs.toArray e1 (.ref f) l) P E s:=by
 let hz:(64:Nat)<=sizeLine:=by rw[QX];rfl'
 let N:l.size=vs.length:=by have:=p_ NS hk;rw[OZ,Ms]at this;rfl'
 let s1:=Nh s.heap f (Na λ_=>(#[]:Array Ml))
 let n:=(s1.2 D (MR H)).trans gD;let d:(fw vs (rC ks)).length=vs.length:=by ext fw;rw[Ms,(eF ks).length_eq,OU];rfl'
 let j:∀st:QI,(arrOf st).map (·.2)=(fw vs (rC ks)).toArray->failedOf st=B->wpAny (model Md.P w) A (ksk_tail D Y e1 (.ref f) st) P E s:=by
  intro st es L;unfold ksk_tail
  try left
  show or (Qf gk rfl ?_ (by rw[N];lia) (Nw _))
  show or (Pg ?_)
  show or (SQ n rfl ?_)
  rw[es,L];show or (Qf n rfl ?_ (Nw _) (by simp![MZ,if_false];rw[Nc,d];lia))
  simp![bne_self_eq_false,MZ,if_false];let s2:=Nh (s.heap.update f (Na λ_=>(#[]:Array Ml))) D (Na λ_=>(fw vs (rC ks)).toArray)
  show Mf (h _ s.toks _ (I.wr [f,D] (λb m=>?_) λb o m q=>(s2.2 b (λz=>m (by simp[z]))).trans ((s1.2 b (λz=>m (by simp[z]))).trans q)) (Qn n λ_=>(fw vs (rC ks)).toArray))
  simp![MG,Nt,or_false]at m
  rcases m with rfl|rfl
  .show fk
  .show fD
 unfold ksk_end;simp![MZ,if_false]
 by_cases t:vs.toArray.size<2
 .rw[n_ t,n_ t]
  show j _ ?_ rfl
  rw[Nc]at t;let e0:=D6 l vs.toArray (by rw[N];simp)
  rw[e0];clear j h d e0 nd
  rcases vs with _|⟨v,_|⟨u,r⟩⟩
  .rcases ks with _|⟨k,ks⟩
   .rfl
   .ext R
  .rcases ks with _|⟨k,_|⟨k',ks⟩⟩
   .ext R
   .ext k<;>rfl
   .ext R
  .simp![MX]at t;lia
 .rw[o_ t,o_ t]
  rw[Nc]at t;let h2':2<=vs.length:=⟨⟩
  rw[show l=(ks.map Ob).toArray by rw[<-hk]]
  rw[pB ⟨⟩]
  show or (Mf ?_)
  let hz:((ks.map Ob).toArray.zip vs.toArray).size=vs.length:=by simp;rfl'
  let at':∀x∈(ks.map Ob).toArray.zip vs.toArray,∃b,x.1=Ob b:=λx F=>by
   let(i,hi,rfl):=Q5.mp F;simp
  let S:=SM.lZ (prog:=Md.P) (w:=w) (A:=A) (E:=E) (s:=s) (κ:=oneType') (T:=(ks.map Ob).toArray.zip vs.toArray) (g:=7) (ps:=λx=>vs.idxOf x.2) E2
   (λx F y hy C hC=>by
    let(a,ha):=at' x F;let(b,m):=at' y hy;rw[keyLt'_oneType,ha,m];show vk ?_
    unfold Lv at hC;rw[ha,m]at hC;show hC) ⟨⟩ ⟨⟩ (λp q h1 t h3 h4=>by
    let g:∀i,i<vs.length->vs.idxOf (SM.K ((ks.map Ob).toArray.zip vs.toArray) i).2=i:=λi hi=>by
     unfold SM.K;rw[getElem?_pos _ i ⟨⟩]
     simp[lu nd hi]
    left;rw[g p (),g q ⟨⟩];show t)
   (Q:=λ_ st=>(arrOf st).map (·.2)=(fw vs (rC ks)).toArray/\failedOf st=B) (λb p g W hu=>⟨by
    rw[<-Array.toArray_toList (xs:=b.map (·.2))]
    rw[Ar R nd W (by rw[W.size_eq];show hu)],rfl⟩)
  show or (NO S ?_ λ_ _ e=>e)
  rintro⟨⟨⟩,st'⟩ s' ⟨rfl,W,L⟩
  show j _ W L
end
section
variable{X:Cx}{M:Mp}{O:DEnv}{s:Mn}{a lbody:Expr}{fa fb:DEnv->G D}{params:Re}{lscope:O1}{lpos kp pos p:Q6}{c P:MM}{lq x:MJ}{k li:Nat}{bs:Z Bool}{Q:Ml->Mn->Prop}
def rL {l f c':MM}{vs:Z Ml}{ds:Z D}{ks:Z Bool}{pm H:Ml}(hr:Room (k+4) X.A) (I:Inv X M O s) (q:Rd Y M l o) (t:LstO o vs) (rs:Rs Y M ds vs) (h64:ds.length<64) (ndD:ds.Nodup) (hok:ds.all (KY 16)=V) (hks:jY (BQ li bs fb O) ds=U ks) (ff:Free X M f) (L:GO M s f c' lq params lbody lscope (be X.env lscope.names []) pm H) (S:CompScope X lscope bs) (hco:lscope.isCoroutine=Y) (hge:lscope.isGenerator=Y) (hx:X.N[li]?=U x) (ndN:X.N.Nodup) (hxl:lscope.names.lookup x=U .local)
  (hbind:∀(s:Mn) (u pm H:Ml) (c':MM) (cl:Z (MJ×MM)),BindsTo s (Q2 "<lambda>" lq params lbody lscope cl pm (.ref c') H) ⟨[u],[]⟩ [(x,u)]) (hb:∀(cl:Z (MJ×MM)) (f c':MM) (A:Nl) (L:MM) (S0:Mp),Room k A->DE (Ki X.N lq lscope cl f (.ref c') A L X.st S0) Y lbody fb)
  (h:PostF X M O (.lst ((rC ks).map λi=>ds.getD i .non)) Q):WP X (call (.builtin "sorted") [.ref l] [(Nq "key",.ref f)]) Q s:=by
 let hz:(64:Nat)<=sizeLine:=by rw[QX];rfl'
 let lv:=rs.length;let lk:=qX hks;let nd:vs.Nodup:=by
  rw[List.Nodup,Pw];intro i j hi hj hij e;let hi':i<ds.length:=⟨⟩
  let hj':j<ds.length:=⟨⟩
  let(v,hv,rv):=rs.get (i:=i) (d:=ds[i]) (by simp[hi'])
  let(v',C,rv'):=rs.get (i:=j) (d:=ds[j]) (by simp[hj'])
  rw[Mq hi]at hv;rw[Mq hj]at C
  ext hv;ext C;rw[e]at rv;have:=R.inj (MH.mp hok _ (OH hi')) (MH.mp hok _ (OH hj')) rv rv';show absurd ((a_ ndD).mp this) ()
 show call_function_entry_kw kind_sorted plain_sorted entry_sorted (ksk_s1 _ _) ?_
 show or (m:=checkCount "sorted" 1 1 _) (Mf ?_)
 show or (collect_list (t.is I.heap q) ?_ ())
 show or (RZ ?_ ())
 let(n1,n2,n3,n4):=wG s.heap vs;rw[n1];change wpAny _ _ _ _ _ {s with heap:=m4 s.heap vs}
 generalize m4 s.heap vs=g at n2 n3 n4⊢;generalize hD:s.heap.objs.size+1=D at n3⊢;let hDs:s.heap.objs.size<=D:=()
 show or (MQ (wpAny_call_entry_kw slot_list_sort ⟨_,n3,rfl⟩ entry_list_sort ?body (ksk_l1 _ _)));rw[ksk_t1];let s1:=Nh g D (Na λ_=>(#[]:Array Ml))
 obtain⟨e1,ho1⟩:∃e1,(g.update D (Na λ_=>(#[]:Array Ml))).get? D=U (seqObj "list" #[] e1):=⟨_,Qn n3 λ_=>#[]⟩
 show or (listItems_at n3 rfl ?_)
 show or (Qf n3 rfl ?_ ⋯ (Nw _))
 show or (SQ ho1 rfl ?_)
 show or (QF ?_ (by change vs.length<=_;lia))
 show or (RZ ?_ (Nw _))
 show MQ ?_
 let hgD:(g.update D (Na λ_=>(#[]:Array Ml))).objs.size=s.heap.objs.size+2:=by rw[Heap.size_update,n2]
 let hk0:((g.update D (Na λ_=>(#[]:Array Ml))).push (seqObj "tuple" vs.toArray 0)).objs.size=s.heap.objs.size+3:=by rw[size_push',hgD]
 generalize hkS:((g.update D (Na λ_=>(#[]:Array Ml))).push (seqObj "tuple" vs.toArray 0)).objs.size=T at hk0
 let gk:(((g.update D (Na λ_=>(#[]:Array Ml))).push (seqObj "tuple" vs.toArray 0)).push (seqObj "list" #[] 0)).get? T=U (seqObj "list" #[] 0):=by rw[<-hkS];show Mm _ rfl
 let gD:(((g.update D (Na λ_=>(#[]:Array Ml))).push (seqObj "tuple" vs.toArray 0)).push (seqObj "list" #[] 0)).get? D=U (seqObj "list" #[] e1):=Mg _ (Mg _ ho1)
 let w:∀b o,s.heap.get? b=U o->(((g.update D (Na λ_=>(#[]:Array Ml))).push (seqObj "tuple" vs.toArray 0)).push (seqObj "list" #[] 0)).get? b=U o:=λb o q=>
  Mg _ (Mg _ ((s1.2 b (MU (RK (MD q) hDs))).trans (n4 b o q)))
 generalize hg2:((g.update D (Na λ_=>(#[]:Array Ml))).push (seqObj "tuple" vs.toArray 0)).push (seqObj "list" #[] 0)=g2 at gk gD w
 let fk:Free X M T:=I.fresh ⟨⟩
 let fD:Free X M D:=I.fresh hDs;let hkD:T≠D:=λz=>by have:(T:Nat)=D:=z;rfl'
 let I1:Inv X M O {s with heap:=g2}:=I.kp w
 show or (Oz ?_)
 rw[List.forIn_toArray];show or (P7 _
  (λrest _ s'=>∃(i:Nat) (kA:Array Ml) (c:Nat) (M':Mp),rest=vs.drop i/\i<=vs.length/\kA.toList=(ks.take i).map Ob/\Ext M M'/\Inv X M' O s'/\(Free X M' T/\Free X M' D/\Free X M' f)/\s'.heap.get? T=U (seqObj "list" kA c)/\s'.heap.get? D=U (seqObj "list" #[] e1)/\GO M' s' f c' lq params lbody lscope (be X.env lscope.names []) pm H) _ ?step ?fin _ _ ⟨0,#[],0,M,by simp,Nw _,by simp,Ext.refl,I1,⟨fk,fD,ff⟩,gk,gD,w _ _ L.1,L.2⟩)
 case step=>
  rintro u rest b s' ⟨i,kA,c,M',n,hi,K,x',Z7,⟨fk',P,ff'⟩,F,gD',L'⟩
  let hlt:i<vs.length:=by
   rcases Nat.lt_or_ge i vs.length with q|q
   .show q
   .rw[List.drop_eq_nil_of_le q]at n;ext n
  rw[N5 hlt]at n;let(rfl,rfl):=Sb n;let hid:i<ds.length:=⟨⟩
  let hkz:i<ks.length:=⟨⟩
  let(v,hv,rv):=rs.get (i:=i) (d:=ds[i]) (by simp[hid])
  let C:vs[i]=v:=by simpa[hlt]using hv
  show or (PJ (NO (qB (fb:=fb) S (Q:=λy r=>∃p,Ext M' p/\Inv X p O r/\R Y p (.bl ks[i]) y/\∀a o,Free X M' a->s'.heap.get? a=U o->r.heap.get? a=U o/\Free X p a) (E:=λ_ _=>False) Z7 hr.in1.in1 L' hco hge hx ndN hxl (hbind _ _ _ _ _ _) (by rw[C];show rv.up x') hb (qZ hks (Mq hid) (Mq hkz)) λv r p x2 J2 r2 fr=>⟨p,x2,J2,r2,fr⟩) (λy r hz=>?_) λ_ _ hF=>hF.elim))
  let(p,x2,J2,rfl,fr):=hz;let(gk2,fk2):=fr _ _ fk' F;let(gD2,fD2):=fr _ _ P gD';let(gf2,ff2):=fr _ _ ff' L'.1;let s3:=Nh r.heap T (Na (·.push (.bool ks[i])))
  let hfk:f≠T:=λz=>by rw[z]at gf2;cases p_ Obj.data (NB (gk2.symm.trans gf2))
  let hsz:kA.size=i:=by have:=p_ NS K;rw[OZ,Ms,Nu]at this;rfl'
  show or (Qf gk2 rfl ?_ (by rw[hsz];lia) (by change(kA.push _).size<=_;rw[Array.size_push,hsz];lia))
  let J3:Inv X p O {r with heap:=r.heap.update T (Na (·.push (.bool ks[i])))}:=J2.wr [T] (λb hb=>by rw[My.mp hb];show fk2) λb o hb q=>(s3.2 b (λz=>hb (by simp[z]))).trans q
  show Mf ⟨i+1,kA.push (.bool ks[i]),_,p,rfl,hlt,?_,x'.trans x2,J3,⟨fk2,fD2,ff2⟩,Qn gk2 (·.push (.bool ks[i])),(s3.2 D (MR hkD)).trans gD2,(s3.2 f hfk).trans gf2,?_⟩
  .rw[Array.toList_push,List.take_succ_eq_append_getElem hkz]
   rw[K,Mu];rfl
  .let(oc,ws,t,w1,w2):=L'.2
   show⟨oc,ws,t,(x2.e c').elim (λz=>z.trans w1) λz=>(by rw[z.1]at w1;ext w1),w2⟩
 case fin=>
  rintro b s' ⟨i,kA,c,M',n,hi,K,x',Z7,⟨fk',P,ff'⟩,F,gD',L'⟩
  obtain rfl:i=vs.length:=by
   rcases Nat.lt_or_ge i vs.length with q|q
   .rw[N5 q]at n;ext n
   .lia
  show or (listItems_at F rfl ?_)
  rw[show vs.length=ks.length by lia,QN]at K
  let hpl:∀i∈rC ks,i<ds.length:=λi hi=>by
   have:=(eF ks).mem_iff.mp hi;rw[NE]at this;lia
  let rO:=(rs.up x').order (rC ks) hpl;show wo Z7 F gD' fk' P hkD K nd () () λh' tk c J3 g3=>⟨_,rfl,Mf ⟨_,rfl,h D _ _ M' x' J3 P g3 ⟨_,⟨by
   rw[<-rO.length,Ms,(eF ks).length_eq,OU];lia,c,rfl⟩,rO⟩⟩⟩
nonrec theorem sR (hr:Room (k+4) X.A) (g:Bn X "sorted") (hP:(P,lq)∈tb) (F:∀q∈tb,q.1=P->q=(P,lq)) (hq:X.env.qual++"<lambda>"=lq) (hC:Qa base c P) (R:X.env.code=.ref c) (w:defaultsOf params X.env=([],[])) (S:CompScope X lscope bs) (T:lscope.isCoroutine=Y) (h:lscope.isGenerator=Y) (hx:X.N[li]?=U x) (n:X.N.Nodup) (i:lscope.names.lookup x=U .local) (y:∀(s:Mn) (u pm b:Ml) (m:MM) (cl:Z (MJ×MM)),BindsTo s (Q2 "<lambda>" lq params lbody lscope cl pm (.ref m) b) ⟨[u],[]⟩ [(x,u)]) (hb:∀(cl:Z (MJ×MM)) (f m:MM) (A:Nl) (L:MM) (S0:Mp),Room k A->DE (Ki X.N lq lscope cl f (.ref m) A L X.st S0) Y lbody fb) (C:DE X Y a fa):
  DF X (.Call (.Name "sorted" p) [a] [⟨U "key",.Lambda params lbody lscope lpos,kp⟩] pos) (λO=>qn (fa O) (BQ li bs fb O)):=⟨rfl,λ{M O s d Q} I e kk=>by
 unfold qn at e;split at e<;>try cases e
 split at e<;>try cases e
 split at e<;>ext e
 rename_i ds K j _ ks z;show NI (I.bltn g kN (callWith_kw ((b9 C fZ).ev I (ds:=[.lst ds]) (by rw[K];rfl) (λvs s1 M1 H I1 r=>?_) pos) ?_ ?_ rfl rfl))
 .let(v,rfl,D):=r.is1
  show or (or (qW S I1 hP F hq hC R w λf m pm b s2 M2 E I2 ff L=>or (Q1 (Mf ?_))))
  show or (MQ (Mf (Mf ?_)))
  let(l,o,vs,rfl,q,t,rs):=D.up E;show rL hr I2 q t rs j.1 j.2.1 j.2.2 z ff L S T h hx n i y hb (PostF.to kk (H.trans E))
 .rw[aK C.pl];rfl
 .rw[aK C.pl];rfl⟩
end
end L2
namespace L2
open PySem PySem.Spec PyProof.Rows PySem.W Md
def lT (fk:D->G D):Z D->G (Z Int)
 |[]=>U []
 |d::ds=>match fk d,lT fk ds with|some (.int i),U l=>U (i::l)|_,_=>B
nonrec theorem pU {fk:D->G D}:∀{ds:Z D}{ks},lT fk ds=U ks->ds.length=ks.length
 |[],ks,h=>by simp![lT,OJ]at h;subst h;rfl
 |d::ds,ks,h=>by
  simp![lT]at h;split at h
  .rename_i i l j k
   obtain rfl:=NB h;simp[pU k]
  .contradiction
nonrec theorem qf {fk:D->G D}:∀{ds:Z D}{ks:Z Int}{i:Nat}{d:D}{k:Int},lT fk ds=U ks->ds[i]?=U d->ks[i]?=U k->fk d=U (.int k)
 |[],ks,i,d,k,h,hd,hk=>by simp at hd
 |d'::ds,ks,i,d,k,h,hd,hk=>by
  simp![lT]at h;split at h
  .rename_i i' l q1 q2
   obtain rfl:=NB h;cases i with
   |zero=>simp_all
   |succ i=>simp at hd hk;show qf q2 hd hk
  .contradiction
abbrev KB (ks:Z Int) (i j:Nat):Bool:=decide (ks.getD i 0<ks.getD j 0)
def yE (x:G D) (fk:D->G D):G D:=match x with
 |some (.lst ds)=>(match lT fk ds with|some ks=>if 0<ds.length then ds[argBest (KB ks) (ds.length - 1)]? else B|none=>B)
 |_=>B
def Gp:bootBuiltins "min"=U (.builtin "min"):=by rfl
variable[Md]
section
variable{X:Cx}{M:Mp}{O:DEnv}{s:Mn}{A:Nl}
section
variable{R':R8->Mn->Prop}{I l f S:MM}{ds:Z D}{vs:Z Ml}{ks:Z Int}
structure Mk (X:Cx) (O:DEnv) (M0:Mp) (I S f l:MM) (vs:Z Ml) (fo:QY) (j:Nat) (M:Mp) (s:Mn):Prop where
 ext:Ext M0 M
 inv:Inv X M O s
 fi:Free X M I
 fs:Free X M S
 ff:Free X M f
 it:s.heap.IsListIter I l j
 ls:s.heap.IsList l vs.toArray
 fo:s.heap.get? f=U fo
def yz {M0 M:Mp}{fo:QY}(h:Mk X O M0 I S f l vs fo j M s) (hh:A.handled=B) (hl:l≠I) (hfI:f≠I) (hv:vs[j]?=U v) (k:∀h' tk,Mk X O M0 I S f l vs fo (j+1) M {s with heap:=h',toks:=tk}->(∀b o,b≠I->s.heap.get? b=U o->h'.get? b=U o)->Q (U v) {s with heap:=h',toks:=tk}):wpAny (model P w) A (pyNext (.ref I)) Q (λ_ _=>False) s:=by
 let W:=Walks.list (prog:=P) (w:=w) (A:=A) hh I l hl vs.toArray;let hlt:=(L9.mp hv).1
 show W.item j s _ _ (by simpa using hlt) ⟨h.it,h.ls⟩ λv' h' tk' hP hst' hk'=>?_
 let e:v'=v:=by
   have:vs[j]?=U v':=by simpa using hP
   rw[hv]at this;ext this;rfl
 subst e;let kp:∀b o,b≠I->s.heap.get? b=U o->h'.get? b=U o:=λb o hb e=>hk' b o (by simpa using hb) e
 show k h' tk' ⟨h.ext,h.inv.wr [I] (λb hb=>by rw[My.mp hb];show h.fi) λb o hb e=>kp b o (by simpa using hb) e,h.fi,h.fs,h.ff,hst'.1,hst'.2,kp _ _ hfI h.fo⟩ kp
def Mk.wrS {M0 M:Mp}{fo:QY}{tk:Nat}(h:Mk X O M0 I S f l vs fo j M s) (y:S≠I) (u:f≠S) (g:l≠S) (k:∀b o,b≠S->s.heap.get? b=U o->q.get? b=U o):Mk X O M0 I S f l vs fo j M {s with heap:=q,toks:=tk}:=by
 show⟨h.ext,h.inv.wr [S] (λb v=>by rw[My.mp v];show h.fs) λb o v e=>k b o (by simpa using v) e,h.fi,h.fs,h.ff,?_,?_,k _ _ u h.fo⟩
 .let(o,e,z):=h.it;show⟨o,k _ _ (MR y) e,z⟩
 .let(o,e,z):=h.ls;show⟨o,k _ _ g e,z⟩
theorem xj {M0:Mp}{fo ol:QY}(hh:A.handled=B) (hu:A.units+4<cLine) (hlI:l≠I) (hfI:f≠I) (hIS:S≠I) (hfS:f≠S) (hlS:l≠S) (ql:Rd Y M0 l ol) (tl:LstO ol vs) (hks:vs.length=ks.length) (hkey:∀(j:Nat) v M s,vs[j]?=U v->Mk X O M0 I S f l vs fo (j+1) M s->wpAny (model P w) A.in1 (call (.ref f) [v]) (λu s'=>∃M',Ext M M'/\Inv X M' O s'/\R Y M' (.int (ks.getD j 0)) u/\∀a o,Free X M a->s.heap.get? a=U o->s'.heap.get? a=U o/\Free X M' a) (λ_ _=>False) s) (hR:∀v s M,Ext M0 M->Inv X M O s->vs[argBest (KB ks) (vs.length - 1)]?=U v->R' (.ok (.ret v)) s):
  ∀(r j:Nat) (s:Mn) (M:Mp) (vb kb:Ml) (c:Nat),Mk X O M0 I S f l vs fo (j+1) M s->vs.length - (j+1)=r->j+1<=vs.length->vs[argBest (KB ks) j]?=U vb->R Y M (.int (ks.getD (argBest (KB ks) j) 0)) kb->
   s.heap.get? S=U {cls:=.type "list",dict:=B,data:=.seq #[vb,kb] c,slots:=#[]}->
   codeAny (model P w) A (.builtin "min.loop" ⟨[.ref I,.ref f,.ref S],[]⟩) R' s:=by
 let hname:(toString "min"++toString ".loop":String)="min.loop":=by decide
 intro r
 induction r with
 |zero=>
  intro j s M vb kb c h hr hj hvb hkb hS;let hin:j+1=vs.length:=()
  let W:=Walks.list (prog:=P) (w:=w) (A:=A.in1) hh I l hlI vs.toArray;show Oj QK ?_
  rw[Q7 On _];show or (Ot hS rfl ?_)
  show or (OO (W.done _ _ _ (by rw[Nc,<-hin];show⟨h.it,h.ls⟩) λh' tk' hk'=>?_))
  let hS':=hk' S _ (by simpa using hIS) hS
  show or ?_
  show Po hS' rfl (or (Pg (Mf ?_)))
  show hR vb _ M h.ext (h.inv.wr [I,S] (λb hb=>?_) λb o hb e=>?_) (by rw[<-hin];show hvb)
  .simp![MG,Nt,or_false]at hb
   rcases hb with rfl|rfl
   .show h.fi
   .show h.fs
  .simp![MG,Nt,or_false,not_or]at hb
   show(Nn _ _ (MR hb.2)).trans (hk' b o (by simpa using hb.1) e)
 |succ r ih=>
  intro j s M vb kb c h hr hj hvb hkb hS;let hlt:j+1<vs.length:=()
  obtain⟨v,hv⟩:∃v,vs[j+1]?=U v:=⟨vs[j+1],by simp[hlt]⟩
  show Oj QK ?_
  rw[Q7 On _];show or (Ot hS rfl ?_)
  show or (OO (NO (yz (Q:=λo s'=>o=U v/\Mk X O M0 I S f l vs fo (j+2) M s'/\s'.heap.get? S=U {cls:=.type "list",dict:=B,data:=.seq #[vb,kb] c,slots:=#[]}) h hh hlI hfI hv λh' tk h2 k2=>⟨rfl,h2,k2 _ _ hIS hS⟩) (λo s1 hz=>?_) λ_ _ z=>z.elim))
  let(rfl,h2,hS2):=hz;change wpAny _ A.in1 (tryCatch (holding [v] (call (.ref f) [v])) _ >>= _) _ _ _;show or (OO (MQ (NO (hkey (j+1) v M s1 hv h2) (λu s2 hz=>?_) λ_ _ z=>z.elim)))
  let(M2,x2,I2,r2,fr):=hz;let h3:Mk X O M0 I S f l vs fo (j+2) M2 s2:=by
   let(oI,e1,z1):=h2.it;show⟨h2.ext.trans x2,I2,(fr _ _ h2.fi e1).2,(fr _ _ h2.fs hS2).2,(fr _ _ h2.ff h2.fo).2,⟨oI,(fr _ _ h2.fi e1).1,z1⟩,tl.is I2.heap ((h2.ext.trans x2).sub _ _ ql),(fr _ _ h2.ff h2.fo).1⟩
  let hS3:=(fr _ _ h2.fs hS2).1;let(t1,rfl):=id r2;let(t2,rfl):=id hkb;change wpAny _ A.in1 (tryCatch (holding [v,.int (ks.getD (j+1) 0) t1] (compareOp .Lt (.int (ks.getD (j+1) 0) t1) (.int (ks.getD (argBest (KB ks) j) 0) t2) >>= _)) _ >>= _) _ _ _;show or (OO (MQ (or (lt_int ?_))))
  show or (MQ (Ng ?_))
  show or (Pg (Mf ?_))
  cases hb:decide (ks.getD (j+1) 0<ks.getD (argBest (KB ks) j) 0)with
  |true=>
   let e:argBest (KB ks) (j+1)=j+1:=by simp![argBest];show n_ hb
   simp![if_true];show or ?_
   show Po hS3 rfl (or (Pg ?_))
   rw[hname];show Mf ⟨Oh On _,ih (j+1) _ M2 v _ _ (h3.wrS hIS hfS hlS λb o hb e=>(Nn _ _ (MR hb)).trans e) () hlt (by rw[e];show hv) (by rw[e];show r2) (Nf _ hS3 rfl)⟩
  |false=>
   let e:argBest (KB ks) (j+1)=argBest (KB ks) j:=by simp![argBest];show o_ (by rw[show KB ks (j+1) (argBest (KB ks) j)=Y from hb];show Og)
   simp![MZ,if_false];show or (Pg ?_)
   rw[hname];show Mf ⟨Oh On _,ih (j+1) _ M2 vb _ c h3 () hlt (by rw[e];show hvb) (by rw[e];show hkb.up x2) hS3⟩
end
def vq {M0:Mp}{fo W:QY}(C:A.handled=B) (hu:A.units+4<cLine) (r:l≠I) (d:f≠I) (q:S≠I) (t:f≠S) (p:l≠S) (N:Rd Y M0 l W) (tl:LstO W vs) (x:vs.length=ks.length) (T:0<vs.length) (g:∀(j:Nat) v M s,vs[j]?=U v->Mk X O M0 I S f l vs fo (j+1) M s->wpAny (model P w) A.in1 (call (.ref f) [v]) (λu s'=>∃M',Ext M M'/\Inv X M' O s'/\R Y M' (.int (ks.getD j 0)) u/\∀a o,Free X M a->s.heap.get? a=U o->s'.heap.get? a=U o/\Free X M' a) (λ_ _=>False) s) (hR:∀v s M,Ext M0 M->Inv X M O s->vs[argBest (KB ks) (vs.length - 1)]?=U v->R' (.ok (.ret v)) s) (h:Mk X O M0 I S f l vs fo 0 M s) (E:s.heap.get? S=U {cls:=.type "list",dict:=B,data:=.seq #[] c,slots:=#[]}):
   codeAny (model P w) A (.builtin "min.loop" ⟨[.ref I,.ref f,.ref S],[]⟩) R' s:=by
 let y:(toString "min"++toString ".loop":String)="min.loop":=by decide
 obtain⟨v,i⟩:∃v,vs[0]?=U v:=⟨vs[0],by simp[T]⟩
 show Oj QK ?_
 rw[Q7 On _];change wpAny _ A.in1 (seqItems? (.ref S) >>= _) _ _ _;show or (Ot E rfl ?_)
 change wpAny _ A.in1 (tryCatch (pyNext (.ref I)) _ >>= _) _ _ _;show or (OO (NO (yz (Q:=λo s'=>o=U v/\Mk X O M0 I S f l vs fo 1 M s'/\s'.heap.get? S=U {cls:=.type "list",dict:=B,data:=.seq #[] c,slots:=#[]}) h C r d i λh' tk k k2=>⟨rfl,k,k2 _ _ q E⟩) (λo s1 hz=>?_) λ_ _ z=>z.elim))
 let(rfl,k,n):=hz;change wpAny _ A.in1 (tryCatch (holding [v] (call (.ref f) [v])) _ >>= _) _ _ _;show or (OO (MQ (NO (g 0 v M s1 i k) (λu s2 hz=>?_) λ_ _ z=>z.elim)))
 let(D,K,L,r2,fr):=hz;let h3:Mk X O M0 I S f l vs fo 1 D s2:=by
  let(oI,H,z1):=k.it;show⟨k.ext.trans K,L,(fr _ _ k.fi H).2,(fr _ _ k.fs n).2,(fr _ _ k.ff k.fo).2,⟨oI,(fr _ _ k.fi H).1,z1⟩,tl.is L.heap ((k.ext.trans K).sub _ _ N),(fr _ _ k.ff k.fo).1⟩
 let m:=(fr _ _ k.fs n).1;change wpAny _ A.in1 (updateSeq S (λ_=>#[v,u]) >>= _) _ _ _
 show or ?_
 show Po m rfl ?_
 rw[y];show Mf ⟨Oh On _,xj C hu r d q t p N tl x g hR _ 0 _ D v u _ (h3.wrS q t p λb o hb e=>(Nn _ _ (MR hb)).trans e) rfl T i r2 (Nf _ m rfl)⟩
end
section
variable{X:Cx}{M:Mp}{O:DEnv}{s:Mn}{a lbody:Expr}{fa fb:DEnv->G D}{params:Re}{lscope:O1}{lpos kp pos p:Q6}{c P:MM}{lq x:MJ}{k i:Nat}{bs:Z Bool}
nonrec theorem yA (hr:Room (k+4) X.A) (g:Bn X "min") (hP:(P,lq)∈tb) (hTu:∀q∈tb,q.1=P->q=(P,lq)) (hq:X.env.qual++"<lambda>"=lq) (hC:Qa base c P) (hcd:X.env.code=.ref c) (hdef:defaultsOf params X.env=([],[])) (S:CompScope X lscope bs) (hco:lscope.isCoroutine=Y) (hge:lscope.isGenerator=Y) (hx:X.N[i]?=U x) (nd:X.N.Nodup) (hxl:lscope.names.lookup x=U .local) (n:∀(s:Mn) (u pm h:Ml) (c':MM) (cl:Z (MJ×MM)),BindsTo s (Q2 "<lambda>" lq params lbody lscope cl pm (.ref c') h) ⟨[u],[]⟩ [(x,u)]) (hb:∀(cl:Z (MJ×MM)) (f c':MM) (A:Nl) (L:MM) (S0:Mp),Room k A->DE (Ki X.N lq lscope cl f (.ref c') A L X.st S0) Y lbody fb) (ha:DE X Y a fa):
  DE X Y (.Call (.Name "min" p) [a] [⟨U "key",.Lambda params lbody lscope lpos,kp⟩] pos) (λO=>yE (fa O) (BQ i bs fb O)):=⟨rfl,λ{M O s d Q} I e kk=>by
 unfold yE at e;split at e<;>try cases e
 split at e<;>try cases e
 split at e<;>try cases e
 rename_i ds hfa _ ks y hn;show NI (I.bltn g Gp (callWith_kw ((b9 ha fZ).ev I (ds:=[.lst ds]) (by rw[hfa];rfl) (λvs s1 M1 x1 I1 r=>?_) pos) ?_ ?_ rfl rfl))
 .let(v,rfl,r1):=r.is1
  show or (or (qW S I1 hP hTu hq hC hcd hdef λf c' pm h R M2 x2 T ff L=>or (Q1 (Mf ?_))))
  show or (MQ (Mf (Mf ?_)))
  let(l,o,vs,rfl,q,t,rs):=r1.up x2;let m:(toString "min"++toString ".loop":String)="min.loop":=by decide
  let pl:=t.is T.heap q;let H:=rs.length;let un:=T.un;let E:=MD (q.heap T.heap);show kmk_tree PySem.F.kind_min PySem.F.plain_min PySem.F.entry_min (kmk_min_key _ _) ?_
  change wpAny _ X.A.in1 (Rc "min" ["key","default"] 0 ⟨[],[(Nq "key",.ref f)]⟩ >>= _) _ _ _;show or (RH (show Rc "min" ["key","default"] 0 ⟨[],[(Nq "key",.ref f)]⟩=pure [U (.ref f),B] from rfl) ?_)
  show or (Mf (or (Pr pl (or (NM ?_)))))
  rw[m];let D:=MD L.1;let(Lf,oc,ws,tk,w1,w2,w3):=L;let w:(R.heap.push {cls:=.type "list_iterator",data:=.fields #[.ref l,.int 0 0]}).objs.size=R.heap.objs.size+1:=NL ..;let kl:=pU y;let C:∀{b:MM},b<R.heap.objs.size->b≠(R.heap.push {cls:=.type "list_iterator",data:=.fields #[.ref l,.int 0 0]}).objs.size:=λ{b} hb z=>by rw[z,w]at hb;show PB _ (Nat.lt_of_succ_lt hb)
  show Mf ⟨Oh On _,vq (M0:=M2) (M:=M2) (O:=O) (fo:=PySem.W.kla_obj "<lambda>" lq params lbody lscope (be X.env lscope.names []) pm c' h) (I:=R.heap.objs.size) (f:=f) (l:=l) (ks:=ks) I.ok.room.hd () (MU E) (MU D) (λz=>by rw[w]at z;show absurd z (Nat.succ_ne_self _)) (C D) (C E) q t ⟨⟩ ⟨⟩ (λj v M3 s3 hv hm=>?_) (λv s3 M3 x3 I3 hv=>?_) ⟨Ext.refl,?_,T.fresh (Mj _),T.fresh (by rw[w];show OA _),ff,?_,?_,?_⟩ (Mm _ rfl)⟩
  .let hj:j<ds.length:=by have:=(L9.mp hv).1;rfl'
   let(v',K,h2):=rs.get (i:=j) (d:=ds[j]) (by simp[hj])
   rw[hv]at K;ext K;let hk2:ks[j]?=U (ks.getD j 0):=by rw[OL,Mq ()];rfl
   show qB (i:=i) (fb:=fb) S hm.inv (hr.in1.mono ⟨⟩) ⟨hm.fo,oc,ws,tk,hm.ext.old w1,w2,w3⟩ hco hge hx nd hxl (n _ _ _ _ _ _) (h2.up hm.ext) hb (qf y (by simp[hj]) hk2) λu s4 M4 x4 I4 r4 fr=>⟨M4,x4,I4,r4,fr⟩
  .let(v',K,h2):=rs.get e
   rw[H]at K;rw[hv]at K;ext K;show kk _ _ _ ((x1.trans x2).trans x3) I3 (h2.up x3)
  .show T.kp λb o e=>Mg _ (Mg _ e)
  .show⟨_,Mg _ (Mm _ rfl),rfl,rfl⟩
  .show(pl.push _).push _
  .show Mg _ (Mg _ Lf)
 .rw[aK ha.pl];rfl
 .rw[aK ha.pl];rfl⟩
end
end L2
namespace L2
open PySem PySem.Spec PyProof.Rows Md
variable[Md]
section
variable{X:Cx}{M:Mp}{O:DEnv}{s:Mn}{tg a b:Expr}{fa fb:DEnv->G D}{m m':Bool}{pos px apos cpos:Q6}
end
end L2
namespace L2
open PySem PySem.Spec PyProof.Rows PySem.W Md Builtin Builtin.ObjectAttr
variable[Md]
theorem At.len:∀{ks:Z MJ}{vs es},At ks vs es->es.length=ks.length/\vs.length=ks.length
 |[],_,_,⟨rfl,rfl⟩=>⟨rfl,rfl⟩
 |k::ks,_,_,⟨u,r,e,t,j,rfl,rfl,_,_,g⟩=>by have:=g.len;simp[this]
theorem At.get:∀{ks:Z MJ}{vs es} (name:MJ),At ks vs es->getL name es=U (aP name ks vs)
 |[],_,_,name,⟨rfl,rfl⟩=>rfl
 |k::ks,_,_,name,⟨v,r,e,t,tk,rfl,rfl,g,q,y⟩=>by
  let j:=y.get name;unfold getL at j⊢;let hs:e.key.isStr name=(k==name):=by rw[g];rfl
  let u:e.refKey=Y:=by unfold DictEntry.refKey;rw[g]
  ext aP
  by_cases z:k=name
  .simp_all
  .rw[List.find?_cons_of_neg (by rw[hs];simpa using z),o_ z,List.any_cons,u,Bool.false_or];show j
omit [Md] in
theorem uR {κ:Type}[DecidableEq κ] (n k:κ) (ks:Z κ):aJ n (k::ks)=if k=n then k::ks else k::aJ n ks:=by
 ext aJ;simp;lia
omit [Md] in
theorem wj {κ β:Type}[DecidableEq κ] (n k:κ) (ks:Z κ) (v x:β) (r:Z β):cU n v (k::ks) (x::r)=if k=n then v::cx n v ks r else x::cU n v ks r:=by
 ext cU
 by_cases z:k=n
 .subst z;simp[cx]
 .have:(n∈k::ks)↔n∈ks:=⟨λh=>(MG.mp h).resolve_left λw=>z w.symm,λh=>.tail _ h⟩
  simp![this,o_ z,cx];split<;>rfl
omit [Md] in
theorem ui {κ β:Type}[DecidableEq κ] {n:κ}{v:β}:∀{ks:Z κ}{r:Z β},n∉ks->ks.length=r.length->cx n v ks r=r
 |[],[],_,_=>rfl
 |a::ks,b::r,h,k=>by ext cx;rw[o_ (λz:a=n=>h (by rw[z];show MB ..)),ui (λz=>h (.tail _ z)) (by simpa using k)]
theorem At.put (name:MJ) (v:Ml) (u:Int) (tk:Tok):∀{ks:Z MJ}{vs es},At ks vs es->ks.Nodup->At (aJ name ks) (cU name v ks vs) (putL name u (.str name tk) v es)
 |[],_,_,⟨rfl,rfl⟩,_=>⟨v,[],_,[],tk,rfl,rfl,rfl,rfl,rfl,rfl⟩
 |k::ks,_,_,⟨p,r,e,t,j,rfl,rfl,q,w,y⟩,nd=>by
  let hs:e.key.isStr name=(k==name):=by rw[q];rfl
  let g:=N0.mp nd;rw[uR,wj];ext putL
  by_cases z:k=name
  .subst z
   rw[n_ rfl,n_ rfl,n_ (by rw[hs];simp),ui g.1 y.len.2.symm]
   show⟨v,r,_,t,j,rfl,rfl,q,rfl,y⟩
  .rw[o_ z,o_ z,o_ (by rw[hs];simpa using z)]
   show⟨p,_,e,_,j,rfl,rfl,q,w,y.put name v u tk g.2⟩
structure Cls (c:MJ) (C:MM) (ns:Z MJ):Prop where
 mg:mg c=U (.ref C)
 kp:keepIn K (.ref C)=V
 mi:makesIn K C=V
 ov:plainOver K C=V
 hd:hasDictIn K C=V
 ga:findIn K (.ref C) "__getattribute__"=U (U (.builtin "object.__getattribute__"))
 sa:findIn K (.ref C) "__setattr__"=U (U (.builtin "object.__setattr__"))
 no:∀n∈ns,findIn K (.ref C) n=U B
def InsO.is {a C:MM}{c:MJ}{o:QY}{ns:Z MJ}(h:InsO c o a) (k:Cls c C ns):o=instObj C a:=by let(j,e,rfl):=h;simp_all [k.mg]
def R.handed (r:R m M d v):handedIn v=V:=by
 cases d<;>simp![R]at r<;>first|(subst r;rfl)|(let(_,rfl):=r;rfl)|(let(_,_,_,rfl,_):=r;rfl)|(let(_,_,_,_,rfl,_):=r;rfl)|(let(_,_,_,_,_,rfl,_):=r;rfl)
nonrec theorem tO {ks:Z MJ}:∀{ds:Z D}{vs},Rs m M ds vs->∀d,aP k ks ds=U d->∃v,aP k ks vs=U v/\R m M d v:=by
 induction ks with
 |nil=>intro ds vs _ d h;trivial
 |cons x ks ih=>
  intro ds vs r d h;cases ds with
  |nil=>ext h
  |cons e ds=>
   let(v,t,rfl,h1,h2):=r;unfold aP at h⊢;split at h
   .simp_all
   .rename_i z;rw[o_ z];show ih h2 d h
def L1 (n:Nat) (O:DEnv) (x:G D):G D:=match x with
 |some (.loc B j)=>(match O[n+j]? with|some (U (d,V))=>(match d with|.lst _=>U d|.dK _ _=>U d|.dD _ _=>U d|_=>B)|_=>B)
 |x=>x
nonrec theorem zD (h:L1 n O x=U d):(x=U d/\∀j,d≠.loc B j)\/∃j,x=U (.loc B j)/\O[n+j]?=U (U (d,V))/\((∃ds,d=.lst ds)\/(∃ks ds,d=.dK ks ds)\/∃ks ds,d=.dD ks ds):=by
 unfold L1 at h;split at h
 .rename_i j
  split at h<;>try cases h
  rename_i d' e;split at h<;>ext h
  .show .inr ⟨j,rfl,e,.inl ⟨_,rfl⟩⟩
  .show .inr ⟨j,rfl,e,.inr (.inl ⟨_,_,rfl⟩)⟩
  .show .inr ⟨j,rfl,e,.inr (.inr ⟨_,_,rfl⟩)⟩
 .rename_i k
  show .inl ⟨h,λj z=>k j (by rw[h,z])⟩
def Sl.co (l:Sl M j d) (hd:∀c ks ds,d≠.ob c ks ds):∃k o,M.r[j]?=U k/\M k.2=U (.s j,o)/\C M d o:=by
 let(k,o,v,u,g):=l
 rcases g with g|⟨c,ks,ds,_,rfl,_⟩
 .show⟨k,o,v,u,g⟩
 .show absurd rfl (hd c ks ds)
def Sl.ob (l:Sl M j (.ob c ks ds)):∃k o vs,M.r[j]?=U k/\M k.2=U (.s j,o)/\K2 o ks vs/\Rs Y M ds vs:=by
 let(k,o,z,y,g):=l
 rcases g with g|⟨_,_,_,vs,h,v,u⟩
 .trivial
 .ext h;show⟨k,o,vs,z,y,v,u⟩
def af (n:Nat) (c name:MJ) (O:DEnv) (x:G D):G D:=match x with
 |some (.ob k ks ds)=>if k=c then aP name ks ds else B
 |some (.loc (U k) j)=>(match O[n+j]? with|some (U (.ob c2 ks ds,V))=>if k=c/\c2=c then aP name ks ds else B|_=>B)
 |_=>B
section
variable{X:Cx}{M M':Mp}{O:DEnv}{s s':Mn}{Q:Ml->Mn->Prop}{tg a b:Expr}{es:Z Expr}{fa fb:DEnv->G D}{fs:DEnv->G (Z D)}{m m':Bool}{pos pos' px p apos cpos:Q6}{c name:MJ}{C0:MM}{ns:Z MJ}{n:Nat}
def Gl (t:X.N.length=n) (y:DE X m a fa):DE X V a (λO=>L1 n O (fa O)):=⟨y.pl,λ{M O s d Q} I e k=>by
 rcases zD e with⟨h,_⟩|⟨j,c,w,T⟩
 .show y.ev I h λv z M1 u g r=>k v z M1 u g r.tt
 .show y.ev I c λv z M1 u g r=>?_
  let(x,K,i,rfl,l):=r;obtain rfl:x=K:=l;let(_,p):=g.sto j d V (by rw[t];show w)
  let(W,o,q,b,f):=p.co ()
  rw[i]at q;ext q;show k _ _ _ u g (f.rep Sub.weak ⟨_,b,rfl⟩)⟩
section
variable{C:MM}
def zX {Q:Unit->Mn->Prop}(k:Cls c C ns) (l:name∈ns) (KI:K.In s.heap) (d:s.heap.get? x=U (instObj C j)) (ho:s.heap.get? j=U o) (e:K2 o ks vs) (hz:(aJ name ks).length<=100) (h:∀y p tk,Nv j s.heap y->y.get? j=U p->K2 p (aJ name ks) (cU name v ks vs)->Q q_ {s with heap:=y,toks:=tk}):wpAny (model P w) A (setAttr (.ref x) name v) Q E s:=by
 let(nd,N,es,n,rfl,g):=e;let f:∀t,InstAt ({s with toks:=t}:Mn).heap x (instObj C j) C (U (dictOf es n)):=λt=>⟨d,rfl,rfl,ho⟩
 let m:takerIn K C name=U B:=by unfold takerIn;rw[k.no _ l];rfl
 show set_plain KI (f s.toks) k.sa ?_
 show osa_open (s:={s with toks:=s.toks+1}) KI (f _) k.ov m λb=>?_
 let(cd,i,u):=any_some k.hd;show or (Mf (or (or (wpAny_loadPart (s:={s with toks:=s.toks+1}) d (or (Looks.here (s:={s with toks:=s.toks+1}) (looks_clsIn KI i) ?_))))))
 rw[u];show Mf (a:=U j) (or (Mf (or ?_)))
 show or (or (wpAny_askSetting (Mf (or (wpAny_mkText (or (wpAny_loadPart (s:={s with toks:=s.toks+1+1}) ho ?_)))))))
 left;let at':=g.put name v (Sj w.params name) (s.toks+1) nd;let r:=at'.len;let cc:(!es.toArray.any (·.key.isStr name)&&es.toArray.any (·.refKey))=Y:=by
  let hg:=g.get name;unfold getL at hg;rw[<-Array.any_toList,<-Array.any_toList];split at hg
  .grind
  .lia
 rw[aRefKeyMayBeTheName_at,cc];show wpAny_updatePart (s:={s with toks:=s.toks+1+1}) ho ?_
 let q:=Nf (h:=s.heap) (a:=j) (o:=dictOf es n) (Obj.putName name (Sj w.params name) (.str name (s.toks+1)) v) ho (by rw[putName_dict];rfl)
 rw[putName_dict]at q;show or (wpAny_lookBehind (s:={s with heap:=s.heap.update j (Obj.putName name (Sj w.params name) (.str name (s.toks+1)) v),toks:=s.toks+1+1}) q (by show pastItsLine_dict (by rw[Nc,QX];lia)) ?_)
 show Mf (h _ _ _ (Nh ..) q ⟨?_,hz,_,_,rfl,at'⟩)
 ext aJ;split
 .show nd
 .rw[NQ];show⟨nd,by simp,λa T b W z=>by simp_all⟩
def DM {ks:Z MJ}:∀{ds:Z D}{vs},Rs m M ds vs->R m M d v->Rs m M (cU name d ks ds) (cU name v ks vs):=by
 let g:∀{ks:Z MJ}{ds:Z D}{vs},Rs m M ds vs->R m M d v->Rs m M (cx name d ks ds) (cx name v ks vs):=by
  intro ks
  induction ks with
  |nil=>intro ds vs r _;rfl
  |cons k ks ih=>
   intro ds vs r h;cases ds with
   |nil=>ext r;rfl
   |cons e ds=>
    let(u,t,rfl,h1,h2):=r;show⟨_,_,rfl,?_,ih h2 h⟩
    split
    .show h
    .show h1
 intro ds vs r h;ext cU;split
 .show g r h
 .show r.append (.one h)
end
def Bq {C:MM}{x g:MM}{ox o:QY}{ks:Z MJ}{vs:Z Ml}{v:Ml}(k:Cls c C ns) (q:name∈ns) (KI:K.In s.heap) (y:s.heap.get? x=U ox) (i:InsO c ox g) (ho:s.heap.get? g=U o) (r:K2 o ks vs) (p:aP name ks vs=U v) (z:handedIn v=V) (h:Q v {s with toks:=s.toks+1}):WP X (getAttr (.ref x) name V) Q s:=by
 obtain rfl:=i.is k;let(_,_,u,n,rfl,j):=r;let hg:lookIn name (dictOf u n)=U (U v):=by rw[lookIn_dict,j.get name,p]
 show get_value KI (C:=C) (ox:=instObj C g) (od:=U (dictOf u n)) ⟨y,rfl,rfl,ho⟩ k.ga (findObj_own k.hd (k.no _ q) rfl hg) z h
nonrec theorem Ck (S:X.N.length=n) (k:∃C,Cls c C ns) (b:name∈ns) (h:DE X m a fa) (l:eval (.Attribute a name pos) X.env=(do
   let o <-eval a X.env
   standAt pos.atName
   let r <-holding [o] (getAttr o name V)
   letTemporaryGo a o r
   pure r)):DE X m (.Attribute a name pos) (λO=>af n c name O (fa O)):=⟨rfl,λ{M O s d Q} I e kk=>by
 let(C,k):=k;unfold af at e;split at e<;>try cases e
 .rename_i E ks ds w
  split at e<;>try cases e
  rename_i p;subst p;show Attribute_any_ (h.ev I w λv T M1 y g r=>?_) l
  let(x,ox,A,o,vs,rfl,q,i,z,f,rs):=r;let(v,t,u):=tO rs d e;show Bq k b g.kIn (q.heap g.heap) i (z.heap g.heap) f t u.handed (kk _ _ _ y g.tok u)
 .rename_i E j w
  split at e<;>try cases e
  split at e<;>try cases e
  rename_i D ks ds P p;let(rfl,rfl):=p;show Attribute_any_ (h.ev I w λv T M1 y g r=>?_) l
  let(x,A,F,rfl,ox,q,i):=r;let(_,W):=g.sto j _ V (by rw[S];show P)
  let(H,o,vs,K,z,f,rs):=W.ob;rw[F]at K;ext K;let(v,t,u):=tO rs d e;show Bq k b g.kIn (q.heap g.heap) i (g.heap _ _ _ z) f t (R.handed u) (kk _ _ _ y g.tok (R.weak u))⟩
structure Bx (X:Cx) (M M':Mp) (O δ':DEnv):Prop where
 x:Sx M M'
 o:∀a i o,M a=U (.o i,o)->M' a=U (.o i,o)
 n:∀i,i<X.N.length->δ'[i]?=O[i]?
def Bx.refl:Bx X M M O O:=⟨Sx.refl,λ_ _ _ h=>h,λ_ _=>rfl⟩
def Bx.trans {δ' k:DEnv}(a:Bx X M M' O δ') (b:Bx X M' j δ' k):Bx X M j O k:=⟨a.x.trans b.x,λz i o h=>b.o _ _ _ (a.o _ _ _ h),λi h=>(b.n i h).trans (a.n i h)⟩
def Bx.ext (h:Ext M M'):Bx X M M' O O:=⟨h.sx,λa i o e=>h.old e,λ_ _=>rfl⟩
structure EX (X:Cx) (e:Expr) (f:DEnv->G (D×DEnv)):Prop where
 pl:Jw e=V
 ev:∀{M O s d δ'} {Q:Ml->Mn->Prop},Inv X M O s->f O=U (d,δ')->(∀v s' M',Bx X M M' O δ'->Inv X M' δ' s'->R Y M' d v->Q v s')->WP X (eval e X.env) Q s
def br (f:DEnv->G D) (O:DEnv):G (D×DEnv):=match f O with|some d=>U (d,O)|none=>B
nonrec theorem BW (j:DE X Y a fa):EX X a (br fa):=⟨j.pl,λ{M O s d δ' Q} I e k=>by
 unfold br at e;split at e<;>ext e
 rename_i e;show j.ev I e λv u M1 g y r=>k v u M1 (Bx.ext g) y r⟩
structure Wr (X:Cx):Prop where
 st:X.st=V
 S:X.S=B
def bu (n:Nat) (f:DEnv->G D) (O:DEnv):G (D×DEnv):=match f O with|some d=>U (.loc B (O.length - n),O++[U (d,V)])|none=>B
nonrec theorem Cv (j:Wr X) (x:X.N.length=n) (y:DF X a fa):EX X a (bu n fa):=⟨y.pl,λ{M O s d δ' Q} I e k=>by
 unfold bu at e;split at e<;>ext e
 rename_i d e;show y.ev I e λu o r M1 v p f g c=>?_
 let(l,m,q,t):=p.slot j.st j.S f g c.ow (.inl c) u;show k _ r _ (Bx.mk (v.sx.trans ⟨m,λb ob z=>q _ _ _ z,λb ob z=>(t _ _ _ z).elim (λw=>nomatch w.2.1) id⟩) (λb i ob z=>q _ _ _ (v.old z)) λi hi=>Me (by have:=I.len;lia)) l ⟨u,u,?_,rfl,rfl⟩
 have:=p.stl j.st
 simp_all⟩
structure EA (X:Cx) (es:Z Expr) (f:DEnv->G (Z D×DEnv)):Prop where
 pl:es.all Jw=V
 ev:∀{M O s ds δ'} {Q:Z Ml->Mn->Prop},Inv X M O s->f O=U (ds,δ')->(∀vs s' M',Bx X M M' O δ'->Inv X M' δ' s'->Rs Y M' ds vs->Q vs s')->∀pos,WP X (spliced (backTo pos (starEach es X.env))) Q s
theorem FH:EA X [] (λO=>U ([],O)):=⟨rfl,λI e k pos=>by ext e;show Ny (k _ _ _ Bx.refl I rfl)⟩
def cP (f:DEnv->G (D×DEnv)) (g:DEnv->G (Z D×DEnv)) (O:DEnv):G (Z D×DEnv):=match f O with
 |some (d,k)=>(match g k with|some (ds,δ2)=>U (d::ds,δ2)|none=>B)
 |none=>B
nonrec theorem B1 (j:EX X a f) (hs:EA X es g):EA X (a::es) (cP f g):=⟨by rw[Ni,j.pl,hs.pl];rfl,λ{M O s ds δ' Q} I e k pos=>by
 unfold cP at e;split at e<;>try cases e
 split at e<;>ext e
 rename_i d u p _ ds q;rw[aK j.pl];show MY (j.ev I p λv c M1 b1 t z=>hs.ev t q (λvs w b b2 r y=>k _ _ _ (b1.trans b2) r ⟨_,_,rfl,R.to b2.x.f z,y⟩) pos)⟩
def bX (f:DEnv->G (Z D)) (O:DEnv):G (Z D×DEnv):=match f O with|some ds=>U (ds,O)|none=>B
nonrec theorem Hk (j:DA X Y es fs):EA X es (bX fs):=⟨j.pl,λ{M O s ds δ' Q} I e k pos=>by
 unfold bX at e;split at e<;>ext e
 rename_i e;show j.ev I e (λvs u M1 g v r=>k vs u M1 (Bx.ext g) v r) pos⟩
structure Mth (c name:MJ) (k:Nat) (st ro:Bool) (f:Z D->DEnv->G (D×Bool×DEnv)):Prop where
 ex:∃C fI,mg c=U (.ref C)/\findIn K (.ref C) "__getattribute__"=U (U (.builtin "object.__getattribute__"))/\findIn K (.ref C) "__getattr__"=U B/\findIn K (.ref C) name=U (U (.ref fI))/\typeIn K (.ref fI)=U (.type "function")/\keepIn K (.ref fI)=V/\LA fI k st ro f
nonrec theorem At.no:∀{ks:Z MJ}{vs es},At ks vs es->name∉ks->getL name es=U B:=λh hn=>by
 rw[h.get name];clear h;rename_i ks vs _
 induction ks generalizing vs with
 |nil=>rfl
 |cons k ks ih=>
  cases vs with
  |nil=>rfl
  |cons v vs=>ext aP;grind
theorem yw {f:MM}{C:MM}(hb:Jw a=V) (he:es.all Jw=V) (hz:es.length<29) (l:(apos.endLine==cpos.line)=V) (hga:findIn K (.ref C) "__getattribute__"=U (U (.builtin "object.__getattribute__"))) (hgt:findIn K (.ref C) "__getattr__"=U B) (hf:findIn K (.ref C) name=U (U (.ref f))) (ht:typeIn K (.ref f)=U (.type "function")) (hk:keepIn K (.ref f)=V)
  (h:WP X (eval a X.env) (λv s1=>∃x ad o ks vs,v=.ref x/\K.In s1.heap/\s1.heap.get? x=U (instObj C ad)/\s1.heap.get? ad=U o/\K2 o ks vs/\name∉ks/\WP X (spliced (backTo cpos (starEach es X.env))) (λus s2=>K.In s2.heap/\WP X (call (.ref f) (.ref x::us)) Q s2) s1) s):WP X (eval (.Call (.Attribute a name apos) es [] cpos) X.env) Q s:=by
 let hform:methodCallForm (es.length+([]:Z Keyword).length) (backTo cpos (starEach es X.env)) (backToKw cpos (keywordEach [] X.env))=V:=by
  unfold methodCallForm;rw[ir he];change(V&&V&&decide (es.length+0+(if V=V then 0 else 1)<30))=V
  rw[n_ rfl];simp;lia
 let hpos:methodCallPos V a X.env apos cpos=pure cpos:=by unfold methodCallPos;simp[l]
 rw[arm_eval_Call,cE hb];show or (NO h (λov s1 h1=>or (Q1 ?_)) λ_ _ e=>e)
 let(x,ad,o,ks,vs,rfl,KI,hx,ho,(_,_,en,n,rfl,at_),hn,hc):=h1;unfold methodCall;rw[hform];show or (MQ (method_fn KI (od:=U (dictOf en n)) ⟨hx,rfl,rfl,ho⟩ hga hgt hf ht (by change(lookIn name (dictOf en n)).map _=_;rw[lookIn_dict,at_.no hn];rfl) ?_))
 show or (RH hpos ?_)
 cases es with
 |nil=>
  show λΓ p hΓ=>callWith_K0 KI hk (hc Γ p hΓ).2 Γ p hΓ
 |cons e es=>
  rw[Ni,Mo]at he;show callWith_K (h₀:=s1.heap) KI hk hc (aK he.1) (gn he.2)
end
end L2
namespace L2
open PySem PySem.Spec PyProof.Rows PySem.W Md
def rD (n k:Nat) (g:DEnv->G Out) (ds:Z D) (J:DEnv):G (D×Bool):=if ds.length=k then jr (g (bP n ds++J)) else B
def qC (f:Z D->DEnv->G (D×Bool)) (ds:Z D) (J:DEnv):G (D×Bool×DEnv):=match f ds J with|some x=>U (x.1,x.2,[])|none=>B
def zA (n k:Nat) (g:DEnv->G Out) (ds:Z D):G (D×Bool):=if KO 0 ds=V then(match kB n k g ds []with|some (r,fr,_)=>if lb 0 r=V then U (r,fr) else B|none=>B) else B
variable[Md]
abbrev L0 (k:Nat) (x:MJ) (f:Z D->DEnv->G (D×Bool)):Prop:=FnF k x V V (qC f)
abbrev Kj (k:Nat) (x:MJ) (f:Z D->DEnv->G (D×Bool×DEnv)):Prop:=FnF k x V Y f
abbrev rM (c name:MJ) (k:Nat) (f:Z D->DEnv->G (D×Bool)):Prop:=Mth c name k V V (qC f)
abbrev pL (c name:MJ) (k:Nat) (f:Z D->DEnv->G (D×Bool×DEnv)):Prop:=Mth c name k V Y f
def qk (h:jr x=U (r,fr)):(∃O,x=U (.ret r fr O))\/(r=.non/\fr=Y/\∃O,x=U (.next O)):=by
 unfold jr at h;split at h<;>ext h
 .show .inl ⟨_,rfl⟩
 .show .inr ⟨rfl,rfl,_,rfl⟩
theorem Bf:(pF J d fr τ).1=d/\(pF J d fr τ).2.1=fr:=by ext pF;split<;>show⟨rfl,rfl⟩
section
variable{x qual:MJ}{st:NN}{f:MM}{fd:Tn}{N ps:Z MJ}{k:Nat}{g:DEnv->G Out}
nonrec theorem G4 (F:Fun K x qual st f fd) (S:FnScope N ps (ar st)) (p:wt fd ps) (body:∀(A:Nl) (L:MM) (j:G Mp),Room k (A.deeper (envOfC qual (ar st) L f fd.code))->j≠B->Lh (Lu N qual (ar st) f fd.code A L Y j) (bc st) g):LA f (k+1) Y V (mn (iD N.length ps.length g)):=by
 intro A s M us ds J r fr J' u mo Tx rs T e;obtain rfl:=(T.n rfl).1;show wK (g:=g) (vb:=Y) (ro:=V) (h:=λds J=>if J=[] then mn (iD N.length ps.length g) ds J else B) F S p (λA L j h _ t=>body A L j h (t rfl)) (λz=>nomatch z) (λ{ds J r fr J'} e=>?_) u mo Tx rs T (show(if([]:DEnv)=[] then _ else B)=_ by rw[n_ rfl];show e)
 split at e<;>try cases e
 rename_i hz;subst hz;unfold mn at e;split at e<;>ext e
 rename_i y q;unfold iD at q;split at q<;>try cases q
 rename_i v;rw[PC];show⟨v,(qk q).imp (λ⟨O,h⟩=>⟨O,h,λz=>nomatch z⟩) λ⟨c,w,O,h⟩=>⟨c,w,O,h,λz=>nomatch z⟩⟩
nonrec theorem CA (F:Fun K x qual st f fd) (S:FnScope N ps (ar st)) (v:wt fd ps) (body:∀(A:Nl) (L:MM) (j:G Mp),Room k (A.deeper (envOfC qual (ar st) L f fd.code))->j≠B->Lh (Lu N qual (ar st) f fd.code A L V j) (bc st) g):LA f (k+1) V V (qC (rD N.length ps.length g)):=
 wK (g:=g) (vb:=V) (ro:=V) (h:=qC (rD N.length ps.length g)) F S v (λA L j h _ p=>body A L j h (p rfl)) (λz=>nomatch z) λ{ds J r fr J'} e=>by
  unfold qC at e;split at e<;>ext e
  rename_i y q;unfold rD at q;split at q<;>try cases q
  rename_i u;show⟨u,(qk q).imp (λ⟨O,h⟩=>⟨O,h,λz=>nomatch z⟩) λ⟨w,t,O,h⟩=>⟨w,t,O,h,λz=>nomatch z⟩⟩
nonrec theorem Ee (F:Fun K x qual st f fd) (S:FnScope N ps (ar st)) (j:wt fd ps) (body:∀(A:Nl) (L:MM),Room k (A.deeper (envOfC qual (ar st) L f fd.code))->Lh (Lu N qual (ar st) f fd.code A L V B) (bc st) g):LA f (k+1) V Y (kB N.length ps.length g):=
 wK (g:=g) (vb:=V) (ro:=Y) (h:=kB N.length ps.length g) F S j (λA L v h hz _=>by simp_all) (λ_=>rfl) λ{ds J r fr J'} e=>by
  unfold kB eV at e;split at e<;>try cases e
  rename_i u;split at e<;>try cases e
  .grind [Bf]
  .grind [Bf]
end
def Inv.hide {M M0:Mp}(I:Inv X M O s) (W:∀a j o,M0 a≠U (.s j,o)):Inv {X with st:=Y,S:=U M0} ⟨(mh 0 M).g,M0.r⟩ (Rg X.N.length B) s:=by
 let(m,n,C):=I.loc;let ns:∀{a j o},(mh 0 M).g a≠U (.s j,o):=λ{a j o} z=>by have:=(bL z).2 j rfl;rfl'
 show⟨⟨I.ok.mod,I.ok.kind,I.ok.glob,I.ok.blt,I.ok.inj,I.ok.has,I.ok.room⟩,I.og,λa κ o z=>I.heap _ _ _ (bL z).1,λa o z=>b8 (I.base a o z) (λ_ z=>nomatch z),⟨m,n,λi x d b v k u=>?_⟩,cw I.free,λx c z=>⟨(I.cell x c z).1,(I.cell x c z).2.imp cw λ⟨f,o,q⟩=>⟨f,o,b8 q λ_ z=>nomatch z⟩⟩,λq p=>?_,λa κ o z w=>I.own _ _ _ (bL z).1 w,λa b κ o R w z y=>I.uni _ _ _ _ _ w (bL z).1 (bL y).1,by simp,λκ o z=>I.sys _ _ (bL z).1,λz=>(nomatch z),λj d b z=>?_,λM1 z=>?_,λa j o z=>absurd z ns⟩
 .rw[QP]at k
  split at k<;>ext k
 .let(K,ps,h,e,l):=I.tabs q p
  show⟨cw K,ps,h,e,λpos T z=>?_⟩
  let(c,oc,vs,t,v,k,u):=l pos T z;show⟨c,oc,vs,t,v,b8 k (λ_ z=>nomatch z),u⟩
 .simp_all
 .ext z;show⟨rfl,λa j o=>⟨λz=>absurd z ns,λz=>absurd z (W _ _ _)⟩⟩
nonrec theorem HM (F:LA f k V Y (kB n np g)):LA f k Y V (mn (zA n np g)):=by
 intro A s M us ds J r fr J' hr mo Tx rs T e;let(rfl,h0):=T.n rfl;unfold mn at e;split at e<;>ext e
 rename_i y q;unfold zA at q;split at q<;>try cases q
 rename_i hl;split at q<;>try cases q
 rename_i r fr τ q1;split at q<;>ext q
 rename_i hr';let B':Bas ⟨M.g,[]⟩ s:=⟨Tx.og,Tx.heap,Tx.base,Tx.tabs,Tx.own,Tx.uni,λa j o z=>absurd z (h0 _ _ _),Tx.full,Tx.sys⟩
 show Rq (F hr mo B' (Rs.sht (M:=M) (M':=⟨M.g,[]⟩) (k:=0) (λ_ _ z=>z) (λj x z=>absurd z (OC _)) rs hl) ⟨λ_=>rfl,λz=>(nomatch z),λj d b z=>by simp at z⟩ q1) λres s' hz=>?_
 let(v,X',M1,δ1,rfl,x1,Z7,hst,hS,_,rt):=hz;let cf:∀{a k o},M1 a=U (k,o)->(∀j,k≠.s j)->(⟨(mh 0 M1).g,M.r⟩:Mp) a=U (k,o):=λh z=>b8 h λj w=>absurd w (z j)
 show⟨v,_,⟨(mh 0 M1).g,M.r⟩,_,rfl,⟨.of λa o z=>cf (KR.mp (x1.f _ _ (KR.mpr z))) λ_ w=>(nomatch w),λa o z=>cf (x1.p _ _ z) λ_ w=>(nomatch w),λa o z=>x1.n _ _ (bL z).1⟩,Z7.hide h0,rfl,rfl,(λz=>nomatch z),?_⟩
 let rd:∀a o,Rd Y M1 a o->Rd Y ⟨(mh 0 M1).g,M.r⟩ a o:=λa o z=>KR.mpr (cf (KR.mp z) λ_ w=>nomatch w)
 cases fr with
 |false=>show R.sht rd (λj x z=>absurd z (OC _)) rt hr'
 |true=>
  let(a,o,h1,h2,h3,h4):=rt;show⟨a,o,h1,h2,h3.sht rd (λj x z=>absurd z (OC _)) hr',h4.imp (λf=>⟨cw f.m,f.l,f.c,f.t,f.s⟩) λ⟨i,z⟩=>⟨i,cf z λ_ w=>nomatch w⟩⟩
def mO (n:Nat) (f:Z D->DEnv->G (D×Bool×DEnv)) (fs:DEnv->G (Z D×DEnv)) (O:DEnv):G (D×DEnv):=match fs O with
 |some (ds,k)=>(match f ds (k.drop n)with|some (r,Y,J)=>U (r,k.take n++J)|_=>B)
 |none=>B
def uT (n:Nat) (c name:MJ) (O:DEnv) (x:G D):G D:=match x with
 |some (.loc (U k) j)=>(match O[n+j]? with|some (U (.ob c2 ks ds,V))=>if k=c/\c2=c/\name∉ks then U (.loc (U c) j) else B|_=>B)
 |_=>B
nonrec theorem nj (h:uT n c name O x=U d):∃j ks ds,x=U (.loc (U c) j)/\d=.loc (U c) j/\O[n+j]?=U (U (.ob c ks ds,V))/\name∉ks:=by
 unfold uT at h;split at h<;>try cases h
 split at h<;>try cases h
 split at h<;>ext h
 rename_i j _ _ ks ds e g;let(rfl,rfl,k):=g;show⟨j,ks,ds,rfl,rfl,e,k⟩
def dy (n:Nat) (c name:MJ) (f:Z D->DEnv->G (D×Bool×DEnv)) (fa:DEnv->G D) (fs:DEnv->G (Z D×DEnv)) (O:DEnv):G (D×DEnv):=match uT n c name O (fa O)with
 |some d=>mO n f (λO=>match fs O with|some (ds,δ1)=>U (d::ds,δ1)|none=>B) O
 |none=>B
def b7 (n:Nat) (c name:MJ) (f:Z D->DEnv->G (D×Bool)) (fa:DEnv->G D) (fs:DEnv->G (Z D)) (O:DEnv):G D:=match uT n c name O (fa O),fs O with
 |some d,U ds=>JT (f (d::ds) (O.drop n))
 |_,_=>B
section
variable{X:Cx}{M M':Mp}{O:DEnv}{s s':Mn}{Q:Ml->Mn->Prop}{a b:Expr}{es:Z Expr}{fa fb:DEnv->G D}{fs:DEnv->G (Z D×DEnv)}{pos pos' px p apos cpos:Q6}{c name x:MJ}{n k:Nat}{f:Z D->DEnv->G (D×Bool×DEnv)}
def Bx.call {k:DEnv}{M1 j:Mp}(b:Bx X M M1 O k) (x:Sx M1 j) (o:∀a i o,M1 a=U (.o i,o)->j a=U (.o i,o)) (g:X.N.length<=k.length):Bx X M j O (k.take X.N.length++J):=b.trans ⟨x,o,λi hi=>by
 rw[Me (by rw[Nu];rfl'),MP hi]⟩
nonrec theorem nx {δ':DEnv}(h:mO n f fs O=U (d,δ')):∃ds k J,fs O=U (ds,k)/\f ds (k.drop n)=U (d,Y,J)/\δ'=k.take n++J:=by
 unfold mO at h;split at h<;>try cases h
 rename_i ds k e;split at h<;>ext h
 rename_i J j;show⟨ds,k,J,e,j,rfl⟩
def AO (F:Kj k x f) (w:Room k X.A) (u:Wr X) (c:X.N.length=n) (g:Gb X x) (y:EA X (a::es) fs):EX X (.Call (.Name x p) (a::es) [] pos) (mO n f fs):=⟨rfl,λ{M O s d δ' Q} I e kk=>by
 let(ds,z,J,h,i,rfl):=nx e;subst c;let(q,l,m,b):=F.ex;show xI l m g I y.pl (y.ev I h (λvs K M1 b1 j rs=>⟨j.kIn,P8 (xh b w j u.st u.S rs i λv s' M' t o2 _ o r=>kk v s' M' (b1.call t o2 j.len) o r)⟩) pos)⟩
def A9 {ks:Z MJ}{ds:Z D}{M1:Mp}(u:Inv X M1 O g) (r:R Y M1 (.loc (U c) j) v) (e:O[X.N.length+j]?=U (U (.ob c ks ds,V))) (w:mg c=U (.ref C0)):∃x k o vs,v=.ref x/\g.heap.get? x=U (instObj C0 k)/\g.heap.get? k=U o/\K2 o ks vs:=by
 let(x,k,d,rfl,ox,q,m,y,rfl):=r;rw[w]at y;ext y;let(_,p):=u.sto j _ V e;let(b,o,vs,z,t,f,rs):=p.ob;rw[d]at z;ext z;show⟨x,k,o,vs,rfl,q.heap u.heap,u.heap _ _ _ t,f⟩
nonrec theorem BL (F:pL c name k f) (h:Room k X.A) (q:Wr X) (K:X.N.length=n) (hz:es.length<29) (l:(apos.endLine==cpos.line)=V) (p:DE X Y a fa) (hs:EA X es fs):EX X (.Call (.Attribute a name apos) es [] cpos) (dy n c name f fa fs):=⟨rfl,λ{M O s d δ' Q} I e kk=>by
 let(C,fI,W,H,E,P,R,T,FA):=F.ex;unfold dy at e;split at e<;>try cases e
 rename_i d0 e0;let(j,ks,b,e1,rfl,e2,u):=nj e0;let(ds,t,J,g,e4,rfl):=nx e;split at g<;>ext g
 rename_i ds g;subst K;show yw p.pl hs.pl hz l H E P R T (p.ev I e1 λv s1 M1 w z r=>?_)
 let(x,ad,o,vs,rfl,g1,L,D):=A9 z r e2 W;show⟨x,ad,o,ks,vs,rfl,z.kIn,g1,L,D,u,hs.ev z g (λus s2 M2 b2 y rs=>⟨y.kIn,P8 (xh FA h y q.st q.S (ds:=.loc (U c) j::ds) ⟨_,_,rfl,r.to b2.x.f,rs⟩ e4 λv s' M' x3 i _ I3 m=>kk v s' M' (((Bx.ext w).trans b2).call x3 i y.len) I3 m)⟩) cpos⟩⟩
nonrec theorem Eo {f:Z D->DEnv->G (D×Bool)}{fs:DEnv->G (Z D)}(F:rM c name k f) (hr:Room k X.A) (hst:X.st=V) (hn:X.N.length=n) (hz:es.length<29) (l:(apos.endLine==cpos.line)=V) (ha:DE X Y a fa) (hs:DA X Y es fs):DE X Y (.Call (.Attribute a name apos) es [] cpos) (b7 n c name f fa fs):=⟨rfl,λ{M O s d Q} I e kk=>by
 let(C,fI,hC,h1,h2,h3,h4,h5,FA):=F.ex;unfold b7 at e;split at e<;>try cases e
 rename_i d0 ds e0 e3;let(j,ks,vs0,e1,rfl,e2,hno):=nj e0;unfold JT at e;split at e<;>ext e
 rename_i fr e4;subst hn;show yw ha.pl hs.pl hz l h1 h2 h3 h4 h5 (ha.ev I e1 λv s1 M1 x1 I1 r=>?_)
 let(x,ad,o,vs,rfl,g1,g2,g3):=A9 I1 r e2 hC;show⟨x,ad,o,ks,vs,rfl,I1.kIn,g1,g2,g3,hno,hs.ev I1 e3 (λus s2 M2 x2 I2 rs=>⟨I2.kIn,P8 (sW (m:=Y) FA hr I2 (ds:=.loc (U c) j::ds) ⟨_,_,rfl,r.up x2,rs⟩ (λz=>nomatch z) (λ_=>⟨hst,rfl⟩) (λz=>nomatch z) (by ext qC;rw[e4]) λv s' M' x3 I3 r3 f3=>?_)⟩) cpos⟩
 cases fr with
 |false=>show kk _ _ _ ((x1.trans x2).trans x3) I3 (r3 rfl)
 |true=>
  let(c,o,rfl,f,z,cc):=f3 rfl;show kk _ _ _ (((x1.trans x2).trans x3).trans (dg f.m)) (I3.put f z) (cc.rep (dY f.m) ⟨.f,ak,rfl⟩)⟩
end
end L2
namespace L2
open PySem PySem.Spec PyProof.Rows PySem.W Md
variable[Md]
section
variable{X:Cx}{M M':Mp}{O:DEnv}{s s':Mn}
def Inv.slC (I:Inv X M O s) (r:R Y M (.loc B j) v) (e:O[X.N.length+j]?=U (U (d,V))) (hd:∀c ks ds,d≠.ob c ks ds):∃a o,v=.ref a/\M.r[j]?=U (a,a)/\M a=U (.s j,o)/\C M d o:=by
 let(x,q,g,rfl,l):=r;obtain rfl:x=q:=l;let(_,u):=I.sto j d V e;let(p,o,k,z,y):=u.co hd;rw[g]at k;ext k;show⟨x,o,rfl,g,z,y⟩
def Inv.putS {tk:Nat}(I:Inv X M O s) (f:X.S=B) (e:O[X.N.length+j]?=U (U (d,V))) (t:M.r[j]?=U k) (q:M k.2=U (.s j,o)) (sb:Nv k.2 s.heap u) (g:u.get? k.2=U o') (v:Ow o') (c:Ca M y o'):∃M',Inv X M' (O.set (X.N.length+j) (U (y,V))) {s with heap:=u,toks:=tk}/\Bx X M M' O (O.set (X.N.length+j) (U (y,V))):=by
 let(n,m,p):=I.chgS (s':={s with heap:=u,toks:=tk}) f e t q (λb ob z w=>(sb.2 b z).trans w) g v c
 show⟨_,n,⟨m,λa o=>(p a o).mp,λa o=>(p a o).mpr⟩,λa i o z=>by rw[ax (λw=>())];show z,λi hi=>Mh ()⟩
def Inv.lputS {vs us:Z Ml}(I:Inv X M O s) (v:X.S=B) (e:O[X.N.length+j]?=U (U (.lst ds,V))) (k:M.r[j]?=U (a,a)) (q:M a=U (.s j,{cls:=.type "list",data:=.seq vs.toArray n})) (u:f vs.toArray=us.toArray) (r:Rs Y M ds' us) (hz:ds'.length<=LZ):
  ∃M',Inv X M' (O.set (X.N.length+j) (U (.lst ds',V))) {s with heap:=s.heap.update a (Na f),toks:=t}/\Bx X M M' O (O.set (X.N.length+j) (U (.lst ds',V))):=by
 let g:=RB (I.heap _ _ _ q) f;rw[u]at g;show I.putS v e k q (Nh ..) g BH (.inl ⟨us,⟨by rw[<-r.length];show aG hz,_,rfl⟩,r⟩)
end
def zt (n:Nat) (O:DEnv) (x:D):G (Nat×Z D):=match x with
 |.loc B j=>(match O[n+j]? with|some (U (.lst ds,V))=>U (j,ds)|_=>B)
 |_=>B
nonrec theorem gp (h:zt n O x=U (j,ds)):x=.loc B j/\O[n+j]?=U (U (.lst ds,V)):=by
 unfold zt at h;split at h<;>try cases h
 split at h<;>ext h
 rename_i e;show⟨rfl,e⟩
def yI (n:Nat) (gr ga:DEnv->G (D×DEnv)) (O:DEnv):G Out:=match gr O with
 |some (x,g)=>(match zt n g x,ga g with
  |some _,U (d,k)=>(match zt n k x with|some (j,ds)=>if ds.length<LZ then U (.next (k.set (n+j) (U (.lst (ds++[d]),V)))) else B|none=>B)
  |_,_=>B)
 |none=>B
def DR (n:Nat) (gr:DEnv->G (D×DEnv)) (fa:DEnv->G D) (O:DEnv):G Out:=match gr O with
 |some (x,k)=>(match zt n k x,fa k with
  |some (j,ds),U (.lst es)=>if ds.length+es.length<=LZ then U (.next (k.set (n+j) (U (.lst (ds++es),V)))) else B
  |_,_=>B)
 |none=>B
def uK (n:Nat) (fr:DEnv->G D) (O:DEnv):G (D×DEnv):=match fr O with
 |some x=>(match zt n O x with|some (j,ds)=>if ds.length<=LZ then(match ds[ds.length - 1]? with|some d=>U (d,O.set (n+j) (U (.lst ds.dropLast,V)))|none=>B) else B|none=>B)
 |none=>B
def uZ (n:Nat) (fr:DEnv->G D) (O:DEnv):G (D×DEnv):=match fr O with
 |some x=>(match zt n O x with|some (j,d::ds)=>if ds.length<LZ then U (d,O.set (n+j) (U (.lst ds,V))) else B|_=>B)
 |none=>B
section
variable{X:Cx}{M M':Mp}{O:DEnv}{s s':Mn}{r a b c:Expr}{es:Z Expr}{fr fa fb:DEnv->G D}{gr ga gb:DEnv->G (D×DEnv)}{m m':Bool}{pos pos' px p apos cpos spos:Q6}{n i:Nat}{x cn name:MJ}{Q:Ml->Mn->Prop}
def iN:∀{ds:Z D} c ks es,D.lst ds≠.ob c ks es:=λ_ _ _ h=>nomatch h
nonrec theorem CJ (A:Wr X) (H:X.N.length=n) (m:EX X r gr) (g:EX X a ga) (l:(apos.endLine==cpos.line)=V):DS X (.Expr (.Call (.Attribute r "append" apos) [a] [] cpos) pos) (yI n gr ga):=λ{M O s o Q} I e k=>by
 unfold yI at e;split at e<;>try cases e
 rename_i x R e1;split at e<;>try cases e
 rename_i E d T e2 e3;split at e<;>try cases e
 rename_i j ds e4;split at e<;>ext e
 rename_i hl;let(j',ds'):=E;let(rfl,W):=gp e4;let(y,e7):=gp e2;injection y with _ y;subst y
 subst H;show O7 (N6 (cE m.pl) (by rw[ir (es:=[a]) (by simp[g.pl])];rfl) l rfl (m.ev I e1 λv s1 M1 b1 p w=>?_)) I.quiet rfl
 let(ad,o,rfl,g1,g2,K):=p.slC w e7 iN;let ho:=p.heap _ _ _ g2;show⟨"list","list.append",OW,Qp,Qo,⟨_,ho,(dS K).1⟩,λb e=>by ext e;show⟨_,ho,(dS K).2⟩,?_⟩
 rw[aK g.pl];show NC rfl (Oi (MY (g.ev p e3 λu C M2 b2 q P=>Ny ?_)))
 let(ad',o',h0,h1,h,vs,(z,c,rfl),rs):=q.slC (w.to b2.x.f) W iN;ext h0;let i:=q.heap _ _ _ h;let hl1:=rs.length;let L:=aG (Mj LZ);let D:LZ=1000000:=rfl;let(M3,I3,b3):=q.lputS (f:=λa=>a.push u) (us:=vs++[u]) (t:=C.toks) A.S W h1 h (by simp) (rs.append (.one P)) ⋯
 show Pj Qp ⟨_,i,rfl⟩ Qk (Qd _ _) (Qu ad vs.toArray c u (by simp;rfl')) ⟨i,k _ _ ((b1.x.trans b2.x).trans b3.x) I3⟩
nonrec theorem C9 (L:Wr X) (hn:X.N.length=n) (h:EX X r gr) (p:DE X Y a fa) (l:(apos.endLine==cpos.line)=V):DS X (.Expr (.Call (.Attribute r "extend" apos) [a] [] cpos) pos) (DR n gr fa):=λ{M O s o Q} I e k=>by
 unfold DR at e;split at e<;>try cases e
 rename_i x C e1;split at e<;>try cases e
 rename_i j ds es e2 e3;split at e<;>ext e
 rename_i W;let(rfl,w):=gp e2;subst hn;show O7 (N6 (cE h.pl) (by rw[ir (es:=[a]) (by simp[p.pl])];rfl) l rfl (h.ev I e1 λv s1 M1 b1 d i=>?_)) I.quiet rfl
 let(ad,o,rfl,g1,g2,R):=d.slC i w iN;let ho:=d.heap _ _ _ g2;show⟨"list","list.extend",OW,Sz,Sw,⟨_,ho,(dS R).1⟩,λb e=>by ext e;show⟨_,ho,(dS R).2⟩,?_⟩
 rw[aK p.pl];show NC rfl (Oi (MY (p.ev d e3 λu P M2 m y E=>Ny ?_)))
 let(ad',H,h0,h1,T,vs,(z,c,rfl),rs):=y.slC (i.up m) w iN;ext h0;let K:=y.heap _ _ _ T;let(c',H,vs',rfl,A,t',g):=E;let(D,q):=t'.obj y.heap A;let hl1:=rs.length;let hl2:=g.length;let z':=t'.1;have:=aG W;let(M3,I3,b3):=y.lputS (f:=λa=>a++vs'.toArray) (us:=vs++vs') (t:=P.toks) L.S w h1 T (by simp) (rs.append g) (by simpa using W)
 show Pj F.slot_list_extend ⟨_,K,rfl⟩ F.entry_list_extend (F.args_list_extend_2 _ _) (RA ad vs.toArray c c' vs'.toArray D ?_ (by rw[Nc];rfl') ⋯) ⟨K,q,k _ _ ((b1.x.trans m.sx).trans b3.x) I3⟩
 rw[show RS (vs.toArray.size+vs'.toArray.size)=Y from decide_eq_false (by simp;rfl'),Bool.and_false];show Og
def Rs.dropLast {ds:Z D}{vs:Z Ml}(h:Rs m M ds vs):Rs m M ds.dropLast vs.dropLast:=by
 rw[Tk,Tk,h.length];show h.take _
nonrec theorem Ds (W:Wr X) (R:X.N.length=n) (q:DE X Y r fr) (l:(apos.endLine==cpos.line)=V):EX X (.Call (.Attribute r "pop" apos) [] [] cpos) (uK n fr):=⟨rfl,λ{M O s d δ' Q} I e k=>by
 unfold uK at e;split at e<;>try cases e
 rename_i x E;split at e<;>try cases e
 rename_i j ds P;split at e<;>try cases e
 rename_i D;split at e<;>ext e
 rename_i K;let(rfl,w):=gp P;subst R;show Q8 (cE q.pl) l (q.ev I E λv i M1 m y h=>?_)
 let(A,o,rfl,C,p,vs,(z,c,rfl),rs):=y.slC h w iN;let u:=y.heap _ _ _ p;let(v,T,a):=rs.get K;let g:=rs.length;show⟨"list","list.pop",F.plainAttrs_list,Rj,F.type_list_pop,⟨_,u,rfl⟩,λb e=>by ext e;show⟨_,u,rfl⟩,NC rfl (Rr ?_)⟩
 let(L,H,b2):=y.lputS (f:=λxs=>xs.eraseIdxIfInBounds (vs.toArray.size - 1)) (us:=vs.dropLast) (t:=i.toks) W.S w C p (by simp) rs.dropLast (by rw[List.length_dropLast];lia)
 show Pj Rj ⟨_,u,rfl⟩ F.entry_list_pop (F.args_list_pop_1 _) (MeetsSeq.list_pop_last A vs.toArray c v (by simpa[g]using T) (by simpa using z)) ⟨u,k _ _ _ ((Bx.ext m).trans b2) H (a.to b2.x.f)⟩⟩
nonrec theorem Ac (H:Wr X) (D:X.N.length=n) (h:DE X Y r fr) (l:(apos.endLine==cpos.line)=V):EX X (.Call (.Attribute r "pop" apos) [.Constant (.int 0) i p] [] cpos) (uZ n fr):=⟨rfl,λ{M O s d δ' Q} I e k=>by
 unfold uZ at e;split at e<;>try cases e
 rename_i x e1;split at e<;>try cases e
 rename_i j d ds e2;split at e<;>ext e
 rename_i hl;let(rfl,y):=gp e2;subst D;let g:DE X Y (.Constant (.int 0) i p) (λ_=>U (.int 0)):=Bt
 show N6 (cE h.pl) (by rw[ir (es:=[.Constant (.int 0) i p]) (by simp[g.pl])];rfl) l rfl (h.ev I e1 λv s1 M1 C w a=>?_)
 let(ad,o,rfl,g1,g2,R):=w.slC a y iN;let ho:=w.heap _ _ _ g2;show⟨"list","list.pop",F.plainAttrs_list,Rj,F.type_list_pop,⟨_,ho,(dS R).1⟩,λb e=>by ext e;show⟨_,ho,(dS R).2⟩,?_⟩
 rw[aK g.pl];show NC rfl (Oi (MY (g.ev w rfl λu P M2 m q A=>Ny ?_)))
 let(t,rfl):=A;let(ad',o',h0,L,T,vs,(z,c,rfl),rs):=q.slC (a.up m) y iN;ext h0;let K:=q.heap _ _ _ T;let(v,vs,rfl,E,rs):=rs;let W:=rs.length;let(M3,I3,b3):=q.lputS (f:=λxs=>xs.eraseIdxIfInBounds 0) (us:=vs) (t:=P.toks) H.S y L T (by simp) rs ()
 show Pj Rj ⟨_,K,rfl⟩ F.entry_list_pop (F.args_list_pop_2 _ _) (MeetsSeq.list_pop_at ad (v::vs).toArray c 0 t 0 v ∅ (by simp[seqIndex?]) (by simp) (by simpa using z)) ⟨K,k _ _ _ ((Bx.ext (C.trans m)).trans b3) I3 (E.to b3.x.f)⟩⟩
end
end L2
namespace L2
open PySem PySem.Spec PyProof.Rows Md
variable[Md]
section
variable{prog:Ol}{w:O0}{A:Nl}{E:Ml->Mn->Prop}{s:Mn}
def kz {es:Array OB}(k:Pz s.heap it d i es.size ep ok ov) (ho:s.heap.get? d=U o) (j:o.data=.dict es ep) (item:∀e,es[i]?=U e->∀r:Ml->Mn->Prop,wpAny (model prog w) A.in1 (QE (.ref it) 6 e.key e.val) (λv s'=>Q (U v) s') r {s with heap:=s.heap.update it (N2 (·.setIfInBounds 3 (rawInt ((i:Int)+1))))}) (p:A.handled=B) (u:es[i]?=B->∀z,PH it s.heap z->Q B {s with heap:=z}):wpAny (model prog w) A (pyNext (.ref it)) Q E s:=by
 let ty:s.TypeIs (.ref it) "dict_itemiterator":=⟨_,k,rfl⟩;show or (PJ (NK (name:=Nq "__next__") ty Pb (MT Pb ty F.entry_dict_itemiterator_next ?_ (F.args_dict_itemiterator_next_1 _))))
 show or (Mf (or (or (or (P6 ty (Mf (or (wpAny_fieldsOf k rfl ?_))))))))
 show or (Mf (or (Pu ho j ?_)))
 rw[o_ (by simp)]
 show or (Mf (or (Ry ho j ?_)))
 rw[o_ (by simp)]
 show Mf ?_
 left;rw[o_ (Int.not_lt.mpr (Int.natCast_nonneg i)),OV];cases y:es[i]? with
 |some e=>
  show or (or (P6 ty (Mf ?_)))
  show or (Rp ty ?_)
  change wpAny _ _ (setField (.ref it) 3 (rawInt ((i:Int)+1)) >>= _) _ _ s;show or (PR k rfl (by simp) ?_)
  let g:Ov {s with heap:=s.heap.update it (N2 (·.setIfInBounds 3 (rawInt ((i:Int)+1))))} (.ref it) "dict_itemiterator":=⟨_,Nf _ k (Pk (OM rfl _)),RT ..⟩
  show or (MQ (or (Rp g (or (Rp g ?_)))))
  show IS (item e y _) λv s' q=>Mf ⟨_,rfl,Mf q⟩
 |none=>
  show or (or (P6 ty (Mf ?_)))
  change wpAny _ _ (setField (.ref it) 2 .none >>= _) _ _ s;show or (PR k rfl (by simp) ?_)
  show or (or (NM ?_ (by size_fits)))
  show or (m:=firstArgMember _ _) (RH (a:=OI) (by rfl) (NM ?_ (by size_fits)))
  show or (wpAny_handled ?_)
  rw[show A.in1.handled=B from p]
  show or (Mf (wpAny_throw ?_))
  show or (O6 (T:="StopIteration") (b:=V) ⟨_,Mm _ rfl,rfl⟩ RI ?_)
  show Mf (u y _ (((Nh ..).extBut.push _).push _))
def nL (j:Pz s.heap it d i n ep ok ov) (f:∀y,IsItemIterOut y it d i n ep k v s.heap.objs.size->y.get? s.heap.objs.size=U {cls:=.type "tuple",data:=.seq #[k,v]}->(∀b o,b≠it->s.heap.get? b=U o->y.get? b=U o)->Q (.ref s.heap.objs.size) {s with heap:=y}):
  wpAny (model prog w) A (QE (.ref it) 6 k v) Q E s:=by
 show or (QF ?_)
 let lt:=MD j;let u:Pz (s.heap.push {cls:=.type "tuple",data:=.seq #[k,v]}) it d i n ep ok ov:=Mg _ j
 let t:(s.heap.push {cls:=.type "tuple",data:=.seq #[k,v]}).get? s.heap.objs.size=U {cls:=.type "tuple",data:=.seq #[k,v]}:=Mm _ rfl
 let c:∀b o,s.heap.get? b=U o->(s.heap.push {cls:=.type "tuple",data:=.seq #[k,v]}).get? b=U o:=λb o e=>Mg _ e
 show or ?_
 show or (N9 (s:={s with heap:=s.heap.push {cls:=.type "tuple",data:=.seq #[k,v]}}) u rfl (x:=.none) rfl (Mf ?_))
 show or (N9 (s:={s with heap:=s.heap.push {cls:=.type "tuple",data:=.seq #[k,v]}}) u rfl (x:=ok) rfl (or (N9 (s:={s with heap:=s.heap.push {cls:=.type "tuple",data:=.seq #[k,v]}}) u rfl (x:=ov) rfl ?_)))
 show or (NH (s:={s with heap:=s.heap.push {cls:=.type "tuple",data:=.seq #[k,v]}}) u (by simp) λh T r=>or (NH (s:={s with heap:=h}) T (by simp) λa W p=>or (NH (s:={s with heap:=a}) W (by simp) λl N q=>or (NH (s:={s with heap:=l}) N (by simp) λm K z=>or (Pg (Mf (f m K ?_ ?_)))))))
 .show z.extBut _ _ (NV lt) (q.extBut _ _ (NV lt) (p.extBut _ _ (NV lt) (r.extBut _ _ (NV lt) t)))
 .show λb o g e=>z.extBut b o g (q.extBut b o g (p.extBut b o g (r.extBut b o g (c b o e))))
def mC:entryFor table "dict_itemiterator.__iter__"=U Ou.«dict_keyiterator.__iter__»:=entryFor_alias (id':="dict_keyiterator.__iter__") (by kernel_rfl) rfl (by decide +kernel) (by kernel_rfl)
def iY {prog:Ol}(k:Pz s.heap it d i n ep ok ov) (h:Q (.ref it) s):wpAny (model prog w) A (pyIter (.ref it)) Q E s:=by
 let ty:s.TypeIs (.ref it) "dict_itemiterator":=⟨_,k,rfl⟩;show Sp ty SH (MT SH ty mC ?_ (F.args_dict_itemiterator_iter_1 _))
 show Mf ⟨_,rfl,"dict_itemiterator",_,ty,Pb.lookup,h⟩
def ng {prog:Ol}{es:Array OB}(j:s.heap.IsItemsView v d) (ho:s.heap.get? d=U o) (k:o.data=.dict es ep) (z:Q (.ref s.heap.objs.size) {s with heap:=s.heap.push {cls:=.type "dict_itemiterator",data:=.fields #[.none,.bool Y,.ref d,.int 0 0,.int es.size 0,.int ep 0,.none,.none]}}):wpAny (model prog w) A (pyIter (.ref v)) Q E s:=by
 let(ov,g,y,u):=id j;show Sp j.typeIs F.slot_dict_items_iter (MT F.slot_dict_items_iter j.typeIs F.entry_dict_items_iter ?_ (F.args_dict_items_iter_1 _))
 show or (Mf (or ?_))
 show or (N9 g u (x:=.ref d) rfl (Mf (or ?_)))
 show or (Pu ho k (or (Ry ho k ?_)))
 left;rw[n_ (show Builtin.Dict_items.ownsTuple "dict_itemiterator"=V by decide)]
 show NM (Mf ⟨_,rfl,"dict_itemiterator",_,⟨_,Mm _ rfl,rfl⟩,Pb.lookup,?_⟩) (by simp![sizeOk,Builtin.Dict_items.ownedTupleFields,Nc,MF,MX,PZ,QX];decide)
 assumption
end
def yS (x:G D):G (Z D×Z D):=match x with|some (.dK ks vs)=>U (ks.map kD,vs)|some (.dD ks vs)=>U (ks,vs)|_=>B
def cW (h:yS x=U (ks,vs)):∃d b,x=U d/\JE d=U (b,ks,vs):=by
 unfold yS at h;split at h<;>ext h
 .show⟨_,_,rfl,rfl⟩
 .show⟨_,_,rfl,rfl⟩
def jE (x:G D):G (Z D):=match yS x with|some (ks,vs)=>U (QZ (λk v=>.tup [k,v]) ks vs)|none=>B
def ia (x:G D):G (Z D):=match yS x with|some (ks,_)=>U ks|none=>B
section
variable{X:Cx}{M M':Mp}{O:DEnv}{s:Mn}{tg a:Expr}{elts:Z Expr}{x1:Nat}{fa:DEnv->G D}{m m' bb:Bool}{p pos tp apos cpos:Q6}{it c:MM}{A:Nl}{ks ds:Z D}{us vs:Z Ml}{o:QY}{es:Array OB}{ep:Nat}
def uI (W:A.handled=B) (q:Rd m M c o) (dc:DcO bb o ks us vs) (r:o.data=.dict es ep) (E:Rs m M ks us) (rs:Rs m M ds vs):BV A (.Tuple elts x1 tp) m M (QZ (λk v=>.tup [k,v]) ks ds) [it] it (λi h=>∃ok ov,Pz h it c i es.size ep ok ov) where
 ex:=λ⟨ok,ov,e⟩ b t=>by simp_all
 keep:=λ⟨ok,ov,e⟩ k=>⟨ok,ov,k it (by simp) _ e⟩
 item:=λ{i s d} st h e=>by
  let(L,D,H,f):=dc.at r;rw[Sa]at e
  let(kd,vd,g1,S,rfl):=e;let(u,K,Q):=E.get g1;let(v,hv,P):=rs.get S;let(ok,ov,st):=st;let lt:=MD st;show kz st (h _ _ q) r (λl y E'=>?_) W λN=>?_
  .let C:l.key=u/\l.val=v:=by
    let p:=(f i).2.1;let x:=(f i).2.2;rw[y,K]at p;rw[y,hv]at x;show⟨NB p,NB x⟩
   let n:Pz (s.heap.update it (N2 (·.setIfInBounds 3 (rawInt ((i:Int)+1))))) it c (i+1) es.size ep ok ov:=by
    have:=Nf (N2 (·.setIfInBounds 3 (rawInt ((i:Int)+1)))) st (Pk (OM rfl _))
    simpa[Pz,N2,rawInt]using this
   let sb:Nv it s.heap (s.heap.update it (N2 (·.setIfInBounds 3 (rawInt ((i:Int)+1))))):=Nh ..
   let I:=sb.1;show nL (s:={s with heap:=s.heap.update it (N2 (·.setIfInBounds 3 (rawInt ((i:Int)+1))))}) n λT j tup k=>?_
   rw[I]at j tup⊢;rw[C.1,C.2]at j tup;let X:s.heap.objs.size≠it:=NV lt;show⟨_,rfl,S7 (s:={s with heap:=T}) j λS F a=>⟨⟨⟨rfl,rfl⟩,λb o t g=>aj a (λw=>t (by simp[w])) (k b o (λz=>t (by simp[z])) (sb.extBut b o (λz=>t (by simp[z])) g))⟩,⟨_,_,F⟩,.inr ⟨s.heap.objs.size,_,Mj _,aj a X tup,R.pairN h (Mj _) Q P⟩⟩⟩
  .let p:=(f i).2.1;rw[N,K]at p;ext p
 done:=λ{s} st h=>by
  let(L,D,H,f):=dc.at r;let F:=rs.length;let(ok,ov,st):=st;show kz st (h _ _ q) r (λl y E'=>?_) W λN T eb=>⟨rfl,gR eb⟩
  simp_all
 self:=λ⟨ok,ov,st⟩ h=>iY st h
end
section
variable{h h':OF}{d:MM}{o:QY}{ks:Z D}{us vs:Z Ml}{m:Bool}{M:Mp}{es:Array OB}{ep:Nat}
theorem tw:∀{l:Z OB}{ks:Z D}{us vs:Z Ml},l.map (·.key)=us->l.map (·.val)=vs->ks.all (Jq Y)=V->Rs m M ks us->Pairs (k9) l (ks.zip vs)
 |[],ks,us,vs,h1,h2,_,rk=>by
  subst h1 h2;have:=rk.length;cases ks with
  |nil=>show .nil
  |cons _ _=>ext this
 |e::l,ks,us,vs,h1,h2,hk,rk=>by
  subst h1 h2;cases ks with
  |nil=>ext rk
  |cons k ks=>
   let(u,r,e1,r1,r2):=rk;ext e1;rw[Ni,Mo]at hk;show .cons ?_ rfl (tw rfl rfl hk.2 r2)
   change rP k e.key=V;rw[FE hk.1 hk.1 r1];simp
def DcO.dictAt (dc:DcO Y o ks us vs) (g:Rs m M ks us) (y:o.data=.dict es ep) (ho:h.get? d=U o):h.DictAt k9 d (ks.zip vs) ep:=by
 let(_,t,nd,al,f,b,e,j,q,z):=dc;rw[y]at e;ext e;let r:=tw q z al g;let n:ks.length=vs.length:=by have:=p_ NS z;let w:=p_ NS j;simp at this w;rfl'
 show⟨o,es,ho,t,y,λl k=>?_,r,?_⟩
 .let(i,hi,rfl):=Q5.mp k
  let u:i<ks.length:=by have w:=p_ NS j;simp at w;lia
  show⟨ks[i],?_,?_⟩
  .let(v,p,c):=g.get (i:=i) (d:=ks[i]) (by simp)
   let w:us[i]?=U es[i].key:=by rw[<-q,MO,N8,NA hi];rfl
   rw[w]at p;ext p;let ok:=(MH.mp al) _ (OH u);change rP ks[i] es[i].key=V;rw[FE ok ok c];simp
  .let w:=p_ (·[i]?) j
   simp[hi,u]at w;show w
 .rw[PQ ⟨⟩];show nd
def Hn (h:rP k v=V):R m M k v/\Jq Y k=V:=by
 rcases fA h with⟨i,t,rfl,rfl⟩|⟨x,t,rfl,rfl⟩
 .show⟨⟨t,rfl⟩,rfl⟩
 .show⟨⟨t,rfl⟩,rfl⟩
theorem tz:∀{l:Z OB}{j:Z (D×Ml)},Pairs k9 l j->(∀e∈l,∃k,rP k e.key=V/\e.hash=eW w k)->Rs m M (j.map (·.1)) (l.map (·.key))/\l.map (·.val)=j.map (·.2)/\l.map (·.hash)=(j.map (·.1)).map (eW w)/\(j.map (·.1)).all (Jq Y)=V
 |[],_,.nil,_=>⟨rfl,rfl,rfl,rfl⟩
 |e::l,_,.cons (kv:=kv) u t r,g=>by
  let(b,f,d,c):=tz r λe p=>g e (.tail _ p)
  let(q,z):=Hn (m:=m) (M:=M) u;let(k,y,v):=g e (.head _);have:k=kv.1:=k9.inj _ _ _ y u;subst this;show⟨⟨_,_,rfl,q,b⟩,by simp[f,t],by simp[d,v],by simp[Mx,Ni,z,c]⟩
def Gf (x:h.DictOf k9 d k) (hz:k.length<=sizeLine):∃o us,h.get? d=U o/\DcO Y o (k.map (·.1)) us (k.map (·.2))/\Rs m M (k.map (·.1)) us:=by
 let(o,es,ep,ho,v,hd,u,j,g):=x;let(p,q,z,y):=tz (m:=m) (M:=M) j λe r=>u e (by simp_all)
 show⟨o,_,ho,⟨by simpa using hz,v,g,y,es,ep,hd,z,rfl,q⟩,p⟩
end
def uB (x:G D):G D:=match x with|some (.dK ks vs)=>U (.dK ks vs)|_=>B
def dZ:Z J8->Z D->Z J8->Z D->Z J8×Z D
 |k::r,v::t,ks,vs=>dZ r t (aJ k ks) (cU k v ks vs)
 |_,_,ks,vs=>(ks,vs)
def EU (x y:G D):G D:=match x,y with
 |some (.dK ks vs),U (.dK ls us)=>if ks.length+ls.length<=LZ then U (.dK (dZ ls us ks vs).1 (dZ ls us ks vs).2) else B
 |_,_=>B
def q6 (h:EU x y=U d):∃ks vs ls us,x=U (.dK ks vs)/\y=U (.dK ls us)/\ks.length+ls.length<=LZ/\d=.dK (dZ ls us ks vs).1 (dZ ls us ks vs).2:=by
 unfold EU at h;split at h<;>try cases h
 split at h<;>ext h
 show⟨_,_,_,_,rfl,rfl,by assumption,rfl⟩
def vA:∀{ks:Z D}{vs:Z Ml},ks.length=vs.length->stored (ks.zip vs) k v=(aJ k ks).zip (cU k v ks vs):=by
 let g:∀{ks:Z D}{vs:Z Ml},ks.length=vs.length->(ks.zip vs).map (λkv=>if kv.1=k then(kv.1,v) else kv)=ks.zip (cx k v ks vs):=by
  intro ks
  induction ks with
  |nil=>intro vs _;rfl
  |cons x ks ih=>intro vs h;cases vs with
   |nil=>ext h
   |cons y vs=>
    simp![List.zip_cons_cons,Mx,cx,ih (by simpa using h)]
    lia
 intro ks vs h;unfold stored aJ cU;have:(ks.zip vs).any (λkv=>decide (kv.1=k))=decide (k∈ks):=by
  rw[Pe,List.any_eq_true,decide_eq_true_iff];constructor
  .rintro⟨⟨a,b⟩,h1,h2⟩;have:=of_decide_eq_true h2;rw[<-this];show(Sk h1).1
  .intro hm
   let(i,hi,rfl):=Rh.mp hm;show⟨(ks[i],vs[i]'()),by rw[Rh];show⟨i,by simp;lia,by simp⟩,by simp⟩
 rw[this]
 by_cases z:k∈ks
 .rw[n_ (by simpa using z),n_ z,n_ z];show g h
 simp_all [o_,List.zip_append]
theorem rq {κ β:Type}[DecidableEq κ] {k:κ}{v:β}:∀{ks:Z κ}{vs:Z β},ks.length=vs.length->(cx k v ks vs).length=ks.length
 |[],_,_=>by rfl
 |_::_,[],h=>by ext h
 |x::ks,y::vs,h=>by ext cx;simp[rq (v:=v) (k:=k) (ks:=ks) (vs:=vs) (by simpa using h)]
def zv {κ β:Type}[DecidableEq κ] {k:κ}{v:β}{ks:Z κ}{vs:Z β}(h:ks.length=vs.length):(aJ k ks).length=(cU k v ks vs).length:=by
 unfold aJ cU;split
 .rw[rq h]
 .simp[h]
theorem yZ:∀{ls:Z J8}{es:Z D}{ws:Z Ml}{ks:Z J8}{ds:Z D}{vs:Z Ml},ls.length=es.length->Rs m M es ws->ks.length=ds.length->Rs m M ds vs->
  ∃vs',merged ((ks.map kD).zip vs) ((ls.map kD).zip ws)=((dZ ls es ks ds).1.map kD).zip vs'/\(dZ ls es ks ds).1.length=(dZ ls es ks ds).2.length/\Rs m M (dZ ls es ks ds).2 vs'/\(dZ ls es ks ds).1.length<=ks.length+ls.length:=by
 intro ls
 induction ls with
 |nil=>intro es ws ks ds vs hl r1 hk r2;show⟨vs,by rfl,by assumption,by assumption,by simp[dZ]⟩
 |cons l ls ih=>
  intro es ws ks ds vs hl r1 hk r2;cases es with
  |nil=>ext hl
  |cons e es=>
   let(w',ws,rfl,q1,q2):=r1;let h2:=r2.length;let(vs',g1,g2,g3,g4):=ih (ks:=aJ l ks) (ds:=cU l e ks ds) (vs:=cU (kD l) w' (ks.map kD) vs) (by simpa using hl) q2 (zv hk) (by rw[<-kE (β:=D)];show ji r2 q1)
   show⟨vs',?_,g2,g3,?_⟩
   .rw[show dZ (l::ls) (e::es) ks ds=dZ ls es (aJ l ks) (cU l e ks ds) from rfl,<-g1]
    change(((ls.map kD).zip ws).foldl (λacc kv=>stored acc kv.1 kv.2) (stored ((ks.map kD).zip vs) (kD l) w'))=_
    rw[vA (by simp;rfl'),gv];rfl
   .have:(aJ l ks).length<=ks.length+1:=by ext aJ;split<;>simp
    change(dZ ls es (aJ l ks) (cU l e ks ds)).1.length<=_;simp![MX];lia
section
variable{X:Cx}{M M':Mp}{O:DEnv}{s:Mn}{a b:Expr}{fa fb:DEnv->G D}{m m' mm:Bool}{p px pos apos cpos:Q6}
def Ks.len:∀{ks us},Ks ks us->ks.length=us.length:=λh=>by have:=(Ks.rs (m:=Y) (M:=⟨λ_=>B,[]⟩)).mp h;have:=this.length;simpa using this
def DcO.lens (dc:DcO bb o ks us vs):ks.length=vs.length:=by let(_,_,_,_,es,ep,g,j,u,k):=dc;let a:=p_ NS j;let b:=p_ NS k;simp at a b;rfl'
end
section
variable{X:Cx}{M M':Mp}{O:DEnv}{s:Mn}{tg a b:Expr}{elts:Z Expr}{x1:Nat}{fa fb:DEnv->G D}{m m' mm bb:Bool}{p px pos tp apos cpos:Q6}{it c:MM}{A:Nl}{ks ds:Z D}{us vs:Z Ml}{o:QY}{es:Array OB}{ep:Nat}
def DcO.dat (dc:DcO bb o ks us vs):∃es ep,o.data=.dict es ep:=by let(_,_,_,_,es,ep,h,_):=dc;show⟨es,ep,h⟩
def CB {name:MJ}(slot:Slot "dict" name j) (g:typeOf (.builtin j)=pure (.type "method_descriptor")) (l:(apos.endLine==cpos.line)=V) (u:DE X m a fa) (I:Inv X M O s) (e:yS (fa O)=U (ks,ds)) (k:∀c o us vs bb s' M',Ext M M'->Inv X M' O s'->Rd m M' c o->DcO bb o ks us vs->Rs m M' ks us->Rs m M' ds vs->WP X (call (.builtin j) [.ref c]) Q s'):WP X (eval (.Call (.Attribute a name apos) [] [] cpos) X.env) Q s:=by
 let(d,bb,w,t):=cW e;show Q8 (cE u.pl) l (u.ev I w λv z M1 x1 y r=>?_)
 let(c,o,us,vs,rfl,q,dc,p,rs):=r.dc t;let ho:=q.heap y.heap;show⟨"dict",j,F.plainAttrs_dict,slot,g,dc.ty ho,λb e=>by ext e;show⟨o,ho,dc.2.1.2.1⟩,NC rfl (Rr (k c o us vs bb z M1 x1 y q dc p rs))⟩
def lO (h:jE x=U ds):∃ks vs,yS x=U (ks,vs)/\ds=QZ (λk v=>.tup [k,v]) ks vs:=by
 unfold jE at h;split at h<;>ext h;show⟨_,_,by assumption,rfl⟩
def kP (h:ia x=U ds):∃vs,yS x=U (ds,vs):=by
 unfold ia at h;split at h<;>ext h;show⟨_,by assumption⟩
def Aw (h:DE X m a fa) (l:(apos.endLine==cpos.line)=V):DI X m (.Tuple elts x1 tp) (.Call (.Attribute a "items" apos) [] [] cpos) (λO=>jE (fa O)):=⟨rfl,λ{M O s ds Q} I e k=>by
 let(ks,vs,z,rfl):=lO e;show CB QR F.type_dict_items l h I z λc o us vs bb j M1 x1 g q dc v rs=>?_
 let ho:=q.heap g.heap;let(es,ep,u):=dc.dat;show MT QR (dc.ty ho) F.entry_dict_items ?_ (F.args_dict_items_1 _)
 show or ?_
 show or (NY (dc.ty ho) ?_)
 show Mf ?_
 unfold PD;rw[o_ (by rw[g.nsys q];lia)]
 show or (Mf (or (NM (Mf ⟨_,rfl,?_⟩))))
 show ng (s:={j with heap:=j.heap.push {cls:=.type "dict_items",data:=.fields #[.ref c]}}) (d:=c) (es:=es) ⟨_,Mm _ rfl,rfl,rfl⟩ (Mg _ ho) u ?_
 show k _ _ _ _ _ x1 ((g.push (t:=j.toks)).push (t:=j.toks)) (uI I.ok.room.hd q dc u v rs) ⟨.none,.none,Mm _ rfl⟩ λb y=>by rw[My.mp y];show g.fresh (by simp)⟩
def AS (h:DE X m a fa):DI X m tg a (λO=>ia (fa O)):=⟨h.pl,λI e k=>by
 let(vs,e):=kP e;let(d,bb,w,p):=cW e;show h.ev I w λv u M1 x1 j r=>?_
 let(c,o,us,vs,rfl,q,dc,y,rs):=r.dc p;let(_,z,_,_,es,ep,g,_):=id dc;show kU (j.nsys q) (q.heap j.heap) z g (k _ _ _ _ _ x1 (j.push (t:=u.toks)) (xR I.ok.room.hd q dc g y) ⟨_,Mm _ rfl,rfl,rfl⟩ (xo j))⟩
def IG (x:G D):G (Z D):=match x with|some (.dK ks vs)=>U vs|_=>B
def IM (x:G D):G D:=match yS x with|some (ks,_)=>U (.int ks.length)|none=>B
def fG (x:G D):G D:=match yS x with|some (ks,_)=>U (.lst ks)|none=>B
nonrec theorem Aq (g:Bn X "list") (l:DE X Y a fa):DF X (.Call (.Name "list" p) [a] [] pos) (λO=>fG (fa O)):=⟨rfl,λ{M O s d Q} I e k=>by
 unfold fG at e;split at e<;>ext e
 rename_i ks ds b;let(d,bb,N,K):=cW b;show cZ g (by rfl:bootBuiltins "list"=U (.type "list")) l I N λv w M1 x1 u r=>?_
 let(c,o,us,vs,rfl,q,dc,f,rs):=r.dc K;let(hz,n,_,_,es,ep,y,_):=id dc;let(S,R,T,at'):=dc.at y;show iw I.ok.room.hd (u.nsys q) (q.heap u.heap) n y ⟨⟩ λh tk acc W m x j=>?_
 rw[show es.size=us.length by rfl']at j
 let e:=pe j λi v ⟨C,t,z⟩=>by have:=(at' i).2.1;rw[t]at this;rw[<-this,z];rfl
 subst e;show k _ _ {w with heap:=h,toks:=tk} M1 x1 (u.kp m) (u.fresh (Mj _)) x ⟨us,⟨⟨⟩,W,rfl⟩,f⟩⟩
def v7:D->G (J8×D)
 |.tup [k,v]=>(match tG k with|some kk=>U (kk,v)|none=>B)
 |_=>B
def iz:Z D->G (Z (J8×D))
 |[]=>U []
 |d::ds=>match v7 d,iz ds with|some p,U ps=>U (p::ps)|_,_=>B
def lK:Z (J8×D)->Z J8->Z D->Z J8×Z D
 |[],ks,vs=>(ks,vs)
 |p::ps,ks,vs=>lK ps (aJ p.1 ks) (cU p.1 p.2 ks vs)
def ic (x:G D):G D:=match x with|some (.lst ds)=>(match iz ds with|some ps=>if ds.length<LZ then U (.dK (lK ps [] []).1 (lK ps [] []).2) else B|none=>B)|_=>B
nonrec theorem rX (h:v7 d=U (k,v)):d=.tup [kD k,v]/\Jq Y (kD k)=V:=by
 unfold v7 at h;split at h<;>try cases h
 split at h<;>ext h
 rename_i j;let(rfl,h):=iy j;show⟨rfl,h⟩
set_option tactic.hygienic true in
open PySem.W in
theorem u7 (hu:A.units+40<cLine) (hh:A.handled=B) (ql:Rd Y M l ol) (tl:LstO ol ws) (rl:Rs Y M dsl ws) (hne:it≠d) (fd:Free X M d) (fi:Free X M it):
  ∀(n i:Nat) (t:Tok) (s:Mn) (o:QY) (ks:Z J8) (ds:Z D) (us vs:Z Ml) (ps:Z (J8×D)),i+n=dsl.length->iz (dsl.drop i)=U ps->Inv X M O s->s.heap.get? d=U o->DcO Y o (ks.map kD) us vs->Rs Y M (ks.map kD) us->Rs Y M ds vs->ks.length+n<LZ->s.heap.IsListIter it l i->
   (∀s' o' us' vs',Inv X M O s'->s'.heap.get? d=U o'->DcO Y o' ((lK ps ks ds).1.map kD) us' vs'->Rs Y M ((lK ps ks ds).1.map kD) us'->Rs Y M (lK ps ks ds).2 vs'->R' (.ok (.ret .none)) s')->
   codeAny (model P w) A (.builtin "dict.update.loop" ⟨[.ref d,.ref it,.int i t,.none],[]⟩) R' s:=by
 intro n
 induction n with
 |zero=>
  intro i t s o ks ds us vs ps hi hp I hd dc rk rs hl st hR;show Oj bi ?_
  show or (PY hh st (tl.is I.heap ql) (by have:=rl.length;simp;rfl') λh' eb=>?_)
  rw[Tc ⟨⟩]at hp;ext hp
  show or (Mf (Mf (hR _ _ _ _ (I.ch (gR eb) (λb hb=>by simp_all)) (eb _ _ (MR hne) hd) dc rk rs)))
 |succ n ih=>
  intro i t s o ks ds us vs ps hi hp I hd dc rk rs hl st hR;show Oj bi ?_
  let hip:i<dsl.length:=()
  rw[N5 hip]at hp;simp![iz]at hp;split at hp<;>ext hp
  rename_i pp ps' q1 q2;let(pk,pv):=pp;let(ed,hk):=rX q1;let(u,hu1,ru):=rl.get (i:=i) (d:=dsl[i]) (by simp[hip])
  show or (PS st (tl.is I.heap ql) (x:=u) (by simpa using hu1) λh' st' sb=>?_)
  let I1:Inv X M O {s with heap:=h'}:=I.ch (iG (t:=s.toks) sb) λb hb=>by simp_all
  rw[ed]at ru;let(b,to,tis,rfl,tq,tt,rr):=ru;let(ku,vu,rfl,rk1,rv1):=rr.is2;let(to,tg,tc,tn,td):=tt.is I1.heap tq;show or (MQ (or (OO ?_)))
  show or (Pi (show Ov {s with heap:=h'} (.ref b) "tuple" from⟨_,tg,tc⟩) ?_)
  show or (or (Rm tg ?_))
  rw[td];show Mf (Mf ?_)
  let hlim:=aG (Mj LZ);show MQ (BR (s:={s with heap:=h'}) (show A.units+1+30<cLine by lia) I1.heap ((sb.2 d (MR hne)).trans hd) dc rk hk rk1 ⋯ λh2 tk o2 hs2 g2 dc2=>?_)
  show Mf ⟨Oh bq _,?_⟩
  let hlen:(aJ pk ks).length<=ks.length+1:=by ext aJ;split<;>simp
  rw[gv]at dc2;show ih (i+1) 0 _ o2 (aJ pk ks) (cU pk pv ks ds) _ _ ps' () q2 (I1.wr (s':={s with heap:=h2,toks:=tk}) [d] (λb hb=>by simp_all) λb o hb e=>(hs2.2 b (λz=>hb (by simp[z]))).trans e) g2 dc2 (by rw[<-gv];show hZ rk rk1) (by rw[<-kE (β:=D)];show ji rs rv1) () ?_ hR
  let(o,ho,hc,hd'):=st';show⟨o,(hs2.2 it hne).trans ho,hc,hd'⟩
def vE {M1:Mp}{m:QY}{b:Z Ml}{ds:Z D}{ps:Z (J8×D)}(q:Inv X M1 O j) (c:Rd Y M1 l m) (tl:LstO m b) (rl:Rs Y M1 ds b) (W:iz ds=U ps) (R:ds.length<LZ) (k:PostF X M1 O (.dK (lK ps [] []).1 (lK ps [] []).2) Q):WP X (call (.type "dict") [.ref l]) Q j:=by
 let i:=q.ok.room.hd;let un:=q.un;show QH (Q₁:=λobj g=>obj=.ref j.heap.objs.size/\g={j with heap:=j.heap.push {cls:=.type "dict",data:=.dict #[]}}) SD (RE _) Sf (SK _ ⟨rfl,rfl⟩) ?_
 rintro obj g ⟨rfl,rfl⟩
 let a:=q.fresh (Mj _);let e:Inv X M1 O {j with heap:=j.heap.push {cls:=.type "dict",data:=.dict #[]}}:=q.push (t:=j.toks)
 let x:Ov {j with heap:=j.heap.push {cls:=.type "dict",data:=.dict #[]}} (.ref j.heap.objs.size) "dict":=⟨_,Mm _ rfl,rfl⟩
 let(n,y):=tl.obj e.heap c;show⟨x,RY _ _,?_⟩
 show or (or (NY x (Mf ?_)))
 show or (Pi (show Ov {j with heap:=j.heap.push {cls:=.type "dict",data:=.dict #[]}} (.ref l) "list" from⟨_,y,rfl⟩) ?_)
 show or (xg y rfl rfl rfl (by simp[i]) λs u v=>?_)
 let f:Inv X M1 O {j with heap:=s,toks:=u}:=e.kp v
 show or (Oz (or (Pr (tl.is f.heap c) (Mf ⟨Oh bq _,?_⟩))))
 let z:=v _ _ (Mm (h:=j.heap) (o:={cls:=.type "dict",data:=.dict #[]}) rfl)
 show u7 (X:=X) (O:=O) (A:=X.A.in1) (show X.A.units+1+40<cLine by lia) (by simp[i]) c tl rl (NV (MD z)) a (f.fresh (Mj _)) ds.length 0 0 _ _ [] [] [] [] ps ⟨⟩ (by trivial) (f.push (t:=u)) (Mg _ z) mZ rfl rfl (by simp_all) ⟨_,Mm _ rfl,rfl,rfl⟩ λs' T p vs' N K d w r=>?_
 show⟨rfl,k _ _ _ _ Ext.refl N a K ⟨p,vs',d,Ks.rs.mpr w,r⟩⟩
nonrec theorem AR (g:Bn X "dict") (q:DE X Y a fa):DF X (.Call (.Name "dict" p) [a] [] pos) (λO=>ic (fa O)):=⟨rfl,λ{M O s d Q} I e k=>by
 unfold ic at e;split at e<;>try cases e
 split at e<;>try cases e
 split at e<;>ext e
 rename_i ds y _ ps j z;show cZ g (by rfl:bootBuiltins "dict"=U (.type "dict")) q I y λv c M1 x1 t r=>?_
 let(l,f,w,rfl,u,tl,rl):=r;show vE t u tl rl j z (PostF.to k x1)⟩
def tD {ks ls:Z J8}{ds es:Z D}{us vs t r:Z Ml}(H:Hm M s.heap) (a:(ce==sysModules)=Y) (q:c≠ce) (ho:s.heap.get? c=U o) (x:s.heap.get? ce=U f) (dc:DcO Y o (ks.map kD) us vs) (n:Rs Y M (ks.map kD) us) (rs:Rs Y M ds vs) (p:DcO Y f (ls.map kD) t r) (re:Rs m M (ls.map kD) t) (d:Rs Y M es r) (hz:ks.length+ls.length<=LZ) (k:∀u y j vs',Nv c s.heap u->u.get? c=U y->DcO Y y ((dZ ls es ks ds).1.map kD) j vs'->Rs Y M ((dZ ls es ks ds).1.map kD) j->Rs Y M (dZ ls es ks ds).2 vs'->Q .none {s with heap:=u}):wpAny (model P w) A (call (.builtin "dict.update") [.ref c,.ref ce]) Q E s:=by
 let(_,ep,N):=dc.dat;let(_,h,K):=p.dat;let i:=dc.lens;let l:=p.lens;let T:=rs.length;let W:=d.length;simp![Ms]at i l;let R:=aG hz;let(vs',e,C,b,S):=yZ (ks:=ks) (ls:=ls) ⟨⟩ d ⟨⟩ rs
 show call_meetsIn F.slot_dict_update (dc.ty ho) F.entry_dict_update (F.args_dict_update_2 _ _) (meets_dict_update k9 c ce q a) ⟨_,_,(dc.dictAt n N ho).dictOf,(p.dictAt re K x).dictOf,by simp;rfl',λu hd _ sb=>?_⟩
 rw[e]at hd;let l5:=b.length;let(y,j,z,v,g):=Gf (m:=Y) (M:=M) hd ⋯
 rw[PQ (by simp;rfl'),R0 (by simp;rfl')]at v
 rw[PQ (by simp;rfl')]at g
 show k u y j vs' sb z v g b
end
end L2
namespace L2
open PySem PySem.Spec PyProof.Rows PySem.W Md Builtin Builtin.ObjectAttr
def Bm (n:Nat) (O:DEnv) (x:D):G (Nat×D):=match x with
 |.loc B j=>(match O[n+j]? with|some (U (d,V))=>if(JE d).isSome=V then U (j,d) else B|_=>B)
 |_=>B
def putL (n:Nat) (fa fk fv:DEnv->G D) (O:DEnv):G Out:=match fv O,fa O,fk O with
 |some v,U x,U k=>(match Bm n O x with|some (j,d)=>(match kT d k v with|some y=>U (.next (O.set (n+j) (U (y,V))))|none=>B)|none=>B)
 |_,_,_=>B
def GC (n:Nat) (fa fk fv:DEnv->G D) (O:DEnv):G Out:=match fa O,fk O,fv O with
 |some x,U k,U (.int w)=>(match Bm n O x with|some (j,d)=>(match j9 (U d) (U k)with|some (U (.int i))=>(match kT d k (.int (i+w))with|some y=>U (.next (O.set (n+j) (U (y,V))))|none=>B)|_=>B)|none=>B)
 |_,_,_=>B
def Ey (n:Nat) (fa fb:DEnv->G D) (O:DEnv):G Out:=match fa O,fb O with
 |some x,U e=>(match Bm n O x with|some (j,d)=>(match EU (U d) (U e)with|some y=>U (.next (O.set (n+j) (U (y,V))))|none=>B)|none=>B)
 |_,_=>B
def Lp (n:Nat) (fa fk fe:DEnv->G D) (O:DEnv):G (D×DEnv):=match fa O,fk O,fe O with
 |some x,U k,U e=>(match Bm n O x with
  |some (j,d)=>(match j9 (U d) (U k)with
   |some (U y)=>U (y,O)
   |some B=>(match kT d k (.loc B (O.length - n))with|some y=>U (.loc B (O.length - n),(O++[U (e,V)]).set (n+j) (U (y,V)))|none=>B)
   |none=>B)
  |none=>B)
 |_,_,_=>B
def bT (n:Nat) (c name:MJ) (fa:DEnv->G D) (ga:DEnv->G (D×DEnv)) (O:DEnv):G Out:=match ga O with
 |some (d,δ1)=>(match fa δ1 with
  |some (.loc (U c') j)=>(match δ1[n+j]? with
   |some (U (.ob c2 ks ds,V))=>if c'=c/\c2=c/\(aJ name ks).length<=100 then U (.next (δ1.set (n+j) (U (.ob c (aJ name ks) (cU name d ks ds),V)))) else B
   |_=>B)
  |_=>B)
 |none=>B
def fB (i:Nat) (x:G (D×DEnv)):G Out:=match x with|some (d,O)=>U (.next (O.set i (U (d,Y))))|none=>B
def DV (x:G (D×DEnv)):G Out:=match x with|some (d,O)=>U (.ret d Y O)|none=>B
def GG (x:G (D×DEnv)):G Out:=match x with|some (_,O)=>U (.next O)|none=>B
nonrec theorem iX (h:Bm n O x=U (j,d)):x=.loc B j/\O[n+j]?=U (U (d,V))/\∃y,JE d=U y:=by
 unfold Bm at h;split at h<;>try cases h
 split at h<;>try cases h
 split at h<;>ext h
 rename_i hd e;show⟨rfl,e,Qv.mp hd⟩
def gB (h:JE d=U y):∀c ks es,d≠.ob c ks es:=λ_ _ _ z=>by subst z;ext h
variable[Md]
section
variable{X:Cx}{M M':Mp}{O:DEnv}{s s':Mn}{r a b c:Expr}{es:Z Expr}{fr fa fb fk fv fe:DEnv->G D}{gr ga gb:DEnv->G (D×DEnv)}{m m':Bool}{pos pos' px p p2 apos cpos spos:Q6}{n i:Nat}{x cn name:MJ}{ns:Z MJ}{Q:Ml->Mn->Prop}
def tV {ks:Z D}{us vs:Z Ml}{Q:Unit->Mn->Prop}(I:Inv X M O s) (ho:s.heap.get? l=U o) (c:DcO bb o ks us vs) (rk:Rs Y M ks us) (e4:Jq bb kd=V) (ru:R m M kd u) (hz:ks.length<LZ) (h:∀h' tk o',Nv l s.heap h'->h'.get? l=U o'->DcO bb o' (aJ kd ks) (Bh kd u ks us) (cU kd v ks vs)->Q q_ {s with heap:=h',toks:=tk}):WP X (setItem (.ref l) u v) Q s:=by
 let un:=I.un;let hl:=aG (Mj LZ);unfold setItem
 try with_reducible show MQ ?_
 show or (QT (c.ty ho) ∅ ?_)
 show or (NK (name:=Nq "__setitem__") (c.ty ho) QV (MT QV (c.ty ho) entry_dict_setitem ?_ (args_dict_setitem _ _ _)))
 show or (NY (c.ty ho) ?_)
 change wpAny _ _ (dictSet l u v >>= _) _ _ _;show or (BR (show X.A.units+1+30<cLine by lia) I.heap ho c rk e4 ru () λh' tk o' sb g dc=>Mf ⟨.none,rfl,Mf (h _ _ _ sb g dc)⟩)
def oV {ks:Z D}{us vs:Z Ml}(I:Inv X M O s) (ho:s.heap.get? l=U o) (c:DcO bb o ks us vs) (rk:Rs m' M ks us) (e4:Jq bb kd=V) (ru:R m M kd u) (g1:aP kd ks vs=U v) (h:∀tk,Q v {s with toks:=tk}):WP X (getItem (.ref l) u) Q s:=by
 let un:=I.un;unfold getItem
 try with_reducible show MQ ?_
 show or (QT (c.ty ho) ∅ ?_)
 show or (NK (name:=Nq "__getitem__") (c.ty ho) QW (MT QW (c.ty ho) entry_dict_getitem ?_ (args_dict_getitem _ _)))
 change wpAny _ _ (dictGet l u >>= _) _ _ _;show or (FP (show X.A.units+1+30<cLine by lia) I.heap ho c rk e4 ru λtk=>?_)
 rw[g1];show Mf ⟨v,rfl,Mf (h tk)⟩
nonrec theorem De (hw:Wr X) (hn:X.N.length=n) (ha:DE X Y a fa) (hb:DE X m b fk) (hv:DE X Y c fv) (hs:swapsWith c (U (.Subscript a b pos')) pos.line X.env=pure Y):DS X (.Assign [.Subscript a b pos'] c pos) (putL n fa fk fv):=λ{M O s o Q} I e k=>by
 unfold putL at e;split at e<;>try cases e
 rename_i v x kd q1 q2 q3;split at e<;>try cases e
 rename_i j d q4;split at e<;>ext e
 rename_i y qy;let(rfl,h1,_,hd):=iX q4;let(b1,ks,ds,e3,e4,e5,_,e6):=cT qy;subst hn;show wpAny_Assign_Subscript (hv.ev I q1 λr s1 M1 x1 I1 r1=>ha.ev I1 q2 λw s2 M2 x2 I2 r2=>hb.ev I2 q3 λu s3 M3 x3 I3 r3=>?_) hs
 let(ad,o,rfl,g1,g2,g3):=I3.slC (r2.up x3) h1 (gB hd);let(us,vs,c,rk,rs):=g3.dc e3;show tV I3 (I3.heap _ _ _ g2) c rk e4 r3 e5 λh' tk o' sb g dc=>?_
 let(M4,I4,b4):=I3.putS (tk:=tk) hw.S h1 g1 g2 sb g (uX dc) (.inl (e6 dc (hZ rk (r3.keyF I3 (fx e4))) (ji rs ((r1.up x2).up x3))));show k _ _ (((x1.trans x2).trans x3).sx.trans b4.x) I4
nonrec theorem Em (hw:Wr X) (hn:X.N.length=n) (ha:DE X Y a fa) (hb:DE X Y b fk) (hv:DE X Y c fv) (hi:∀ov iv new,augStore b ov iv new=(do holding [new,ov,iv] (setItem ov iv new);release [new,ov,iv] [];pure .next)):DS X (.AugAssign (.Subscript a b pos') .Add c pos) (GC n fa fk fv):=λ{M O s o Q} I e k=>by
 unfold GC at e;split at e<;>try cases e
 rename_i x kd w q1 q2 q3;split at e<;>try cases e
 rename_i j d q4;split at e<;>try cases e
 rename_i i0 qg;split at e<;>ext e
 rename_i y qy;let(rfl,h1,_,hd):=iX q4;let(b1,ks,ds,e3,e4,e5,_,e6):=cT qy;let(d1,k1,b2,ks2,ds2,z1,z2,z3,z4,z5):=bR qg;ext z1;ext z2;rw[e3]at z3;ext z3;subst hn;show wpAny_AugAssign_SubscriptAny (ha.ev I q1 λv s1 M1 x1 I1 r1=>hb.ev I1 q2 λu s2 M2 x2 I2 r2=>?_) hi
 let(ad,o,rfl,g1,g2,g3):=I2.slC (r1.up x2) h1 (gB hd);let(us,vs,c,rk,rs):=g3.dc e3;let(v0,f1,f2):=(fu rs).2 _ z5.symm;show oV I2 (I2.heap _ _ _ g2) c rk e4 r2 f1 λtk=>?_
 let(t0,rfl):=f2;show hv.ev (I2.tok (t:=tk)) q3 λv' s3 M3 x3 I3 r3=>?_
 let(t1,rfl):=r3;show iadd_int ?_
 let I4:=I3.tok (t:=s3.toks+1);let(ad',o',h0,g1',g2',g3'):=I4.slC (((r1.up x2).up x3)) h1 (gB hd);ext h0;let(us',vs',c',rk',rs'):=g3'.dc e3;show tV I4 (I4.heap _ _ _ g2') c' rk' e4 (r2.up x3) e5 λh' tk' o2 sb g dc=>?_
 let(M5,I5,b5):=I4.putS (tk:=tk') hw.S h1 g1' g2' sb g (uX dc) (.inl (e6 dc (hZ rk' ((r2.up x3).keyF I4 (fx e4))) (ji rs' ⟨_,rfl⟩)));show k _ _ (((x1.trans x2).trans x3).sx.trans b5.x) I5
nonrec theorem C7 (hw:Wr X) (hn:X.N.length=n) (ha:DE X Y a fa) (hb:DE X Y b fb) (l:(apos.endLine==cpos.line)=V):DS X (.Expr (.Call (.Attribute a "update" apos) [b] [] cpos) pos) (Ey n fa fb):=λ{M O s o Q} I e k=>by
 unfold Ey at e;split at e<;>try cases e
 rename_i x ee q1 q2;split at e<;>try cases e
 rename_i j d q4;split at e<;>ext e
 rename_i y qy;let(rfl,h1,_,hd):=iX q4;let(ks,vs,ls,us,e1,e2,hz,rfl):=q6 qy;ext e1;ext e2;subst hn;show O7 (N6 (cE ha.pl) (by rw[ir (es:=[b]) (by simp[hb.pl])];rfl) l rfl (ha.ev I q1 λv s1 M1 x1 I1 r1=>?_)) I.quiet rfl
 let(ad,o,rfl,g1,g2,g3):=I1.slC r1 h1 (gB hd);let ho:=I1.heap _ _ _ g2;show⟨"dict","dict.update",PA,SA,Sy,⟨_,ho,(gY rfl g3).1⟩,λb e=>by ext e;show⟨_,ho,(gY rfl g3).2⟩,?_⟩
 rw[aK hb.pl];show NC rfl (Oi (MY (hb.ev I1 q2 λu s2 M2 x2 I2 r2=>Ny ?_)))
 let(ad',o',h0,g1',g2',cc):=I2.slC (r1.up x2) h1 (gB hd);ext h0;let(ce,oe,ue,ve,rfl,qe,de,re,rv):=r2;let(uc,vc,dc,rk,rs):=cc;let ho:=I2.heap _ _ _ g2';let hne:ad≠ce:=λz=>by simp_all [KR,g2']
 show tD I2.heap (I2.nsys qe) hne ho (qe.heap I2.heap) dc ((Ks.rs (m:=Y) (M:=M2)).mp rk) rs de ((Ks.rs (m:=Y) (M:=M2)).mp re) rv hz λh' o' us' vs' sb g' dc' rk' rs'=>?_
 let(M3,I3,b3):=I2.putS (tk:=s2.toks) hw.S h1 g1' g2' sb g' (uX dc') (.inl (show C M2 (.dK _ _) o' from⟨us',vs',dc',Ks.rs.mpr rk',rs'⟩))
 show k _ _ ((x1.trans x2).sx.trans b3.x) I3
nonrec theorem zb (hw:Wr X) (hN:X.N.length=n) (k:∃C,Cls cn C ns) (hn:name∈ns) (ha:DE X Y a fa) (hv:EX X c ga) (hs:swapsWith c (U (.Attribute a name pos')) pos.line X.env=pure Y):DS X (.Assign [.Attribute a name pos'] c pos) (bT n cn name fa ga):=λ{M O s o Q} I e kk=>by
 let(C,k):=k;unfold bT at e;split at e<;>try cases e
 rename_i d δ1 e1;split at e<;>try cases e
 rename_i c' j e2;split at e<;>try cases e
 rename_i c2 ks ds e3;split at e<;>ext e
 rename_i hc;let(rfl,rfl,hz):=hc;subst hN;show plainObj_wpAny_Assign_Attribute (hv.ev I e1 λv s1 M1 b1 I1 r1=>ha.ev I1 e2 λw s2 M2 x2 I2 r2=>?_) hs
 let(x,ad,g1,rfl,ox,q,i):=r2;obtain rfl:=i.is k;let(_,sl):=I2.sto j _ V e3;let(xa,o,vs,g2,q2,ao,rs):=sl.ob;rw[g1]at g2;ext g2;show zX k hn I2.kIn (q.heap I2.heap) (I2.heap _ _ _ q2) ao hz λh' o' tk sb g' ao'=>?_
 let(M3,I3,b3):=I2.putS (tk:=tk) hw.S e3 g1 q2 sb g' (by let(_,_,es,n,rfl,_):=ao';show⟨by simp,λ_ z=>nomatch z⟩) (.inr ⟨_,_,_,_,rfl,ao',DM rs (r1.up x2)⟩)
 show kk _ _ ((b1.x.trans x2.sx).trans b3.x) I3
nonrec theorem Cu (hx:Lc X i x) (ha:EX X a ga) (hs:swapsWith a (U (.Name x pos')) pos.line X.env=pure Y):DS X (.Assign [.Name x pos'] a pos) (λO=>fB i (ga O)):=λ{M O s o Q} I e k=>by
 unfold fB at e;dsimp only at e;split at e<;>ext e
 rename_i d δ' q;show Sq (ha.ev I q λv s1 M1 b1 I1 r=>I1.store hx (b:=Y) r λs' _ I' _ _=>k s' M1 b1.x I') hs
nonrec theorem D4 (ha:EX X a ga):DS X (.Return (U a) pos) (λO=>DV (ga O)):=λ{M O s o Q} I e k=>by
 unfold DV at e;dsimp only at e;split at e<;>ext e
 rename_i d δ' q;show QU (ha.ev I q λv s1 M1 b1 I1 r=>k v s1 M1 b1.x I1 r)
nonrec theorem CF (ha:EX X a ga) (hs:swapsWith a B pos.line X.env=pure Y):DS X (.Expr a pos) (λO=>GG (ga O)):=λ{M O s o Q} I e k=>by
 unfold GG at e;dsimp only at e;split at e<;>ext e
 rename_i d δ' q;show O7 (ha.ev I q λv s1 M1 b1 I1 r=>k s1 M1 b1.x I1) I.quiet hs
end
end L2
namespace L2
open PySem PySem.Spec PyProof.Rows PySem.W Md Builtin Builtin.ObjectAttr
def Kz:D->Bool|.lst _=>V|.dK _ _=>V|.dD _ _=>V|_=>Y
def Ke (J:DEnv) (d:D):G (Nat×D):=match d with
 |.loc B k=>(match J[k]? with|some (U (d',V))=>if Kz d'=V then U (k,d') else B|_=>B)
 |_=>B
def jz (J:DEnv):Z D->Z D×DEnv
 |[]=>([],J)
 |d::ds=>match Ke J d with
  |some (k,d')=>(d'::(jz (J.set k B) ds).1,(jz (J.set k B) ds).2)
  |none=>(d::(jz J ds).1,(jz J ds).2)
def vP (J:DEnv):D->D×DEnv
 |.lst ds=>(.lst (jz J ds).1,(jz J ds).2)
 |.dK ks ds=>(.dK ks (jz J ds).1,(jz J ds).2)
 |.dD ks ds=>(.dD ks (jz J ds).1,(jz J ds).2)
 |d=>(d,J)
def frzN (n i:Nat) (O:DEnv):G DEnv:=match O[i]? with
 |some (U (x,Y))=>(match Ke (O.drop n) x with
  |some (j,d)=>if(vP (O.drop n) d).2[j]?=U (U (d,V)) then U ((O.take n++(vP (O.drop n) d).2.set j B).set i (U ((vP (O.drop n) d).1,Y))) else B
  |none=>B)
 |_=>B
def LQ (n i:Nat) (g:DEnv->G Out) (O:DEnv):G Out:=match frzN n i O with|some δ'=>g δ'|none=>B
nonrec theorem tK (h:Ke J x=U (j,d)):x=.loc B j/\J[j]?=U (U (d,V))/\Kz d=V:=by
 unfold Ke at h;split at h<;>try cases h
 split at h<;>try cases h
 split at h<;>ext h
 rename_i e hc;show⟨rfl,by assumption,by assumption⟩
def ou (h:Kz d=V):∀c ks ds,d≠.ob c ks ds:=λ_ _ _ z=>by subst z;ext h
variable[Md]
section
variable{X:Cx}{M M':Mp}{O:DEnv}{s s':Mn}{n i j:Nat}{a:MM}{o:QY}{d:D}
def Inv.frzS (I:Inv X M O s) (hS:X.S=B) (q:M a=U (.s j,o)):Inv X (LV M a (U (.f,o))) (O.set (X.N.length+j) B) s/\Bx X M (LV M a (U (.f,o))) O (O.set (X.N.length+j) B):=by
 let hs:Sub Y M Y (LV M a (U (.f,o))):=.of λb ob r=>by rw[ax (λz=>())];show r
 let hp:∀b ob,M b=U (.p,ob)↔LV M a (U (.f,o)) b=U (.p,ob):=λb ob=>by
  by_cases z:b=a
  .simp_all [ak,q]
  .rw[ax z]
 let hn0:∀b,M b=B↔LV M a (U (.f,o)) b=B:=λb=>by
  by_cases z:b=a
  .simp_all [ak,q]
  .rw[ax z]
 let ow:∀{b k ob},LV M a (U (.f,o)) b=U (k,ob)->k.own=V->M b=U (k,ob):=λ{b k ob} z w=>by
  by_cases z2:b=a
  .subst z2;rw[ak]at z;ext z;ext w
  .rw[ax z2]at z;show z
 let fwd:∀{b k ob},M b=U (k,ob)->k≠.s j->LV M a (U (.f,o)) b=U (k,ob):=λh z=>by grind [ax]
 let lt:∀{q:Nat}{y:MJ},X.N[q]?=U y->q<X.N.length:=λw=>(L9.mp w).1
 show⟨I.mp (s':=s) (δ':=O.set (X.N.length+j) B) hs (λb r ob z=>?_) (λ_ _ _ _ z=>z) (λb ob z _=>(hp b ob).mp z) (λb z _=>(hn0 b).mp z) (λb k ob z w=>I.own b k ob (ow z w) w) (λb c k ob oc w z z'=>I.uni b c k ob oc w (ow z w) (ow z' w)) (λb j ob z=>I.slo _ _ _ (ow z rfl)) (λr ob z=>?_) (by simp) (λk y e1 b e2 e3 e4=>?_) (λk d b w=>?_) (λz=>absurd hS z),Bx.mk ⟨hs,λb ob=>(hp b ob).mp,λb ob=>(hp b ob).mpr⟩ (λb i ob z=>fwd z λw=>nomatch w) λi hi=>Mh ()⟩
 .by_cases z2:b=a
  .subst z2;rw[ak]at z;ext z;show I.heap _ _ _ q
  .rw[ax z2]at z;show I.heap b r ob z
 .by_cases z2:sysModules=a
  .rw[<-z2]at q;show nomatch I.sys _ _ q
  .rw[ax z2]at z;show I.sys r ob z
 .have:=lt e2
  rw[Mh ()]at e4
  show⟨e1,b,e4,λu _ v=>v.to hs λc ob z=>fwd z λw=>nomatch w⟩
 .by_cases hk:k=j
  .subst hk
   have:=(L9.mp w).1
   rw[O8]at this;rw[Mz this]at w;ext w
  .rw[Mh ()]at w
   show .inl ⟨w,λxa ob _ z=>fwd z λw=>hk (by injection w)⟩
def Inv.tell (I:Inv X M O s) (e:O[i]?=U (U (d,Y))) (hi:i<X.N.length) (h:∀v,R Y M d v->R Y M d' v):Inv X M (O.set i (U (d',Y))) s:=by
 let(m,hn,hl):=I.loc;show⟨I.ok,I.og,I.heap,I.base,⟨m,hn,λk y d1 b e1 e2 e3=>?_⟩,I.free,I.cell,I.tabs,I.own,I.uni,by simp;show I.len,I.sys,λz=>by simp;show I.stl z,λj d1 b z=>?_,I.cap,I.slo⟩
 .by_cases hk:k=i
  .subst hk
   rw[Mz (L9.mp e).1]at e2;ext e2
   let(u,l,v):=hl _ y d Y e1 e e3;show⟨u,l,h u v⟩
  .rw[Mh (MR hk)]at e2
   show hl k y d1 b e1 e2 e3
 .rw[Mh ()]at z;show I.sto j d1 b z
def gQ (h:n<=O.length):O.set (n+k) x=O.take n++(O.drop n).set k x:=by
 apply PK;intro p
 by_cases hp:p<n
 .rw[Me (by simp;rfl'),Mh (),MP hp]
 .let hl:(O.take n).length=n:=by simp;rfl'
  rw[MK ⟨⟩,hl]
  by_cases hk:p=n+k
  .subst hk
   rw[NZ]
   by_cases hz:n+k<O.length
   .rw[Mz hz,Mz ⋯]
   .rw[ON (by simp;rfl'),ON ⋯]
  .rw[Mh (),Mh (),Ox]
   congr 1;rfl'
nonrec theorem kL:∀{ds:Z D}{M:Mp}{O:DEnv}{vs:Z Ml},Inv X M O s->X.S=B->Rs Y M ds vs->∃M',Inv X M' (O.take X.N.length++(jz (O.drop X.N.length) ds).2) s/\Bx X M M' O (O.take X.N.length++(jz (O.drop X.N.length) ds).2)/\M'.r=M.r/\Rs Y M' (jz (O.drop X.N.length) ds).1 vs
 |[],M,O,vs,I,hS,r=>by
  ext jz;rw[Ti];show⟨M,I,Bx.refl,rfl,r⟩
 |d::ds,M,O,vs,I,hS,r=>by
  let(v,t,rfl,r1,r2):=r;ext jz;split
  .rename_i k d' e
   let(rfl,e1,e2):=tK e;let(x,a,g1,rfl,l):=r1;obtain rfl:x=a:=l;rw[Ox]at e1
   let(_,sl):=I.sto k d' V e1;let(xa,o,g2,g3,g4):=sl.co (ou e2);rw[g1]at g2;ext g2;let(I1,b1):=I.frzS hS g3;let dr:(O.set (X.N.length+k) B).drop X.N.length=(O.drop X.N.length).set k B:=by
    rw[gQ I.len,Sm (by rw[Nu];have:=I.len;rfl')]
   let tk:(O.set (X.N.length+k) B).take X.N.length=O.take X.N.length:=by
    rw[gQ I.len,e_ (by rw[Nu];have:=I.len;rfl')]
   let(M2,I2,b2,r3,r4):=kL (ds:=ds) I1 hS (r2.to b1.x.f);rw[dr,tk]at I2 b2;rw[dr]at r4;show⟨M2,I2,b1.trans b2,r3,_,_,rfl,(g4.rep b1.x.f ⟨.f,ak,rfl⟩).to b2.x.f,r4⟩
  .let(M2,I2,b2,r3,r4):=kL (ds:=ds) I hS r2
   show⟨M2,I2,b2,r3,_,_,rfl,r1.to b2.x.f,r4⟩
def B6 (I:Inv X M O s) (hS:X.S=B) (hd:Kz d=V) (c:C M d o):∃M',Inv X M' (O.take X.N.length++(vP (O.drop X.N.length) d).2) s/\Bx X M M' O (O.take X.N.length++(vP (O.drop X.N.length) d).2)/\M'.r=M.r/\C M' (vP (O.drop X.N.length) d).1 o:=by
 cases d<;>try cases hd
 .let(vs,t,rs):=c
  let(M',h1,h2,h3,h4):=kL I hS rs;show⟨M',h1,h2,h3,vs,t,h4⟩
 .let(us,vs,t,rk,rs):=c
  let(M',h1,h2,h3,h4):=kL I hS rs;show⟨M',h1,h2,h3,us,vs,t,rk,h4⟩
 .let(us,vs,t,rk,rs):=c
  let(M',h1,h2,h3,h4):=kL I hS rs;show⟨M',h1,h2,h3,us,vs,t,rk.to h2.x.f,h4⟩
nonrec theorem Inv.frzN (I:Inv X M O s) (hS:X.S=B) (hi:i<X.N.length) (e:L2.frzN X.N.length i O=U δ'):∃M',Inv X M' δ' s/\Sx M M':=by
 unfold L2.frzN at e;split at e<;>try cases e
 rename_i x e0;split at e<;>try cases e
 rename_i j d e1;split at e<;>ext e
 rename_i e2;let(rfl,e3,e4):=tK e1;let e3':=e3;rw[Ox]at e3'
 let(_,sl):=I.sto j d V e3';let(xa,o,g1,g2,g3):=sl.co (ou e4);let(M1,I1,b1,hr,c1):=B6 I hS e4 g3;let hlen:(O.take X.N.length).length=X.N.length:=by rw[Nu];have:=I.len;rfl'
 let e2':(O.take X.N.length++(vP (O.drop X.N.length) d).2)[X.N.length+j]?=U (U (d,V)):=by
  rw[MK ⟨⟩,hlen,NZ];show e2
 let(_,sl1):=I1.sto j d V e2';let(xa1,o1,h1,h2,_):=sl1.co (ou e4);rw[hr,g1]at h1;ext h1;let oe:o1=o:=by
  let a:=I1.heap _ _ _ h2;let b:=I.heap _ _ _ g2;rw[a]at b;show NB b
 subst oe;let eN:(O.take X.N.length++(vP (O.drop X.N.length) d).2)[i]?=U (U (.loc B j,Y)):=by
  rw[Me ⟨⟩,MP hi];show e0
 let(I2,b2):=I1.frzS hS h2;let eq:(O.take X.N.length++(vP (O.drop X.N.length) d).2).set (X.N.length+j) B=O.take X.N.length++(vP (O.drop X.N.length) d).2.set j B:=by
  rw[gQ (by simp_all),e_ hlen,Sm hlen]
 rw[eq]at I2 b2;show⟨_,I2.tell (d:=.loc B j) (by rw[b2.n i hi];show eN) hi λv r=>?_,b1.x.trans b2.x⟩
 let(x',a',w1,rfl,w2):=r;obtain rfl:x'=a':=w2;let w1:M1.r[j]?=U (x',x'):=w1;rw[hr,g1]at w1;ext w1;show c1.rep b2.x.f ⟨.f,ak,rfl⟩
nonrec theorem AM {body:Z NN}(hS:X.S=B) (hN:X.N.length=n) (hi:i<n) (h:Lh X body g):Lh X body (LQ n i g):=λ{M O s o Q} I e k=>by
 subst hN;unfold LQ at e;split at e<;>try cases e
 rename_i δ' q;let(M1,I1,x1):=I.frzN hS hi q;show h I1 e (k.to x1)
end
end L2
namespace L2
open PySem PySem.Spec PyProof.Rows PySem.W Md Builtin Builtin.ObjectAttr
def rE (n:Nat) (c:MJ) (f:Z D->DEnv->G (D×Bool×DEnv)) (fs:DEnv->G (Z D×DEnv)) (O:DEnv):G (D×DEnv):=match fs O with
 |some (ds,δ1)=>(match f (.loc (U c) (δ1.length - n)::ds) (δ1.drop n++[U (.ob c [] [],V)])with
  |some (.non,Y,J)=>U (.loc (U c) (δ1.length - n),δ1.take n++J)
  |_=>B)
 |none=>B
def Gy (c:MJ) (f:Z D->DEnv->G (D×Bool×DEnv)) (fs:DEnv->G (Z D)) (O:DEnv):G D:=match fs O with
 |some ds=>if KO 0 ds=V then(match f (.loc (U c) 0::ds) [U (.ob c [] [],V)]with
  |some (.non,Y,[U (.ob c' ks vs,V)])=>if c'=c/\KO 0 vs=V then U (.ob c ks vs) else B
  |_=>B) else B
 |none=>B
def ED (ga:DEnv->G (D×DEnv)) (fa fb:DEnv->G D) (O:DEnv):G (D×DEnv):=match ga O with
 |some (.bl V,δ1)=>br fa δ1
 |some (.bl Y,δ1)=>br fb δ1
 |_=>B
def Es (i:Nat) (ga:DEnv->G (D×DEnv)) (O:DEnv):G Out:=match dh i O,ga O with
 |some (.lst ds),U (d,δ1)=>if ds.length<LZ then U (.next (δ1.set i (U (.lst (ds++[d]),V)))) else B
 |_,_=>B
variable[Md]
def KC (c:MJ) (ns:Z MJ) (k:Nat) (f:Z D->DEnv->G (D×Bool×DEnv)):Prop:=∃C fI,Cls c C ns/\findIn K (.ref C) "__init__"=U (U (.ref fI))/\typeIn K (.ref fI)=U (.type "function")/\LA fI k V Y f
def Room.under (r:Room (k+1) A) (C:MM) (us:Z Ml):Room k (A.under (.builtin "type.__call__" ⟨.ref C::us,[]⟩)):=by
 let h1:=r.dp;let h2:=r.un;show⟨r.hd,?_,?_⟩
 .change A.depth+(RQ "type.__call__" ⟨.ref C::us,[]⟩).weight+3*k+5<_
  rw[show(RQ "type.__call__" ⟨.ref C::us,[]⟩).weight=1 from rfl];lia
 .change A.units+(RQ "type.__call__" ⟨.ref C::us,[]⟩).cUnits+16*k+200<_
  rw[show(RQ "type.__call__" ⟨.ref C::us,[]⟩).cUnits=1 from rfl];lia
section
variable{X:Cx}{M M':Mp}{O:DEnv}{s s':Mn}{r a b c:Expr}{es:Z Expr}{fr fa fb fk fv fe:DEnv->G D}{gr ga gb:DEnv->G (D×DEnv)}{fs:DEnv->G (Z D×DEnv)}{m m' mm:Bool}{pos pos' px p p2 apos cpos spos:Q6}{n i k:Nat}{x cn name:MJ}{ns:Z MJ}{Q:Ml->Mn->Prop}{f:Z D->DEnv->G (D×Bool×DEnv)}
nonrec theorem F9 (F:KC cn ns k f) (hr:Room (k+1) X.A) (hw:Wr X) (hn:X.N.length=n) (g:Gb X cn) (ha:EA X (a::es) fs):EX X (.Call (.Name cn p) (a::es) [] pos) (rE n cn f fs):=⟨rfl,λ{M O s d δ' Q} I e kk=>by
 let(C,fI,k,hi,hf,FA):=F;unfold rE at e;split at e<;>try cases e
 rename_i ds δ1 e1;split at e<;>ext e
 rename_i J e2;subst hn;let h:=ha.pl;rw[Ni,Mo]at h;show NI (Pp I.ok.kind g.g (QL (by rw[I.ok.glob];show I.ok.mod.glob.keeps I.bk) k.mg ?_) g.d)
 show Rt (h₀:=base) I.ok.mod.kin k.kp (ha.ev I e1 (λus s1 M1 b1 I1 rs=>⟨I1.kIn,?_⟩) pos) (aK h.1) (gn h.2)
 let KI:=I1.kIn;show P8 ?_
 let(hh,gg,dd,tt,os):=s1;show make_core (makes_of KI k.mi) (looks_findIn KI hi) (λself=>bind_fn KI self hf) (.inl rfl) ?_
 let f0:=I1.fresh (Mj _);let I2:Inv X (LV M1 (hh.objs.size+1) (U (.f,instObj C hh.objs.size))) δ1 ⟨(hh.push emptyDict).push (instObj C hh.objs.size),gg,dd,tt,os⟩:=by
  have:=(I1.push (o:=emptyDict) (t:=tt)).new (o:=instObj C hh.objs.size) (t:=tt);rwa[show({heap:=hh.push emptyDict,gens:=gg,drawn:=dd,toks:=tt,os:=os}:Mn).heap.objs.size=hh.objs.size+1 from NL ..]at this
 let fe:M1 (hh.objs.size+1)=B:=(I1.fresh (OA _)).m;let xe:=dg (o:=instObj C hh.objs.size) fe;let ne:hh.objs.size≠hh.objs.size+1:=MU (Nj _);let fd:Free X (LV M1 (hh.objs.size+1) (U (.f,instObj C hh.objs.size))) hh.objs.size:=⟨by rw[ax ne];show f0.m,f0.l,f0.c,f0.t,f0.s⟩
 let hd:((hh.push emptyDict).push (instObj C hh.objs.size)).get? hh.objs.size=U emptyDict:=Mg _ (Mm _ rfl)
 let(I3,h1,h2,h3):=I2.slot hw.st hw.S fd hd ⟨by simp,λ_ z=>nomatch z⟩ (d:=.ob cn [] []) (.inr ⟨cn,[],[],[],rfl,⟨Nr,Nw _,[],_,rfl,rfl,rfl⟩,rfl⟩) (hh.objs.size+1)
 let hlen:=I1.stl hw.st;let hj:δ1.length - X.N.length=M1.r.length:=⟨⟩
 let hdr:(δ1++[U (D.ob cn [] [],V)]).drop X.N.length=δ1.drop X.N.length++[U (D.ob cn [] [],V)]:=List.drop_append_of_le_length I1.len;let htk:(δ1++[U (D.ob cn [] [],V)]).take X.N.length=δ1.take X.N.length:=NR I1.len;let rl:R Y ⟨(LV (LV M1 (hh.objs.size+1) (U (.f,instObj C hh.objs.size))) hh.objs.size (U (.s M1.r.length,emptyDict))).g,M1.r++[(hh.objs.size+1,hh.objs.size)]⟩ (.loc (U cn) (δ1.length - X.N.length)) (.ref (hh.objs.size+1)):=by
  show⟨hh.objs.size+1,hh.objs.size,?_,rfl,instObj C hh.objs.size,⟨.f,?_,rfl⟩,C,k.mg,rfl⟩
  .simp_all
  .change LV _ _ _ _=_
   rw[ax ne.symm];show ak
 let bx:Bx X M1 ⟨(LV (LV M1 (hh.objs.size+1) (U (.f,instObj C hh.objs.size))) hh.objs.size (U (.s M1.r.length,emptyDict))).g,M1.r++[(hh.objs.size+1,hh.objs.size)]⟩ δ1 (δ1++[U (D.ob cn [] [],V)]):=Bx.mk (xe.sx.trans ⟨h1,λb ob z=>h2 _ _ _ z,λb ob z=>(h3 _ _ _ z).elim (λw=>nomatch w.2.1) id⟩) (λb i ob z=>h2 _ _ _ (xe.old z)) λi hi=>Me (by have:=I1.len;lia)
 show xh FA (hr.under C us) I3 hw.st hw.S (ds:=.loc (U cn) (δ1.length - X.N.length)::ds) ⟨_,us,rfl,rl,rs.to bx.x.f⟩ (by rw[hdr];show e2) λv s' M' x2 o2 _ I4 r4=>?_
 obtain rfl:v=.none:=r4;rw[htk]at I4;show⟨rfl,kk _ s' M' ?_ I4 (rl.to x2.f)⟩
 have:=(b1.trans bx).call (J:=J) x2 o2 (by simp;have:=I1.len;lia)
 rwa[htk]at this⟩
nonrec theorem GJ (hw:Wr X) (hn:X.N.length=n) (ha:DE X Y a fa) (hb:DE X m b fk) (hv:DF X c fe) (l:(apos.endLine==cpos.line)=V):EX X (.Call (.Attribute a "setdefault" apos) [b,c] [] cpos) (Lp n fa fk fe):=⟨rfl,λ{M O s d δ' Q} I e k=>by
 unfold Lp at e;split at e<;>try cases e
 rename_i x kd ed q1 q2 q3;split at e<;>try cases e
 rename_i j d0 q4;let(rfl,h1,_,hd):=iX q4;subst hn;show N6 (cE ha.pl) (by rw[ir (es:=[b,c]) (by simp[hb.pl,hv.pl])];rfl) l rfl (ha.ev I q1 λv s1 M1 x1 I1 r1=>?_)
 let(ad,o,rfl,g1,g2,g3):=I1.slC r1 h1 (gB hd);let ho:=I1.heap _ _ _ g2;show⟨"dict","dict.setdefault",PA,PySem.F.slot_dict_setdefault,PySem.F.type_dict_setdefault,⟨_,ho,(gY hd g3).1⟩,λb e=>by ext e;show⟨_,ho,(gY hd g3).2⟩,?_⟩
 rw[aK hb.pl,aK hv.pl];show NC rfl (Oi (MY (hb.ev I1 q2 λu s2 M2 x2 I2 r2=>MY (hv.ev I2 q3 λv' ov s3 M3 x3 I3 f3 g4 c3=>Ny ?_))))
 let r3:=(r1.up x2).up x3;let(ad',o',h0,g1',g2',cc):=I3.slC r3 h1 (gB hd);ext h0;let ho:=I3.heap _ _ _ g2';let un:=I3.un;let hl:=aG (Mj LZ);let hS:(ad==sysModules)=Y:=by rw[beq_eq_false_iff_ne];rintro rfl;show nomatch I3.sys _ _ g2'
 cases og:j9 (U d0) (U kd)with
 |none=>rw[og]at e;ext e
 |some oy=>
  let(_,_,b1,ks,ds,z1,z2,e3,e4,e5):=bR og;ext z1;ext z2;let(us,vs,c,rk,rs):=cc.dc e3;show MT F.slot_dict_setdefault (c.ty ho) F.entry_dict_setdefault ?_ (F.args_dict_setdefault_3 _ _ _)
  show or (or (NY (c.ty ho) (Mf ?_)))
  change wpAny _ _ (if(ad==sysModules)=V then _ else(dictSetDefault ad u (.ref v') >>= _)) _ _ _
  rw[o_ (by rw[hS];show Og)]
  let(w1,w2):=fu (k:=kd) (ks:=ks) rs;rw[og]at e;cases oy with
  |some y=>
   ext e;let(v2,g5,g6):=w2 _ e5.symm;show or (Ie (show X.A.units+1+30<cLine by lia) I3.heap ho c rk e4 (r2.up x3) (λz=>by rw[hG z]at g5;ext g5) (λx tk z=>?_) λh' tk o' z=>?_)
   .rw[g5]at z;ext z;show Mf ⟨_,rfl,k _ _ _ (Bx.ext ((x1.trans x2).trans x3)) I3.tok g6⟩
   .rw[hG z]at g5;ext g5
  |none=>
   dsimp only at e;split at e<;>ext e
   rename_i y qy;let(_,_,_,z1,_,e7,_,e6):=cT qy;rw[e3]at z1;ext z1;let(I4,t1,t2,t3):=I3.slot hw.st hw.S f3 g4 c3.ow (.inl c3) v';let hlen:=I3.stl hw.st;let hj:O.length - X.N.length=M3.r.length:=⟨⟩
   let b4:Bx X M3 ⟨(LV M3 v' (U (.s M3.r.length,ov))).g,M3.r++[(v',v')]⟩ O (O++[U (ed,V)]):=Bx.mk ⟨t1,λb ob z=>t2 _ _ _ z,λb ob z=>(t3 _ _ _ z).elim (λw=>nomatch w.2.1) id⟩ (λb i ob z=>t2 _ _ _ z) λi hi=>Me (by have:=I3.len;lia)
   let rl:R Y ⟨(LV M3 v' (U (.s M3.r.length,ov))).g,M3.r++[(v',v')]⟩ (.loc B (O.length - X.N.length)) (.ref v'):=⟨v',v',by simp_all,rfl,rfl⟩
   let h1':(O++[U (ed,V)])[X.N.length+j]?=U (U (d0,V)):=by rw[Me (L9.mp h1).1];show h1
   let(ad2,o2,h0,g7,g8,cc2):=I4.slC (r3.to b4.x.f) h1' (gB hd);ext h0;let ho2:=I4.heap _ _ _ g8;rw[ho]at ho2;show or (Ie (show X.A.units+1+30<cLine by lia) I3.heap ho c rk e4 (r2.up x3) (λ_=>()) (λx tk z=>?_) λh' tk o' z sb g dc=>?_)
   .rw[w1 e5.symm]at z;ext z
   .let(M5,I5,b5):=I4.putS (tk:=tk) hw.S h1' g7 g8 sb g (uX dc) (.inl (e6 dc (hZ (rk.to b4.x.f) (((r2.up x3).keyF I3 (fx e4)).to b4.x.f)) (ji (rs.to b4.x.f) rl)))
    show Mf ⟨_,rfl,k _ _ _ ((Bx.ext ((x1.trans x2).trans x3)).trans (b4.trans b5)) I5 (rl.to b5.x.f)⟩⟩
nonrec theorem EQ (hp:LP c=V) (hc:EX X c ga) (ha:DE X Y a fa) (hb:DE X Y b fb):EX X (.IfExp c a b pos) (ED ga fa fb):=⟨rfl,λ{M O s d δ' Q} I e k=>by
 unfold ED at e;split at e<;>try cases e
 .rename_i δ1 e1
  show wpAny_IfExp (Su (hc.ev I e1 λv s1 M1 b1 I1 r=>by ext r;show Ng ((BW ha).ev I1 e λv s2 M2 b2 I2 r2=>k v s2 M2 (b1.trans b2) I2 r2)) (oK hp))
 .rename_i δ1 e1
  show wpAny_IfExp (Su (hc.ev I e1 λv s1 M1 b1 I1 r=>by ext r;show Ng ((BW hb).ev I1 e λv s2 M2 b2 I2 r2=>k v s2 M2 (b1.trans b2) I2 r2)) (oK hp))⟩
nonrec theorem CK (h:Nm X i x) (nd:X.N.Nodup) (ha:EX X a ga) (l:(apos.endLine==cpos.line)=V):DS X (.Expr (.Call (.Attribute (.Name x px) "append" apos) [a] [] cpos) pos) (Es i ga):=λ{M O s o Q} I e k=>by
 unfold Es at e;split at e<;>try cases e
 split at e<;>ext e
 rename_i ds d δ1 e1 e2 hl;let h0:=bO e1;let hi:=(L9.mp h.n).1
 show O7 (N6 (cE rfl) (by rw[ir (es:=[a]) (by simp[ha.pl])];rfl) l rfl (Py (I.load h h0 λv z=>?_) h.d)) I.quiet rfl
 let(ad,o,rfl,q,c):=z;let ho:=I.heap _ _ _ q;show⟨"list","list.append",OW,Qp,Qo,⟨_,ho,(dS c).1⟩,λb e=>by ext e;show⟨_,ho,(dS c).2⟩,?_⟩
 rw[aK ha.pl];show NC rfl (Oi (MY (ha.ev I e2 λu s2 M2 b2 I2 r2=>Ny ?_)))
 let q2:=b2.o _ _ _ q;let(vs,(z,nn,rfl),rs):=c.to b2.x.f;let hq:=I2.heap _ _ _ q2;let hl1:=rs.length;have:LZ<sizeLine:=by decide +kernel
 let(M3,I3,x3):=I2.lset (f:=λa=>a.push u) (us:=vs++[u]) (t:=s2.toks) h nd ((b2.n i hi).trans h0) q2 (by simp) (rs.append (.one r2)) ⋯
 show Pj Qp ⟨_,hq,rfl⟩ Qk (Qd _ _) (Qu ad vs.toArray nn u (by simp;rfl')) ⟨hq,k _ _ (b2.x.trans x3) I3⟩
end
end L2
namespace L2
open PySem PySem.Spec PyProof.Rows PySem.W Md Builtin Builtin.ObjectAttr
variable[Md]
section
variable{X:Cx}{M M':Mp}{O:DEnv}{s s':Mn}{a:Expr}{es:Z Expr}{fs:DEnv->G (Z D)}{p pos:Q6}{k:Nat}{cn:MJ}{ns:Z MJ}{f:Z D->DEnv->G (D×Bool×DEnv)}
nonrec theorem Ek (F:KC cn ns k f) (hr:Room (k+1) X.A) (g:Gb X cn) (ha:DA X Y (a::es) fs):DE X Y (.Call (.Name cn p) (a::es) [] pos) (Gy cn f fs):=⟨rfl,λ{M O s d Q} I e kk=>by
 let(C,fI,k,hi,hf,FA):=F;unfold Gy at e;split at e<;>try cases e
 rename_i ds e1;split at e<;>try cases e
 rename_i hl0;split at e<;>try cases e
 rename_i c' ks vs e2;split at e<;>ext e
 rename_i hc;let(rfl,hl1):=hc;let h:=ha.pl;rw[Ni,Mo]at h;show NI (Pp I.ok.kind g.g (QL (by rw[I.ok.glob];show I.ok.mod.glob.keeps I.bk) k.mg ?_) g.d)
 show Rt (h₀:=base) I.ok.mod.kin k.kp (ha.ev I e1 (λus s1 M1 x1 I1 rs=>⟨I1.kIn,?_⟩) pos) (aK h.1) (gn h.2)
 let KI:=I1.kIn;show P8 ?_
 let(i,gg,dd,tt,os):=s1;show make_core (makes_of KI k.mi) (looks_findIn KI hi) (λself=>bind_fn KI self hf) (.inl rfl) ?_
 let f0:=I1.fresh (Mj _);obtain⟨u,P⟩:∃u,u=LV M1 (i.objs.size+1) (U (.f,instObj C i.objs.size)):=⟨_,rfl⟩;let I2:Inv X u O ⟨(i.push emptyDict).push (instObj C i.objs.size),gg,dd,tt,os⟩:=by
  rw[P];have:=(I1.push (o:=emptyDict) (t:=tt)).new (o:=instObj C i.objs.size) (t:=tt);rwa[show({heap:=i.push emptyDict,gens:=gg,drawn:=dd,toks:=tt,os:=os}:Mn).heap.objs.size=i.objs.size+1 from NL ..]at this
 let fe:M1 (i.objs.size+1)=B:=(I1.fresh (OA _)).m;let xe:Ext M1 u:=by rw[P];show dg fe
 let ne:i.objs.size≠i.objs.size+1:=MU (Nj _);let m2:u (i.objs.size+1)=U (.f,instObj C i.objs.size):=by rw[P];show ak
 let m0:u i.objs.size=B:=by rw[P,ax ne];show f0.m
 let fd:Free X u i.objs.size:=⟨m0,f0.l,f0.c,f0.t,f0.s⟩;let hd:((i.push emptyDict).push (instObj C i.objs.size)).get? i.objs.size=U emptyDict:=Mg _ (Mm _ rfl)
 generalize i.objs.size=z at*;generalize hs2:({heap:=(i.push emptyDict).push (instObj C z),gens:=gg,drawn:=dd,toks:=tt,os:=os}:Mn)=s2 at*;let hd:s2.heap.get? z=U emptyDict:=by rw[<-hs2];show hd
 let hfx:∀b∈[z],Free X u b:=λb hb=>by simp_all
 let(c1,c2,c3,c4):=I2.calI (m:=Y) (ko:=Y) (ks:=Y) hfx;let c4:∀{b k o},LC Y Y Y u s2.heap [z] b=U (k,o)->k.own=V->False:=λ{b k o} e w=>by
  rcases(c4 b k o w e).2 with z|⟨z,_⟩<;>ext z
 let cz:LC Y Y Y u s2.heap [z] z=B:=by ext LC;left;rw[m0];show n_ (.inl (by simp))
 obtain⟨S,K⟩:∃S:Mp,S=⟨(LV (LC Y Y Y u s2.heap [z]) z (U (.s 0,emptyDict))).g,[(z+1,z)]⟩:=⟨_,rfl⟩;let mz:S z=U (.s 0,emptyDict):=by rw[K];show ak
 let E:∀{b},b≠z->S b=LC Y Y Y u s2.heap [z] b:=λh=>by rw[K];show ax h
 let mf:∀{b κ o},LC Y Y Y u s2.heap [z] b=U (κ,o)->S b=U (κ,o):=λ{b κ o} h=>by
  rw[E (λw=>by rw[w,cz]at h;ext h)];show h
 let Tx:Bas S s2:=by
  show⟨I2.og,λb κ o q=>?_,λb o q=>mf (c2 b o q),λq hq=>?_,λb κ o q w=>?_,λb b' j o o' q q'=>?_,λb j o q=>?_,λb o q=>?_,λκ o q=>?_⟩
  .grind
  .let(h1,ps,h2,h3,h4):=c3 q hq
   show⟨by rw[E (MR (fd.t q hq))];show h1,ps,h2,h3,λpos cv w=>?_⟩
   let(c,oc,vs,t,e1,e2,e3):=h4 pos cv w;show⟨c,oc,vs,t,e1,mf e2,e3⟩
  .by_cases y:b=z
   .subst y;rw[mz]at q;ext q;show⟨⟨by simp,λ_ z=>nomatch z⟩,0,rfl⟩
   .rw[E y]at q;show(c4 q w).elim
  .have:∀{b o},S b=U (.s j,o)->b=z:=λ{b o} q=>by
    by_cases y:b=z
    .show y
    .rw[E y]at q;show(c4 q rfl).elim
   rw[this q,this q']
  .by_cases y:b=z
   .simp_all
   .rw[E y]at q;show(c4 q rfl).elim
  .by_cases y:b=z
   .lia
   .rw[E y]
    ext LC;left;cases h:u b with
    |some x=>let(k',o'):=x;ext k'<;>show .inl (by simp)
    |none=>
     simp;lia
  .rw[E (λw=>fd.s w.symm)]at q;show I2.calS q
 let T:Sto V S [U (D.ob c' [] [],V)]:=by
  show⟨λ_=>by rw[K];rfl,(λw=>nomatch w),λj d b q=>?_⟩
  rw[List.getElem?_singleton]at q
  split at q<;>ext q
  rename_i w;subst w;show⟨rfl,(z+1,z),emptyDict,by rw[K];rfl,mz,.inr ⟨c',[],[],[],rfl,⟨Nr,Nw _,[],_,rfl,rfl,rfl⟩,rfl⟩⟩
 let f2:∀{b o},u b=U (.f,o)->S b=U (.f,o):=λh=>mf (Ao h)
 let rl:R Y S (.loc (U c') 0) (.ref (z+1)):=⟨z+1,z,by rw[K];rfl,rfl,instObj C z,⟨.f,f2 m2,rfl⟩,C,k.mg,rfl⟩
 let ra:Rs Y S ds us:=Rs.sht (M:=u) (k:=0) (λa o q=>KR.mpr (f2 (KR.mp q))) (λj x w=>absurd w (OC _)) (rs.up xe) hl0
 show Rq (FA (hr.under C us) I.ok.mod Tx (ds:=.loc (U c') 0::ds) ⟨_,us,rfl,rl,ra⟩ T e2) λres s3 hz=>?_
 let(v,X',M3,δ3,rfl,x3,Z7,hst,hS,H,rt):=hz;obtain rfl:v=.none:=rt;let H:=H rfl;let hJ:δ3[X'.N.length+0]?=U (U (.ob c' ks vs,V)):=by
  have:=p_ (·[0]?) H
  simp![Ox]at this
  rw[this];rfl
 let(_,sl):=Z7.sto 0 _ _ hJ;let(xa,o,ws,g1,g2,ao,rw'):=sl.ob;let g0:=x3.f.r 0 (z+1,z) (by rw[K];rfl)
 rw[g1]at g0;ext g0;let h0:∀a j o,LC Y Y Y u s2.heap [z] a≠U (.s j,o):=λa j o q=>c4 q rfl
 let L:=(Z7.hide (M0:=LC Y Y Y u s2.heap [z]) h0).lft;let cf:∀{a k o},M3 a=U (k,o)->(∀j,k≠.s j)->(⟨(mh 0 M3).g,u.r⟩:Mp) a=U (k,o):=λh z=>b8 h λj w=>absurd w (z j)
 let(I5,sb):=I2.ret (m:=Y) (ko:=Y) (ks:=Y) (ex:=[z]) (M1:=⟨(mh 0 M3).g,u.r⟩) L hfx (λb hb=>by
   rw[My.mp hb];ext mh;left;rw[g2];show o_ (OC _))
  ⟨.of λa o q=>cf (KR.mp (x3.f _ _ (KR.mpr (mf q)))) λ_ w=>(nomatch w),λa o q=>cf (x3.p _ _ (mf q)) λ_ w=>(nomatch w),λa o q=>by
   have:=x3.n _ _ (bL q).1
   grind⟩
  (λa k o w q=>(c4 q w).elim) rfl
 let fz:Free X (JQ u s2.heap ⟨(mh 0 M3).g,u.r⟩) z:=⟨by
  ext JQ;left;rw[m0];left;rw[n_ ()],fd.l,fd.c,fd.t,fd.s⟩
 let oz:s3.heap.get? z=U o:=Z7.heap _ _ _ g2;let b2:JQ u s2.heap ⟨(mh 0 M3).g,u.r⟩ (z+1)=U (.f,instObj C z):=by ext JQ;left;rw[m2]
 show⟨rfl,kk _ s3 _ (((x1.trans xe).trans oC).trans (dg fz.m)) (I5.put fz oz) ?_⟩
 show⟨z+1,instObj C z,z,o,ws,rfl,⟨.f,by rw[ax ne.symm];show b2,rfl⟩,⟨C,k.mg,rfl⟩,⟨.f,ak,rfl⟩,ao,?_⟩
 show((Rs.sht (M':=⟨(mh 0 M3).g,u.r⟩) (k:=0) (λa o q=>KR.mpr (cf (KR.mp q) λ_ w=>nomatch w)) (λj x w=>absurd w (OC _)) rw' hl1).to sb).to (dY fz.m)⟩
end
end L2
namespace L2
open PySem PySem.Spec PyProof.Rows Md
variable[Md]
section
variable{A:Nl}{E:Ml->Mn->Prop}{s:Mn}
def qY {R:R8->Mn->Prop}(q:A.handled=B) {es:Array OB}(hd:(d==sysModules)=Y) (ho:s.heap.get? d=U o) (p:o.ExactDict) (k:o.data=.dict es f) (y:es.size<=sizeLine) (t:∀(g:OF) (tk:Nat) (acc:Array Ml) (u:Nat),(∀b o,s.heap.get? b=U o->g.get? b=U o)->g.get? s.heap.objs.size=U {cls:=.type "list",dict:=B,data:=.seq acc u,slots:=#[]}->SC (λi v=>∃e,es[i]?=U e/\v=e.key) acc es.size->R (.ok (.ret (.ref s.heap.objs.size))) {s with heap:=g,toks:=tk}):
  codeAny (model P w) A (.builtin "proto.collect" ⟨[.ref d],[]⟩) R s:=by
 show Oj F.entry_proto_collect ?_
 show or (NM ?_)
 show Mf ⟨Oh F.plain_list_iadd _,Oj F.entry_list_iadd ?_⟩
 let c:(s.heap.push {cls:=.type "list",data:=.seq ([]:Z Ml).toArray}).get? s.heap.objs.size=U {cls:=.type "list",data:=.seq #[]}:=Mm _ rfl
 show kS (s:={s with heap:=s.heap.push {cls:=.type "list",data:=.seq ([]:Z Ml).toArray}}) q hd (Mg _ ho) p k y _ c λg tk acc u z r j=>t g tk acc u (λb ob e=>z b ob (MU (MD e)) (Mg _ e)) r j
def qu {Q:Z Ml->Mn->Prop}(z:A.handled=B) {es:Array OB}(hd:(d==sysModules)=Y) (ho:s.heap.get? d=U o) (q:o.ExactDict) (k:o.data=.dict es r) (y:es.size<=sizeLine) (p:∀(g:OF) (tk:Nat) (acc:Array Ml),(∀b o,s.heap.get? b=U o->g.get? b=U o)->s.heap.objs.size<=g.objs.size->SC (λi v=>∃e,es[i]?=U e/\v=e.key) acc es.size->Q acc.toList {s with heap:=g,toks:=tk}):wpAny (model P w) A (collect (.ref d)) Q E s:=by
 show or (wpAny_runValue (qY z hd ho q k y λg tk acc t kp u j=>?_))
 show or (Rm u (Mf (p g tk acc kp (OD (MD u)) j)))
end
section
variable{X:Cx}{M:Mp}{O:DEnv}{s:Mn}{a b:Expr}{fa fb:DEnv->G D}{m m':Bool}{p p2 pos pos2 apos cpos:Q6}
def xA (x:G (Z D)):G D:=match x with|some ds=>U (.lst ds)|none=>B
def vw (h:xA x=U d):∃ds,x=U ds/\d=.lst ds:=by unfold xA at h;split at h<;>ext h;show⟨_,rfl,rfl⟩
def xn (c:KD) (x:G D):G D:=lh c (fG x)
nonrec theorem u3 (g:Bn X "sorted") (N:DE X Y a fa):DF X (.Call (.Name "sorted" p) [a] [] pos) (λO=>xn c (fa O)):=⟨rfl,λ{M O s d Q} I e k=>by
 let(ds,y,T,W,u,rfl):=nF e;unfold fG at y;split at y<;>ext y
 rename_i Kp h;let(d,D,y,S):=cW h;show o5 g kN N I y λv n M1 b z r=>?_
 let(l,o,us,vs,rfl,q,dc,x,rs):=r.dc S;let(hz,K,_,_,es,E,t,_):=id dc;let(P,F,C,at'):=dc.at t;show SI kind_sorted plain_sorted entry_sorted (args_sorted1 _) ?_
 show or (m:=checkCount "sorted" 1 1 _) (Mf (or (qu (A:=X.A.in1) I.ok.room.hd (z.nsys q) (q.heap z.heap) K t ⟨⟩ λR tk acc kp _ j=>?_)))
 rw[show es.size=us.length by rfl']at j
 let e:=pe j λi v ⟨H,f,w⟩=>by have:=(at' i).2.1;rw[f]at this;rw[<-this,w];rfl
 subst e;show k7 (z.kp (s':={n with heap:=R,toks:=tk}) kp) x (by first|show u|(simp at u⊢;lia)) T W (PostF.to k b)⟩
end
end L2
namespace L2
open PySem PySem.Spec PyProof.Rows PySem.W Md Builtin
def EI (x:G D):G D:=match x with|some d=>if Kz d=V then U d else B|none=>B
def Jr (n:Nat) (O:DEnv) (x:G D):G D:=match x with
 |some (.loc B j)=>(match O[n+j]? with|some (U (d,V))=>if Kz d=V then U d else B|_=>B)
 |x=>EI x
def rg (h:EI x=U d):x=U d/\Kz d=V:=by
 unfold EI at h
 lia
def zC (h:Jr n O x=U d):Kz d=V/\(x=U d\/∃j,x=U (.loc B j)/\O[n+j]?=U (U (d,V))):=by
 unfold Jr at h;split at h
 .split at h<;>try cases h
  split at h<;>ext h
  show⟨by assumption,.inr ⟨_,rfl,by assumption⟩⟩
 .let(g,k):=rg h;show⟨k,.inl g⟩
variable[Md]
def KL (κ:Rl):Prop:=κ=.f\/∃j,κ=.s j
def KL.ok (h:KL κ):κ.ok V=V:=by rcases h with rfl|⟨j,rfl⟩<;>rfl
structure DL (X:Cx) (e:Expr) (f:DEnv->G D):Prop where
 pl:Jw e=V
 ev:∀{M O s d} {Q:Ml->Mn->Prop},Inv X M O s->f O=U d->(∀a κ o s' M',Ext M M'->Inv X M' O s'->M' a=U (κ,o)->KL κ->C M' d o->Q (.ref a) s')->WP X (eval e X.env) Q s
structure Turn3 (A:Nl) (tg:Expr) (c:MM) (o:QY) (M:Mp) (ds:Z D) (fp:Z MM) (it:MM) (tn:Nat->OF->Prop):Prop where
 ex:∀{i h},tn i h->∀b∈fp,∃o,h.get? b=U o
 keep:∀{i h h'},tn i h->(∀b∈fp,∀o,h.get? b=U o->h'.get? b=U o)->tn i h'
 item:∀{i s d},tn i s.heap->s.heap.get? c=U o->(∀a o,Rd Y M a o->s.heap.get? a=U o)->ds[i]?=U d->wpAny (model P w) A (pyNext (.ref it)) (λr s1=>∃u,r=U u/\
  wpAny (model P w) A (letOwnedTupleGo tg (.ref it) u) (λ_ s2=>Ch fp s s2/\tn (i+1) s2.heap/\La Y M s s2 d u) (λ_ _=>False) s1) (λ_ _=>False) s
 done:∀{s},tn ds.length s.heap->s.heap.get? c=U o->wpAny (model P w) A (pyNext (.ref it)) (λr s1=>r=B/\Ch fp s s1) (λ_ _=>False) s
 self:∀{A:Nl}{i s} {Q E:Ml->Mn->Prop},tn i s.heap->Q (.ref it) s->wpAny (model P w) A (pyIter (.ref it)) Q E s
structure DIS (X:Cx) (tg iter:Expr) (f:DEnv->G (Z D)):Prop where
 pl:Jw iter=V
 ev:∀{M O s ds} {Q:Ml->Mn->Prop},Inv X M O s->f O=U ds->(∀it fp tn s' M' c κ o,Ext M M'->Inv X M' O s'->M' c=U (κ,o)->KL κ->Turn3 X.A tg c o M' ds fp it tn->tn 0 s'.heap->(∀b∈fp,Free X M' b)->Q (.ref it) s')->WP X (eval iter X.env) (λv s1=>WP X (pyIter v) Q s1) s
def Turn3.to2 {fp:Z MM}(T:Turn3 A tg c o M ds fp it tn) (q:Rd V M c o):Turn2 A tg V Y M ds fp it tn:=
 ⟨T.ex,T.keep,λst h e=>T.item st (h _ _ q) (λa o z=>h _ _ (Sub.weak _ _ z)) e,λst h=>T.done st (h _ _ q),T.self⟩
section
variable{X:Cx}{M M' M1:Mp}{O:DEnv}{s s':Mn}{tg iter a b:Expr}{elts:Z Expr}{x1:Nat}{es:Z Expr}{fa fb:DEnv->G D}{fl fh:DEnv->G (G Int)}{lo hi:G Expr}{m m' mm bb:Bool}{p p2 px pos tp apos cpos:Q6}{n:Nat}{A:Nl}{it c:MM}{o:QY}{ks ds:Z D}{us vs:Z Ml}{ee:Array OB}{ep:Nat}
def FZ (h:DIS X tg iter f):DI2 X V Y tg iter f:=⟨h.pl,λI e k=>h.ev I e λit fp tn s' M' c κ o x1 v q g T j u=>k it fp tn s' M' x1 v (T.to2 ⟨κ,q,g.ok⟩) j u⟩
def Hg (u:DE X Y a fa):DL X a (λO=>EI (fa O)):=⟨u.pl,λ{M O s d Q} I e k=>by
 let(e,y):=rg e;show u.ev I e λv z M1 x1 g r=>?_
 cases d<;>try cases y
 .let(c,o,vs,rfl,q,t,rs):=r;show k c .f o _ _ x1 g (KR.mp q) (.inl rfl) ⟨vs,t,rs⟩
 .let(c,o,us,vs,rfl,q,t,j,rs):=r;show k c .f o _ _ x1 g (KR.mp q) (.inl rfl) ⟨us,vs,t,j,rs⟩
 .let(c,o,us,vs,rfl,q,t,j,rs):=r;show k c .f o _ _ x1 g (KR.mp q) (.inl rfl) ⟨us,vs,t,j,rs⟩⟩
def mH (z:X.N.length=n) (g:DE X Y a fa):DL X a (λO=>Jr n O (fa O)):=⟨g.pl,λ{M O s d Q} I e k=>by
 rcases zC e with⟨u,h|⟨j,p,q⟩⟩
 .show(Hg g).ev I (show EI _=U d by rw[h];show n_ u) k
 .subst z
  show g.ev I p λv f M1 x1 y r=>?_
  let(c,o,rfl,b,w,t):=y.slC r q (ou u);show k c _ o _ _ x1 y w (.inr ⟨j,rfl⟩) t⟩
def vp (y:A.handled=B) (t:LstO o vs) (rs:Rs Y M ds vs):Turn3 A tg c o M ds [it] it (λi h=>h.IsListIter it c i) where
 ex:=λ⟨o,e,_⟩ b r=>by simp_all
 keep:=λst k=>st.at λo e=>k it (by simp) o e
 item:=λ{i s d} st h _ e=>by
  let(u,q,z):=rs.get e;let g:s.heap.IsList c vs.toArray:=by let(_,n,rfl):=t;show⟨_,h,rfl,n,rfl⟩
  show PS st g (x:=u) (by simpa using q) λv j sb=>?_
  let(o,e,c,d):=id j;show⟨u,rfl,vn (s:={s with heap:=v}) e c d ∅ ⟨iG (t:=s.toks) sb,j,.inl z⟩⟩
 done:=λ{s} st h=>by
  let g:s.heap.IsList c vs.toArray:=by let(_,n,rfl):=t;show⟨_,h,rfl,n,rfl⟩
  show PY y st g (by simp[rs.length]) λv p=>⟨rfl,gR p⟩
 self:=λst h=>wpAny_pyIter_listiter st h
def vi (q:A.handled=B) (dc:DcO bb o ks us vs) (v:o.data=.dict ee ep) (w:Rs Y M ks us):Turn3 A tg c o M ks [it] it (λi h=>h.IsKeyIter it c i ee.size ep) where
 ex:=λ⟨o,e,_⟩ b K=>by simp_all
 keep:=λst k=>st.at λo e=>k it (by simp) o e
 item:=λ{i s d} st h _ e=>by
  let(n,m,f,y):=dc.at v;let(u,p,l):=w.get e;show eG q st h v (λx j r g sb=>?_) λz=>?_
  .have:=(y i).2.1
   rw[j,p]at this;injection this with this;subst this
   let(o,e,c,d):=id g;show⟨_,rfl,vn (s:={s with heap:=r}) e c d ∅ ⟨iG (t:=s.toks) sb,g,.inl l⟩⟩
  .have:=(y i).2.1;rw[z,p]at this;ext this
 done:=λ{s} st h=>by
  let(n,m,f,y):=dc.at v;show eG q st h v (λx j=>by rw[N3 ⟨⟩]at j;ext j) λz r a=>⟨rfl,gR a⟩
 self:=λst h=>RG st h
def sE (K:A.handled=B) (dc:DcO bb o ks us vs) (p:o.data=.dict ee ep) (P:Rs Y M ks us) (rs:Rs Y M ds vs):Turn3 A (.Tuple elts x1 tp) c o M (QZ (λk v=>.tup [k,v]) ks ds) [it] it (λi h=>∃ok ov,Pz h it c i ee.size ep ok ov) where
 ex:=λ⟨ok,ov,e⟩ b r=>by simp_all
 keep:=λ⟨ok,ov,e⟩ k=>⟨ok,ov,k it (by simp) _ e⟩
 item:=λ{i s d} st L h e=>by
  let(H,X,E,t):=dc.at p;rw[Sa]at e
  let(kd,vd,g1,W,rfl):=e;let(u,x,I):=P.get g1;let(v,D,F):=rs.get W;let(ok,ov,st):=st;let lt:=MD st;show kz st L p (λm y E'=>?_) K λa=>?_
  .let T:m.key=u/\m.val=v:=by
    let q:=(t i).2.1;let n:=(t i).2.2;rw[y,x]at q;rw[y,D]at n;show⟨NB q,NB n⟩
   let f:Pz (s.heap.update it (N2 (·.setIfInBounds 3 (rawInt ((i:Int)+1))))) it c (i+1) ee.size ep ok ov:=by
    have:=Nf (N2 (·.setIfInBounds 3 (rawInt ((i:Int)+1)))) st (Pk (OM rfl _))
    simpa[Pz,N2,rawInt]using this
   let sb:Nv it s.heap (s.heap.update it (N2 (·.setIfInBounds 3 (rawInt ((i:Int)+1))))):=Nh ..
   let C:=sb.1;show nL (s:={s with heap:=s.heap.update it (N2 (·.setIfInBounds 3 (rawInt ((i:Int)+1))))}) f λN j tup k=>?_
   rw[C]at j tup⊢;rw[T.1,T.2]at j tup;let Q:s.heap.objs.size≠it:=NV lt;show⟨_,rfl,S7 (s:={s with heap:=N}) j λW S l=>⟨⟨⟨rfl,rfl⟩,λb o r g=>aj l (λw=>r (by simp[w])) (k b o (λz=>r (by simp[z])) (sb.extBut b o (λz=>r (by simp[z])) g))⟩,⟨_,_,S⟩,.inr ⟨s.heap.objs.size,_,Mj _,aj l Q tup,R.pairN h (Mj _) I F⟩⟩⟩
  .let q:=(t i).2.1;rw[a,x]at q;ext q
 done:=λ{s} st h=>by
  let(H,X,E,t):=dc.at p;let S:=rs.length;let(ok,ov,st):=st;show kz st h p (λm y E'=>?_) K λa N eb=>⟨rfl,gR eb⟩
  simp_all
 self:=λ⟨ok,ov,st⟩ h=>iY st h
def HW (h:DL X a fa):DIS X tg a (λO=>aV (fa O)):=⟨h.pl,λ{M O s ds Q} I e k=>by
 show h.ev I (jg e) λc κ o u M1 x1 j q g cc=>?_
 let(vs,t,rs):=cc;show Pr (t.is j.heap (m:=V) ⟨κ,q,g.ok⟩) (k _ _ _ _ _ c κ o x1 (j.push (t:=u.toks)) q g (vp I.ok.room.hd t rs) ⟨_,Mm _ rfl,rfl,rfl⟩ (xo j))⟩
def zS (h:DL X a fa):DIS X tg a (λO=>ia (fa O)):=⟨h.pl,λ{M O s ds Q} I e k=>by
 let(vs,e):=kP e;let(d,bb,w,r):=cW e;show h.ev I w λc κ o y M1 x1 j q u cc=>?_
 let(us,vs,dc,z,rs):=cc.dc r;let(_,p,_,_,es,ep,v,_):=id dc;let g:Rd V M1 c o:=⟨κ,q,u.ok⟩;show kU (j.nsys g) (g.heap j.heap) p v (k _ _ _ _ _ c κ o x1 (j.push (t:=y.toks)) q u (vi I.ok.room.hd dc v z) ⟨_,Mm _ rfl,rfl,rfl⟩ (xo j))⟩
def xE (h:DL X a fa) (l:(apos.endLine==cpos.line)=V):DIS X (.Tuple elts x1 tp) (.Call (.Attribute a "items" apos) [] [] cpos) (λO=>jE (fa O)):=⟨rfl,λ{M O s ds Q} I e k=>by
 let(ks,vs,f,rfl):=lO e;let(d,bb,w,r):=cW f;show Q8 (cE h.pl) l (h.ev I w λc κ o j M1 x1 g q v cc=>?_)
 let(us,vs,dc,z,rs):=cc.dc r;let u:Rd V M1 c o:=⟨κ,q,v.ok⟩;let ho:=u.heap g.heap;show⟨"dict","dict.items",F.plainAttrs_dict,QR,F.type_dict_items,dc.ty ho,λb e=>by ext e;show⟨o,ho,dc.2.1.2.1⟩,NC rfl (Rr ?_)⟩
 let(es,ep,y):=dc.dat;show MT QR (dc.ty ho) F.entry_dict_items ?_ (F.args_dict_items_1 _)
 show or ?_
 show or (NY (dc.ty ho) ?_)
 show Mf ?_
 unfold PD;rw[o_ (by rw[g.nsys u];lia)]
 show or (Mf (or (NM (Mf ⟨_,rfl,?_⟩))))
 show ng (s:={j with heap:=j.heap.push {cls:=.type "dict_items",data:=.fields #[.ref c]}}) (d:=c) (es:=es) ⟨_,Mm _ rfl,rfl,rfl⟩ (Mg _ ho) y ?_
 show k _ _ _ _ _ c κ o x1 ((g.push (t:=j.toks)).push (t:=j.toks)) q v (sE I.ok.room.hd dc y z rs) ⟨.none,.none,Mm _ rfl⟩ λb p=>by rw[My.mp p];show g.fresh (by simp)⟩
end
end L2
namespace L2
open PySem PySem.Spec PyProof.Rows PySem.W Md Builtin
variable[Md]
section
variable{X:Cx}{M M' M1:Mp}{O:DEnv}{s s':Mn}{Q:Ml->Mn->Prop}{tg iter a b:Expr}{fa fb:DEnv->G D}{fl fh:DEnv->G (G Int)}{lo hi:G Expr}{m m' mm bb:Bool}{x:MJ}{p p2 px pos tp apos cpos:Q6}{n:Nat}{c:MM}{o:QY}{ks ds:Z D}{us vs:Z Ml}
def Ge (l:DL X a fa) (z:DE X m' b fb):DE X m (.Subscript a b pos) (λO=>Lm (fa O) (fb O)):=⟨rfl,λ{M O s d Q} I e k=>by
 let(x,y,T,W,g):=nQ e;split at g<;>try cases g
 let(ds,N,K):=ag g;show P9 (l.ev I T λc κ o F M1 w S q n p=>z.ev S W λu C P j r f=>?_)
 cases x<;>cases N<;>try show False.elim p
 let(vs,t,rs):=p;let(tk,rfl):=f;let(v,h,i):=(rs.up j).atI K;show Hm.item r.heap (m:=V) ⟨κ,j.old q,n.ok⟩ (.inl t) h (nI z.pl) (k _ _ _ (w.trans j) r (R.weak i))⟩
nonrec theorem CW (f:DL X a fa) (y:DE X m' b fb):DE X m (.Subscript a b pos) (λO=>ix (fa O) (fb O)):=⟨rfl,λ{M O s d Q} I e k=>by
 unfold ix at e;split at e<;>ext e
 rename_i q;let(d1,E,b1,ks,ds,W,N,K,h,x):=bR q;show P9 (f.ev I W λl κ o P M1 z C q w T=>y.ev C N λu F S j g r=>?_)
 let(us,vs,c,p,rs):=(T.to j.sub).dc K;let t:Rd V S l o:=⟨κ,j.old q,w.ok⟩;let ho:=t.heap g.heap;let(v,i,n):=(fu rs).2 _ x.symm;show Sr (c.ty ho) slot_dict_getitem.lookup (oV g ho c p h r i λtk=>k _ _ _ (z.trans j) g.tok (R.weak n)) (nI y.pl)⟩
def pr (g:Bn X x) (y:bootBuiltins x=U (.type T)) (j:DL X a fa) (I:Inv X M O s) (e:fa O=U d) (k:∀c κ o s' M',Ext M M'->Inv X M' O s'->M' c=U (κ,o)->KL κ->C M' d o->WP X (call (.type T) [.ref c]) Q s'):WP X (eval (.Call (.Name x p) [a] [] pos) X.env) Q s:=
 NI (I.bltn g y (Oy (by rw[aK j.pl];show MY (j.ev I e λc κ o v M1 u t q z r=>Ny (k c κ o v M1 u t q z r))) (aK j.pl) rfl))
def AC (g:Bn X "list") (w:DL X a fa):DF X (.Call (.Name "list" p) [a] [] pos) (λO=>xA (aV (fa O))):=⟨rfl,λ{M O s d Q} I e k=>by
 let(ds,b,rfl):=vw e;show pr g (by rfl:bootBuiltins "list"=U (.type "list")) w I (jg b) λc κ o u M1 v j q y l=>?_
 let(vs,t,rs):=l;let z:=t.1;let(o,ho,r,n,hd):=t.is j.heap (m:=V) ⟨κ,q,y.ok⟩;show call_list_seq c (.inl rfl) ho r hd (λf n kp e=>k u.heap.objs.size _ {u with heap:=f} M1 v (j.kp kp) (j.fresh (Mj _)) e ⟨vs,⟨z,n,rfl⟩,rs⟩) (by simp;rfl')⟩
nonrec theorem xO (g:Bn X "list") (x:DL X a fa):DF X (.Call (.Name "list" p) [a] [] pos) (λO=>fG (fa O)):=⟨rfl,λ{M O s d Q} I e k=>by
 unfold fG at e;split at e<;>ext e
 rename_i ks ds n;let(d,bb,W,N):=cW n;show pr g (by rfl:bootBuiltins "list"=U (.type "list")) x I W λc κ o b M1 f u q y T=>?_
 let(us,vs,dc,m,rs):=T.dc N;let z:Rd V M1 c o:=⟨κ,q,y.ok⟩;let(hz,l,_,_,es,P,r,_):=id dc;let(F,C,S,at'):=dc.at r;show iw I.ok.room.hd (u.nsys z) (z.heap u.heap) l r ⟨⟩ λK tk acc R y h j=>?_
 rw[show es.size=us.length by rfl']at j
 let e:=pe j λi v ⟨E,w,t⟩=>by have:=(at' i).2.1;rw[w]at this;rw[<-this,t];rfl
 subst e;show k _ _ {b with heap:=K,toks:=tk} M1 f (u.kp y) (u.fresh (Mj _)) h ⟨us,⟨⟨⟩,R,rfl⟩,m⟩⟩
nonrec theorem zQ (g:Bn X "dict") (T:DL X a fa):DF X (.Call (.Name "dict" p) [a] [] pos) (λO=>uB (fa O)):=⟨rfl,λ{M O s d Q} I e k=>by
 unfold uB at e;split at e<;>ext e
 rename_i ks ds K;show pr g (by rfl:bootBuiltins "dict"=U (.type "dict")) T I K λc κ o i M1 l y q N S=>?_
 let(us,vs,dc,x,rs):=S;let n:Rd V M1 c o:=⟨κ,q,N.ok⟩;obtain⟨es,v,W⟩:∃es v,o.data=.dict es v:=by let(_,_,_,_,es,v,h,_):=dc;show⟨es,v,h⟩
 let t:=(Ks.rs (m:=Y) (M:=M1)).mp x;let da:=(dc.dictAt t W (n.heap y.heap)).dictOf;let ln:=dc.lens;let z:=dc.1;let f:((ks.map kD).zip vs).length<=sizeLine:=by simp at z⊢;rfl'
 show kt_call_dict (y.nsys n) da f λR hd hs=>?_
 let(C,r,w,u,j):=Gf (m:=Y) (M:=M1) hd f;rw[PQ ⟨⟩,R0 ⟨⟩]at u
 rw[PQ ⟨⟩]at j
 show k _ _ _ _ l (y.kp (s':={i with heap:=R}) λb ob e=>(hs.2 b (MU (MD e))).trans (Mg _ e)) (y.fresh (Mj _)) w ⟨r,vs,u,Ks.rs.mpr j,rs⟩⟩
def zf (K:DL X a fa) (n:DO X lo fl) (h:DO X hi fh):DF X (.Subscript a (.Slice lo hi B p2) pos) (λO=>cR (fa O) (fl O) (fh O)):=⟨rfl,λ{M O s d Q} I e k=>by
 let(x,T,w):=ag e;let(l,W,r):=ag w;let(u,N,y):=ag r;clear e w r;dsimp only at y;split at y<;>ext y
 show P9 (K.ev I T λc κ o A M1 f P q i R=>wpAny_Slice (n P W λvl E H g F m=>h F N λb v S x3 C p2=>Mf ?_))
 let(vs,t,rs):=R;let p:Rd V S c o:=⟨κ,x3.old (g.old q),i.ok⟩;let rs:=(rs.up g).up x3;let z:=t.1;let j:=C.push (o:={cls:=.type "slice",data:=.fields #[vl,b,.none]}) (t:=v.toks);show Sr (ops:=[.ref v.heap.objs.size,.ref c]) (t.is j.heap p).typeIs slot_list_getitem.lookup ?_ (by rfl)
 show wpAny_getItem_list_slice (t.is j.heap p) (Sn ..) m p2 .none (by simp) ?_ (by simp;rfl')
 rw[i5];show k _ _ _ _ ((f.trans g).trans x3) (j.push (t:=v.toks)) (j.fresh (Mj _)) (Mm _ rfl) ⟨_,⟨ME (tA _) z,_,rfl⟩,rs.cut⟩⟩
def DH {body:Z NN}(hS:X.S≠B) (hi:DIS X tg iter fi) (hg:DG X tg τ) (h:Lh X body gb):DS X (.For tg iter body [] pos) (λO=>ac (fi O) λds=>av (λd O=>ac (τ d O) gb) ds O):=λ{M O s o Q} I e k=>by
 let(ds,e1,e2):=ag e;show wpAny_For (hi.ev I e1 λit fp tn s1 M1 c κ oc x1 I1 qc hk T t0 f1=>?_) λx=>oQ hi.pl
 show codeAny_forLoop_any (λn s'=>∃i δ' M',n=ds.length - i/\i<=ds.length/\Sx M1 M'/\Inv X M' δ' s'/\tn i s'.heap/\(∀b∈fp,Free X M' b)/\av (λd O=>ac (τ d O) gb) (ds.drop i) δ'=U o) ?_ ds.length ⟨0,O,M1,rfl,Nw _,Sx.refl,I1,t0,f1,e2⟩
 rintro n s2 ⟨i,L,M2,rfl,hi',E,P,t2,f2,w⟩
 let C:∀a o,Rd Y M1 a o->s2.heap.get? a=U o:=λa o q=>P.heap _ _ _ (KR.mp (E.f _ _ q))
 let F:s2.heap.get? c=U oc:=by
  rcases hk with rfl|⟨j,rfl⟩
  .show C _ _ (KR.mpr qc)
  .let(M0,h0):=Option.ne_none_iff_exists'.mp hS
   show P.heap _ _ _ (((P.cap M0 h0).2 _ _ _).mpr (((I1.cap M0 h0).2 _ _ _).mp qc))
 let k2:=k.to (x1.sx.trans E)
 by_cases K:i<ds.length
 .rw[N5 K]at w
  simp![av]at w;show N4 NX (IS (T.item t2 F C (d:=ds[i]) (by simp[K])) λr s3 hz=>?_)
  let(u,rfl,R):=hz;show N4 NX (IS R λ_ s4 hz=>?_)
  let(c4,t4,g4):=hz;let(M4,x4,I4,r4,f4'):=P.got E.f g4 c4 f2;let f4:∀b∈fp,Free X M4 b:=λb h=>by let(o,e):=T.ex t2 b h;show f4' b o (f2 b h) e
  cases q:ac (τ ds[i] L) gb with
  |none=>simp[q]at w
  |some o1=>
   simp![q]at w;let(δ5,q1,q2):=ag q;show N4 NX (hg I4.pin (r4.to o9) q1 λs5 I5=>?_)
   show N4 NX (h I5 q2 ?_)
   let fin:∀{g z p},Sx (pin X M4 s4.heap) z->Inv X z g p->∃l,Sx M2 l/\Inv X l g p/\tn (i+1) p.heap/\(∀b∈fp,Free X l b)/\Sub Y z Y l/\(∀a,z a=B->l a=B)/\∀a k o,k.own=V->z a=U (k,o)->l a=U (k,o):=λy Z7=>by
    let(W,N,R,H,h5,A):=I4.unp Z7 y;show⟨_,x4.sx.trans N,W,T.keep t4 λb h o e=>(A b o (f4 b h) e).1,λb h=>by let(o,e):=T.ex t4 b h;show(A b o (f4 b h) e).2,R,H,h5⟩
   let t:∀{g z p},Sx (pin X M4 s4.heap) z->Inv X z g p->av (λd O=>ac (τ d O) gb) (ds.drop (i+1)) g=U o->∃m,m<ds.length - i/\∃i δ' M',m=ds.length - i/\i<=ds.length/\Sx M1 M'/\Inv X M' δ' p/\tn i p.heap/\(∀b∈fp,Free X M' b)/\av (λd O=>ac (τ d O) gb) (ds.drop i) δ'=U o:=λy Z7 e=>by
    let(l,W,N,R,H,_):=fin y Z7;show⟨ds.length - (i+1),(),i+1,_,l,rfl,K,E.trans W,N,R,H,e⟩
   cases o1 with
   |next g=>show λp z y Z7=>t y Z7 w
   |cont g=>show λp z y Z7=>t y Z7 w
   |brk g=>ext w;show λp z y Z7=>by let(l,W,N,_):=fin y Z7;show k2 _ _ W N
   |ret d fr g=>ext w;show λv p z y Z7 r=>by let(l,W,N,R,H,h5,A,h7):=fin y Z7;show k2 _ _ _ W N (r.unp h5 A h7)
 .obtain rfl:i=ds.length:=()
  rw[R7]at w;ext w;show N4 NX (IS (T.done t2 F) λr s3 hz=>?_)
  let(rfl,c3):=hz;show Qm (k2 _ _ Sx.refl (P.ch c3 f2))
end
end L2
namespace L2
open PySem PySem.Spec PyProof.Rows PySem.W Md Builtin
def tx:G D->G D->G D:=b2 (bI (λi j=>decide (0<=i/\0<=j)) λi j=>.int ((i.toNat&&& j.toNat:Nat):Int))
def L5:G D->G D->G D:=b2 (bI (λi j=>decide (0<=i/\0<=j)) λi j=>.int ((i.toNat ||| j.toNat:Nat):Int))
def GF:G D->G D->G D:=b2 (bI (λi j=>decide (i=1/\0<=j/\j<=1000000)) λ_ j=>.int ((2 ^ j.toNat:Nat):Int))
def wB (a b:G D):G D:=match a,b with
 |some d,U e=>(match kT (.dD [] []) d e with|some y=>kT y e d|none=>B)
 |_,_=>B
def vz:G D->G D->G D:=b2 λx d=>match x with
 |.tup ds=>if KY 16 d=V/\ds.all (KY 16)=V/\ds.idxOf d<ds.length then U (.int (ds.idxOf d)) else B
 |_=>B
def vj (h:0<=i) (k:0<=j):Sg i j=((i.toNat&&& j.toNat:Nat):Int):=by unfold Sg;rw[decide_eq_true h,decide_eq_true k]
def yG (h:0<=i) (k:0<=j):Builtin.bitOr i j=((i.toNat ||| j.toNat:Nat):Int):=by
 let(a,rfl):=PI h;let(b,rfl):=PI k;unfold Builtin.bitOr Sg;rw[decide_eq_false (by unfold Qe;lia),decide_eq_false (by unfold Qe;lia)]
 let e:∀n:Nat,(Qe (Qe (n:Int)))=n:=λn=>by unfold Qe;lia
 simp_all
def oj (l:MM) (items:Array Ml) (n:Nat) (dd:G MM) (t:Array (G Ml)) (x:Ml) (e:Ml->Bool) (j:Nat) (S:j<items.size) (a:e items[j]=V) (q:∀m (T:m<items.size),m<j->e items[m]=Y):
  Meets (Ou.«tuple.index» ⟨[.ref l,x],[]⟩)
   (λA R s=>s.heap.get? l=U {cls:=.type "tuple",dict:=dd,data:=.seq items n,slots:=t}/\(∀y,y∈items->Qh A.in1 s y x (e y))/\R (.ok (.ret (.int j s.toks))) {s with toks:=s.toks+1}):=
 .of_wp λprog w A R s h=>by
  let(c,g,d,tk,os):=s;let(f,o,h):=h
  wp_walk using Ql f
  change wpAny _ _ (forIn (S8.mk 0 (min items.size items.size) 1 ∅) ((B:G PySem.Fin),q_) (λ(i:Nat) _=>match items[i]? with
   |some y=>do
    let r <-eqBool y x
    if r=V then do
     let v <-retInt i
     pure (RX (U v,q_))
    else pure (NT (B,q_))
   |_=>pure (NT (B,q_)))) _ _ _
  rw[S8.forIn_eq_forIn_range'];show P7 _ (λk b s'=>b.1=B/\s'=⟨c,g,d,tk,os⟩/\∃i,k=List.range' i (items.size - i)/\i<=j) _ ?_ ?_ _ _ ⟨rfl,rfl,0,by simp,Nw _⟩
  .rintro i k b s' ⟨_,rfl,z,u,W⟩
   let hi:z<items.size:=()
   rw[show items.size - z=items.size - (z+1)+1 by lia,List.range'_succ]at u
   injection u with N K
   subst N K;rw[NA hi]
   show or (o _ (Array.getElem_mem hi) prog w _ _ ?_)
   by_cases p:i=j
   .subst p
    wp_walk
    show⟨_,rfl,h⟩
   .rw[q i hi ()]
    show Mf ⟨rfl,rfl,i+1,rfl,()⟩
  .rintro b s' ⟨_,rfl,i,u,W⟩
   rw[show items.size - i=items.size - (i+1)+1 by lia,List.range'_succ]at u
   ext u
variable[Md]
section
variable{X:Cx}{M M' M1:Mp}{O:DEnv}{s s':Mn}{Q:Ml->Mn->Prop}{a b:Expr}{fa fb:DEnv->G D}{m m' mm:Bool}{x y:MJ}{i j:Nat}{p p1 p2 p3 p4 pos tp apos cpos:Q6}{n:Nat}{c:MM}{o:QY}{ks ds:Z D}{us vs:Z Ml}
def DC (g:DE X m a fa) (k:DE X m' b fb):DE X mm (.BinOp a .BitAnd b pos) (λO=>tx (fa O) (fb O)):=nU (Jt λi j _ _ _ _ c q=>by
 let(v,u):=of_decide_eq_true c;show and_int (by rw[vj v u];show q)) g k
def ER (g:DE X m a fa) (k:DE X m' b fb):DE X mm (.BinOp a .BitOr b pos) (λO=>L5 (fa O) (fb O)):=nU (Jt λi j _ _ _ _ c q=>by
 let(v,u):=of_decide_eq_true c;show or_int (by rw[yG v u];show q)) g k
def ET (g:DE X m a fa) (k:DE X m' b fb):DE X mm (.BinOp a .LShift b pos) (λO=>GF (fa O) (fb O)):=nU (Jt λi j _ _ _ _ c q=>by
 let(rfl,u,v):=of_decide_eq_true c;show lshift_int u (by rw[show Int.intBits 1=1 by decide];lia) ⟨⟩) g k
def FO {A:Nl}{ds:Z D}{vs:Z Ml}(b:A.units+64<cLine) (H:Hm M s.heap) (o2:ds.all (KY 16)=V) (o1:KY 16 d=V) (rs:Rs m M ds vs) (t:R m' M d u):∃g:Ml->Bool,(∀y,y∈vs.toArray->Qh A.in1 s y u (g y))/\∀i (h:i<vs.length) (q:i<ds.length),g vs[i]=decide (ds[i]=d):=by
 classical
 show⟨λu=>decide (∃e,KY 16 e=V/\R m M e u/\e=d),λz hz=>?_,λi h q=>?_⟩
 .let(d',r,j):=rs.mem (show z∈vs by simp_all)
  let k:=(MH.mp o2) d' r;left;rw[show decide (∃e,KY 16 e=V/\R m M e z/\e=d)=decide (d'=d) from decide_eq_decide.mpr ⟨λ⟨f,p,q,w⟩=>by rw[<-w];show R.inj k p j q,λw=>⟨d',k,j,w⟩⟩]
  show(Er H 16 A.in1 k o1 (by change A.units+1+16+1<cLine;lia) j t).2.1
 .let(v,r,j):=rs.get (i:=i) (d:=ds[i]) (by simp)
  let c:vs[i]=v:=by simpa[h]using r
  let k:=(MH.mp o2) _ (OH q);rw[c];show decide_eq_decide.mpr ⟨λ⟨f,p,q,w⟩=>by rw[<-w];show R.inj k p j q,λw=>⟨_,k,j,w⟩⟩
def Gi (H:Hm M s.heap) (r:R m M (.tup ds) v):s.TypeIs v "tuple"/\∀a,v=.ref a->∃ob,s.heap.get? a=U ob/\ob.dict=B:=by
 let(c,o,vs,rfl,q,t,rs):=r;let h:=q.heap H;show⟨⟨o,h,t.2.1⟩,λa e=>by ext e;show⟨o,h,t.1.2⟩⟩
nonrec theorem wd (T:DE X m a fa) (W:DE X m' b fb) (l:(apos.endLine==cpos.line)=V):DE X mm (.Call (.Attribute a "index" apos) [b] [] cpos) (λO=>vz (fa O) (fb O)):=⟨rfl,λI e k=>by
 let(x,y,P,C,j):=nQ e;split at j<;>try cases j
 split at j<;>ext j
 rename_i ds N;let(o1,o2,A):=N;show yd PySem.F.plainAttrs_tuple PySem.F.slot_tuple_index PySem.F.type_tuple_index l T (b9 W fZ) ∅ I P (ds:=[_]) (by rw[C];rfl) Gi λv us Q M1 d r K s=>?_
 let(u,rfl,h):=s.is1;let(c,o,vs,rfl,q,t,rs):=K;let(dd,n,f,ho):=t.obj r.heap q;let E:=rs.length;let(g,S,R):=FO r.un r.heap o2 o1 rs h;show Pj F.slot_tuple_index ⟨_,ho,rfl⟩ F.entry_tuple_index (F.args_tuple_index_2 _ _) (oj c vs.toArray n dd f u g (ds.idxOf y) (by simp;rfl') ?_ ?_) ⟨ho,S,k _ _ _ d r.tok ⟨_,rfl⟩⟩
 .simp_all
 .intro i hi w
  rw[List.getElem_toArray,R i (by simpa using hi) ⟨⟩]
  simpa using List.not_of_lt_findIdx (p:=λz=>z==y) (xs:=ds) (i:=i) w⟩
nonrec theorem Am (f:Nm X i x) (u:Nm X j y):DF X (.Dict [U (.Name x p1),U (.Name y p2)] [.Name y p3,.Name x p4] pos) (λO=>wB (rd Y i O) (rd Y j O)):=⟨rfl,λ{M O s d Q} I e k=>by
 unfold wB at e;split at e<;>try cases e
 split at e<;>try cases e
 rename_i d1 e1 E P _ y0 F;let(b1,T,r):=rR E;let(b2,W,p):=rR P;let(t1,D,ds1,g1,g2,g3,g4,g5):=cT F;ext g1;let(t2,H,ds2,S,L,g8,g9,K):=cT e;rw[g4]at S;ext S;let un:=I.un;let hl:=aG (Mj LZ);let f0:=I.fresh (Mj _);let v:Inv X M O {s with heap:=s.heap.push {cls:=.type "dict",data:=.dict #[]}}:=I.push (t:=s.toks)
 show wpAny_Dict_any rfl rfl (by simp) (by simp) (pairTrees_cons_walk (Py (v.load f T λv1 q=>Py (v.load u W λv2 h=>pairTrees_cons_walk (Py (v.load u W λv3 c=>Py (v.load f T λv4 a=>pairTrees_nil_walk ?_) f.d) u.d)) u.d) f.d))
 let q:=q.rep r;let h:=h.rep p;let c:=c.rep p;let a:=a.rep r;let hd:(s.heap.push {cls:=.type "dict",data:=.dict #[]}).get? s.heap.objs.size=U {cls:=.type "dict",data:=.dict #[]}:=Mm _ rfl
 unfold storeAll;rw[P4];show or (or (BR (s:={s with heap:=s.heap.push {cls:=.type "dict",data:=.dict #[]}}) (show X.A.units+30<cLine by lia) v.heap hd mZ (m:=Y) rfl g2 q (by simp![PZ]at g3⊢;lia) λR tk o' sb g dc=>Mf ?_))
 let C:Inv X M O {s with heap:=R,toks:=tk}:=v.wr [s.heap.objs.size] (λb w=>by simp_all) (λb o w e=>(sb.2 b (λz=>w (by simp[z]))).trans e) ⟨rfl,rfl⟩
 left;rw[P4];show or (or (BR (s:={s with heap:=R,toks:=tk}) (show X.A.units+30<cLine by lia) C.heap g dc (hZ (m:=Y) rfl q) L c () λu n o2 l g' N=>Mf ?_))
 let I2:Inv X M O {s with heap:=u,toks:=n}:=C.wr [s.heap.objs.size] (λb w=>by simp_all) (λb o w e=>(l.2 b (λz=>w (by simp[z]))).trans e) ⟨rfl,rfl⟩
 left;show Mf (k _ _ _ _ Ext.refl I2 f0 g' (K N (hZ (hZ rfl q) c) (ji (ji rfl h) a)))⟩
end
end L2
namespace L2
open PySem PySem.Spec PyProof.Rows PySem.W Md Builtin
def pX:typeLookup (.type "list_reverseiterator") "__len__"=pure B:=by rfl
def nW:typeLookup (.type "list_reverseiterator") "__length_hint__"=pure (U (.builtin "list_reverseiterator.__length_hint__")):=by rw[typeLookup_type,builtinLookup_eq_fast];kernel_rfl
section
variable{prog:Ol}{w:O0}{A:Nl}{E:Ml->Mn->Prop}{s:Mn}
def uQ {R:R8->Mn->Prop}(h:A.handled=B) {vs:Array Ml}(hz:s.heap.IsRevIter z l ((vs.size:Int) - 1)) (a:s.heap.IsList l vs) (q:l≠z) (x:vs.size<=sizeLine) (res:Ml) (p:S≠z) (n:S≠l) (N:s.heap.get? S=U {cls:=.type "list",data:=.seq #[] y}) (W:∀m tk k g,(∀b o,b≠S->b≠z->s.heap.get? b=U o->m.get? b=U o)->m.get? S=U {cls:=.type "list",dict:=B,data:=.seq k g,slots:=#[]}->SC (λi v=>vs[vs.size - 1 - i]?=U v) k vs.size->R (.ok (.ret res)) {s with heap:=m,toks:=tk}):
  wpAny (model prog w) A.in1 (RF (.ref S) (.ref z) res)
   (λfin s'=>match fin with|.done f=>R (.ok f) s'|.again g=>g.quiet=V/\codeAny (model prog w) A g R s') (λe s'=>R (.error e) s') s:=by
 let ty:=hz.typeIs;let r:S∉[z,l]:=λt=>by simp_all
 show or (Pi ty ?_)
 simp![show Pn (.ref S) (.ref z)=Y by simp[Pn,p],show(Oo "list_reverseiterator"==Oo "list")=Y by decide,show(Oo "list_reverseiterator"==Oo "tuple")=Y by decide,Bool.or_false,MZ,if_false]
 show or (wpAny_pyIter_revIter hz (or (MQ ?_)))
 show or (OX ty pX ?_)
 show or (OX ty nW ?_)
 show or (O6 ty (b:=V) (by rfl) ?_)
 show Mf ?_
 show Mf ⟨Oh F.plain_extend_loop _,codeAny_extend_loopS (Walks.listRev (A:=A.in1) (show A.in1.handled=B from h) z l q vs).toS x _ r _ vs.size 0 _ _ _ rfl (Nw _) ⟨Nw _,by simpa using hz,a⟩ N (ItemsOf.nil _) λs' k g t d u=>?_⟩
 rw[Moved.eq_with t];show W s'.heap s'.toks k g (λb ob K c e=>t.heap b ob (λj=>?_) e) d u
 rcases MG.mp j with T|j
 .show K T
 .show c (My.mp j)
def n5 {Q:Ml->Mn->Prop}(x:A.handled=B) {vs:Array Ml}(hz:s.heap.IsRevIter z l ((vs.size:Int) - 1)) (d:s.heap.IsList l vs) (p:l≠z) (m:vs.size<=sizeLine) (h:∀y tk k c,(∀b o,b≠z->s.heap.get? b=U o->y.get? b=U o)->y.get? s.heap.objs.size=U {cls:=.type "list",dict:=B,data:=.seq k c,slots:=#[]}->SC (λi v=>vs[vs.size - 1 - i]?=U v) k vs.size->Q (.ref s.heap.objs.size) {s with heap:=y,toks:=tk}):
  wpAny (model prog w) A (call (.type "list") [.ref z]) Q E s:=by
 show QH (Q₁:=λobj j=>obj=.ref s.heap.objs.size/\j={s with heap:=s.heap.push {cls:=.type "list",data:=.seq #[]}}) F.called_list (F.typeCall_list_1 _) F.entry_list_init (code_list_new _ ⟨rfl,rfl⟩) λobj j g=>?_
 let(rfl,rfl):=g;let q:(s.heap.push {cls:=.type "list",data:=.seq #[]}).get? s.heap.objs.size=U {cls:=.type "list",data:=.seq #[]}:=Mm _ rfl
 show⟨⟨_,q,rfl⟩,F.args_list_init_2 _ _,?_⟩
 show or ?_
 show or (Ot q rfl (Mf ?_))
 let r:=Nf (Na (λ_=>(#[]:Array Ml))) q rfl
 let up:∀b ob,s.heap.get? b=U ob->((s.heap.push {cls:=.type "list",data:=.seq #[]}).update s.heap.objs.size (Na (λ_=>(#[]:Array Ml)))).get? b=U ob:=λb ob e=>(Nn _ _ (MR (MU (MD e)))).trans (Mg _ e)
 let f:z<s.heap.objs.size:=by let(o,e,_):=hz;show MD e
 let ll:l<s.heap.objs.size:=by let(o,e,_):=d;show MD e
 show or (Po q rfl (or (Pg ?_)))
 show uQ (A:=A.in1) x (hz.at λo e=>up _ o e) (d.at λo e=>up _ o e) p m .none (MR (MU f)) (MR (MU ll)) r λy tk k c n t u=>⟨rfl,h y tk k c (λb ob a e=>n b ob (MU (MD e)) a (up b ob e)) t u⟩
end
def GK (x:G D):G D:=match x with|some (.lst ds)=>U (.lst ds.reverse)|_=>B
variable[Md]
theorem Rs.reverse:∀{ds:Z D}{vs:Z Ml},Rs m M ds vs->Rs m M ds.reverse vs.reverse
 |[],_,r=>by ext r;rfl
 |d::ds,_,⟨v,t,e,j,k⟩=>by subst e;rw[f_,f_];show k.reverse.append (.one j)
section
variable{X:Cx}{M M' M1:Mp}{O:DEnv}{s s':Mn}{Q:Ml->Mn->Prop}{a b:Expr}{fa fb:DEnv->G D}{p p2 pos pos2:Q6}
nonrec theorem uS (N:Bn X "list") (g:Bn X "reversed") (x:DE X Y a fa):DF X (.Call (.Name "list" p) [.Call (.Name "reversed" p2) [a] [] pos2] [] pos) (λO=>GK (fa O)):=⟨rfl,λ{M O s d Q} I e k=>by
 unfold GK at e;split at e<;>ext e
 rename_i ds n;show NI (I.bltn N (by rfl:bootBuiltins "list"=U (.type "list")) (Oy ?_ rfl rfl))
 show MY (cZ g boot_reversed x I n λv u M1 m w r=>?_)
 let(c,o,vs,rfl,q,t,rs):=r;let y:=t.is w.heap q;let z:=t.1;show call_reversed_list y (Ny ?_)
 let lt:c<u.heap.objs.size:=by let(o,e,_):=y;show MD e
 show n5 (s:={u with heap:=u.heap.push (revObj c ((vs.toArray.size:Int) - 1))}) I.ok.room.hd ⟨_,Mm _ rfl,rfl,rfl⟩ (y.at λo e=>Mg _ e) (MU lt) (by simp;rfl') λK tk acc T l h j=>?_
 let e:acc=vs.reverse.toArray:=by
  let(f,W):=j;let f:acc.size=vs.length:=by simpa using f
  show Array.ext_getElem? λi=>?_
  by_cases hi:i<acc.size
  .have:vs.toArray[vs.toArray.size - 1 - i]?=U acc[i]:=W i _ (NA hi)
   rw[NA hi,Ph,List.getElem?_reverse ()]
   rw[Ph,Nc]at this
   show this.symm
  .rw[N3 ⟨⟩,N3 (by simp;rfl')]
 subst e;let R:Inv X M1 _ {u with heap:=K,toks:=tk}:=w.kp λb o e=>l b o (MU (MD e)) (Mg _ e)
 show k _ _ _ M1 m R (w.fresh (by rw[NL];show OA _)) h ⟨vs.reverse,⟨by simp;rfl',T,rfl⟩,rs.reverse⟩⟩
end
end L2
namespace L2
open PySem PySem.Spec PyProof.Rows PySem.W Md Builtin
abbrev yO (h:OF) (e it:MM) (i:Int) (f:Ml) (b:Bool) (old:Ml):Prop:=
 h.get? e=U {cls:=.type "enumerate",dict:=B,data:=.fields #[f,.bool b,.ref it,rawInt i,.none,old],slots:=#[]}
section
variable{prog:Ol}{w:O0}{A:Nl}{E:Ml->Mn->Prop}{s:Mn}
theorem vV {bo:Bool}{e it T:MM}{i:Int}{old:Ml}{oT:QY}{Q:Bool->Mn->Prop}(zz:yO s.heap e it i (rawInt T) bo old) (al:s.heap.get? T=U oT) (h:∀k₁,yO k₁ e it i (rawInt T) V old->Nv e s.heap k₁->Q Y {s with heap:=k₁}):
  wpAny (model prog w) A (Qt (.ref e)) Q E s:=by
 let hal:s.heap.get? (Int.toNat (T:Int))=U oT:=by rw[OV];show al
 show or (N9 zz rfl (x:=rawInt T) rfl ?_)
 show or (jv ?_)
 rw[hal];show or (N9 zz rfl (x:=.bool bo) rfl ?_)
 cases bo with
 |true=>show Mf (h _ zz ⟨rfl,λ_ _=>rfl⟩)
 |false=>show or (NH zz (by simp) λk₁ g₁ m₁=>Mf (h k₁ g₁ m₁))
def uY {e it l T:MM}{i:Nat}{items:Array Ml}{x old:Ml}{bo:Bool}{oT:QY}{Q:G Ml->Mn->Prop}
  (he:yO s.heap e it i (rawInt T) bo old) (al:s.heap.get? T=U oT) (nT:T≠e) (nT2:T≠it) (hit:s.heap.IsListIter it l i) (hl:s.heap.IsList l items) (hx:items[i]?=U x) (hne:e≠it)
  (hQ:∀h',yO h' e it ((i:Int)+1) (rawInt T) V old->h'.IsListIter it l (i+1)->
   h'.get? s.heap.objs.size=U {cls:=.type "tuple",data:=.seq #[.int i s.toks,x]}->h'.objs.size=s.heap.objs.size+1->
   (∀b o,b≠e->b≠it->s.heap.get? b=U o->h'.get? b=U o)->Q (U (.ref s.heap.objs.size)) {s with heap:=h',toks:=s.toks+1}):
  wpAny (model prog w) A (pyNext (.ref e)) Q E s:=by
 let hT:s.TypeIs (.ref e) "enumerate":=⟨_,he,rfl⟩;unfold pyNext;show or (PJ (NK (name:=Nq "__next__") hT PX
  (MT PX hT F.entry_enumerate_next ?_ (Ts _))))
 let(hp,g,d,tk,os):=s;change wpAny _ _ (field (.ref e) 2 >>= _) _ _ _;show or (N9 he rfl (x:=.ref it) rfl ?_)
 show or (wpAny_nextOf_list_item hit hl hx λh₁ hit₁ hs₁=>?_)
 replace hs₁:Nv it hp h₁:=hs₁
 let he₁:yO h₁ e it i (rawInt T) bo old:=(hs₁.2 e hne).trans he;change wpAny _ _ (field (.ref e) 3 >>= _) _ _ ⟨h₁,g,d,tk,os⟩;show or (N9 he₁ rfl (x:=rawInt i) rfl ?_)
 change wpAny _ _ (field (.ref e) 4 >>= _) _ _ ⟨h₁,g,d,tk,os⟩;show or (N9 he₁ rfl (x:=.none) rfl ?_)
 change wpAny _ _ (mkInt i >>= _) _ _ ⟨h₁,g,d,tk,os⟩;show or (wpAny_mkInt ?_)
 change wpAny _ _ (setField (.ref e) 3 (rawInt ((i:Int)+1)) >>= _) _ _ ⟨h₁,g,d,tk+1,os⟩;show or (NH he₁ (by simp) λh₂ he₂ hs₂=>?_)
 replace hs₂:Nv e h₁ h₂:=hs₂
 replace he₂:yO h₂ e it ((i:Int)+1) (rawInt T) bo old:=he₂
 change wpAny _ _ (setField (.ref e) 4 .none >>= _) _ _ ⟨h₂,g,d,tk+1,os⟩;show or (NH he₂ (by simp) λh₃ he₃ hs₃=>?_)
 replace hs₃:Nv e h₂ h₃:=hs₃
 replace he₃:yO h₃ e it ((i:Int)+1) (rawInt T) bo old:=he₃
 change wpAny _ _ (newTuple [.int i tk,x] >>= _) _ _ ⟨h₃,g,d,tk+1,os⟩;show or (QF ?_)
 let he₄:yO (h₃.push {cls:=.type "tuple",data:=.seq #[.int i tk,x]}) e it ((i:Int)+1) (rawInt T) bo old:=Mg _ he₃
 generalize hh₄:h₃.push {cls:=.type "tuple",data:=.seq #[.int i tk,x]}=h₄ at he₄;let hsz:h₃.objs.size=hp.objs.size:=by rw[hs₃.1,hs₂.1,hs₁.1]
 let hel:e<hp.objs.size:=MD he;let ht₄:h₄.get? hp.objs.size=U {cls:=.type "tuple",data:=.seq #[.int i tk,x]}:=by rw[<-hh₄,<-hsz];show Mm _ rfl
 let hz₄:h₄.objs.size=hp.objs.size+1:=by rw[<-hh₄,NL,hsz]
 let hk₄:∀b o,b≠e->b≠it->hp.get? b=U o->h₄.get? b=U o:=λb o hbe hbi hb=>by
  rw[<-hh₄];show Mg _ (hs₃.extBut b o hbe (hs₂.extBut b o hbe (hs₁.extBut b o hbi hb)))
 let hit₄:h₄.IsListIter it l (i+1):=by
  rw[<-hh₄];let(o,ho,r):=(hit₁.extBut hs₂.extBut (MR hne)).extBut hs₃.extBut (MR hne);show⟨o,Mg _ ho,r⟩
 change wpAny _ _ (Qt (.ref e) >>= _) _ _ ⟨h₄,g,d,tk+1,os⟩;rw[hsz];show or (vV (s:=⟨h₄,g,d,tk+1,os⟩) he₄ (hk₄ T oT nT nT2 al) λk₁ g₁ m₁=>?_)
 show Mf ⟨_,rfl,Mf (hQ k₁ g₁ ?_ ?_ ?_ ?_)⟩
 .show hit₄.extBut m₁.extBut (MR hne)
 .show m₁.extBut _ _ (NV hel) ht₄
 .rw[m₁.1];show hz₄
 .show λb o hbe hbi hb=>m₁.extBut b o hbe (hk₄ b o hbe hbi hb)
def wx {e it l:MM}{i:Nat}{items:Array Ml}{f old:Ml}{bo:Bool}{Q:G Ml->Mn->Prop}(p:A.handled=B)
  (v:yO s.heap e it i f bo old) (j:s.heap.IsListIter it l i) (q:s.heap.IsList l items) (z:items[i]?=B)
  (t:∀u,PH it s.heap u->Q B {s with heap:=u}):wpAny (model prog w) A (pyNext (.ref e)) Q E s:=by
 let y:s.TypeIs (.ref e) "enumerate":=⟨_,v,rfl⟩;show or (PJ (NK (name:=Nq "__next__") y PX
  (MT PX y F.entry_enumerate_next ?_ (Ts _))))
 change wpAny _ _ (field (.ref e) 2 >>= _) _ _ _;show or (N9 v rfl (x:=.ref it) rfl ?_)
 show or (wpAny_nextOf_list_end p j q z λu x g k=>?_)
 let(o,ho,r):=k;show or (O6 (T:="StopIteration") (b:=V) ⟨o,ho,r⟩ RI ?_)
 show Mf (t _ g)
def EN (h:OF) (e it:MM) (i:Nat):Prop:=(∃old,SP h e it i old)\/∃(T:MM) (b:Bool) (old:Ml) (k:QY),yO h e it i (rawInt T) b old/\h.get? T=U k/\T≠e/\T≠it
def EN.item (u:EN s.heap e it i) (g:s.heap.IsListIter it l i) (d:s.heap.IsList l items) (c:items[i]?=U x) (v:e≠it) (f:∀k,EN k e it (i+1)->k.IsListIter it l (i+1)->
   k.get? s.heap.objs.size=U {cls:=.type "tuple",data:=.seq #[.int i s.toks,x]}->k.objs.size=s.heap.objs.size+1->
   (∀b o,b≠e->b≠it->s.heap.get? b=U o->k.get? b=U o)->Q (U (.ref s.heap.objs.size)) {s with heap:=k,toks:=s.toks+1}):
  wpAny (model prog w) A (pyNext (.ref e)) Q E s:=by
 let m:it<s.heap.objs.size:=by let(o,e,_):=g;show MD e
 rcases u with⟨old,u⟩|⟨T,b,old,t,u,al,n1,q⟩
 .show wpAny_pyNext_enum_item u g d c v λk j r z p y=>f k (.inr ⟨s.heap.objs.size,Y,x,_,j,z,NV (MD u),NV m⟩) r z p y
 .show uY u al n1 q g d c v λk j r z p y=>f k (.inr ⟨T,V,old,t,j,y T t n1 q al,n1,q⟩) r z p y
def EN.done {e it l:MM}{i:Nat}{items:Array Ml}{Q:G Ml->Mn->Prop}(v:A.handled=B)
  (j:EN s.heap e it i) (k:s.heap.IsListIter it l i) (u:s.heap.IsList l items) (g:items[i]?=B)
  (y:∀z,PH it s.heap z->Q B {s with heap:=z}):wpAny (model prog w) A (pyNext (.ref e)) Q E s:=by
 rcases j with⟨old,j⟩|⟨T,b,old,q,j,al,n1,p⟩
 .show wpAny_pyNext_enum_end v j k u g y
 .show wx v j k u g y
def EN.to (x:EN h e it i) (k:Nv d h u) (nd:e≠d) (al:∀o,h.get? d=U o->∃g,u.get? d=U g):EN u e it i:=by
 rcases x with⟨old,j⟩|⟨T,b,old,y,j,a,n1,v⟩
 .show .inl ⟨old,(k.2 e nd).trans j⟩
 .show .inr ?_
  by_cases z:T=d
  .subst z;let(g,q):=al _ a;show⟨T,b,old,g,(k.2 e nd).trans j,q,n1,v⟩
  .show⟨T,b,old,y,(k.2 e nd).trans j,(k.2 T z).trans a,n1,v⟩
def hO:typeLookup (.type "enumerate") "__getattr__"=pure B:=by rfl
def dv:entryFor table "enumerate.__getattribute__"=U Ou.«object.__getattribute__»:=
 entryFor_alias (id':="object.__getattribute__") (by kernel_rfl) (by decide +kernel) (by decide +kernel) (by kernel_rfl)
def mD:typeLookup (.type "enumerate") "keys"=pure B:=by rw[typeLookup_type,builtinLookup_eq_fast];kernel_rfl
def lA (a:MM) (fs:Array Ml) (name:MJ) (u:Tok) (v:typeLookup (.type "enumerate") name=pure B) (k:(["__module__","__name__","__qualname__","__doc__","__annotations__"]:Z MJ).contains name=Y) (j:name.length+100<=sizeLine:=by size_fits):
  Meets (Ou.«object.__getattribute__» ⟨[.ref a,.str name u],[]⟩) (λA R s=>s.heap.get? a=U {cls:=.type "enumerate",dict:=B,data:=.fields fs,slots:=#[]}/\raisesAttr (.ref a) name A R s):=
 Meets.of_wp λprog w A R s hs=>by
  let(z,g,d,tk,os):=s;let(y,hs):=hs;let q:(⟨z,g,d,tk,os⟩:Mn).TypeIs (.ref a) "enumerate":=⟨_,y,rfl⟩;unfold Ou.«object.__getattribute__»
  repeat (any_goals (first|assumption|wp_step))
  simp![k,MZ,if_false]
  repeat (any_goals (first|assumption|wp_step))
  show wpAny_raiseAttrError hs.1 hs.2 (attrMsg_fits (by decide +kernel) j)
def Af {fs:Array Ml}(v:s.heap.get? a=U {cls:=.type "enumerate",dict:=B,data:=.fields fs,slots:=#[]}) (q:A.handled=B) (h:∀u tk,(∀b o,s.heap.get? b=U o->u.get? b=U o)->Q B {s with heap:=u,toks:=tk}):wpAny (model prog w) A (getAttr? (.ref a) "keys") Q E s:=by
 let(z,g,d,tk,os):=s;let y:∀k,(⟨z,g,d,k,os⟩:Mn).TypeIs (.ref a) "enumerate":=λ_=>⟨_,v,rfl⟩
 let m:=sub_AttributeError;let f:=Qc.lookup;let c:=Qc.bind (.ref a);let t:=hO;unfold getAttr? getAttrBy? getAttrBy
 repeat (any_goals (first|assumption|show y _|((with_reducible change wpAny _ _ (call (Value.builtin "enumerate.__getattribute__") _ _) _ _ _);show Pj Qc (y _) dv (F.args_enumerate_getattribute_2 _ _) (lA a fs _ _ mD ∅ ∅) ⟨v,q,λu k e j=>?_⟩)|wp_step))
 let(t',p,r):=j.there;change wpAny _ _ (getattributeRaised _ _ _ _ _ _ _) _ _ _;unfold getattributeRaised
 repeat (any_goals (first|assumption|wp_step))
 show h _ _ j.keeps
end
def vf (n:Nat):Z J8:=(MW n).map λ(j:Nat)=>.inl (j:Int)
def lR (x:G D):G D:=match x with|some (.lst ds)=>if ds.length<LZ then U (.dK (vf ds.length) ds) else B|_=>B
def xz (i:Nat):D.int (i:Int)∉(vf i).map kD:=λh=>by
 let(k,v,u):=MC.mp h;let(j,g,rfl):=MC.mp v;have:(j:Int)=i:=by injection u
 have:=NE.mp g;lia
def AJ (i:Nat):aJ (D.int (i:Int)) ((vf i).map kD)=(vf (i+1)).map kD:=by
 ext aJ;rw[o_ (xz i)];ext vf;rw[List.range_succ];simp[kD]
variable[Md]
section
variable{X:Cx}{M M' M1:Mp}{O:DEnv}{s s':Mn}{Q:Ml->Mn->Prop}{a b:Expr}{fa fb:DEnv->G D}{p p2 pos pos2:Q6}
theorem vg (hu:A.units+40<cLine) (hh:A.handled=B) (ql:Rd Y M l ol) (tl:LstO ol ws) (rl:Rs Y M dsl ws) (hed:e≠d) (hid:it≠d) (hei:e≠it) (fd:Free X M d) (fe:Free X M e) (fi:Free X M it) (hlim:dsl.length<LZ):
  ∀(n i:Nat) (t:Tok) (s:Mn) (o:QY) (us vs:Z Ml),i+n=dsl.length->Inv X M O s->s.heap.get? d=U o->DcO Y o ((vf i).map kD) us vs->Rs Y M ((vf i).map kD) us->Rs Y M (dsl.take i) vs->EN s.heap e it i->s.heap.IsListIter it l i->
   (∀s' o' us' vs',Inv X M O s'->s'.heap.get? d=U o'->DcO Y o' ((vf dsl.length).map kD) us' vs'->Rs Y M ((vf dsl.length).map kD) us'->Rs Y M dsl vs'->R' (.ok (.ret .none)) s')->
   codeAny (model P w) A (.builtin "dict.update.loop" ⟨[.ref d,.ref e,.int i t,.none],[]⟩) R' s:=by
 intro n
 induction n with
 |zero=>
  intro i t s o us vs hi I hd dc rk rs en st hR;obtain rfl:i=dsl.length:=⟨⟩
  rw[QN]at rs;show Oj bi ?_
  show or (EN.done hh en st (tl.is I.heap ql) (by have:=rl.length;simp;rfl') λh' eb=>?_)
  show or (Mf (Mf (hR _ _ _ _ (I.ch (gR eb) (λb hb=>by simp_all)) (eb _ _ (MR hid) hd) dc rk rs)))
 |succ n ih=>
  intro i t s o us vs hi I hd dc rk rs en st hR;show Oj bi ?_
  let hip:i<dsl.length:=()
  let(v,hv,rv):=rl.get (i:=i) (d:=dsl[i]) (by simp[hip])
  show or (EN.item en st (tl.is I.heap ql) (x:=v) (by simpa using hv) hei λh' en' st' tup sz kp=>?_)
  let I1:Inv X M O {s with heap:=h',toks:=s.toks+1}:=I.ch (s':={s with heap:=h',toks:=s.toks+1}) (fp:=[e,it]) ⟨⟨rfl,rfl⟩,λb o hb h=>kp b o (λz=>hb (by simp[z])) (λz=>hb (by simp[z])) h⟩ λb hb=>by
   grind
  show or (MQ (or (OO ?_)))
  show or (Pi (show Ov {s with heap:=h',toks:=s.toks+1} (.ref s.heap.objs.size) "tuple" from⟨_,tup,rfl⟩) ?_)
  show or (or (Rm tup ?_))
  show Mf (Mf ?_)
  let hlm:=aG (Mj LZ);let hdl:=dc.lens;let hrl:((vf i).map kD).length=i:=by ext vf;simp
  show MQ (BR (s:={s with heap:=h',toks:=s.toks+1}) (show A.units+1+30<cLine by lia) I1.heap (kp d o (MR hed) (MR hid) hd) dc rk (k:=.int (i:Int)) (m':=Y) rfl ⟨_,rfl⟩ () λh2 tk o2 hs2 g2 dc2=>?_)
  show Mf ⟨Oh bq _,?_⟩
  let I2:=I1.wr (s':={s with heap:=h2,toks:=tk}) [d] (λb hb=>by simp_all) λb o hb e=>(hs2.2 b (λz=>hb (by simp[z]))).trans e
  let hks:=hZ (k:=.int (i:Int)) (u:=.int i s.toks) rk ⟨_,rfl⟩;let hvs:cU (D.int (i:Int)) v ((vf i).map kD) vs=vs++[v]:=by ext cU;show o_ (xz i)
  rw[AJ]at dc2 hks;rw[hvs]at dc2;show ih (i+1) 0 _ o2 _ (vs++[v]) () I2 g2 dc2 hks ?_ ?_ ?_ hR
  .rw[RM,Mq hip];show rs.append (.one rv)
  .show en'.to hs2 hed λo' _=>⟨o2,g2⟩
  .show st'.at λo h=>(hs2.2 it hid).trans h
nonrec theorem zF (gd:Bn X "dict") (g:Bn X "enumerate") (L:DE X Y a fa):DF X (.Call (.Name "dict" p) [.Call (.Name "enumerate" p2) [a] [] pos2] [] pos) (λO=>lR (fa O)):=⟨rfl,λ{M O s d Q} I e k=>by
 unfold lR at e;split at e<;>try cases e
 split at e<;>ext e
 rename_i ds H D;show NI (I.bltn gd (by rfl:bootBuiltins "dict"=U (.type "dict")) (Oy ?_ rfl rfl))
 show MY (cZ g Th L I H λv s0 M1 E b r=>?_)
 let(l,ol,ws,rfl,T,tl,rl):=r;show qm (p:=l) (tl.is b.heap T) λc ee cc kk=>Ny ?_
 let fe:Free X M1 (s0.heap.objs.size+1):=b.fresh (OA s0.heap.objs.size);let fi:=b.fresh (Mj s0.heap.objs.size);let f:Inv X M1 O {s0 with heap:=c}:=b.kp (s':={s0 with heap:=c}) kk
 let le:=MD ee;let x:s0.heap.objs.size<c.objs.size:=by let(o,e,_):=cc;show MD e
 let K:s0.heap.objs.size+1≠s0.heap.objs.size:=Nat.succ_ne_self _;generalize s0.heap.objs.size+1=en at*;generalize s0.heap.objs.size=it at*;generalize u:({s0 with heap:=c}:Mn)=s1 at*
 let ee:SP s1.heap en it 0 .none:=by rw[<-u];show ee
 let cc:s1.heap.IsListIter it l 0:=by rw[<-u];show cc
 let le:en<s1.heap.objs.size:=by rw[<-u];show le
 let x:it<s1.heap.objs.size:=by rw[<-u];show x
 let R:=f.ok.room.hd;let un:=f.un;show QH (Q₁:=λobj y=>obj=.ref s1.heap.objs.size/\y={s1 with heap:=s1.heap.push {cls:=.type "dict",data:=.dict #[]}}) SD (RE _) Sf (SK _ ⟨rfl,rfl⟩) ?_
 rintro obj y ⟨rfl,rfl⟩
 let P:=f.fresh (Mj _);let I2:Inv X M1 O {s1 with heap:=s1.heap.push {cls:=.type "dict",data:=.dict #[]}}:=f.push (t:=s1.toks)
 let S:Ov {s1 with heap:=s1.heap.push {cls:=.type "dict",data:=.dict #[]}} (.ref s1.heap.objs.size) "dict":=⟨_,Mm _ rfl,rfl⟩
 let z:SP (s1.heap.push {cls:=.type "dict",data:=.dict #[]}) en it 0 .none:=Mg _ ee
 show⟨S,RY _ _,?_⟩
 show or (or (NY S (Mf ?_)))
 show or (Pi (show Ov {s1 with heap:=s1.heap.push {cls:=.type "dict",data:=.dict #[]}} (.ref en) "enumerate" from⟨_,z,rfl⟩) ?_)
 show or (Af z (by simp[R]) λC q j=>?_)
 let I3:Inv X M1 O {s1 with heap:=C,toks:=q}:=I2.kp j
 let w:=j _ _ z;show or (Oz (or (PT (s:={s1 with heap:=C,toks:=q}) w (Mf ⟨Oh bq _,?_⟩))))
 let N:=j _ _ (Mm (h:=s1.heap) (o:={cls:=.type "dict",data:=.dict #[]}) rfl)
 show vg (X:=X) (O:=O) (A:=X.A.in1) (show X.A.units+1+40<cLine by lia) (by simp[R]) T tl rl (MU le) (MU x) K P fe fi D ds.length 0 0 _ _ [] [] ⟨⟩ I3 N mZ rfl rfl (.inl ⟨_,w⟩) (cc.at λo e=>j _ _ (Mg _ e)) λs' o' m vs' I' g' W i n=>?_
 show⟨rfl,k _ _ _ _ E I' P g' ⟨m,vs',W,Ks.rs.mpr i,n⟩⟩⟩
end
end L2
namespace L2
open PySem PySem.Spec PyProof.Rows PySem.W Md
def h8 (n:Nat) (O:DEnv) (x k:G D):G D:=ix (Jr n O x) k
def Ew (n:Nat) (O:DEnv) (x k:G D):G D:=Lm (Jr n O x) k
def rZ (n:Nat) (O:DEnv) (x:G D):G D:=xA (aV (Jr n O x))
def pN (n:Nat) (O:DEnv) (x:G D):G D:=fG (Jr n O x)
def m6 (n:Nat) (O:DEnv) (x:G D):G D:=uB (Jr n O x)
def AG (n:Nat) (O:DEnv) (x:G D) (l u:G (G Int)):G D:=cR (Jr n O x) l u
def xr (n:Nat) (O:DEnv) (x:G D):G (Z D):=aV (Jr n O x)
def EG (n:Nat) (O:DEnv) (x:G D):G (Z D):=ia (Jr n O x)
def q8 (n:Nat) (O:DEnv) (x:G D):G (Z D):=jE (Jr n O x)
def Dl (fi:DEnv->G (Z D)) (τ:D->DEnv->G DEnv) (gb:DEnv->G Out) (O:DEnv):G Out:=ac (fi O) λds=>av (λd O=>ac (τ d O) gb) ds O
variable[Md]
section
variable{X:Cx}{tg iter a b:Expr}{elts:Z Expr}{x1:Nat}{fa fb:DEnv->G D}{fl fh:DEnv->G (G Int)}{lo hi:G Expr}{m m' mm:Bool}{p p2 px pos tp apos cpos:Q6}{n:Nat}
def Co (k:X.N.length=n) (g:DE X Y a fa) (j:DE X m' b fb):DE X m (.Subscript a b pos) (λO=>h8 n O (fa O) (fb O)):=CW (mH k g) j
def CV (k:X.N.length=n) (g:DE X Y a fa) (j:DE X m' b fb):DE X m (.Subscript a b pos) (λO=>Ew n O (fa O) (fb O)):=Ge (mH k g) j
def zE (g:Bn X "list") (k:X.N.length=n) (j:DE X Y a fa):DF X (.Call (.Name "list" p) [a] [] pos) (λO=>rZ n O (fa O)):=AC g (mH k j)
def yf (g:Bn X "list") (k:X.N.length=n) (j:DE X Y a fa):DF X (.Call (.Name "list" p) [a] [] pos) (λO=>pN n O (fa O)):=xO g (mH k j)
def wW (g:Bn X "dict") (k:X.N.length=n) (j:DE X Y a fa):DF X (.Call (.Name "dict" p) [a] [] pos) (λO=>m6 n O (fa O)):=zQ g (mH k j)
def xB (k:X.N.length=n) (u:DE X Y a fa) (j:DO X lo fl) (g:DO X hi fh):DF X (.Subscript a (.Slice lo hi B p2) pos) (λO=>AG n O (fa O) (fl O) (fh O)):=zf (mH k u) j g
theorem uF (k:X.N.length=n) (j:DE X Y a fa):DIS X tg a (λO=>xr n O (fa O)):=HW (mH k j)
theorem v5 (k:X.N.length=n) (j:DE X Y a fa):DIS X tg a (λO=>EG n O (fa O)):=zS (mH k j)
theorem nB (k:X.N.length=n) (j:DE X Y a fa) (l:(apos.endLine==cpos.line)=V):DIS X (.Tuple elts x1 tp) (.Call (.Attribute a "items" apos) [] [] cpos) (λO=>q8 n O (fa O)):=xE (mH k j) l
def Dg (k:X.N.length=n) (j:DE X Y a fa):DI2 X V Y tg a (λO=>xr n O (fa O)):=FZ (uF k j)
def ww (k:X.N.length=n) (j:DE X Y a fa) (l:(apos.endLine==cpos.line)=V):DI2 X V Y (.Tuple elts x1 tp) (.Call (.Attribute a "items" apos) [] [] cpos) (λO=>q8 n O (fa O)):=FZ (nB k j l)
def A1 {body:Z NN}(j:X.S≠B) (hi:DIS X tg iter fi) (hg:DG X tg τ) (k:Lh X body gb):DS X (.For tg iter body [] pos) (Dl fi τ gb):=DH j hi hg k
def Fk {op:CmpOp}(ho:IT X op (λx y=>match x,y with|.int i,.int j=>U (g i j)|_,_=>B)) (u:DE X m a fa) (k:DE X m' b fb):DE X mm (.Compare a [op] [b] pos) (λO=>L7 (cI g (fa O) (fb O))):=DN ho u k
end
end L2
namespace L2
open PySem PySem.Spec PyProof.Rows Md
def GM:G D->G D->G D:=b2 (bI (λ_ _=>V) λi j=>.int (i - j))
def G6 (x:G D):G D:=ac x λd=>match d with|.str _=>U (.bl V)|_=>B
def Jv:D->G String
 |.tup _=>U "tuple"|.lst _=>U "list"|.str _=>U "str"|.int _=>U "int"|.bl _=>U "bool"|_=>B
def Hj (t c:String):Bool:=t==c||(t=="bool"&&c=="int")
def fO (c:String) (x:G D):G D:=ac x λd=>ac (Jv d) λt=>U (.bl (Hj t c))
variable[Md]
section
variable{X:Cx}{M:Mp}{O:DEnv}{s:Mn}{tg a b:Expr}{fa fb:DEnv->G D}{m m' mm:Bool}{p pos:Q6}
def FM (j:DE X m a fa) (k:DE X m' b fb):DE X mm (.BinOp a .Sub b pos) (λO=>GM (fa O) (fb O)):=nU (Jt λ_ _ _ _ _ _ _ q=>sub_int q) j k
def Hr (g:Bn X "isinstance") (f:Bn X "str") (j:DE X m a fa):DE X mm (.Call (.Name "isinstance" p) [a,.Name "str" c] [] pos) (λO=>G6 (fa O)):=⟨rfl,λ{M O s d Q} I e k=>by
 let(d,b,y):=ag e;split at y<;>ext y
 show NI (I.bltn g (by rfl:bootBuiltins "isinstance"=U (.builtin "isinstance")) (PE ?_ (aK j.pl) rfl))
 rw[aK j.pl];show MY (j.ev I b λv w M1 q u r=>MY (u.bltn f (by rfl:bootBuiltins "str"=U (.type "str")) (Ny ?_)))
 let(t,rfl):=r;show Px PySem.W.kitx_str u.kIn trivial (by rfl) (λz=>nomatch z) λtk=>k (.bool V) {w with toks:=tk} M1 q u.tok rfl⟩
end
section
variable{X:Cx}{M M':Mp}{O:DEnv}{s:Mn}{a b c:Expr}{fa fb fc:DEnv->G D}{m m' m'' mm:Bool}{p pos:Q6}
theorem CN {cs:String}(N:cs="list"\/cs="tuple"\/cs="str"\/cs="int"\/cs="bool") (g:Bn X "isinstance") (S:Bn X y) (h:bootBuiltins y=U (.type cs)) (c:DE X m a fa):DE X mm (.Call (.Name "isinstance" p) [a,.Name y i] [] pos) (λO=>fO cs (fa O)):=⟨rfl,λ{M O s d Q} I e k=>by
 let(d,P,F):=ag e;let(t,w,C):=ag F;ext C;show NI (I.bltn g (by rfl:bootBuiltins "isinstance"=U (.builtin "isinstance")) (PE ?_ (aK c.pl) rfl))
 rw[aK c.pl];show MY (c.ev I P λv l M1 n u r=>MY (u.bltn S h (Ny ?_)))
 let j:∀(T:String),(T="list"\/T="tuple"\/T="str"\/T="int"\/T="bool")->PySem.W.kitOne K (.type T) (.type cs)=U (Hj T cs):=λT R=>by
  rcases N with rfl|rfl|rfl|rfl|rfl<;>rcases R with rfl|rfl|rfl|rfl|rfl<;>rfl
 let fin:∀tk,_:=λtk=>k (.bool (Hj t cs)) {l with toks:=tk} M1 n u.tok rfl
 cases d with
 |tup ds=>
  ext w;let(a,o,vs,rfl,q,t,_):=r;let(o,b,f,_):=t.is u.heap q;show Px PySem.W.kitx_tuple u.kIn ⟨o,b,f⟩ (j _ (by simp)) (λz=>nomatch z) fin
 |lst ds=>
  ext w;let(a,o,vs,rfl,q,t,_):=r;let(o,b,f,_):=t.is u.heap q;show Px PySem.W.kitx_list u.kIn ⟨o,b,f⟩ (j _ (by simp)) (λz=>nomatch z) fin
 |str x=>ext w;let(t,rfl):=r;show Px PySem.W.kitx_str u.kIn trivial (j _ (by simp)) (λz=>nomatch z) fin
 |int x=>ext w;let(t,rfl):=r;show Px PySem.W.kitx_int u.kIn trivial (j _ (by simp)) (λz=>nomatch z) fin
 |bl x=>ext w;ext r;show Px PySem.W.kitx_bool u.kIn trivial (j _ (by simp)) (λz=>nomatch z) fin
 |_=>cases w⟩
theorem E8 (y:DE X m a fa):DE X mm (.UnaryOp .Not a pos) (λO=>L7 (a7 (Ln (fa O)))):=⟨rfl,λ{M O s d Q} I e k=>by
 let(c,j,rfl):=nN e;cases q:Ln (fa O)with
 |none=>simp[a7,q]at j
 |some g=>
  simp![a7,q]at j;ext j;show UnaryOp_ (y.ev I (pg q) λv p M1 u z r=>?_)
  ext r;show not_of (Ng (k _ _ _ u z rfl))⟩
end
end L2
namespace L2
open PySem PySem.Spec PyProof.Rows PySem.W Md Builtin
def pM (n:Nat) (f:Z D->DEnv->G (D×Bool)) (fs:DEnv->G (Z D)) (O:DEnv):G (D×Bool):=match fs O with
 |some ds=>f ds (O.drop n)
 |none=>B
def EY (n i:Nat) (fa:DEnv->G D) (O:DEnv):G Out:=match EU (dh i O) (Jr n O (fa O))with|some d=>U (.next (O.set i (U (d,V))))|none=>B
def EC (fa:DEnv->G D) (gb:DEnv->G (D×DEnv)) (O:DEnv):G (D×DEnv):=match fa O,gb O with
 |some d,U (k,δ1)=>(match ix (U d) (U k)with|some y=>U (y,δ1)|none=>B)
 |_,_=>B
def slN (n i:Nat) (O:DEnv):G DEnv:=match O[i]? with
 |some (U (d,V))=>if i<n then U (O.set i (U (.loc B (O.length - n),Y))++[U (d,V)]) else B
 |_=>B
def Jh (n i:Nat) (g:DEnv->G Out) (O:DEnv):G Out:=match slN n i O with|some δ'=>g δ'|none=>B
variable[Md]
section
variable{X:Cx}{M M' M1:Mp}{O:DEnv}{s s':Mn}{Q:Ml->Mn->Prop}{tg iter a b:Expr}{es:Z Expr}{fa fb:DEnv->G D}{ga gb:DEnv->G (D×DEnv)}{fs:DEnv->G (Z D)}{m m' mm:Bool}{p p2 px pos tp apos cpos:Q6}{n i k:Nat}{x:MJ}
theorem E6 (ha:DE X m a fa) (hb:DE X m' b fb):DT X (.Compare a [.In] [b] pos) (λO=>pw (fa O) (fb O)):=λ{M O s c Q} I e k=>by
 unfold pw at e;cases q:j9 (fb O) (fa O)with
 |none=>simp[q]at e
 |some og=>
  simp![q]at e;ext e;let(d1,k1,b1,ks,ds,e1,e2,e3,e4,e5):=bR q;show Pq (ha.ev I e2 λu s1 M1 x1 I1 r1=>hb.ev I1 e1 λv s2 M2 x2 I2 r2=>?_) (oB hb.pl)
  let(l,o,us,vs,rfl,q,c,rk,rs):=r2.dc e3;let ho:=q.heap I2.heap;let un:=I2.un;let hS:=I2.nsys q;show or ?_
  unfold contains
  try with_reducible show MQ ?_
  show or (OX (c.ty ho) slot_dict_contains.lookup ?_)
  show or (Si (name:=Nq "__contains__") (c.ty ho) QG (MT QG (c.ty ho) entry_dict_contains ?_ (args_dict_contains _ _)))
  change wpAny _ _ (dictGet l u >>= _) _ _ _;show or (FP (show X.A.units+1+30<cLine by lia) I2.heap ho c rk e4 (r1.up x2) λtk=>?_)
  let fin:=k _ _ (x1.trans x2) (I2.tok (t:=tk));subst e5;let(g1,g2):=fu (k:=k1) (ks:=ks) rs;cases z:aP k1 ks ds with
  |none=>
   rw[g1 z];rw[z]at fin;show or (wpAny_pendingKey_other hS (Mf ⟨_,rfl,Ng (Mf (Ng fin))⟩))
  |some y=>
   let(v,g3,_):=g2 y z;rw[g3];rw[z]at fin;show Mf ⟨_,rfl,Ng (Mf (Ng fin))⟩
def vX (F:L0 k x f) (hr:Room k X.A) (hst:X.st=V) (g:Gb X x) (ha:DA X Y (a::es) fs) (I:Inv X M O s) (e1:fs O=U ds) (e2:f ds (O.drop X.N.length)=U (r,fr)) (kk:∀v s' M',Ext M M'->Inv X M' O s'->(fr=Y->R Y M' r v)->(fr=V->Jj X M' s' Y r v)->Q v s'):WP X (eval (.Call (.Name x p) (a::es) [] pos) X.env) Q s:=by
 let(q,h1,h2,h3):=F.ex;show xI h1 h2 g I ha.pl (ha.ev I e1 (λvs s1 M1 x1 I1 rs=>⟨I1.kIn,P8 (sW (m:=Y) h3 hr I1 rs (λz=>nomatch z) (λ_=>⟨hst,rfl⟩) (λz=>nomatch z) (show qC f ds _=U (r,fr,[]) by ext qC;rw[e2]) λv s' M' x2=>kk v s' M' (x1.trans x2))⟩) pos)
nonrec theorem AY (F:L0 k x f) (hr:Room k X.A) (hst:X.st=V) (hn:X.N.length=n) (g:Gb X x) (ha:DA X Y (a::es) fs):DE X Y (.Call (.Name x p) (a::es) [] pos) (λO=>JT (pM n f fs O)):=⟨rfl,λ{M O s d Q} I e kk=>by
 unfold pM at e;cases q:fs O with
 |none=>simp[JT,q]at e
 |some ds=>
  rw[q]at e;subst hn;unfold JT at e;split at e<;>ext e
  rename_i fr e2;show vX F hr hst g ha I q e2 λv s1 M1 x1 I1 h1 h2=>?_
  cases fr with
  |false=>show kk _ _ _ x1 I1 (h1 rfl)
  |true=>
   let(c,o,rfl,f,z,cc):=h2 rfl;show kk _ _ _ (x1.trans (dg f.m)) (I1.put f z) (cc.rep (dY f.m) ⟨.f,ak,rfl⟩)⟩
theorem AT (F:L0 k x f) (hr:Room k X.A) (hst:X.st=V) (hn:X.N.length=n) (g:Gb X x) (ha:DA X Y (a::es) fs):DF X (.Call (.Name x p) (a::es) [] pos) (λO=>Km (pM n f fs O)):=⟨rfl,λ{M O s d Q} I e kk=>by
 unfold pM at e;cases q:fs O with
 |none=>simp[Km,q]at e
 |some ds=>
  rw[q]at e;subst hn;dsimp only at e;cases q2:f ds (O.drop X.N.length)with
  |none=>simp[Km,q2]at e
  |some y=>
   let(d',fr):=y;rw[q2]at e;obtain⟨rfl,rfl⟩:fr=V/\d'=d:=by ext d'<;>ext fr<;>simp_all [Km]
   show vX F hr hst g ha I q q2 λv s1 M1 x1 I1 h1 h2=>?_
   let(c,o,rfl,f,z,cc):=h2 rfl;show kk _ _ _ _ x1 I1 f z cc⟩
nonrec theorem zh (hn:X.N.length=n) (h:Nm X i x) (hb:DE X Y b fb) (l:(apos.endLine==cpos.line)=V):DS X (.Expr (.Call (.Attribute (.Name x px) "update" apos) [b] [] cpos) pos) (EY n i fb):=λ{M O s o Q} I e k=>by
 unfold EY at e;split at e<;>ext e
 rename_i q0;let(ks,vs,ls,us,e1,e2,hz,rfl):=q6 q0;let h0:=bO e1;show O7 (N6 (cE rfl) (by rw[ir (es:=[b]) (by simp[hb.pl])];rfl) l rfl (Py (I.load h h0 λv z=>?_) h.d)) I.quiet rfl
 let(ad,o,rfl,q,c):=z;let ho:=I.heap _ _ _ q;show⟨"dict","dict.update",PA,SA,Sy,⟨_,ho,(gY rfl c).1⟩,λb e=>by ext e;show⟨_,ho,(gY rfl c).2⟩,?_⟩
 rw[aK hb.pl];show NC rfl (Oi (MY ((mH hn hb).ev I e2 λce κ oe s2 M2 x2 I2 qe hk ce'=>Ny ?_)))
 let q2:=x2.old q;let(uc,vc,dc,rk,rs):=c.to x2.sub;let(ue,ve,de,re,rv):=ce';let ho2:=I2.heap _ _ _ q2;let hne:ad≠ce:=λz=>by
  subst z;rw[q2]at qe;ext qe
  rcases hk with z|⟨_,z⟩<;>ext z
 let qe':Rd V M2 ce oe:=⟨κ,qe,hk.ok⟩;show tD I2.heap (I2.nsys qe') hne ho2 (qe'.heap I2.heap) dc ((Ks.rs (m:=Y) (M:=M2)).mp rk) rs de ((Ks.rs (m:=Y) (M:=M2)).mp re) rv hz λh' o' us' vs' sb g' dc' rk' rs'=>?_
 let(I3,f3,p3):=I2.chg (s':={s2 with heap:=h'}) h0 h.n q2 (λb ob z w=>(sb.2 b z).trans w) g' (uX dc') (d':=.dK _ _) ⟨us',vs',dc',Ks.rs.mpr rk',rs'⟩
 show k _ _ (x2.sx.trans ⟨f3,λa o=>(p3 a o).mp,λa o=>(p3 a o).mpr⟩) I3
nonrec theorem Cy (ha:DE X Y a fa) (hb:EX X b gb):EX X (.Subscript a b pos) (EC fa gb):=⟨rfl,λ{M O s d δ' Q} I e k=>by
 unfold EC at e;cases q1:fa O with
 |none=>simp[q1]at e
 |some d0=>
 cases q2:gb O with
 |none=>simp[q1,q2]at e
 |some y0=>
 let(k0,δ1):=y0;rw[q1,q2]at e;dsimp only at e;cases qy:ix (U d0) (U k0)with
 |none=>rw[qy]at e;ext e
 |some y=>
 rw[qy]at e;ext e;unfold ix at qy;split at qy<;>ext qy
 rename_i q;let(d1,k1,b1,ks,ds,e1,e2,e3,e4,e5):=bR q;ext e1;ext e2;show P9 (ha.ev I q1 λv s1 M1 x1 I1 r1=>hb.ev I1 q2 λu s2 M2 b2 I2 r2=>?_)
 let(l,o,us,vs,rfl,q,c,rk,rs):=(r1.to b2.x.f).dc e3;let ho:=q.heap I2.heap;let(v,g1,g2):=(fu rs).2 _ e5.symm;show Sr (c.ty ho) slot_dict_getitem.lookup (oV I2 ho c rk e4 r2 g1 λtk=>k _ _ _ ((Bx.ext x1).trans b2) I2.tok g2) (nI hb.pl)⟩
nonrec theorem Inv.slN (I:Inv X M O s) (hw:Wr X) (hN:X.N[i]?=U x) (hv:Je X.env.scope x) (e:L2.slN X.N.length i O=U δ'):∃M',Inv X M' δ' s/\Sx M M':=by
 unfold L2.slN at e;split at e<;>try cases e
 rename_i d e0;split at e<;>ext e
 let(m,hn,hl):=id I.loc;let(u,l,a,o,rfl,q,c):=hl i x d V hN e0 hv;let hd:=I.stl hw.st;let fwd:∀{b k ob},M b=U (k,ob)->k≠.o i->LV M a (U (.s M.r.length,o)) b=U (k,ob):=λ{b k ob} h z=>by rw[ax (λw=>⟨⟩)];show h
 let kn:∀b k ob,LV M a (U (.s M.r.length,o)) b=U (k,ob)->(b=a/\k=.s M.r.length/\ob=o)\/(b≠a/\M b=U (k,ob)):=λb k ob z=>by
  by_cases z2:b=a
  .simp_all [ak]
  .rw[ax z2]at z;show .inr ⟨z2,z⟩
 let nn:∀b,M b=B->LV M a (U (.s M.r.length,o)) b=B:=λb h=>by rw[ax (λw=>⟨⟩)];show h
 let hs:Sub Y M Y ⟨(LV M a (U (.s M.r.length,o))).g,M.r++[(a,a)]⟩:=.of (λb ob z=>fwd z λw=>nomatch w) λj y z=>by rw[Me (L9.mp z).1];show z
 let lt:∀{b ob},M b≠U (.s M.r.length,ob):=λ{b ob} z=>PB _ (I.slo _ _ _ z)
 show⟨⟨(LV M a (U (.s M.r.length,o))).g,M.r++[(a,a)]⟩,⟨I.ok,I.og,λb k ob z=>(kn b k ob z).elim (λw=>by rw[w.1,w.2.2];show I.heap _ _ _ q) λw=>I.heap b k ob w.2,λb ob z=>fwd (I.base b ob z) (λw=>nomatch w),⟨m,hn,λj y d1 b e1 e2 e3=>?_⟩,nn _ I.free,λy cc z=>⟨(I.cell y cc z).1,(I.cell y cc z).2.imp (λw=>nn _ w) λ⟨g,ob,w⟩=>⟨g,ob,fwd w (λw=>nomatch w)⟩⟩,I.tabs.to hs (λq h=>nn _ (I.tabs q h).1) λ_ _ _ h=>h,λb k ob z w=>(kn b k ob z).elim (λy=>by rw[y.2.2];show I.own _ _ _ q rfl) λy=>I.own b k ob y.2 w,λb cc k ob oc w z z'=>?_,by simp;lia,λk ob z=>(kn _ k ob z).elim (λy=>by have:=y.1;rw[<-this]at q;show(nomatch I.sys _ _ q)) λy=>I.sys k ob y.2,λh=>by simp;lia,λj d1 b z=>?_,λr z=>(by rw[hw.S]at z;ext z),λb j ob z=>?_⟩,⟨hs,λb ob z=>fwd z (λw=>nomatch w),λb ob z=>(kn b _ ob z).elim (λy=>(nomatch y.2.1)) λy=>y.2⟩⟩
 .let hj:=(L9.mp e1).1
  rw[Me (by rw[O8];lia)]at e2
  by_cases w:j=i
  .subst w
   rw[Mz ()]at e2;ext e2
   let(u',l',a',o',rfl,q',c'):=hl j y d V e1 e0 e3;obtain rfl:=I.uni _ _ _ _ _ rfl q q';show⟨_,l',a,a,by simp_all,rfl,rfl⟩
  .rw[Mh (MR w)]at e2
   let(u',l',v'):=hl j y d1 b e1 e2 e3;show⟨u',l',v'.to hs λcc ob z=>fwd z λz2=>w (by injection z2)⟩
 .rcases kn b k ob z with⟨z1,z2,_⟩|⟨_,z1⟩<;>rcases kn cc k oc z' with⟨y1,y2,_⟩|⟨_,y1⟩
  .rw[z1,y1]
  .simp_all
  .simp_all
  .show I.uni _ _ _ _ _ w z1 y1
 .by_cases hj:j<M.r.length
  .rw[Me (by rw[O8];rfl'),Mh ()]at z
   let(h1,h2):=I.sto j d1 b z;show⟨h1,h2.to hs λxa ob _ w=>fwd w λz=>nomatch z⟩
  .rw[MK (by rw[O8];rfl'),O8]at z
   have:X.N.length+j - O.length=0:=by
    have:=(L9.mp z).1;simp at this;rfl'
   rw[this]at z;ext z;let hj':j=M.r.length:=()
   subst hj';show⟨rfl,(a,a),o,by simp,ak,.inl (c.to hs)⟩
 .rcases kn b _ ob z with⟨_,z2,_⟩|⟨_,z1⟩
  .injection z2 with z2;simp;rfl'
  .have:=I.slo _ _ _ z1;simp;lia
nonrec theorem BY {body:Z NN}(hw:Wr X) (hN:X.N.length=n) (hx:∃x,Nm X i x) (h:Lh X body g):Lh X body (Jh n i g):=λ{M O s o Q} I e k=>by
 subst hN;unfold Jh at e;split at e<;>try cases e
 rename_i δ' q;let(x,hx):=hx;let(M1,I1,x1):=I.slN hw hx.n hx.v q;show h I1 e (k.to x1)
end
end L2
namespace L2
open PySem PySem.Spec PyProof.Rows Md
def Draws.tupT {prog:Ol}{w:O0}{A:Nl}(z:A.handled=B) (it p:MM) (y:p≠it) (items:Array Ml):
  Draws prog w A it [it,p] items.size (λi v=>items[i]?=U v) (λi h=>ItAt V h it p i/\SqAt V h p items) where
 live:=λi h st=>by let(o,e,_):=st.1.obj;show⟨o,e⟩
 frame:=λi h g st k=>⟨st.1.to λo e=>k it (by simp) o e,st.2.to λo e=>k p (by simp) o e⟩
 item:=λi s Q E hi st q=>GW z st.1 st.2 (λv j g u sb=>q v g s.toks j ⟨u,st.2.to λo e=>(sb.2 p y).trans e⟩ sb) λj=>by rw[NA hi]at j;ext j
 done:=λs Q E st r=>GW z st.1 st.2 (λv j=>by rw[N3 (Mj _)]at j;ext j) λ_ g e c t=>r g e c t
def HX (h:OF) (p:MM):OF:=(h.push (JB V p)).push {cls:=.type "enumerate",data:=.fields #[.none,.bool Y,.ref h.objs.size,rawInt 0,.none,.none]}
nonrec theorem wT (p:MM) (xs:Array Ml):Meets (Ou.«enumerate.__new__» ⟨[.type "enumerate",.ref p],[]⟩) (λ_ R s=>SqAt V s.heap p xs/\R (.ok (.ret (.ref (s.heap.push (JB V p)).objs.size))) {s with heap:=HX s.heap p}):=
 .of_wp λprog w A R s h=>by
  let(y,g,d,tk,os):=s;let(u,h):=h;let j:=sub_enumerate;let k:=u
  wp_walk using dP k
  show wpAny_stack_any λst=>Mf ?_
  split
  .rename_i v _ _ _ _ _
   cases (v==Oo "enumerate")<;>(wp_walk using dP k;show⟨_,rfl,h⟩)
  .wp_walk using dP k
   show⟨_,rfl,h⟩
def uL {prog:Ol}{w:O0}{A:Nl}{E:Ml->Mn->Prop}{s:Mn}{p:MM}{xs:Array Ml}{Q:Ml->Mn->Prop}(u:SqAt V s.heap p xs)
  (h:∀k,SP k (s.heap.objs.size+1) s.heap.objs.size 0 .none->ItAt V k s.heap.objs.size p 0->(∀b o,s.heap.get? b=U o->k.get? b=U o)->Q (.ref (s.heap.objs.size+1)) {s with heap:=k}):
  wpAny (model prog w) A (call (.type "enumerate") [.ref p]) Q E s:=by
 show callType_new F.called_enumerate ∅ (F.typeCall_enumerate_1 _) (F.newCall_enumerate_1 _) (λobj=>F.args_object_init_2 obj _) F.entry_enumerate_new (wT p xs) ⟨u,?_⟩
 let j:(s.heap.push (JB V p)).objs.size=s.heap.objs.size+1:=NL ..;let g:(HX s.heap p).get? (s.heap.push (JB V p)).objs.size=U {cls:=.type "enumerate",data:=.fields #[.none,.bool Y,.ref s.heap.objs.size,rawInt 0,.none,.none]}:=Mm _ rfl
 let v:(HX s.heap p).get? s.heap.objs.size=U (JB V p):=Mg _ (Mm _ rfl)
 rw[j]at g;show⟨⟨_,by rw[j];show g,rfl⟩,?_⟩
 rw[j];show h _ g ⟨_,v,rfl,rfl⟩ λb o e=>Mg _ (Mg _ e)
def tu (x:G D):G (Z D):=match x with|some (.tup ds)=>U (lM 0 ds)|_=>B
variable[Md]
section
variable{X:Cx}{M:Mp}{O:DEnv}{s:Mn}{tg a:Expr}{elts:Z Expr}{x1:Nat}{fa:DEnv->G D}{m:Bool}{p pos tp:Q6}{o1:QY}{xs:Z Ml}{ds:Z D}{A:Nl}
def vh {e c p:MM}(W:A.handled=B) (ne:e≠c) (K:p≠c) (t:e≠p) (a:Rd m M p o1) (f:TupO o1 xs) (l:Rs m M ds xs):BV A (.Tuple elts x1 tp) m M (lM 0 ds) [e,c] e (λn h=>(∃old,SP h e c n old)/\ItAt V h c p n) where
 ex:=λ⟨⟨old,ee⟩,cc⟩ b j=>by
  simp![MG,Nt,or_false]at j
  rcases j with rfl|rfl
  .show⟨_,ee⟩
  .let(o,g,_):=cc.obj;show⟨o,g⟩
 keep:=λ⟨⟨old,ee⟩,cc⟩ k=>⟨⟨old,k e (by simp) _ ee⟩,cc.to λo g=>k c (by simp) o g⟩
 item:=λ{i s x} st h F=>by
  let(d1,X,rfl):=la _ _ _ _ F;let(C,S,P):=l.get X;let((old,ee),cc):=st;let v:SqAt V s.heap p xs.toArray:=tT h a f;let hi:i<xs.toArray.size:=by have:=(L9.mp S).1;simpa using this
  show wpAny_pyNext_enum_itemD (Draws.tupT (A:=A.in1) (by show W) c p K xs.toArray) ee ⟨cc,v⟩ hi ne (by simp[ne,t]) λy T tk N r u new H k=>⟨_,rfl,?_⟩
  obtain rfl:y=C:=by rw[Ph,S]at N;show(NB N).symm
  let Q:e≠s.heap.objs.size:=MU (MD ee);show xU (s:={s with heap:=T,toks:=tk+1}) r λD E d=>⟨⟨⟨rfl,rfl⟩,λb o j g=>aj d (λw=>j (by simp[w])) (k b o (λz=>j (by simp[z])) (λz=>j (by simp[z])) g)⟩,⟨⟨_,E⟩,u.1.to λo g=>aj d (MR ne) g⟩,.inr ⟨s.heap.objs.size,_,Mj _,aj d (MR Q) new,R.pairN h (Mj _) ⟨_,by rw[RU]⟩ P⟩⟩
 done:=λ{s} ⟨⟨old,ee⟩,cc⟩ h=>by
  let v:SqAt V s.heap p xs.toArray:=tT h a f;let I:=l.length;rw[lQ,I]at ee cc;show wpAny_pyNext_enum_endD (Draws.tupT (A:=A.in1) (by show W) c p K xs.toArray) ee ⟨by simpa using cc,v⟩ λT k=>⟨rfl,⟨rfl,rfl⟩,λb o j q=>k b o (λz=>j (by simp[z])) q⟩
 self:=λ⟨⟨old,ee⟩,cc⟩ h=>PT ee h
nonrec theorem yV (g:Bn X "enumerate") (h:DE X m a fa):DI X m (.Tuple elts x1 tp) (.Call (.Name "enumerate" p) [a] [] pos) (λO=>tu (fa O)):=⟨rfl,λ{M O s ds Q} I e k=>by
 unfold tu at e;split at e<;>ext e
 rename_i z;show cZ g Th h I z λv y M1 x1 j r=>?_
 let(c,o,vs,rfl,q,t,rs):=r;let lt:=MD (q.heap j.heap);show uL (p:=c) (t.is j.heap q) λw ee cc kk=>?_
 show PT (s:={y with heap:=w}) ee (k _ _ _ _ _ x1 (j.kp kk) (vh I.ok.room.hd (NV (Nj _)) (MU lt) (NV (Nat.lt_succ_of_lt lt)) q t rs) ⟨⟨_,ee⟩,cc⟩ λb u=>j.fresh ?_)
 simp![MG,Nt,or_false]at u
 rcases u with rfl|rfl
 .show OA _
 .show Mj _⟩
end
end L2
namespace L2
open PySem PySem.Spec PyProof.Rows PySem.W Md
def HR:G OQ->Bool
 |some .local=>V|some .cell=>V|some .free=>V|_=>Y
def HN:G OQ->Bool
 |some .local=>V|some .cell=>V|_=>Y
def KS (N:Z MJ) (sc:O1) (i:Nat) (x:MJ):Bool:=decide (N[i]?=U x)&&HR (sc.names.lookup x)&&!(x==("__debug__":MJ))&&!(x==("__classdict__":MJ))
def JW (N:Z MJ) (sc:O1) (i:Nat) (x:MJ):Bool:=decide (N[i]?=U x)&&HN (sc.names.lookup x)
def H8 (N:Z MJ) (sc:O1) (i:Nat) (x:MJ):Bool:=decide (N[i]?=U x)&&decide (sc.names.lookup x=U .local)
def JN (sc:O1) (x:MJ):Bool:=decide (sc.names.lookup x=U .globalImplicit)&&!(x==("__debug__":MJ))
nonrec theorem AB (h:HR (sc.names.lookup x)=V):Je sc x:=by
 unfold HR at h;split at h
 .rename_i e;show .inl e
 .rename_i e;show .inr (.inl e)
 .rename_i e;show .inr (.inr e)
 .ext h
nonrec theorem zB (h:HN (sc.names.lookup x)=V):Kr sc x:=by
 unfold HN at h;split at h
 .rename_i e;show .inl e
 .rename_i e;show .inr e
 .ext h
def Ij (scope sc:O1):O1:=
 {scope with names:=scope.names.map λ(n,k)=>if(k==.free&&sc.kind==.function&&sc.names.lookup n==U .cell) then(n,.cell) else(n,k)}
def DB {scope sc:O1}{env:Env}(h:env.scope=sc):relabel scope env=Ij scope sc:=by subst h;rfl
def Kt (sc scope:O1) (t:MJ) (g j:Nat):Bool:=
 ((if sc.kind.isAnnotationScope then ScopeKind.function else sc.kind)==.function)&&sc.names.lookup t==U .local&&g==j&&!(scope.names.any λ(n,k)=>n==t&&(k==.local||k==.cell))
def xw (k:O1) (scope:O1) (N:Z MJ) (bs:Z Bool):Bool:=
 decide (scope.kind=.function)&&scope.names.all (λy=>!decide (y.2=.cell))&&scope.names.all (λy=>!decide (y.2=.local)||decide (scope.names.lookup y.1=U .local))&&
 scope.names.all (λy=>!decide (y.2=.free)||(decide (scope.names.lookup y.1=U .free)&&(decide (k.names.lookup y.1=U .cell)||decide (k.names.lookup y.1=U .free))))&&
 decide (bs.length=N.length)&&(N.zip bs).all (λp=>!p.2||decide (scope.names.lookup p.1=U .free))
variable[Md]
structure Has (X:Cx) (N:Z MJ) (sc:O1) (st wr:Bool):Prop where
 n:X.N=N
 sc:X.env.scope=sc
 nd:X.N.Nodup
 st:X.st=st
 ro:wr=Y->X.S≠B
 w:wr=V->X.S=B
section
variable{X:Cx}{N:Z MJ}{sc scope:O1}{i:Nat}{x:MJ}{st wr:Bool}
def Has.nm (h:Has X N sc st wr) (b:KS N sc i x=V):Nm X i x:=by
 unfold KS at b;simp![Mo,decide_eq_true_eq,Qz]at b;show⟨by rw[h.n];show b.1.1.1,by rw[h.sc];show AB b.1.1.2,b.1.2,b.2⟩
def Has.nmI (h:Has X N sc st wr) (b:KS N sc i (N.getD i "")=V):∃x,Nm X i x:=⟨_,h.nm b⟩
def Has.lc (h:Has X N sc st wr) (k:X.fn=V) (b:JW N sc i x=V):Lc X i x:=by
 unfold JW at b;simp![Mo,decide_eq_true_eq]at b;show⟨by rw[h.n];show b.1,h.nd,by rw[h.sc];show(zB b.2).imp id λz=>⟨z,k⟩⟩
def Has.lcl (h:Has X N sc st wr) (b:H8 N sc i x=V):Lc X i x:=by
 unfold H8 at b;simp![Mo,decide_eq_true_eq]at b;show⟨by rw[h.n];show b.1,h.nd,.inl (by rw[h.sc];show b.2)⟩
def Has.gb (h:Has X N sc st wr) (b:JN sc x=V):Gb X x:=by
 unfold JN at b;simp![Mo,decide_eq_true_eq,Qz]at b;show⟨?_,b.2⟩
 unfold Env.kindOf;rw[h.sc];show b.1
def Has.comp (h:Has X N sc st wr) (scope:O1) (bo:Bool) (cl:Z (MJ×MM)) (C:MM) (k:Mp):Has (IP X scope bo cl C k) N (Ij scope sc) (st&&!bo) Y:=⟨h.n,DB h.sc,h.nd,by rw[<-h.st],λ_=>by simp,λz=>nomatch z⟩
def Has.lam (h:Has X N sc st wr) (cl:Z (MJ×MM)) (f:MM) (cd:Ml) (A:Nl) (L:MM) (g:Mp):Has (Ki X.N j k cl f cd A L X.st g) N k st Y:=⟨h.n,rfl,h.nd,h.st,λ_=>by simp,λz=>nomatch z⟩
def Has.len (h:Has X N sc st wr) (e:N.length=k):X.N.length=k:=by rw[h.n];show e
def Has.wrt (h:Has X N sc V V):Wr X:=⟨h.st,h.w rfl⟩
def CompScope.of' {bs:Z Bool}(h:Has X N sc st wr) (b:xw sc scope N bs=V):CompScope X scope bs:=by
 let(g,v,_,_,_,_):=h;unfold xw at b;simp![Mo,decide_eq_true_eq]at b;let(((((a,b),c),d),e),f):=b;show⟨a,λy k z=>?_,λy k z=>?_,λy k z=>?_,by rw[g];show e,λi x j u=>?_⟩
 .grind
 .grind
 .have:=MH.mp d y k
  rw[decide_eq_true z]at this;simp![SX,Bool.false_or,Mo,P5,decide_eq_true_eq]at this;show⟨this.1,?_⟩
  unfold Env.kindOf;rw[v];show this.2
 .rw[g]at j
  let hz:(N.zip bs)[i]?=U (x,V):=by rw[List.getElem?_zip_eq_some];show⟨j,u⟩
  have:=MH.mp f _ (Mr hz)
  simpa using this
def vo {c:Bool}{j:Expr}{gens:Z Comprehension}{pos k:Q6}{l:Nat}(h:Has X N sc st wr) (q:Kt sc scope x k.line pos.line=c):swapsWith (.ListComp j gens scope pos) (U (.Name x k)) l X.env=pure c:=by
 subst q;rw[<-h.sc];rfl
end
def Txb (bl:Z MJ):Prop:=∀x∈bl,mg x=B
def Txb.bn {st wr:Bool}(T:Txb bl) (h:Has X N sc st wr) (b:(JN sc x&&decide (x∈bl)&&decide (x≠"__name__"))=V):Bn X x:=by
 simp![Mo,decide_eq_true_eq]at b;show⟨h.gb b.1.1,T x b.1.2,b.2⟩
theorem Kp {P:Z Ml->Prop}(h:P []):∀us:Z Ml,us.length=0->P us
 |[],_=>h
theorem Jz {n:Nat}{P:Z Ml->Prop}(h:∀a us,us.length=n->P (a::us)):∀us:Z Ml,us.length=n+1->P us
 |a::us,e=>h a us (Nat.succ.inj e)
def Df (x:MJ) (st:NN):Prop:=∃f k,Fun K x x st f k/\mg x=U (.ref f)
section
variable{x:MJ}{st:NN}{f:MM}
abbrev HB (x q:MJ) (st:NN) (N:Z MJ) (n:Nat):Prop:=∀(kV doc pm:Ml) (an:G MM) (cdv ct:Ml) (us:Z Ml),us.length=(N.take n).length->bindArgs (PySem.W.fnOf x q (lF st) (bc st) (ar st) .none kV doc pm an cdv ct) ⟨us,[]⟩=pure ((N.take n).zip us)
abbrev HY (N:Z MJ) (st:NN) (k:Nat) (b1 b2:Bool) (Z7:Cx->Prop):Prop:=∀X:Cx,Has X N (ar st) b1 b2->X.fn=V->Room k X.A->Z7 X
def Fun.binds (F:Fun K x q st f k) (g:HB x q st N n):wt k (N.take n):=by
 let(oc,od,kV,doc,pm,an,cdv,ct,osl,rfl,_):=F.ex;show λs us j=>.of_eq (g kV doc pm an cdv ct us j)
def IW {k:Nat}(n:Nat) (N:Z MJ) (g:DEnv->G Out) (D:Df x st) (S:FnScope N (N.take n) (ar st):=by walk_at "sc") (v:HB x x st N n:=by walk_at "bi") (body:HY N st k Y Y (λX=>Lh X (bc st) g):=by walk_at "mk"):FnM (k+1) x (iD N.length (N.take n).length g):=by
 let(f,q,F,u):=D;show⟨f,u,F.kp,G4 F S (F.binds v) λA L p j y=>body (Lu N x (ar st) f q.code A L Y p) ⟨rfl,rfl,S.nd,rfl,λ_=>y,λz=>nomatch z⟩ rfl j⟩
def Li {k:Nat}(n:Nat) (N:Z MJ) (g:DEnv->G Out) (D:Df x st) (S:FnScope N (N.take n) (ar st):=by walk_at "sc") (v:HB x x st N n:=by walk_at "bi") (body:HY N st k V Y (λX=>Lh X (bc st) g):=by walk_at "mk"):L0 (k+1) x (rD N.length (N.take n).length g):=by
 let(f,q,F,u):=D;show⟨f,u,F.kp,CA F S (F.binds v) λA L p j y=>body (Lu N x (ar st) f q.code A L V p) ⟨rfl,rfl,S.nd,rfl,λ_=>y,λz=>nomatch z⟩ rfl j⟩
def Lz {k:Nat}(n:Nat) (N:Z MJ) (g:DEnv->G Out) (D:Df x st) (S:FnScope N (N.take n) (ar st):=by walk_at "sc") (v:HB x x st N n:=by walk_at "bi") (body:HY N st k V V (λX=>Lh X (bc st) g):=by walk_at "mk"):Kj (k+1) x (kB N.length (N.take n).length g):=by
 let(f,y,F,u):=D;show⟨f,u,F.kp,Ee F S (F.binds v) λA L j=>body (Lu N x (ar st) f y.code A L V B) ⟨rfl,rfl,S.nd,rfl,(λz=>nomatch z),λ_=>rfl⟩ rfl j⟩
def FnM.own (F:Kj k x (kB n j g)):FnM k x (zA n j g):=by
 let(f,y,v,u):=F.ex;show⟨f,y,v,HM u⟩
def Lq (c name q:MJ) (st:NN) (cd:G MM):Prop:=∃C f k,mg c=U (.ref C)/\findIn K (.ref C) "__getattribute__"=U (U (.builtin "object.__getattribute__"))/\findIn K (.ref C) "__getattr__"=U B/\findIn K (.ref C) name=U (U (.ref f))/\typeIn K (.ref f)=U (.type "function")/\Fun K name q st f k/\∀a,cd=U a->k.code=.ref a
section
variable{c name q:MJ}{cd:G MM}
def LH {k:Nat}(n:Nat) (N:Z MJ) (g:DEnv->G Out) (D:Lq c name q st cd) (S:FnScope N (N.take n) (ar st):=by walk_at "sc") (u:HB name q st N n:=by walk_at "bi") (body:HY N st k V Y (λX=>Lh X (bc st) g):=by walk_at "mk"):rM c name (k+1) (rD N.length (N.take n).length g):=by
 let(C,f,d,w,t,r,p,y,F,_):=D;show⟨C,f,w,t,r,p,y,F.kp,CA F S (F.binds u) λA L b j v=>body (Lu N q (ar st) f d.code A L V b) ⟨rfl,rfl,S.nd,rfl,λ_=>v,λz=>nomatch z⟩ rfl j⟩
def Jl {k:Nat}(n:Nat) (N:Z MJ) (g:DEnv->G Out) (D:Lq c name q st cd) (S:FnScope N (N.take n) (ar st):=by walk_at "sc") (u:HB name q st N n:=by walk_at "bi") (body:HY N st k V V (λX=>Lh X (bc st) g):=by walk_at "mk"):pL c name (k+1) (kB N.length (N.take n).length g):=by
 let(C,f,w,t,r,p,y,v,F,_):=D;show⟨C,f,t,r,p,y,v,F.kp,Ee F S (F.binds u) λA L j=>body (Lu N q (ar st) f w.code A L V B) ⟨rfl,rfl,S.nd,rfl,(λz=>nomatch z),λ_=>rfl⟩ rfl j⟩
def Ic (n:Nat) (N:Z MJ) (g:DEnv->G Out) (D:Lq c name q st (U a)) (y:∀L f cd,(envOfC q (ar st) L f cd).qual++"<lambda>"=j) (S:FnScope N (N.take n) (ar st)) (r:HB name q st N n) (body:∀X:Cx,Has X N (ar st) V Y->X.fn=V->Room k X.A->X.env.qual++"<lambda>"=j->X.env.code=.ref a->Lh X (bc st) g):rM c name (k+1) (rD N.length (N.take n).length g):=by
 let(C,f,u,l,m,b,d,w,F,p):=D;show⟨C,f,l,m,b,d,w,F.kp,CA F S (F.binds r) λA L i v t=>body (Lu N q (ar st) f u.code A L V i) ⟨rfl,rfl,S.nd,rfl,λ_=>t,λz=>nomatch z⟩ rfl v (y L f u.code) (p a rfl)⟩
def DfI (c q:MJ) (ns:Z MJ) (st:NN):Prop:=∃C f k,Cls c C ns/\findIn K (.ref C) "__init__"=U (U (.ref f))/\typeIn K (.ref f)=U (.type "function")/\Fun K "__init__" q st f k
def DfI.cls {ns:Z MJ}(D:DfI c q ns st):∃C,Cls c C ns:=by let(C,_,_,h,_):=D;show⟨C,h⟩
def IZ {k:Nat}{ns:Z MJ}(n:Nat) (N:Z MJ) (g:DEnv->G Out) (D:DfI c q ns st) (S:FnScope N (N.take n) (ar st):=by walk_at "sc") (u:HB "__init__" q st N n:=by walk_at "bi") (body:HY N st k V V (λX=>Lh X (bc st) g):=by walk_at "mk"):KC c ns (k+1) (kB N.length (N.take n).length g):=by
 let(C,f,r,p,y,v,F):=D;show⟨C,f,p,y,v,Ee F S (F.binds u) λA L j=>body (Lu N q (ar st) f r.code A L V B) ⟨rfl,rfl,S.nd,rfl,(λz=>nomatch z),λ_=>rfl⟩ rfl j⟩
end
end
def FnM.none {st:NN}(D:Df x st) (k:Nat):FnM k x λ_=>B:=by
 let(f,u,F,j):=D;show⟨f,j,F.kp,?_⟩
 intro A s M us ds J r fr J' g mo Tx rs T e
 trivial
def tF {st wr:Bool}{body:Expr}{fb:DEnv->G D}(h:Has X N sc st wr) (H:∀u:Cx,Has u N j st Y->Room k u.A->DE u Y body fb):∀(cl:Z (MJ×MM)) (f g:MM) (A:Nl) (L:MM) (v:Mp),Room k A->DE (Ki X.N y j cl f (.ref g) A L X.st v) Y body fb:=λcl f g A L v z=>H _ (h.lam cl f (.ref g) A L v) z
end L2
namespace L2
open PySem PySem.Spec PyProof.Rows PySem.W Md
def HS:G D->G D->G Bool:=b2 λx y=>match x,y with|.bl a,.bl b=>U (!(a==b))|_,_=>B
section
variable[Md] {X:Cx}{a b:Expr}{fa fb:DEnv->G D}{m m':Bool}{pos:Q6}
def FJ:IT X .NotEq (λx y=>match x,y with|.bl a,.bl b=>U (!(a==b))|_,_=>B):=λ{M O s x y v u c Q} I g j e k=>by
 dsimp only at e;split at e<;>ext e
 ext g;ext j;show SeqAt.RcNeAt.bool_bool _ _ P w _ _ (k _ I)
def Fz (j:DE X m a fa) (k:DE X m' b fb):DT X (.Compare a [.NotEq] [b] pos) (λO=>HS (fa O) (fb O)):=vr FJ j k
end
end L2
namespace K21
open PySem L2 Md
variable[Md]
abbrev rY:=rd Y
abbrev rU:Z MJ:=["row","cell_for","cell"]
abbrev i9 (O:DEnv):G D:=bd (rY 1 O) (rY 2 O) (rY 2 O)
abbrev lN (O:DEnv):G Out:=bN (fS (aa (Lm (rY 0 O) (U (.int 0))) (aa (m7 (au (ac (yR (Lm (rY 0 O) (U (.int 1)))) (bS Y [Y,V,Y] (ae 2) (λO=>U V) i9 O)))) (U [])))) O
def zC0:Z D->G (D×Bool):=iD 3 2 lN
abbrev pn:Z MJ:=["self","above","part","number","todo"]
abbrev fj (O:DEnv):G Out:=aq (bT 5 "Choice" "above" (λO=>rY 0 O) (br (λO=>rY 1 O)) O) (λO=>aq (bT 5 "Choice" "part" (λO=>rY 0 O) (br (λO=>rY 2 O)) O) (λO=>aq (bT 5 "Choice" "number" (λO=>rY 0 O) (br (λO=>rY 3 O)) O) (λO=>aq (bT 5 "Choice" "todo" (λO=>rY 0 O) (br (λO=>rZ 5 O (rY 4 O))) O) (λO=>aq (bT 5 "Choice" "untried" (λO=>rY 0 O) (bu 5 (λO=>GK (h8 5 O (af 5 "Part" "domains" O (rY 2 O)) (rY 3 O)))) O) (λO=>aq (bT 5 "Choice" "cell" (λO=>rY 0 O) (br (λO=>U .non)) O) (λO=>bT 5 "Choice" "result" (λO=>rY 0 O) (br (λO=>rY 2 O)) O))))))
def ba:Z D->DEnv->G (D×Bool×DEnv):=kB 5 5 fj
abbrev rQ:Z MJ:=["self","domains","masks"]
abbrev iC (O:DEnv):G Out:=aq (bT 3 "Part" "domains" (λO=>rY 0 O) (br (λO=>rY 1 O)) O) (λO=>bT 3 "Part" "masks" (λO=>rY 0 O) (br (λO=>rY 2 O)) O)
def aM:Z D->DEnv->G (D×Bool×DEnv):=kB 3 3 iC
abbrev gz:Z MJ:=["self","place","number","mask","held","itself","cell"]
abbrev a8 (O:DEnv):G D:=L7 (KZ (rY 6 O) (rY 5 O))
abbrev bV (O:DEnv):G D:=rY 6 O
abbrev cy (O:DEnv):G Out:=aq (cC 4 (ix (af 7 "Search" "holding" O (rY 0 O)) (rY 1 O)) O) (λO=>aq (cC 5 (fS (aa (U (.str "blank")) (aa (rY 2 O) (U [])))) O) (λO=>j4 (qn (au (ac (ia (rY 4 O)) (bS Y [Y,Y,Y,V,V,Y,Y] (ae 6) (λO=>jD (tx (ix (rY 4 O) (rY 6 O)) (rY 3 O))) bV O))) (BQ 6 [Y,Y,Y,Y,Y,V,Y] a8 O)) O))
def aR:Z D->DEnv->G (D×Bool):=rD 7 4 cy
abbrev mU:Z MJ:=["self","row","spot"]
abbrev fN (O:DEnv):G Out:=GC 3 (λO=>af 3 "Search" "weights" O (rY 0 O)) (λO=>Lm (rY 2 O) (U (.int 1))) (λO=>U (.int 1)) O
abbrev ii (O:DEnv):G Out:=ac (aV (Lm (af 3 "Search" "spots" O (rY 0 O)) (rY 1 O))) λds=>av (λd O=>ac ((ae 2) d O) fN) ds O
def cm:Z D->DEnv->G (D×Bool×DEnv):=kB 3 2 ii
abbrev zq:Z MJ:=["held","cells","mask","cell"]
abbrev nt (O:DEnv):G Out:=cC 2 (L5 (rY 2 O) (bd (rY 0 O) (rY 3 O) (U (.int 0)))) O
abbrev uD (O:DEnv):G Out:=aq (cC 2 (U (.int 0)) O) (λO=>aq (ac (aV (rY 1 O)) λds=>av (λd O=>ac ((ae 3) d O) nt) ds O) (λO=>bN (rY 2 O) O))
def zC4:Z D->G (D×Bool):=iD 4 2 uD
abbrev jW:Z MJ:=["self","part","row","spots","mask","held","number","narrowed","cells","place","cell"]
abbrev dL (O:DEnv):G D:=fS (aa (ix (af 11 "Search" "holding" O (rY 0 O)) (rY 9 O)) (aa (rY 6 O) (U [])))
abbrev dN (O:DEnv):G Out:=cC 4 (tx (rY 4 O) (JT (ac (aa (rY 5 O) (aa (h8 11 O (af 11 "Part" "domains" O (rY 1 O)) (rY 6 O)) (U []))) zC4))) O
abbrev dM (O:DEnv):G D:=rY 10 O
abbrev dG (O:DEnv):G Out:=JZ (cI JJ (cS (rY 8 O)) (cS (h8 11 O (af 11 "Part" "domains" O (rY 1 O)) (rY 6 O)))) (aq (putL 11 (λO=>af 11 "Part" "domains" O (rY 1 O)) (λO=>rY 6 O) (λO=>rY 8 O) O) (λO=>rH 7 (rY 6 O) O)) (aU O)
abbrev bv (O:DEnv):G Out:=aq (gE 8 (au (ac (aV (h8 11 O (af 11 "Part" "domains" O (rY 1 O)) (rY 6 O))) (bS Y [Y,Y,Y,Y,V,V,Y,Y,Y,Y,Y] (ae 10) (λO=>jD (tx (bd (rY 5 O) (rY 10 O) (U (.int 0))) (rY 4 O))) dM O))) O) (λO=>dG (mG 8 O))
abbrev dB (O:DEnv):G Out:=bN (rY 7 O) O
abbrev dC (O:DEnv):G Out:=aq (cC 4 (h8 11 O (af 11 "Part" "masks" O (rY 1 O)) (rY 2 O)) O) (λO=>aq (ac (aV (rY 3 O)) λds=>av (λd O=>ac ((aW (ah (ae 5) (ah (ae 6) (aY)))) d O) dN) ds O) (λO=>aq (JZ (KP (rY 4 O) (U (.int 0))) (bN (U .non) O) (aU O)) (λO=>aq (putL 11 (λO=>af 11 "Part" "masks" O (rY 1 O)) (λO=>rY 2 O) (λO=>rY 4 O) O) (λO=>aq (gE 7 (eU (U [])) O) (λO=>aq (ac (aV (rY 3 O)) λds=>av (λd O=>ac ((aW (ah (ae 5) (ah (ae 6) (aY)))) d O) bv) ds O) (λO=>dB (mG 7 O)))))))
abbrev cJ (O:DEnv):G Out:=aq (gE 3 (au (ac (aV (Lm (af 11 "Search" "spots" O (rY 0 O)) (rY 2 O))) (bS Y [V,V,Y,Y,Y,Y,Y,Y,Y,Y,Y] (aW (ah (ae 9) (ah (ae 6) (aY)))) (λO=>pw (rY 6 O) (L1 11 O (af 11 "Part" "domains" O (rY 1 O)))) dL O))) O) (λO=>dC (mG 3 O))
def aX:Z D->DEnv->G (D×Bool×DEnv):=kB 11 3 cJ
abbrev lI:Z MJ:=["self","part","waiting","row","narrowed","number","near"]
abbrev cb (O:DEnv):G Bool:=jD (L1 7 O (rY 2 O))
abbrev jn (O:DEnv):G D:=rY 6 O
abbrev bZ (O:DEnv):G Out:=DR 7 (br (λO=>rY 2 O)) (λO=>au (ac (xr 7 O (h8 7 O (af 7 "Search" "rows_of" O (rY 0 O)) (rY 5 O))) (bS Y [Y,Y,V,V,Y,Y,Y] (ae 6) (λO=>jM (KZ (rY 6 O) (rY 3 O)) (eQ (rY 6 O) (L1 7 O (rY 2 O)))) jn O))) O
abbrev bC (O:DEnv):G Out:=aq (fB 3 (uZ 7 (λO=>rY 2 O) O)) (λO=>aq (fB 4 (dy 7 "Search" "revised" aX (λO=>rY 0 O) (bX (λO=>aa (rY 1 O) (aa (rY 3 O) (U [])))) O)) (λO=>aq (JZ (o7 (rY 4 O)) (aq (GG (dy 7 "Search" "blame" cm (λO=>rY 0 O) (bX (λO=>aa (rY 3 O) (U []))) O)) (λO=>bN (U (.bl Y)) O)) (aU O)) (λO=>ac (aV (rY 4 O)) λds=>av (λd O=>ac ((ae 5) d O) bZ) ds O)))
abbrev fV (O:DEnv):G Out:=aq (cA cb bC 1000 O) (λO=>bN (U (.bl V)) O)
def aQ:Z D->DEnv->G (D×Bool×DEnv):=kB 7 3 fV
abbrev iE:Z MJ:=["self","part","row","spots","place","number"]
abbrev bB (O:DEnv):G Out:=JZ (a7 (pw (rY 5 O) (L1 6 O (af 6 "Part" "domains" O (rY 1 O))))) (putL 6 (λO=>af 6 "Part" "domains" O (rY 1 O)) (λO=>rY 5 O) (λO=>b7 6 "Search" "first_domain" aR (λO=>rY 0 O) (λO=>aa (rY 4 O) (aa (rY 5 O) (aa (h8 6 O (af 6 "Part" "masks" O (rY 1 O)) (rY 2 O)) (U [])))) O) O) (aU O)
abbrev cB (O:DEnv):G Out:=ac (aV (rY 3 O)) λds=>av (λd O=>ac ((aW (ah (ae 4) (ah (ae 5) (aY)))) d O) bB) ds O
abbrev a9 (O:DEnv):G Out:=aq (JZ (J4 (U (.int 0)) (af 6 "Search" "first_masks" O (rY 0 O))) (bN (U .non) O) (aU O)) (λO=>aq (fB 1 (rE 6 "Part" aM (cP (bu 6 (λO=>U (.dK [] []))) (cP (bu 6 (λO=>lR (af 6 "Search" "first_masks" O (rY 0 O)))) ((λO=>U ([],O))))) O)) (λO=>aq (ac (oU (af 6 "Search" "spots" O (rY 0 O))) λds=>av (λd O=>ac ((aW (ah (ae 2) (ah (ae 3) (aY)))) d O) cB) ds O) (λO=>DV (ED (dy 6 "Search" "narrow" aQ (λO=>rY 0 O) (cP (br (λO=>rY 1 O)) (cP (bu 6 (λO=>pN 6 O (af 6 "Part" "masks" O (rY 1 O)))) ((λO=>U ([],O)))))) (λO=>rY 1 O) (λO=>U .non) O))))
def az:Z D->DEnv->G (D×Bool×DEnv):=kB 6 1 a9
abbrev oE:Z MJ:=["row","cells","k"]
abbrev c6 (O:DEnv):G D:=fS (aa (rY 2 O) (aa (Lm (Lm (rY 1 O) (rY 2 O)) (U (.int 1))) (U [])))
abbrev iQ (O:DEnv):G Out:=aq (cC 1 (Lm (rY 0 O) (U (.int 1))) O) (λO=>j4 (au (ac (rI (cS (rY 1 O))) (bS Y [Y,V,Y] (ae 2) (λO=>jM (KP (Lm (Lm (rY 1 O) (rY 2 O)) (U (.int 0))) (U (.str "blank"))) (KP (vz (rY 1 O) (Lm (rY 1 O) (rY 2 O))) (rY 2 O))) c6 O))) O)
def zB4:Z D->G (D×Bool):=iD 3 1 iQ
abbrev Dh:Z MJ:=["row","cells","found","place","cell","ahead"]
abbrev pY (O:DEnv):G D:=fS (aa (rY 5 O) (aa (rY 3 O) (U [])))
abbrev qD (O:DEnv):G Out:=aq (JZ (KP (Lm (rY 4 O) (U (.int 0))) (U (.str "name"))) (rH 2 (fS (aa (rY 3 O) (aa (rY 4 O) (U [])))) O) (aU O)) (λO=>Eb 2 (au (ac (rI (rY 3 O)) (bS Y [Y,V,Y,V,V,Y] (ae 5) (λO=>KP (Lm (rY 1 O) (rY 5 O)) (rY 4 O)) pY O))) O)
abbrev ym (O:DEnv):G Out:=aq (cC 1 (Lm (rY 0 O) (U (.int 1))) O) (λO=>aq (gE 2 (eU (aa (fS (aa (Lm (rY 0 O) (U (.int 0))) (aa (cS (rY 1 O)) (U [])))) (U []))) O) (λO=>aq (ac (tu (rY 1 O)) λds=>av (λd O=>ac ((aW (ah (ae 3) (ah (ae 4) (aY)))) d O) qD) ds O) (λO=>j4 (dh 2 O) O)))
def zC3:Z D->G (D×Bool):=iD 6 1 ym
abbrev oA:Z MJ:=["one","other","marked","number","row","mark","found","mask"]
abbrev gh (O:DEnv):G Out:=nS 2 (rY 5 O) (L5 (bd (rd V 2 O) (rd V 5 O) (U (.int 0))) (GF (U (.int 1)) (rY 3 O))) O
abbrev f9 (O:DEnv):G Out:=ac (aV (Km (ac (aa (rY 4 O) (U [])) zC3))) λds=>av (λd O=>ac ((ae 5) d O) gh) ds O
abbrev gx (O:DEnv):G Out:=cC 7 (tx (rY 7 O) (bd (rY 2 O) (rY 5 O) (U (.int 0)))) O
abbrev fX (O:DEnv):G Out:=aq (cC 7 (GM (GF (U (.int 1)) (cS (rY 1 O))) (U (.int 1))) O) (λO=>aq (ac (aV (Km (ac (aa (rY 4 O) (U [])) zC3))) λds=>av (λd O=>ac ((ae 5) d O) gx) ds O) (λO=>rH 6 (rY 7 O) O))
abbrev kQ (O:DEnv):G Out:=aq (gE 6 (eU (U [])) O) (λO=>aq (ac (aV (rY 0 O)) λds=>av (λd O=>ac ((ae 4) d O) fX) ds O) (λO=>j4 (dh 6 O) O))
abbrev iZ (O:DEnv):G Out:=aq (gE 2 (U (.dD [] [])) O) (λO=>aq (ac (oU (rY 1 O)) λds=>av (λd O=>ac ((aW (ah (ae 3) (ah (ae 4) (aY)))) d O) f9) ds O) (λO=>kQ (mG 2 O)))
def zB9:Z D->G (D×Bool):=iD 8 2 iZ
abbrev mR:Z MJ:=["rows","holding","number","row","place","cell","held"]
abbrev cM (O:DEnv):G Out:=aq (fB 6 (Lp 7 (λO=>rY 1 O) (λO=>rY 4 O) (λO=>U (.dD [] [])) O)) (λO=>putL 7 (λO=>rY 6 O) (λO=>rY 5 O) (λO=>L5 (bd (L1 7 O (rY 6 O)) (rd V 5 O) (U (.int 0))) (GF (U (.int 1)) (rY 2 O))) O)
abbrev fF (O:DEnv):G Out:=ac (tu (Lm (rY 3 O) (U (.int 1)))) λds=>av (λd O=>ac ((aW (ah (ae 4) (ah (ae 5) (aY)))) d O) cM) ds O
abbrev jX (O:DEnv):G Out:=bN (rY 1 O) O
abbrev dU (O:DEnv):G Out:=aq (fB 1 (bu 7 (λO=>U (.dK [] [])) O)) (λO=>aq (ac (oU (rY 0 O)) λds=>av (λd O=>ac ((aW (ah (ae 2) (ah (ae 3) (aY)))) d O) fF) ds O) (λO=>LQ 7 1 jX O))
def zB6:Z D->G (D×Bool):=zA 7 1 dU
abbrev jl:Z MJ:=["rows","rows_with","row","cell"]
abbrev dt (O:DEnv):G Out:=yI 4 (Lp 4 (λO=>rY 1 O) (λO=>rY 3 O) (λO=>eU (U []))) (br (λO=>rY 2 O)) O
abbrev cX (O:DEnv):G Out:=ac (yR (Lm (rY 2 O) (U (.int 1)))) λds=>av (λd O=>ac ((ae 3) d O) dt) ds O
abbrev iH (O:DEnv):G Out:=bN (rY 1 O) O
abbrev ci (O:DEnv):G Out:=aq (fB 1 (bu 4 (λO=>U (.dD [] [])) O)) (λO=>aq (ac (aV (rY 0 O)) λds=>av (λd O=>ac ((ae 2) d O) cX) ds O) (λO=>LQ 4 1 iH O))
def zB0:Z D->G (D×Bool):=zA 4 1 ci
abbrev pC:Z MJ:=["self","one","other","place","spots","spot","row","number","rows"]
abbrev lC (O:DEnv):G D:=fS (aa (rY 6 O) (aa (U (.bl V)) (U [])))
abbrev gN (O:DEnv):G D:=Km (ac (aa (rY 6 O) (U [])) zB4)
abbrev c0 (O:DEnv):G Out:=yI 9 (Lp 9 (λO=>af 9 "Search" "rows_of" O (rY 0 O)) (λO=>Lm (rY 5 O) (U (.int 1))) (λO=>eU (U []))) (br (λO=>rY 3 O)) O
abbrev gT (O:DEnv):G Out:=ac (aV (rY 4 O)) λds=>av (λd O=>ac ((ae 5) d O) c0) ds O
abbrev fY (O:DEnv):G D:=fS (aa (rY 7 O) (aa (cS (L1 9 O (rY 8 O))) (U [])))
abbrev eY (O:DEnv):G Out:=aq (bT 9 "Search" "others" (λO=>rY 0 O) (br (λO=>m8 (au (ac (aV (rY 2 O)) (bS Y [Y,Y,Y,Y,Y,Y,Y,Y,Y] (ae 6) (λO=>U V) lC O))))) O) (λO=>aq (bT 9 "Search" "rows_with" (λO=>rY 0 O) (br (λO=>JT (ac (aa (rY 2 O) (U [])) zB0))) O) (λO=>aq (bT 9 "Search" "holding" (λO=>rY 0 O) (br (λO=>JT (ac (aa (rY 2 O) (U [])) zB6))) O) (λO=>aq (bT 9 "Search" "spots" (λO=>rY 0 O) (br (λO=>au (ac (aV (rY 1 O)) (bS Y [Y,Y,Y,Y,Y,Y,Y,Y,Y] (ae 6) (λO=>U V) gN O)))) O) (λO=>aq (bT 9 "Search" "first_masks" (λO=>rY 0 O) (br (λO=>Km (ac (aa (rY 1 O) (aa (rY 2 O) (U []))) zB9))) O) (λO=>aq (bT 9 "Search" "rows_of" (λO=>rY 0 O) (bu 9 (λO=>U (.dK [] []))) O) (λO=>aq (ac (oU (af 9 "Search" "spots" O (rY 0 O))) λds=>av (λd O=>ac ((aW (ah (ae 3) (ah (ae 4) (aY)))) d O) gT) ds O) (λO=>bT 9 "Search" "weights" (λO=>rY 0 O) (bu 9 (λO=>ic (au (ac (q8 9 O (af 9 "Search" "rows_of" O (rY 0 O))) (bS Y [Y,Y,Y,Y,Y,Y,Y,Y,Y] (aW (ah (ae 7) (ah (ae 8) (aY)))) (λO=>U V) fY O))))) O)))))))
def bW:Z D->DEnv->G (D×Bool×DEnv):=kB 9 3 eY
abbrev i1:Z MJ:=["self","part","number"]
abbrev bG (O:DEnv):G D:=mA (vQ (cS (h8 3 O (af 3 "Part" "domains" O (rY 1 O)) (rY 2 O))) (U (.int 1000))) (h8 3 O (af 3 "Search" "weights" O (rY 0 O)) (rY 2 O))
abbrev dH (O:DEnv):G Out:=bN (yE (pN 3 O (af 3 "Part" "domains" O (rY 1 O))) (BQ 2 [V,V,Y] bG O)) O
def aH:Z D->DEnv->G (D×Bool):=rD 3 2 dH
abbrev mM:Z MJ:=["number","numbers_of","keys_of","seen","cluster","waiting","keys","key","unseen","near"]
abbrev cL (O:DEnv):G Bool:=jD (L1 10 O (rY 5 O))
abbrev fM (O:DEnv):G D:=rY 9 O
abbrev cH (O:DEnv):G D:=fS (aa (rY 9 O) (aa (U (.bl V)) (U [])))
abbrev j7 (O:DEnv):G Out:=aq (Ey 10 (λO=>rY 3 O) (λO=>ic (au (ac (aV (rY 8 O)) (bS Y [Y,Y,Y,Y,Y,Y,Y,Y,Y,Y] (ae 9) (λO=>U V) cH O)))) O) (λO=>DR 10 (br (λO=>rY 5 O)) (λO=>rY 8 O) O)
abbrev cK (O:DEnv):G Out:=JZ (a7 (pw (rY 7 O) (rd V 4 O))) (aq (nS 4 (rY 7 O) (U (.bl V)) O) (λO=>aq (gE 8 (au (ac (aV (ix (rY 1 O) (rY 7 O))) (bS Y [Y,Y,Y,V,Y,Y,Y,Y,Y,Y] (ae 9) (λO=>a7 (pw (rY 9 O) (L1 10 O (rY 3 O)))) fM O))) O) (λO=>j7 (mG 8 O)))) (aU O)
abbrev fH (O:DEnv):G Out:=aq (fB 6 (EC (λO=>rY 2 O) (uK 10 (λO=>rY 5 O)) O)) (λO=>ac (aV (rY 6 O)) λds=>av (λd O=>ac ((ae 7) d O) cK) ds O)
abbrev j6 (O:DEnv):G Out:=bN (fG (rY 4 O)) O
abbrev ik (O:DEnv):G Out:=aq (gE 4 (U (.dK [] [])) O) (λO=>aq (fB 5 (bu 10 (λO=>eU (aa (rY 0 O) (U []))) O)) (λO=>aq (cA cL fH 1000 O) (λO=>j6 (mG 4 O))))
def zA6:Z D->DEnv->G (D×Bool×DEnv):=kB 10 4 ik
abbrev u4:Z MJ:=["numbers_of","keys_of","key","numbers","number","found","seen"]
abbrev jG (O:DEnv):G Out:=yI 7 (Lp 7 (λO=>rY 1 O) (λO=>rY 4 O) (λO=>eU (U []))) (br (λO=>rY 2 O)) O
abbrev gf (O:DEnv):G Out:=ac (aV (rY 3 O)) λds=>av (λd O=>ac ((ae 4) d O) jG) ds O
abbrev jS (O:DEnv):G Out:=JZ (a7 (pw (rY 4 O) (L1 7 O (rY 6 O)))) (aq (putL 7 (λO=>rY 6 O) (λO=>rY 4 O) (λO=>U (.bl V)) O) (λO=>Es 5 (mO 7 zA6 (bX (λO=>aa (rY 4 O) (aa (rY 0 O) (aa (rY 1 O) (aa (rY 6 O) (U []))))))) O)) (aU O)
abbrev qj (O:DEnv):G Out:=aq (gE 5 (eU (U [])) O) (λO=>aq (fB 6 (bu 7 (λO=>U (.dK [] [])) O)) (λO=>aq (ac (ia (rY 1 O)) λds=>av (λd O=>ac ((ae 4) d O) jS) ds O) (λO=>j4 (dh 5 O) O)))
abbrev jw (O:DEnv):G Out:=aq (fB 1 (bu 7 (λO=>U (.dK [] [])) O)) (λO=>aq (ac (jE (rY 0 O)) λds=>av (λd O=>ac ((aW (ah (ae 2) (ah (ae 3) (aY)))) d O) gf) ds O) (λO=>LQ 7 1 qj O))
def zC2:Z D->G (D×Bool):=zA 7 1 jw
abbrev BO:Z MJ:=["part","rows","loose","domains","row","number"]
abbrev qN (O:DEnv):G Out:=nS 3 (rY 5 O) (h8 6 O (af 6 "Part" "domains" O (rY 0 O)) (rY 5 O)) O
abbrev qK (O:DEnv):G Out:=ac (aV (ix (rY 2 O) (rY 4 O))) λds=>av (λd O=>ac ((ae 5) d O) qN) ds O
abbrev qH (O:DEnv):G D:=fS (aa (rY 4 O) (aa (h8 6 O (af 6 "Part" "masks" O (rY 0 O)) (rY 4 O)) (U [])))
abbrev xx (O:DEnv):G Out:=bN (Gy "Part" aM (λO=>aa (rY 3 O) (aa (ic (au (ac (aV (rY 1 O)) (bS Y [V,Y,Y,Y,Y,Y] (ae 4) (λO=>U V) qH O)))) (U []))) O) O
abbrev yr (O:DEnv):G Out:=aq (gE 3 (U (.dK [] [])) O) (λO=>aq (ac (aV (rY 1 O)) λds=>av (λd O=>ac ((ae 4) d O) qK) ds O) (λO=>xx (mG 3 O)))
def zC6:Z D->DEnv->G (D×Bool):=rD 6 3 yr
abbrev lL:Z MJ:=["self","part","loose","row","numbers","rows","spot","number"]
abbrev eK (O:DEnv):G D:=Lm (rY 6 O) (U (.int 1))
abbrev eD (O:DEnv):G D:=rY 7 O
abbrev eR (O:DEnv):G Out:=nS 2 (rY 3 O) (au (ac (aV (rY 4 O)) (bS Y [Y,V,Y,Y,Y,Y,Y,Y] (ae 7) (λO=>cI JF (cS (bd (L1 8 O (af 8 "Part" "domains" O (rY 1 O))) (rd V 7 O) (eU (U [])))) (U (.int 1))) eD O))) O
abbrev eE (O:DEnv):G Out:=aq (gE 4 (au (ac (aV (Lm (af 8 "Search" "spots" O (rY 0 O)) (rY 3 O))) (bS Y [Y,Y,Y,Y,Y,Y,Y,Y] (ae 6) (λO=>U V) eK O))) O) (λO=>eR (mG 4 O))
abbrev jp (O:DEnv):G D:=JT (pM 8 zC6 (λO=>aa (rY 1 O) (aa (rY 5 O) (aa (rY 2 O) (U [])))) O)
abbrev jx (O:DEnv):G Out:=j4 (au (ac (aV (JT (ac (aa (rY 2 O) (U [])) zC2))) (bS Y [Y,V,V,Y,Y,Y,Y,Y] (ae 5) (λO=>U V) jp O))) O
abbrev gO (O:DEnv):G Out:=aq (gE 2 (U (.dK [] [])) O) (λO=>aq (Dl (λO=>EG 8 O (af 8 "Part" "masks" O (rY 1 O))) (ae 3) eE O) (λO=>jx (mG 2 O)))
def aD:Z D->DEnv->G (D×Bool):=rD 8 2 gO
abbrev i3:Z MJ:=["self","part","one","other","row","mask","place","number","held"]
abbrev cN (O:DEnv):G Out:=aq (cC 8 (ix (af 9 "Search" "holding" O (rY 0 O)) (rY 6 O)) O) (λO=>JZ (HS (L7 (KP (tx (bd (rY 8 O) (rY 2 O) (U (.int 0))) (rY 5 O)) (U (.int 0)))) (L7 (KP (tx (bd (rY 8 O) (rY 3 O) (U (.int 0))) (rY 5 O)) (U (.int 0))))) (bN (U (.bl Y)) O) (aU O))
abbrev bF (O:DEnv):G Out:=ac (aV (Lm (af 9 "Search" "spots" O (rY 0 O)) (rY 4 O))) λds=>av (λd O=>ac ((aW (ah (ae 6) (ah (ae 7) (aY)))) d O) cN) ds O
abbrev dQ (O:DEnv):G Out:=aq (Dl (λO=>q8 9 O (af 9 "Part" "masks" O (rY 1 O))) (aW (ah (ae 4) (ah (ae 5) (aY)))) bF O) (λO=>bN (U (.bl V)) O)
def aS:Z D->DEnv->G (D×Bool):=rD 9 4 dQ
abbrev dw:Z MJ:=["self","one","other","exchange","row"]
abbrev aT (O:DEnv):G Out:=JZ (a7 (pw (JT (ac (aa (rY 4 O) (aa (rY 3 O) (U []))) zC0)) (af 5 "Search" "others" O (rY 0 O)))) (bN (U (.bl Y)) O) (aU O)
abbrev cQ (O:DEnv):G Out:=aq (ac (aV (tv (ix (af 5 "Search" "rows_with" O (rY 0 O)) (rY 1 O)) (ix (af 5 "Search" "rows_with" O (rY 0 O)) (rY 2 O)))) λds=>av (λd O=>ac ((ae 4) d O) aT) ds O) (λO=>bN (U (.bl V)) O)
abbrev bE (O:DEnv):G Out:=aq (gE 3 (wB (rY 1 O) (rY 2 O)) O) (λO=>cQ (mG 3 O))
def ay:Z D->DEnv->G (D×Bool):=rD 5 3 bE
abbrev iV:Z MJ:=["self","part","one","other"]
abbrev dJ (O:DEnv):G Out:=bN (uA (L7 (KP (Lm (rY 3 O) (U (.int 0))) (U (.str "blank")))) (uA (b7 4 "Search" "can_change_places" ay (λO=>rY 0 O) (λO=>aa (rY 2 O) (aa (rY 3 O) (U []))) O) (b7 4 "Search" "are_alike" aS (λO=>rY 0 O) (λO=>aa (rY 1 O) (aa (rY 2 O) (aa (rY 3 O) (U [])))) O))) O
def aC:Z D->DEnv->G (D×Bool):=rD 4 4 dJ
abbrev iA:Z MJ:=["self","choice","failed","cell"]
abbrev bw (O:DEnv):G D:=rY 3 O
abbrev di (O:DEnv):G Out:=aq (cC 2 (af 4 "Choice" "cell" O (rY 1 O)) O) (λO=>JZ (jM (a7 (o7 (rY 2 O))) (KP (Lm (rY 2 O) (U (.int 0))) (U (.str "blank")))) (bT 4 "Choice" "untried" (λO=>rY 1 O) (bu 4 (λO=>au (ac (xr 4 O (af 4 "Choice" "untried" O (rY 1 O))) (bS Y [V,V,V,Y] (ae 3) (λO=>a7 (Ln (b7 4 "Search" "are_twins" aC (λO=>rY 0 O) (λO=>aa (af 4 "Choice" "part" O (rY 1 O)) (aa (rY 2 O) (aa (rY 3 O) (U [])))) O))) bw O)))) O) (aU O))
def aN:Z D->DEnv->G (D×Bool×DEnv):=kB 4 2 di
abbrev mE:Z MJ:=["self","part","number","cell","result"]
abbrev cq (O:DEnv):G Out:=aq (fB 4 (rE 5 "Part" aM (cP (bu 5 (λO=>m6 5 O (af 5 "Part" "domains" O (rY 1 O)))) (cP (bu 5 (λO=>m6 5 O (af 5 "Part" "masks" O (rY 1 O)))) ((λO=>U ([],O))))) O)) (λO=>aq (putL 5 (λO=>af 5 "Part" "domains" O (rY 4 O)) (λO=>rY 2 O) (λO=>eU (aa (rY 3 O) (U []))) O) (λO=>DV (ED (dy 5 "Search" "narrow" aQ (λO=>rY 0 O) (cP (br (λO=>rY 4 O)) (cP (bu 5 (λO=>rZ 5 O (h8 5 O (af 5 "Search" "rows_of" O (rY 0 O)) (rY 2 O)))) ((λO=>U ([],O)))))) (λO=>rY 4 O) (λO=>U .non) O)))
def aO:Z D->DEnv->G (D×Bool×DEnv):=kB 5 4 cq
abbrev fQ:Z MJ:=["self","trail","choice"]
abbrev a6 (O:DEnv):G Bool:=jD (L1 3 O (rY 1 O))
abbrev aw (O:DEnv):G Out:=aq (cC 2 (Ew 3 O (rY 1 O) (yQ (U (.int 1)))) O) (λO=>aq (GG (dy 3 "Search" "drop_twins" aN (λO=>rY 0 O) (bX (λO=>aa (rY 2 O) (U []))) O)) (λO=>JZ (jD (L1 3 O (af 3 "Choice" "untried" O (rY 2 O)))) (aq (bT 3 "Choice" "cell" (λO=>rY 2 O) (uK 3 (λO=>af 3 "Choice" "untried" O (rY 2 O))) O) (λO=>aq (bT 3 "Choice" "result" (λO=>rY 2 O) (dy 3 "Search" "tried" aO (λO=>rY 0 O) (bX (λO=>aa (af 3 "Choice" "part" O (rY 2 O)) (aa (af 3 "Choice" "number" O (rY 2 O)) (aa (af 3 "Choice" "cell" O (rY 2 O)) (U [])))))) O) (λO=>JZ (a7 (o7 (af 3 "Choice" "result" O (rY 2 O)))) (bN (rY 1 O) O) (aU O)))) (fB 1 (bu 3 (λO=>AG 3 O (rY 1 O) (U B) (bA (gX (af 3 "Choice" "above" O (rY 2 O)) (U (.int 1))))) O))))
abbrev bt (O:DEnv):G Out:=aq (cA a6 aw 1048576 O) (λO=>bN (rY 1 O) O)
def aB:Z D->DEnv->G (D×Bool×DEnv):=kB 3 2 bt
abbrev wc:Z MJ:=["first","trail","domains","choice","number"]
abbrev lJ (O:DEnv):G Out:=EY 5 2 (λO=>af 5 "Part" "domains" O (af 5 "Choice" "result" O (rY 3 O))) O
abbrev lf (O:DEnv):G D:=fS (aa (rY 4 O) (aa (Lm (ix (rY 2 O) (rY 4 O)) (U (.int 0))) (U [])))
abbrev sv (O:DEnv):G Out:=j4 (au (ac (aV (xn .it (rY 2 O))) (bS Y [Y,Y,V,Y,Y] (ae 4) (λO=>U V) lf O))) O
abbrev qT (O:DEnv):G Out:=aq (gE 2 (m6 5 O (af 5 "Part" "domains" O (rY 0 O))) O) (λO=>aq (ac (aV (rY 1 O)) λds=>av (λd O=>ac ((ae 3) d O) lJ) ds O) (λO=>sv (mG 2 O)))
def zC5:Z D->DEnv->G (D×Bool):=rD 5 2 qT
abbrev qI:Z MJ:=["one","other","search","first","trail","todo","taken","latest","part"]
abbrev bH (O:DEnv):G D:=fS (aa (yQ (U (.int 1))) (aa (rY 8 O) (U [])))
abbrev bJ (O:DEnv):G Bool:=jD (L1 9 O (rY 5 O))
abbrev d6 (O:DEnv):G D:=fS (aa (GM (cS (L1 9 O (rY 4 O))) (U (.int 1))) (aa (rY 8 O) (U [])))
abbrev bp (O:DEnv):G Out:=aq (fB 6 (uK 9 (λO=>rY 5 O) O)) (λO=>aq (yI 9 (br (λO=>rY 4 O)) (rE 9 "Choice" ba (bX (λO=>aa (Lm (rY 6 O) (U (.int 0))) (aa (Lm (rY 6 O) (U (.int 1))) (aa (b7 9 "Search" "narrowest" aH (λO=>rY 2 O) (λO=>aa (Lm (rY 6 O) (U (.int 1))) (U [])) O) (aa (rY 5 O) (U []))))))) O) (λO=>aq (fB 4 (dy 9 "Search" "with_next_try" aB (λO=>rY 2 O) (bX (λO=>aa (rY 4 O) (U []))) O)) (λO=>aq (JZ (a7 (jD (L1 9 O (rY 4 O)))) (bN (U .non) O) (aU O)) (λO=>aq (cC 7 (Ew 9 O (rY 4 O) (yQ (U (.int 1)))) O) (λO=>fB 5 (bu 9 (λO=>tv (af 9 "Choice" "todo" O (rY 7 O)) (au (ac (aV (b7 9 "Search" "parted" aD (λO=>rY 2 O) (λO=>aa (af 9 "Choice" "result" O (rY 7 O)) (U [])) O)) (bS Y [Y,Y,Y,Y,V,Y,Y,Y,Y] (ae 8) (λO=>U V) d6 O)))) O))))))
abbrev hV (O:DEnv):G Out:=j4 (Km (pM 9 zC5 (λO=>aa (rY 3 O) (aa (rY 4 O) (U []))) O)) O
abbrev d9 (O:DEnv):G Out:=aq (cA bJ bp 1048576 O) (λO=>LQ 9 4 hV O)
abbrev gi (O:DEnv):G Out:=aq (fB 2 (rE 9 "Search" bW (bX (λO=>aa (rY 0 O) (aa (rY 1 O) (U [])))) O)) (λO=>aq (fB 3 (dy 9 "Search" "first_part" az (λO=>rY 2 O) (bX (λO=>U [])) O)) (λO=>aq (JZ (o7 (rY 3 O)) (bN (U .non) O) (aU O)) (λO=>aq (fB 4 (bu 9 (λO=>eU (U [])) O)) (λO=>aq (gE 5 (au (ac (aV (b7 9 "Search" "parted" aD (λO=>rY 2 O) (λO=>aa (rY 3 O) (U [])) O)) (bS Y [Y,Y,Y,Y,Y,Y,Y,Y,Y] (ae 8) (λO=>U V) bH O))) O) (λO=>Jh 9 5 d9 O)))))
def zB8:Z D->G (D×Bool):=zA 9 2 gi
abbrev H5:Z MJ:=["one","other","moves"]
abbrev EW (O:DEnv):G Out:=aq (cC 2 (JT (ac (aa (rY 0 O) (aa (rY 1 O) (U []))) zB8)) O) (λO=>bN (Kl (o7 (rY 2 O)) (fS (aa (U (.str "never")) (U []))) (fS (aa (U (.str "led")) (aa (rY 2 O) (U []))))) O)
def zD0:Z D->G (D×Bool):=iD 3 2 EW
abbrev qi:Z MJ:=["_law_found"]
abbrev jQ (O:DEnv):G Out:=bN (uA (fO "int" (rY 0 O)) (L7 (a7 (Ln (fO "bool" (rY 0 O)))))) O
def zB3:Z D->G (D×Bool):=iD 1 1 jQ
abbrev qr:Z MJ:=["_law_cell","_law_k","_law_one"]
abbrev gK (O:DEnv):G Out:=aq (cC 2 (fP (vQ (gX (gX (fP (rY 0 O) (U (.int 2147483647))) (vQ (vQ (U (.int 40503)) (rY 1 O)) (rY 1 O))) (vQ (U (.int 17)) (rY 1 O))) (U (.int 48271))) (U (.int 2147483647))) O) (λO=>bN (fP (vQ (rY 2 O) (gX (gX (fP (rY 2 O) (U (.int 65537))) (vQ (U (.int 3)) (rY 1 O))) (U (.int 1)))) (U (.int 2147483629))) O)
def zA0:Z D->G (D×Bool):=iD 3 2 gK
abbrev qa:Z MJ:=["_law_cell","_law_many","_law_letters","_law_word","_law_at","_law_first","_law_k"]
abbrev d4 (O:DEnv):G D:=EM (rY 2 O) (fP (JT (ac (aa (rY 0 O) (aa (rY 6 O) (U []))) zA0)) (U (.int 26)))
abbrev d5 (O:DEnv):G D:=GE (GE (xH (rY 3 O) (U B) (bA (rY 4 O))) (EM (rY 2 O) (fP (gX (rY 5 O) (rY 6 O)) (U (.int 26))))) (xH (rY 3 O) (bA (gX (rY 4 O) (U (.int 1)))) (U B))
abbrev gq (O:DEnv):G Out:=aq (cC 2 (U (.str "abcdefghijklmnopqrstuvwxyz")) O) (λO=>aq (cC 3 (Ai (U (.str "")) (au (ac (rI (gX (U (.int 1)) (fP (rY 0 O) (U (.int 8))))) (bS Y [V,Y,V,Y,Y,Y,Y] (ae 6) (λO=>U V) d4 O)))) O) (λO=>aq (cC 4 (fP (JT (ac (aa (rY 0 O) (aa (U (.int 19)) (U []))) zA0)) (GP (rY 3 O))) O) (λO=>aq (cC 5 (JT (ac (aa (rY 0 O) (aa (U (.int 20)) (U []))) zA0)) O) (λO=>j4 (au (ac (rI (rY 1 O)) (bS Y [Y,Y,V,V,V,V,Y] (ae 6) (λO=>U V) d5 O))) O))))
def zA5:Z D->G (D×Bool):=iD 7 2 gq
abbrev md:Z MJ:=["_law_cell","_law_many","_law_k"]
abbrev fK (O:DEnv):G D:=fP (gX (fP (JT (ac (aa (rY 0 O) (aa (U (.int 30)) (U []))) zA0)) (U (.int 999900))) (vQ (U (.int 7)) (rY 2 O))) (U (.int 1000000))
abbrev ej (O:DEnv):G Out:=aq (JZ (KP (fP (rY 0 O) (U (.int 3))) (U (.int 0))) (j4 (w6 (rY 1 O)) O) (aU O)) (λO=>j4 (au (ac (rI (rY 1 O)) (bS Y [V,Y,Y] (ae 2) (λO=>U V) fK O))) O)
def zA8:Z D->G (D×Bool):=iD 3 2 ej
abbrev p0:Z MJ:=["_law_number","_law_names","_law_numbers_here"]
abbrev gP (O:DEnv):G Out:=aq (JZ (KP (fP (rY 0 O) (U (.int 2))) (U (.int 1))) (bN (fS (aa (U (.str "blank")) (aa (Lm (rY 2 O) (fP (mA (rY 0 O) (U (.int 2))) (cS (rY 2 O)))) (U [])))) O) (aU O)) (λO=>bN (fS (aa (U (.str "name")) (aa (Lm (rY 1 O) (fP (mA (rY 0 O) (U (.int 2))) (cS (rY 1 O)))) (U [])))) O)
def zA4:Z D->G (D×Bool):=iD 3 3 gP
abbrev uU:Z MJ:=["_law_cell","_law_tables_here","_law_names","_law_numbers_here","_law_kind","_law_many","_law_cells_here","_law_j"]
abbrev gy (O:DEnv):G D:=JT (ac (aa (JT (ac (aa (rY 0 O) (aa (gX (U (.int 2)) (rY 7 O)) (U []))) zA0)) (aa (rY 2 O) (aa (rY 3 O) (U [])))) zA4)
abbrev jI (O:DEnv):G Out:=bN (fS (aa (Lm (Lm (rY 1 O) (rY 4 O)) (U (.int 0))) (aa (m7 (rY 6 O)) (U [])))) O
abbrev nE (O:DEnv):G Out:=aq (cC 4 (fP (JT (ac (aa (rY 0 O) (aa (U (.int 1)) (U []))) zA0)) (cS (rY 1 O))) O) (λO=>aq (cC 5 (Lm (Lm (rY 1 O) (rY 4 O)) (U (.int 1))) O) (λO=>aq (JZ (KP (fP (JT (ac (aa (rY 0 O) (aa (U (.int 7)) (U []))) zA0)) (U (.int 3))) (U (.int 0))) (cC 5 (gX (U (.int 1)) (fP (JT (ac (aa (rY 0 O) (aa (U (.int 8)) (U []))) zA0)) (rY 5 O))) O) (aU O)) (λO=>aq (gE 6 (au (ac (rI (rY 5 O)) (bS Y [V,Y,V,V,Y,Y,Y,Y] (ae 7) (λO=>U V) gy O))) O) (λO=>jI (mG 6 O)))))
def zA7:Z D->G (D×Bool):=iD 8 4 nE
abbrev oR:Z MJ:=["_law_cell","_law_most","_law_words_here","_law_k"]
abbrev gV (O:DEnv):G D:=fS (aa (Lm (rY 2 O) (rY 3 O)) (aa (gX (U (.int 1)) (fP (JT (ac (aa (rY 0 O) (aa (gX (U (.int 40)) (rY 3 O)) (U []))) zA0)) (rY 1 O))) (U [])))
abbrev iP (O:DEnv):G Out:=aq (cC 2 (Km (ac (aa (rY 0 O) (aa (U (.int 3)) (U []))) zA5)) O) (λO=>j4 (au (ac (rI (gX (U (.int 1)) (fP (mA (rY 0 O) (U (.int 8))) (U (.int 3))))) (bS Y [V,V,V,Y] (ae 3) (λO=>U V) gV O))) O)
def zB5:Z D->G (D×Bool):=iD 4 2 iP
abbrev p8:Z MJ:=["_law_rows","_law_told_here","_law_row_here"]
abbrev bj (O:DEnv):G Out:=JZ (Ku (KP (cS (rd V 1 O)) (U (.int 0))) (KZ (Lm (rd V 1 O) (yQ (U (.int 1)))) (rY 2 O))) (rH 1 (rY 2 O) O) (aU O)
abbrev fW (O:DEnv):G Out:=aq (gE 1 (eU (U [])) O) (λO=>aq (ac (aV (lh .ts (rY 0 O))) λds=>av (λd O=>ac ((ae 2) d O) bj) ds O) (λO=>j4 (dh 1 O) O))
def zA1:Z D->G (D×Bool):=iD 3 1 fW
abbrev mF:Z MJ:=["_law_found"]
abbrev il (O:DEnv):G Out:=aq (JZ (Ku (a7 (Ln (fO "tuple" (rY 0 O)))) (Ku (KZ (cS (rY 0 O)) (U (.int 2))) (a7 (Ln (fO "str" (Lm (rY 0 O) (U (.int 0)))))))) (bN (U (.bl Y)) O) (aU O)) (λO=>aq (JZ (KP (Lm (rY 0 O) (U (.int 0))) (U (.str "name"))) (bN (fO "str" (Lm (rY 0 O) (U (.int 1)))) O) (aU O)) (λO=>bN (uA (L7 (KP (Lm (rY 0 O) (U (.int 0))) (U (.str "blank")))) (uA (JT (ac (aa (Lm (rY 0 O) (U (.int 1))) (U [])) zB3)) (L7 (cI JH (Lm (rY 0 O) (U (.int 1))) (U (.int 0)))))) O))
def zB1:Z D->G (D×Bool):=iD 1 1 il
abbrev qq:Z MJ:=["_law_rows","_law_moves","_law_told_here","_law_table","_law_cells_here","_law_more","_law_cell","_law_there","_law_number","_law_other"]
abbrev dT (O:DEnv):G Out:=JZ (KP (rY 6 O) (fS (aa (U (.str "blank")) (aa (rY 8 O) (U []))))) (cC 7 (rY 9 O) O) (aU O)
abbrev iu (O:DEnv):G Out:=aq (cC 7 (rY 6 O) O) (λO=>aq (ac (aV (rY 1 O)) λds=>av (λd O=>ac ((aW (ah (ae 8) (ah (ae 9) (aY)))) d O) dT) ds O) (λO=>rH 5 (rY 7 O) O))
abbrev my (O:DEnv):G Out:=rH 2 (fS (aa (rY 3 O) (aa (m7 (rY 5 O)) (U [])))) O
abbrev io (O:DEnv):G Out:=aq (gE 5 (eU (U [])) O) (λO=>aq (ac (yR (rY 4 O)) λds=>av (λd O=>ac ((ae 6) d O) iu) ds O) (λO=>my (mG 5 O)))
abbrev mq (O:DEnv):G Out:=j4 (Km (ac (aa (rY 2 O) (U [])) zA1)) O
abbrev jU (O:DEnv):G Out:=aq (gE 2 (eU (U [])) O) (λO=>aq (ac (aV (rY 0 O)) λds=>av (λd O=>ac ((aW (ah (ae 3) (ah (ae 4) (aY)))) d O) io) ds O) (λO=>mq (mG 2 O)))
def zA2:Z D->G (D×Bool):=iD 10 2 jU
abbrev n7:Z MJ:=["_law_rows","_law_told_here","_law_table","_law_cells_here","_law_cell"]
abbrev f5 (O:DEnv):G Out:=JZ (jM (KP (Lm (rY 4 O) (U (.int 0))) (U (.str "blank"))) (eQ (Lm (rY 4 O) (U (.int 1))) (rd V 1 O))) (rH 1 (Lm (rY 4 O) (U (.int 1))) O) (aU O)
abbrev gu (O:DEnv):G Out:=ac (yR (rY 3 O)) λds=>av (λd O=>ac ((ae 4) d O) f5) ds O
abbrev lE (O:DEnv):G Out:=j4 (lh .it (rY 1 O)) O
abbrev iU (O:DEnv):G Out:=aq (gE 1 (eU (U [])) O) (λO=>aq (ac (aV (rY 0 O)) λds=>av (λd O=>ac ((aW (ah (ae 2) (ah (ae 3) (aY)))) d O) gu) ds O) (λO=>lE (mG 1 O)))
def zA3:Z D->G (D×Bool):=iD 5 1 iU
abbrev l7:Z MJ:=["_law_found","_law_numbers_here","_law_one","_law_number"]
abbrev eB (O:DEnv):G Out:=aq (JZ (Ku (a7 (Ln (fO "tuple" (rY 2 O)))) (Ku (KZ (cS (rY 2 O)) (U (.int 2))) (Ku (a7 (Ln (JT (ac (aa (Lm (rY 2 O) (U (.int 0))) (U [])) zB3)))) (KZ (Lm (rY 2 O) (U (.int 0))) (rY 3 O))))) (bN (U (.bl Y)) O) (aU O)) (λO=>JZ (a7 (Ln (JT (ac (aa (Lm (rY 2 O) (U (.int 1))) (U [])) zB1)))) (bN (U (.bl Y)) O) (aU O))
abbrev gJ (O:DEnv):G Out:=aq (JZ (Ku (a7 (Ln (fO "list" (rY 0 O)))) (KZ (cS (rY 0 O)) (cS (rY 1 O)))) (bN (U (.bl Y)) O) (aU O)) (λO=>aq (ac (Hy Y Y (rY 0 O) (rY 1 O)) λds=>av (λd O=>ac ((aW (ah (ae 2) (ah (ae 3) (aY)))) d O) eB) ds O) (λO=>bN (U (.bl V)) O))
def zA9:Z D->G (D×Bool):=iD 4 2 gJ
abbrev uW:Z MJ:=["_law_one","_law_other","_law_told_here","_law_row_here"]
abbrev jA (O:DEnv):G Out:=JZ (eQ (rY 3 O) (rY 1 O)) (bN (U (.bl Y)) O) (aU O)
abbrev nC (O:DEnv):G Out:=aq (JZ (Ku (a7 (Ln (fO "tuple" (rY 2 O)))) (Ku (KZ (cS (rY 2 O)) (U (.int 2))) (Ku (a7 (Ln (fO "str" (Lm (rY 2 O) (U (.int 0)))))) (KZ (Lm (rY 2 O) (U (.int 0))) (U (.str "led")))))) (bN (U (.bl Y)) O) (aU O)) (λO=>aq (JZ (a7 (Ln (JT (ac (aa (Lm (rY 2 O) (U (.int 1))) (aa (Km (ac (aa (rY 0 O) (U [])) zA3)) (U []))) zA9)))) (bN (U (.bl Y)) O) (aU O)) (λO=>aq (ac (aV (Km (ac (aa (rY 0 O) (aa (Lm (rY 2 O) (U (.int 1))) (U []))) zA2))) λds=>av (λd O=>ac ((ae 3) d O) jA) ds O) (λO=>bN (U (.bl V)) O)))
def zC1:Z D->G (D×Bool):=iD 4 3 nC
abbrev p6:Z MJ:=["_law_rows","_law_told_here","_law_table","_law_cells_here","_law_cell"]
abbrev ip (O:DEnv):G Out:=JZ (eQ (rY 4 O) (rd V 1 O)) (rH 1 (rY 4 O) O) (aU O)
abbrev im (O:DEnv):G Out:=ac (yR (rY 3 O)) λds=>av (λd O=>ac ((ae 4) d O) ip) ds O
abbrev jN (O:DEnv):G Out:=aq (gE 1 (eU (U [])) O) (λO=>aq (ac (aV (rY 0 O)) λds=>av (λd O=>ac ((aW (ah (ae 2) (ah (ae 3) (aY)))) d O) im) ds O) (λO=>j4 (dh 1 O) O))
def zB7:Z D->G (D×Bool):=iD 5 1 jN
abbrev k8:Z MJ:=["_law_rows","_law_others","_law_numbers_here","_law_moves","_law_row_here","_law_cell"]
abbrev eP (k:Z D->G (D×Bool)) (O:DEnv):G Out:=JZ (eQ (rY 4 O) (rY 1 O)) (bN (U (.bl Y)) O) (aU O)
abbrev eI (k:Z D->G (D×Bool)) (O:DEnv):G Out:=JZ (Ln (JT (ac (aa (rY 0 O) (aa (rY 1 O) (aa (cR (rY 2 O) (bA (U (.int 1))) (U B)) (aa (tv (rY 3 O) (eU (aa (fS (aa (Lm (rY 2 O) (U (.int 0))) (aa (rY 5 O) (U [])))) (U [])))) (U []))))) k))) (bN (U (.bl V)) O) (aU O)
abbrev gS (k:Z D->G (D×Bool)) (O:DEnv):G Out:=aq (JZ (KP (cS (rY 2 O)) (U (.int 0))) (aq (ac (aV (Km (ac (aa (rY 0 O) (aa (rY 3 O) (U []))) zA2))) λds=>av (λd O=>ac ((ae 4) d O) (eP k)) ds O) (λO=>bN (U (.bl V)) O)) (aU O)) (λO=>aq (ac (aV (Km (ac (aa (rY 1 O) (U [])) zB7))) λds=>av (λd O=>ac ((ae 5) d O) (eI k)) ds O) (λO=>bN (U (.bl Y)) O))
def aI:Nat->Z D->G (D×Bool)
 |0=>λ_=>B
 |n+1=>iD 6 4 (gS (aI n))
abbrev sk:Z MJ:=["_law_one","_law_other","_law_made","_law_handed","_law_told_here"]
abbrev k6 (O:DEnv):G Out:=aq (cC 3 (eU (aa (CC (rY 0 O)) (aa (CC (rY 1 O)) (U [])))) O) (λO=>aq (cC 4 (JT (ac (aa (Lm (rY 3 O) (U (.int 0))) (aa (Lm (rY 3 O) (U (.int 1))) (U []))) zD0)) O) (λO=>aq (JZ (KZ (rY 3 O) (eU (aa (rY 0 O) (aa (rY 1 O) (U []))))) (bN (U (.bl Y)) O) (aU O)) (λO=>aq (JZ (jM (Ln (fO "tuple" (rY 4 O))) (jM (KP (cS (rY 4 O)) (U (.int 1))) (jM (Ln (fO "str" (Lm (rY 4 O) (U (.int 0))))) (KP (Lm (rY 4 O) (U (.int 0))) (U (.str "never")))))) (bN (uA (L7 (a7 (Ln (rY 2 O)))) (L7 (a7 (Ln (JT (ac (aa (rY 0 O) (aa (rY 1 O) (aa (Km (ac (aa (rY 0 O) (U [])) zA3)) (aa (eU (U [])) (U []))))) (aI 8))))))) O) (aU O)) (λO=>bN (JT (ac (aa (rY 0 O) (aa (rY 1 O) (aa (rY 4 O) (U [])))) zC1)) O))))
def zB2:Z D->G (D×Bool):=iD 5 3 k6
abbrev H4:Z MJ:=["_law_script","_law_cells_here","_law_tables_here","_law_names","_law_numbers_here","_law_at","_law_cell","_law_end","_law_last","_law_one","_law_more","_law_moves","_law_other","_law_k"]
abbrev sP (O:DEnv):G Bool:=cI JJ (rY 5 O) (cS (rY 1 O))
abbrev wh (O:DEnv):G D:=JT (ac (aa (rY 13 O) (aa (rY 2 O) (aa (rY 3 O) (aa (rY 4 O) (U []))))) zA7)
abbrev sJ (O:DEnv):G D:=JT (ac (aa (rY 13 O) (aa (rY 2 O) (aa (rY 3 O) (aa (rY 4 O) (U []))))) zA7)
abbrev rK (O:DEnv):G D:=fS (aa (Lm (rY 4 O) (rY 13 O)) (aa (JT (ac (aa (JT (ac (aa (rY 6 O) (aa (gX (U (.int 50)) (rY 13 O)) (U []))) zA0)) (aa (rY 3 O) (aa (rY 4 O) (U [])))) zA4)) (U [])))
abbrev El (O:DEnv):G Out:=JZ (a7 (Ln (JT (ac (aa (rY 9 O) (aa (Km (ac (aa (tv (Km (ac (aa (rY 9 O) (aa (rY 11 O) (U []))) zA2)) (rY 10 O)) (U [])) zA1)) (aa (U (.bl V)) (U [])))) zB2)))) (bN (U (.bl Y)) O) (aU O)
abbrev C8 (O:DEnv):G Out:=aq (gE 11 (au (ac (rI (U (.int 5))) (bS Y [Y,Y,Y,V,V,Y,V,Y,Y,Y,Y,Y,Y,Y] (ae 13) (λO=>U V) rK O))) O) (λO=>El (mG 11 O))
abbrev xq (O:DEnv):G D:=JT (ac (aa (rY 13 O) (aa (rY 2 O) (aa (rY 3 O) (aa (cR (rY 4 O) (U B) (bA (U (.int 2)))) (U []))))) zA7)
abbrev xP (O:DEnv):G D:=JT (ac (aa (rY 13 O) (aa (rY 2 O) (aa (rY 3 O) (aa (cR (rY 4 O) (U B) (bA (U (.int 2)))) (U []))))) zA7)
abbrev sO (O:DEnv):G Out:=aq (cC 6 (Lm (rY 1 O) (rY 5 O)) O) (λO=>aq (cC 7 (gX (gX (rY 5 O) (U (.int 1))) (fP (rY 6 O) (U (.int 7)))) O) (λO=>aq (cC 8 (gX (rY 7 O) (Lm (eU (aa (U (.int 2)) (aa (fP (mA (rY 6 O) (U (.int 14))) (U (.int 7))) (U [])))) (fP (mA (rY 6 O) (U (.int 7))) (U (.int 2))))) O) (λO=>aq (JZ (KP (fP (mA (rY 6 O) (U (.int 7))) (U (.int 2))) (U (.int 0))) (aq (cC 9 (Km (ac (aa (au (ac (aV (cR (rY 1 O) (bA (gX (rY 5 O) (U (.int 1)))) (bA (rY 7 O)))) (bS Y [Y,Y,V,V,V,Y,Y,Y,Y,Y,Y,Y,Y,Y] (ae 13) (λO=>U V) wh O))) (U [])) zA1)) O) (λO=>aq (gE 10 (au (ac (aV (cR (rY 1 O) (bA (rY 7 O)) (bA (rY 8 O)))) (bS Y [Y,Y,V,V,V,Y,Y,Y,Y,Y,Y,Y,Y,Y] (ae 13) (λO=>U V) sJ O))) O) (λO=>C8 (mG 10 O)))) (aq (cC 9 (Km (ac (aa (au (ac (aV (cR (rY 1 O) (bA (gX (rY 5 O) (U (.int 1)))) (bA (rY 7 O)))) (bS Y [Y,Y,V,V,V,Y,Y,Y,Y,Y,Y,Y,Y,Y] (ae 13) (λO=>U V) xq O))) (U [])) zA1)) O) (λO=>aq (cC 12 (Km (ac (aa (au (ac (aV (cR (rY 1 O) (bA (rY 7 O)) (bA (rY 8 O)))) (bS Y [Y,Y,V,V,V,Y,Y,Y,Y,Y,Y,Y,Y,Y] (ae 13) (λO=>U V) xP O))) (U [])) zA1)) O) (λO=>JZ (Ku (a7 (Ln (JT (ac (aa (rY 9 O) (aa (rY 12 O) (aa (U (.bl Y)) (U [])))) zB2)))) (a7 (Ln (JT (ac (aa (rY 12 O) (aa (rY 9 O) (aa (U (.bl Y)) (U [])))) zB2))))) (bN (U (.bl Y)) O) (aU O))))) (λO=>cC 5 (rY 8 O) O))))
abbrev Ga (O:DEnv):G Out:=aq (cC 1 (tv (cR (rY 0 O) (U B) (bA (U (.int 33)))) (eU (aa (U (.int 0)) (aa (U (.int 0)) (U []))))) O) (λO=>aq (cC 2 (Km (ac (aa (Lm (rY 1 O) (U (.int 0))) (aa (U (.int 3)) (U []))) zB5)) O) (λO=>aq (cC 3 (Km (ac (aa (mA (Lm (rY 1 O) (U (.int 0))) (U (.int 7))) (aa (U (.int 4)) (U []))) zA5)) O) (λO=>aq (cC 4 (Km (ac (aa (mA (Lm (rY 1 O) (U (.int 0))) (U (.int 5))) (aa (U (.int 5)) (U []))) zA8)) O) (λO=>aq (cC 5 (U (.int 1)) O) (λO=>aq (cA sP sO 1000 O) (λO=>bN (U (.bl V)) O))))))
def f_law:Z D->G (D×Bool):=iD 14 1 Ga
local macro_rules| `(tactic|walk_at "z")=>do
 let I:=λs:String=>Lean.mkIdent s.toName
 let S:=λx:Lean.Term=>Lean.Unhygienic.run `(Lean.Parser.Tactic.tacticSeq|refine $x)
 let A:=λ(f:String)(a:List Lean.Term)=>S (Lean.Syntax.mkApp (I f) a.toArray)
 let R:=λs:String=>((s.splitOn " ").map λx=>Lean.Unhygienic.run `(Lean.Parser.Tactic.tacticSeq|refine' @$(I x) ..)).toArray
 let Q:=λ(n,s)=>Lean.Unhygienic.run `(Lean.Parser.Tactic.tacticSeq|refine'(?_:$(I n) ..);first $[|$(R s)]*)
 let C:=λx:Lean.Term=>Lean.Unhygienic.run `((Has.comp $x ..))
 let d<-`(by decide +kernel)
 let o<-`(_)
 let r:Lean.Term:=I "rfl"
 let h:Lean.Term:=I "h"
 let u:=C h
 let l:=[h,u,C u]
 let a:=(([("DE","nv Bt F6 Fk Ck G0 CV Co zY DY Fu Gd As BN wd FR Cw Gm FM EF CN E8 Dy D7 Dp Fa Ag HH FY G1 GH Hu F8 EJ B0 CU DC ER ET Gl Eo Ek AY DF.share"),("DF","zp Aq zE yf uS zF wW AR Am zW yW CQ CT xB xW u3 E0 Fy AN D0 AE AT"),("DT","Ct FV EV ES Ht zw Hz G9 Fz wL E6 EK Fl CH"),("DS","Cd Aa Db zK zH vC vD vY FT A1 HF AH Bg CJ C9 De Em C7 zb Cu D4 CF CK zh")].map Q)++(R "fZ b9 Gq z9 yY D5 Dt C2 DJ Ec").toList++[("DI2","D8 FL Ea yV CM EE Aw AS Dg ww"),("DIS","uF v5 nB"),("EX","Cv Ds Ac AO BL F9 Cy GJ EQ BW"),("EA","FH Hk B1"),("DW","GX FD GA"),("Lh","C6 B7 AM BY pD sU")].map Q).toArray
 let b:=(l.flatMap (λy=>["Has.nm","Has.gb","CompScope.of'","Has.nmI","vo","Has.lcl"].map (λx=>A x [y,d])++[A "Txb.bn" [I "T",y,d],A "Has.nd" [y],A "Has.len" [y,r],A "Has.wrt" [y],A "Has.w" [y,r],A "Has.st" [y],A "Has.ro" [y,r]])).toArray
 let c:=(["GZ","Hw","HT"].map (λx=>S (I x))++[A "yJ" [o]]).toArray
 `(tactic|first
 |fail_if_success refine(?_:(_:Prop))
 |rfl
 |assumption
 |(((with_reducible first $[|$a]*)<;>walk_at "z");all_goals refine Y)
 |(have $(I "h"):ident:=(by assumption:Has _ _ _ _ _);first|(have $(I "T"):ident:=(by assumption:Txb _);first $[|$b]*)|refine Has.lc $h (by assumption) $d)
 |refine Room.mono (by assumption) (by lia)
 |(refine⟨rfl,rfl,rfl,?_,rfl,?_,?_⟩<;>decide +kernel)
 |(first $[|$c]*)
 |refine yy _ _ (by decide)
 |refine λ_ _ _ _ _=>.of_eq rfl
 |refine .inl rfl
 |refine .inr rfl
 |refine eS (eS pK)
 |refine eS (eS (eS pK))
 |decide +kernel
 |decide
 |(simp;done)
 |(intros;rfl)
 |(intro _;walk_at "z"))
local macro_rules| `(tactic|walk_at "sc")=> `(tactic|refine⟨rfl,rfl,rfl,?_,rfl,?_,?_⟩<;>decide +kernel)
local macro_rules| `(tactic|walk_at "bj")=> `(tactic|first|refine Kp rfl|(refine Jz λ_=>?_;walk_at "bj"))
local macro_rules| `(tactic|walk_at "bi")=> `(tactic|(intro _ _ _ _ _ _;walk_at "bj"))
local macro_rules| `(tactic|walk_at "mk")=> `(tactic|(intro _ _ _ _;(conv in bc _=>whnf);walk_at "z"))
def r5 (T:Txb Kh) (D:Df "exchanged" lP):FnM 1 "exchanged" zC0:=
 IW 2 rU lN D
def oO (T:Txb Kh) (D:DfI "Choice" "Choice.__init__" nsChoice fg) (kPart:∃C,Cls "Part" C aZ):KC "Choice" nsChoice 1 ba:=
 let kChoice:=D.cls
 IZ 5 pn fj D
def si (T:Txb Kh) (D:DfI "Part" "Part.__init__" aZ iL):KC "Part" aZ 1 aM:=
 let kPart:=D.cls
 IZ 3 rQ iC D
def gU (T:Txb Kh) {c_ P_:MM}(D:Lq "Search" "first_domain" "Search.first_domain" cu (U c_)) (hLP:((P_,("Search.first_domain.<locals>.<lambda>":MJ)):MM×MJ)∈tb) (hTu:∀q∈tb,q.1=P_->q=(P_,("Search.first_domain.<locals>.<lambda>":MJ))) (hLC:Qa base c_ P_) (kPart:∃C,Cls "Part" C aZ) (kSearch:∃C,Cls "Search" C am):rM "Search" "first_domain" 5 aR:=
 Ic (j:="Search.first_domain.<locals>.<lambda>") 4 gz cy D (λ_ _ _=>rfl) (by walk_at "sc") (by walk_at "bi") λX h f r hq hc=>by
  (conv in bc _=>whnf)
  refine' @pD _ _ _ _ _ _ ?a ?b
  case a=>walk_at "z"
  case b=>
   refine' @pD _ _ _ _ _ _ ?a ?b
   case a=>walk_at "z"
   case b=>
    refine' @sU _ _ _ _ ?_
    with_reducible refine' @vY ..
    refine' sR (c:=c_) (P:=P_) (lq:="Search.first_domain.<locals>.<lambda>") (x:="cell") (k:=0) (li:=6) r ?g hLP hTu hq hLC hc rfl ?S rfl rfl (by rw[h.n];rfl) h.nd ?l (λ_ _ _ _ _ _=>.of_eq rfl) ?b ?a
    case g=>walk_at "z"
    case S=>walk_at "z"
    case l=>decide +kernel
    case a=>walk_at "z"
    case b=>
     show tF h λX' h' r'=>?_
     clear hq hc h r
     walk_at "z"
def mw (T:Txb Kh) (D:Lq "Search" "blame" "Search.blame" ib B) (kSearch:∃C,Cls "Search" C am):pL "Search" "blame" 1 cm:=
 Jl 2 mU ii D
def AQ (T:Txb Kh) (D:Df "any_of" tH):FnM 1 "any_of" zC4:=
 IW 2 zq uD D
def j8 (T:Txb Kh) (D:Lq "Search" "revised" "Search.revised" fJ B) (kPart:∃C,Cls "Part" C aZ) (kSearch:∃C,Cls "Search" C am) (_:FnM 1 "any_of" zC4):pL "Search" "revised" 2 aX:=
 Jl 3 jW cJ D
def ly (T:Txb Kh) (D:Lq "Search" "narrow" "Search.narrow" gc B) (kSearch:∃C,Cls "Search" C am) (_:pL "Search" "blame" 1 cm) (_:pL "Search" "revised" 2 aX):pL "Search" "narrow" 3 aQ:=
 Jl 3 lI fV D
def iM (T:Txb Kh) (D:Lq "Search" "first_part" "Search.first_part" c9 B) (kPart:∃C,Cls "Part" C aZ) (kSearch:∃C,Cls "Search" C am) (_:KC "Part" aZ 1 aM) (_:rM "Search" "first_domain" 5 aR) (_:pL "Search" "narrow" 3 aQ):pL "Search" "first_part" 6 az:=
 Jl 1 iE a9 D
def pA (T:Txb Kh) (D:Df "blank_spots" iW):FnM 1 "blank_spots" zB4:=
 IW 1 oE iQ D
def Du (T:Txb Kh) (D:Df "marks" xD):FnM 1 "marks" zC3:=
 IW 1 Dh ym D
def oP (T:Txb Kh) (D:Df "first_masks" jh) (_:FnM 1 "marks" zC3):FnM 2 "first_masks" zB9:=
 IW 2 oA iZ D
def mV (T:Txb Kh) (D:Df "holding_rows" iq):FnM 1 "holding_rows" zB6:=
 FnM.own (Lz 1 mR dU D)
def jq (T:Txb Kh) (D:Df "rows_with_cells" eH):FnM 1 "rows_with_cells" zB0:=
 FnM.own (Lz 1 jl ci D)
def nY (T:Txb Kh) (D:DfI "Search" "Search.__init__" am eZ) (_:FnM 1 "blank_spots" zB4) (_:FnM 2 "first_masks" zB9) (_:FnM 1 "holding_rows" zB6) (_:FnM 1 "rows_with_cells" zB0):KC "Search" am 3 bW:=
 let kSearch:=D.cls
 IZ 3 pC eY D
def jd (T:Txb Kh) {c_ P_:MM}(D:Lq "Search" "narrowest" "Search.narrowest" dF (U c_)) (hLP:((P_,("Search.narrowest.<locals>.<lambda>":MJ)):MM×MJ)∈tb) (hTu:∀q∈tb,q.1=P_->q=(P_,("Search.narrowest.<locals>.<lambda>":MJ))) (hLC:Qa base c_ P_) (kPart:∃C,Cls "Part" C aZ) (kSearch:∃C,Cls "Search" C am):rM "Search" "narrowest" 5 aH:=
 Ic (j:="Search.narrowest.<locals>.<lambda>") 2 i1 dH D (λ_ _ _=>rfl) (by walk_at "sc") (by walk_at "bi") λX h f r hq hc=>by
  (conv in bc _=>whnf)
  refine' @sU _ _ _ _ ?_
  with_reducible refine' @Bg ..
  refine' yA (c:=c_) (P:=P_) (lq:="Search.narrowest.<locals>.<lambda>") (x:="number") (k:=0) (i:=2) r ?g hLP hTu hq hLC hc rfl ?S rfl rfl (by rw[h.n];rfl) h.nd ?l (λ_ _ _ _ _ _=>.of_eq rfl) ?b ?a
  case g=>walk_at "z"
  case S=>walk_at "z"
  case l=>decide +kernel
  case a=>walk_at "z"
  case b=>
   show tF h λX' h' r'=>?_
   clear hq hc h r
   walk_at "z"
def mI (T:Txb Kh) (D:Df "cluster_from" ig):Kj 1 "cluster_from" zA6:=
 Lz 4 mM ik D
def vL (T:Txb Kh) (D:Df "clusters" nG) (_:Kj 1 "cluster_from" zA6):FnM 2 "clusters" zC2:=
 FnM.own (Lz 1 u4 jw D)
def D9 (T:Txb Kh) (D:Df "piece" yF) (kPart:∃C,Cls "Part" C aZ) (_:KC "Part" aZ 1 aM):L0 3 "piece" zC6:=
 Li 3 BO yr D
def lH (T:Txb Kh) (D:Lq "Search" "parted" "Search.parted" gG B) (kPart:∃C,Cls "Part" C aZ) (kSearch:∃C,Cls "Search" C am) (_:FnM 2 "clusters" zC2) (_:L0 3 "piece" zC6):rM "Search" "parted" 4 aD:=
 LH 2 lL gO D
def iT (T:Txb Kh) (D:Lq "Search" "are_alike" "Search.are_alike" dE B) (kPart:∃C,Cls "Part" C aZ) (kSearch:∃C,Cls "Search" C am):rM "Search" "are_alike" 1 aS:=
 LH 4 i3 dQ D
def dx (T:Txb Kh) (D:Lq "Search" "can_change_places" "Search.can_change_places" bD B) (kSearch:∃C,Cls "Search" C am) (_:FnM 1 "exchanged" zC0):rM "Search" "can_change_places" 2 ay:=
 LH 3 dw bE D
def i2 (T:Txb Kh) (D:Lq "Search" "are_twins" "Search.are_twins" dA B) (kSearch:∃C,Cls "Search" C am) (_:rM "Search" "are_alike" 1 aS) (_:rM "Search" "can_change_places" 2 ay):rM "Search" "are_twins" 3 aC:=
 LH 4 iV dJ D
def iJ (T:Txb Kh) (D:Lq "Search" "drop_twins" "Search.drop_twins" cV B) (kChoice:∃C,Cls "Choice" C nsChoice) (kSearch:∃C,Cls "Search" C am) (_:rM "Search" "are_twins" 3 aC):pL "Search" "drop_twins" 4 aN:=
 Jl 2 iA di D
def mj (T:Txb Kh) (D:Lq "Search" "tried" "Search.tried" hY B) (kPart:∃C,Cls "Part" C aZ) (kSearch:∃C,Cls "Search" C am) (_:KC "Part" aZ 1 aM) (_:pL "Search" "narrow" 3 aQ):pL "Search" "tried" 4 aO:=
 Jl 4 mE cq D
def fR (T:Txb Kh) (D:Lq "Search" "with_next_try" "Search.with_next_try" bY B) (kChoice:∃C,Cls "Choice" C nsChoice) (kSearch:∃C,Cls "Search" C am) (_:pL "Search" "drop_twins" 4 aN) (_:pL "Search" "tried" 4 aO):pL "Search" "with_next_try" 5 aB:=
 Jl 2 fQ bt D
def xJ (T:Txb Kh) (D:Df "settled" qw) (kChoice:∃C,Cls "Choice" C nsChoice) (kPart:∃C,Cls "Part" C aZ):L0 1 "settled" zC5:=
 Li 2 wc qT D
def qQ (T:Txb Kh) (D:Df "find_moves" jP) (kChoice:∃C,Cls "Choice" C nsChoice) (kSearch:∃C,Cls "Search" C am) (_:KC "Choice" nsChoice 1 ba) (_:pL "Search" "first_part" 6 az) (_:KC "Search" am 3 bW) (_:rM "Search" "narrowest" 5 aH) (_:rM "Search" "parted" 4 aD) (_:pL "Search" "with_next_try" 5 aB) (_:L0 1 "settled" zC5):FnM 7 "find_moves" zB8:=
 FnM.own (Lz 2 qI gi D)
def HD (T:Txb Kh) (D:Df "led" FI) (_:FnM 7 "find_moves" zB8):FnM 8 "led" zD0:=
 IW 2 H5 EW D
def p5 (T:Txb Kh) (D:Df "_law_whole" jF):FnM 1 "_law_whole" zB3:=
 IW 1 qi jQ D
def qo (T:Txb Kh) (D:Df "_law_mixed" jB):FnM 1 "_law_mixed" zA0:=
 IW 2 qr gK D
def qU (T:Txb Kh) (D:Df "_law_words" jL) (_:FnM 1 "_law_mixed" zA0):FnM 2 "_law_words" zA5:=
 IW 2 qa gq D
def mL (T:Txb Kh) (D:Df "_law_numbers" h9) (_:FnM 1 "_law_mixed" zA0):FnM 2 "_law_numbers" zA8:=
 IW 2 md ej D
def p9 (T:Txb Kh) (D:Df "_law_drawn" jR):FnM 1 "_law_drawn" zA4:=
 IW 3 p0 gP D
def u2 (T:Txb Kh) (D:Df "_law_row" na) (_:FnM 1 "_law_drawn" zA4) (_:FnM 1 "_law_mixed" zA0):FnM 2 "_law_row" zA7:=
 IW 4 uU nE D
def oX (T:Txb Kh) (D:Df "_law_tables" i4) (_:FnM 1 "_law_mixed" zA0) (_:FnM 2 "_law_words" zA5):FnM 3 "_law_tables" zB5:=
 IW 2 oR iP D
def qh (T:Txb Kh) (D:Df "_law_stand" jy):FnM 1 "_law_stand" zA1:=
 IW 1 p8 fW D
def mN (T:Txb Kh) (D:Df "_law_is_cell" ie) (_:FnM 1 "_law_whole" zB3):FnM 2 "_law_is_cell" zB1:=
 IW 1 mF il D
def pI (T:Txb Kh) (D:Df "_law_moved" jO) (_:FnM 1 "_law_stand" zA1):FnM 2 "_law_moved" zA2:=
 IW 2 qq jU D
def oY (T:Txb Kh) (D:Df "_law_blanks" je):FnM 1 "_law_blanks" zA3:=
 IW 1 n7 iU D
def kZ (T:Txb Kh) (D:Df "_law_is_moves" gC) (_:FnM 2 "_law_is_cell" zB1) (_:FnM 1 "_law_whole" zB3):FnM 3 "_law_is_moves" zA9:=
 IW 2 l7 gJ D
def vt (T:Txb Kh) (D:Df "_law_led" nD) (_:FnM 1 "_law_blanks" zA3) (_:FnM 3 "_law_is_moves" zA9) (_:FnM 2 "_law_moved" zA2):FnM 4 "_law_led" zC1:=
 IW 3 uW nC D
def qL (T:Txb Kh) (D:Df "_law_cells" jC):FnM 1 "_law_cells" zB7:=
 IW 1 p6 jN D
theorem gA (T:Txb Kh) (D:Df "_law_some_way" gj) (_:FnM 1 "_law_cells" zB7) (_:FnM 2 "_law_moved" zA2):∀n,FnM (n+3) "_law_some_way" (aI n)
 |0=>FnM.none D _
 |n+1=>by
  let ih:=gA T D (by assumption) (by assumption) n
  show IW (k:=n+3) 4 k8 (gS (aI n)) D
def sB (T:Txb Kh) (D:Df "_law_told" lg) (_:FnM 1 "_law_blanks" zA3) (_:FnM 4 "_law_led" zC1) (_:FnM 11 "_law_some_way" (aI 8)) (_:FnM 8 "led" zD0):FnM 12 "_law_told" zB2:=
 IW 3 sk k6 D
def Hp (T:Txb Kh) (D:Df "law" uH) (_:FnM 1 "_law_drawn" zA4) (_:FnM 1 "_law_mixed" zA0) (_:FnM 2 "_law_moved" zA2) (_:FnM 2 "_law_numbers" zA8) (_:FnM 2 "_law_row" zA7) (_:FnM 1 "_law_stand" zA1) (_:FnM 3 "_law_tables" zB5) (_:FnM 12 "_law_told" zB2) (_:FnM 2 "_law_words" zA5):FnM 13 "law" f_law:=
 IW 1 H4 Ga D
end K21
namespace L2
open PySem PySem.Spec PyProof.Rows PySem.W PySem.Calls
theorem ny:∀{l:Frag},l.lookup a=U o->(a,o)∈l
 |[],h=>nomatch h
 |(b,p)::l,h=>by
  rw[R4]at h;cases e:a==b with
  |true=>rw[e]at h;ext h;rw[beq_iff_eq.mp e];show .head _
  |false=>rw[e]at h;show .tail _ (ny h)
nonrec theorem t9 (h:OF) (e:(Dc h).lookup a=U o):h.get? a=U o/\(o.cls != .type "list")=V:=by
 let(b,_,j):=g_.mp (ny e);let(p,g,k):=OY.mp j;split at k
 .rename_i z
  ext k;show⟨g,(Bool.and_eq_true_iff.mp z).2⟩
 .ext k
structure Seen (cl:CL) (ml:ML) (defs:Z (MJ×NN)) (bl:Z MJ) (cs:CS) (K:Frag):Prop where
 cl:cl.map (λp=>GS K p.1 p.2)=cl.map λ_=>V
 ml:ml.map (λp=>GN K p.1.1 p.1.2.1 p.1.2.2)=ml.map λp=>U (GR p.1.2.1 p.1.2.2 p.2)
 fn:defs.map (λp=>GU K p.1)=defs.map λp=>U (zU p.1 p.2)
 bl:bl.map (nsIn K mainGlobals)=bl.map λ_=>U B
 cd:cs.map (λp=>xu K p.1.1 p.1.2)=cs.map λp=>U (.ref p.2)
theorem pZ {k β:Type}{f g:k->β}:∀{l:Z k}{i:Nat}{x:k},l.map f=l.map g->l[i]?=U x->f x=g x
 |[],_,_,_,h=>by simp at h
 |y::l,0,x,e,h=>by ext h;show(Sb e).1
 |y::l,i+1,x,e,h=>pZ (Sb e).2 h
def iB {k β:Type}{f g:k->β}{l:Z k}{x:k}(e:l.map f=l.map g) (h:x∈l):f x=g x:=by
 simp_all
def pV (h:GV n x=V):x=U (U (.builtin n)):=by
 unfold GV at h;split at h
 .rw[beq_iff_eq.mp h]
 .ext h
def uE (h:LB x=V):x=U B:=by
 unfold LB at h;split at h
 .rfl
 .ext h
def yp (h:H6 x=V):x=U (.type "function"):=by
 unfold H6 at h;split at h
 .rw[beq_iff_eq.mp h]
 .ext h
section
variable[Md] {cl:CL}{ml:ML}{defs:Z (MJ×NN)}{bl:Z MJ}{cs:CS}
nonrec theorem Seen.df (S:Seen cl ml defs bl cs Md.K) (X:Md.K.In Md.base) (Z_:Md.base.Ns mainGlobals Md.mg) (i:Nat) {st:NN}(e:defs[i]?=U (x,st)):Df x st:=by
 let q:GU Md.K x=U (zU x st):=pZ S.fn e;unfold GU at q;split at q
 .rename_i f v
  split at q
  .rename_i oc od k g j
   split at q
   .rename_i y
    show⟨f,k,⟨⟨oc,od,k.kwdefaults,k.doc,k.pyModule,k.annotations,k.code,k.closureTuple,g,?_,j,y⟩,?_⟩,mg_of X Z_ v⟩
    .let u:=NB q
     let(a1,a2,h,a,l,n,m,b,d,c,w,t,r,p,z):=k;simp![yX,zU,Rf]at u;rfl'
    .unfold keepIn;left;rw[j]
   .ext q
  .ext q
 .ext q
nonrec theorem Seen.cls (S:Seen cl ml defs bl cs Md.K) (X:Md.K.In Md.base) (Z_:Md.base.Ns mainGlobals Md.mg) (i:Nat) {ns:Z MJ}(e:cl[i]?=U (c,ns)):∃C,Cls c C ns/\nsIn Md.K mainGlobals c=U (U (.ref C))/\findIn Md.K (.ref C) "__getattr__"=U B:=by
 let w:GS Md.K c ns=V:=pZ S.cl e;unfold GS at w;split at w<;>try cases w
 rename_i C k;unfold Ig at w;simp![Mo]at w;let(((((((p,q),z),y),v),u),j),g):=w;show⟨C,⟨mg_of X Z_ k,p,q,z,y,pV v,pV u,λn r=>uE (MH.mp g n r)⟩,k,uE j⟩
nonrec theorem Seen.mt (S:Seen cl ml defs bl cs Md.K) (j:Nat) {c name q:MJ}{st:NN}{C:MM}(d:nsIn Md.K mainGlobals c=U (U (.ref C))) (e:ml[j]?=U ((c,name,q),st)):∃f g,findIn Md.K (.ref C) name=U (U (.ref f))/\typeIn Md.K (.ref f)=U (.type "function")/\Fun Md.K name q st f g/\AW Md.K c name=U g:=by
 let w:GN Md.K c name q=U (GR name q st):=pZ S.ml e;unfold GN at w;split at w<;>try cases w
 rename_i g u;let k:=u;unfold AW at k;rw[d]at k;dsimp only at k;split at k<;>try cases k
 rename_i f r;split at k<;>try cases k
 rename_i v;split at k<;>try cases k
 rename_i oc od z y;split at w<;>try cases w
 rename_i t;show⟨f,g,r,yp v,⟨⟨oc,od,g.kwdefaults,g.doc,g.pyModule,g.annotations,g.code,g.closureTuple,z,?_,y,t⟩,?_⟩,u⟩
 .let p:=NB w
  let(a1,a2,T,W,N,o,s,h,a,x,i,l,n,m,b):=g;simp![yX,GR,Rf]at p;rfl'
 .unfold keepIn;left;rw[y]
def Seen.dfT (S:Seen cl ml defs bl cs Md.K) (X:Md.K.In Md.base) (Z_:Md.base.Ns mainGlobals Md.mg) (i j:Nat) {c name q:MJ}{ns:Z MJ}{st:NN}(e:cl[i]?=U (c,ns)) (p:ml[j]?=U ((c,name,q),st)):Lq c name q st B:=by
 let(C,k,g,hg):=S.cls X Z_ i e;let(f,y,v,u,F,_):=S.mt j g p;show⟨C,f,y,k.mg,k.ga,hg,v,u,F,λa z=>nomatch z⟩
def Seen.dfTC (S:Seen cl ml defs bl cs Md.K) (X:Md.K.In Md.base) (Z_:Md.base.Ns mainGlobals Md.mg) (i j l:Nat) {c name q:MJ}{ns:Z MJ}{st:NN}(e:cl[i]?=U (c,ns)) (t:ml[j]?=U ((c,name,q),st)) (r:cs[l]?=U ((c,name),a)):Lq c name q st (U a):=by
 let(C,k,u,hg):=S.cls X Z_ i e;let(f,p,y,v,F,g):=S.mt j u t;show⟨C,f,p,k.mg,k.ga,hg,y,v,F,λb z=>?_⟩
 ext z;have:=pZ S.cd r;unfold xu at this;rw[g]at this;show NB this
def Seen.dfI (S:Seen cl ml defs bl cs Md.K) (X:Md.K.In Md.base) (Z_:Md.base.Ns mainGlobals Md.mg) (i j:Nat) {ns:Z MJ}{st:NN}(e:cl[i]?=U (c,ns)) (z:ml[j]?=U ((c,("__init__":MJ),q),st)):DfI c q ns st:=by
 let(C,k,g,hg):=S.cls X Z_ i e;let(f,y,v,u,F,_):=S.mt j g z;show⟨C,f,y,k,v,u,F⟩
def Seen.txt (S:Seen cl ml defs bl cs Md.K) (X:Md.K.In Md.base) (Z_:Md.base.Ns mainGlobals Md.mg):Txb bl:=λx k=>mg_none_of X Z_ (iB S.bl k)
end
def HV (tb:Tb) (cs:CS) (K:Frag):Prop:=(tb.zip cs).map (λq=>codeHdIn K q.2.2 q.1.1)=(tb.zip cs).map (λ_=>V)/\tb.map (λq=>K.lookup q.1)=tb.map (λ_=>B)
def YH (tb:Tb) (cl:CL) (ml:ML) (defs:Z (MJ×NN)) (bl:Z MJ) (cs:CS) (_:O0) (h:OF):Prop:=∃K:Frag,K.In h/\Seen cl ml defs bl cs K/\tb.map (λq=>h.get? q.1)=tb.map (λ_=>U GL)/\HV tb cs K/\∀b o,K.lookup b=U o->(o.cls != .type "list")=V
section
variable{tb:Tb}{cl:CL}{ml:ML}{defs:Z (MJ×NN)}{bl:Z MJ}{cs:CS}
def G2 (w:O0) (s:Mn) (e:KV tb cl ml defs bl cs s=KG tb cl ml defs bl cs w):YH tb cl ml defs bl cs w s.heap:=by
 unfold KV KG at e;simp![Rf]at e;show⟨Dc s.heap,λa o h=>(t9 _ h).1,⟨e.1,e.2.1,e.2.2.1,e.2.2.2.1,e.2.2.2.2.1⟩,e.2.2.2.2.2.1,⟨e.2.2.2.2.2.2.1,e.2.2.2.2.2.2.2⟩,λa o h=>(t9 _ h).2⟩
def zZ (w:O0) (h j:OF) (y:YH tb cl ml defs bl cs w h) (k:∀b o,h.get? b=U o->j.get? b=U o):YH tb cl ml defs bl cs w j:=by
 let(K,p,z,g,v):=y;show⟨K,p.keeps k,z,NJ λq u=>k _ _ (iB g u),v⟩
end
theorem wn {k β:Type}:∀{l:Z k}{m:Z β}{x:k},l.length=m.length->x∈l->∃y,(x,y)∈l.zip m
 |a::l,b::m,x,e,h=>by
  rcases MG.mp h with rfl|h
  .show⟨b,.head _⟩
  .let(y,j):=wn (Nat.succ.inj e) h
   show⟨y,.tail _ j⟩
theorem qv [Md]:∀{ns:Z Int}{vs:Z Ml},WellAll P h vs (ns.map WData.int)->Rs m M (ns.map D.int) vs
 |[],_,w=>by ext w;rfl
 |n::ns,_,w=>by
  cases w with
  |cons a b=>ext a;show⟨_,_,rfl,⟨_,rfl⟩,qv b⟩
def GB {l:OpenLaw}(hn:l.most=U n) (hpre:l.row.toRowW.claim.pre args=V):∃ns:Z Int,args=[.list (ns.map .int)]/\ns.length<=n:=by
 let(d,r,rfl,h1,h2):=hasAllW_cons (show WShape.hasAll [] args [.list .int]=V from(pre_splitW hpre).1)
 obtain rfl:=hasAllW_nil h2;let(xs,rfl,h3):=hasW_list h1;let(ns,rfl):=items_int h3;show⟨ns,rfl,?_⟩
 let hc:l.pre.holds [] {args:=[.list (ns.map .int)]}=V:=(pre_splitW hpre).2;let h4:=(holds_andW hc).1;rw[hn]at h4;let h5:=condW_of (show(WTm.not (.lt (.lit (.int (n:Int))) (.len (.arg 0)))).holds [] {args:=[.list (ns.map .int)]}=V from h4) (w_not (w_lt w_lit (w_len_list (w_arg rfl))))
 simp_all
theorem Fd {l:OpenLaw}{d:DefRec}{tb:Tb}{cs:CS}(hn:l.most=U n) (hn2:n<=sizeLine) (hdf:d.params.defaults=[]) (hr:Room k callerA) (hcs:tb.length=cs.length) (F:∀I:Md,I.tb=tb->I.P=l.prog->Seen cl ml defs bl cs I.K->HV tb cs I.K->I.K.In I.base->I.base.Ns mainGlobals I.mg->FnM k d.name f) (hf:∀(_:Md) (ns:Z Int),ns.length<=n->f [.lst (ns.map D.int)]=U (.bl V,Y)):
  WalkO q loose XP (YH tb cl ml defs bl cs) l.row.toRowW d [] (λf vs=>PySem.call f vs):=by
 intro w s₀ s₁ mg mb Z_ Tu fa o pm cd doc dV kV ho hd hcd hD hmg hg args vals as hpre hlay hrd hwl hlo;let(ns,rfl,hlen):=GB hn hpre;let(K,KX,S,ht,hL,hno):=Tu;cases hwl with
 |cons w1 w2=>
 ext w2;cases w1 with
 | @list a vs _ ha hall=>
 let hsy:a≠sysModules:=by
  cases hrd with
  |cons r1 r2=>cases r1 with
   |list h1 h2 h3 h4=>simp_all
 let hT:∀q∈tb,s₁.heap.get? q.1=U GL/\K.lookup q.1=B/\isCodeTable s₁.heap q.1:=λq hq=>⟨iB ht hq,iB hL.2 hq,by
  let(c,hz):=wn hcs hq;let(o,vs,_,_,_,_,_,_,_,e1,e2,e3,e4,_):=codeHd_of_K KX (iB hL.1 hz);show⟨c.2,o,vs,e1,e2,e3,e4⟩⟩
 letI hd:=a::tb.map (·.1)
 let un:∀{b:MM}{o:QY},s₁.heap.get? b=U o->(∀vs n,o.data≠.seq vs n)->(∀vs,o.data≠.fields vs)->b∉hd:=λ{b o} e n1 n2 z=>by
  rcases MG.mp z with rfl|z
  .rw[ha]at e;ext e;show n1 _ _ rfl
  .let(q,hq,rfl):=MC.mp z
   rw[(hT q hq).1]at e;ext e;show n2 _ rfl
 letI base:=hideAll s₁.heap hd
 let nsK:∀{b:MM}{m:MJ->G Ml},s₁.heap.Ns b m->base.Ns b m:=λ{b m} ⟨o,es,ep,e,d,r⟩=>⟨o,es,ep,hideAll_get _ e (un e (λ_ _ z=>()) λ_ z=>()),d,r⟩
 let hKb:K.In base:=λb o e=>hideAll_get _ (KX b o e) λz=>by
  rcases MG.mp z with rfl|z
  .have:=KX _ _ e
   grind
  .let(q,hq,rfl):=MC.mp z
   rw[(hT q hq).2.1]at e;ext e
 letI I:Md:=⟨l.prog,w,K,mg,base,tb,s₁.os,s₁.gens⟩
 letI ob:QY:={cls:=.type "list",data:=.seq vs.toArray}
 letI M:Mp:=⟨λb=>if b=a then U (.f,ob) else if b∈tb.map (·.1) then B else(s₁.heap.get? b).map λo=>(.p,o),[]⟩
 let Ma:M a=U (.f,ob):=n_ rfl;let ta:∀q∈tb,q.1≠a:=λq hq e=>by have:=(hT q hq).1;rw[e,ha]at this;ext this
 let Mt:∀q∈tb,M q.1=B:=λq hq=>(o_ (ta q hq)).trans (n_ (No hq))
 let Mp':∀{b o},s₁.heap.get? b=U o->b∉hd->M b=U (.p,o):=λ{b o} e z=>by
  grind
 let Mb:∀{b},b∈hd->b=a\/∃q∈tb,b=q.1:=λ{b} z=>(MG.mp z).imp id λz=>by let(q,hq,e):=MC.mp z;show⟨q,hq,e.symm⟩
 let Mi:∀{b k o},M b=U (k,o)->(b=a/\k=.f/\o=ob)\/(k=.p/\s₁.heap.get? b=U o):=λ{b k o} e=>by
  by_cases z:b∈hd
  .grind
  .cases h:s₁.heap.get? b with
   |some o'=>simp_all
   |none=>
    grind
 let Tx:Bas M s₁:=by
  show⟨⟨rfl,rfl⟩,λb k o e=>?_,λb o e=>Mp' (of_hideAll _ e) λz=>?_,λq hq=>⟨Mt q hq,#[],(hT q hq).1,trivial,λ_ _ e=>nomatch e⟩,λb k o e w=>?_,λb c j o o' e=>?_,λb j o e=>?_,λb o e=>?_,λk o e=>?_⟩
  .rcases Mi e with⟨rfl,_,rfl⟩|⟨_,e⟩
   .show ha
   .show e
  .cases (show base.get? b=B from hideAll_none _ z).symm.trans e
  .rcases Mi e with⟨_,z,_⟩|⟨z,_⟩<;>subst z<;>ext w
  .rcases Mi e with⟨_,z,_⟩|⟨z,_⟩<;>ext z
  .rcases Mi e with⟨_,z,_⟩|⟨z,_⟩<;>ext z
  .by_cases z:b∈hd
   .rcases Mb z with rfl|z
    .show .inl (by rw[Ma];simp)
    .show .inr z
   .show .inl (by rw[Mp' e z];simp)
  .rcases Mi e with⟨z,_,_⟩|⟨z,_⟩
   .lia
   .show z
 let hM:Mod:=⟨hKb,nsK Z_.T.g,⟨mb,nsK Z_.T.b,Z_.T.builtins⟩,let ⟨mc,h1,h2⟩:=Z_.T.nolimit;⟨mc,nsK h1,h2⟩,by
  let(bm,ob,b1,b2,b3,b4,b5,b6):=Z_.T.bmain;show⟨bm,ob,b1,b2,hideAll_get _ b3 (un b3 (λ_ _ z=>()) λ_ z=>()),b4,b5,b6⟩⟩
 let(p,hp,_,hc):=(F I rfl rfl S hL hKb (nsK Z_.T.g)).ex;cases hmg.symm.trans hp;let hw:Rs Y M (ns.map D.int) vs:=qv hall;let hlv:vs.length<=sizeLine:=by have:=hw.length;rw[Ms]at this;lia
 show enter_call (Rq (hc hr hM Tx (us:=[.ref a]) (ds:=[.lst (ns.map D.int)]) ⟨_,_,rfl,⟨a,ob,vs,rfl,⟨.f,Ma,rfl⟩,⟨hlv,_,rfl⟩,hw⟩,rfl⟩ (J:=[]) (J':=[]) ⟨(λz=>nomatch z),λ_=>⟨rfl,λa j o z=>by rcases Mi z with⟨_,z,_⟩|⟨z,_⟩<;>cases z⟩,λj d b z=>by simp at z⟩ (show mn f _ []=U (.bl V,Y,[]) by ext mn;rw[hf I ns hlen])) λr s' hq=>?_)
 let(v,X',M1,δ1,rfl,hs,Z7,_,_,_,hv):=hq;obtain rfl:v=.bool V:=hv;let key:∀b o,s₁.heap.get? b=U o->s'.heap.get? b=U o\/∃q∈tb,b=q.1:=λb o e=>by
  by_cases z:b∈hd
  .rcases Mb z with rfl|z
   .rw[ha]at e;ext e
    show .inl (Z7.heap _ _ _ (KR.mp (hs.f _ _ (KR.mpr Ma))))
   .show .inr z
  .show .inl (Z7.heap _ _ _ (hs.p _ _ (Mp' e z)))
 show⟨.inl ⟨.bool V,.bool V,[],rfl,λ_=>rfl,.bool V,?_,λ_=>⟨Q4,λ_ hm=>(nomatch hm)⟩⟩,⟨λb o e=>?_,λb o e=>?_⟩,Z7.og.1,.of_eq (Z7.og.2.trans hg)⟩
 .show postW_of (r:=l.row.toRowW) (X:=(V==V)) (show WShape.has [] (.bool V) .bool=V by rfl)
   (show(WTm.eq .res (.lit (.bool V))).value [] {args:=_,res:=U (.bool V),after:=_}=U (.bool (V==V)) from w_eq_bool (w_res rfl) w_lit) rfl
 .rcases key b o e with h|⟨q,hq,rfl⟩
  .show .inl h
  .rw[(hT q hq).1]at e;ext e
   let(_,ps,h,_):=Z7.tabs q hq;show .inr (.inl ⟨(hT q hq).2.2,rfl,#[],ps,rfl,by rw[h];simp[GL]⟩)
 .rcases key b o e with h|⟨q,hq,rfl⟩
  .show⟨o,h⟩
  .let(_,ps,h,_):=Z7.tabs q hq
   show⟨_,h⟩
end L2
namespace K21
open PySem L2 Md
def Fe [Md] (S:Seen LW Lb vK Kh Lg K) (X:K.In base) (Z_:base.Ns mainGlobals mg) (ht:tb=Lr) (L:HV Lr Lg K):FnM 13 "law" f_law:=by
 let T:=S.txt X Z_;let hTu:∀p∈Lr,∀q∈tb,q.1=p.1->q=p:=by rw[ht];decide
 let DPart:=S.dfI X Z_ 0 1 (c:="Part") (q:="Part.__init__") (ns:=aZ) (st:=iL) rfl rfl;let u:=DPart.cls;let DChoice:=S.dfI X Z_ 1 0 (c:="Choice") (q:="Choice.__init__") (ns:=nsChoice) (st:=fg) rfl rfl;let h:=DChoice.cls;let DSearch:=S.dfI X Z_ 2 7 (c:="Search") (q:="Search.__init__") (ns:=am) (st:=eZ) rfl rfl;let k:=DSearch.cls;let zD2:=r5 T (S.df X Z_ 0 rfl);let zC7:=oO T DChoice u;let t:=si T DPart;let r:=gU T (S.dfTC X Z_ 2 2 0 (ns:=am) rfl rfl rfl) (by rw[ht];trivial) (hTu (104,"Search.first_domain.<locals>.<lambda>") (.head _)) (S9 X (iB L.1 (.head _))) u k
 let E:=mw T (S.dfT X Z_ 2 3 (ns:=am) rfl rfl) k;let zD7:=AQ T (S.df X Z_ 1 rfl);let s:=j8 T (S.dfT X Z_ 2 4 (ns:=am) rfl rfl) u k zD7;let z:=ly T (S.dfT X Z_ 2 5 (ns:=am) rfl rfl) k E s;let d:=iM T (S.dfT X Z_ 2 6 (ns:=am) rfl rfl) u k t r z;let H:=pA T (S.df X Z_ 2 rfl);let zD9:=Du T (S.df X Z_ 3 rfl);let A:=oP T (S.df X Z_ 4 rfl) zD9;let C:=mV T (S.df X Z_ 5 rfl);let e:=jq T (S.df X Z_ 6 rfl);let M:=nY T DSearch H A C e;let b:=jd T (S.dfTC X Z_ 2 8 1 (ns:=am) rfl rfl rfl) (by rw[ht];trivial) (hTu (126,"Search.narrowest.<locals>.<lambda>") (.tail _ (.head _))) (S9 X (iB L.1 (.tail _ (.head _)))) u k
 let F:=mI T (S.df X Z_ 7 rfl);let zD4:=vL T (S.df X Z_ 8 rfl) F;let zD8:=D9 T (S.df X Z_ 9 rfl) u t;let R:=lH T (S.dfT X Z_ 2 9 (ns:=am) rfl rfl) u k zD4 zD8;let n:=iT T (S.dfT X Z_ 2 10 (ns:=am) rfl rfl) u k;let g:=dx T (S.dfT X Z_ 2 11 (ns:=am) rfl rfl) k zD2;let m:=i2 T (S.dfT X Z_ 2 12 (ns:=am) rfl rfl) k n g;let f:=iJ T (S.dfT X Z_ 2 13 (ns:=am) rfl rfl) h k m;let Q:=mj T (S.dfT X Z_ 2 14 (ns:=am) rfl rfl) u k t z;let y:=fR T (S.dfT X Z_ 2 15 (ns:=am) rfl rfl) h k f Q;let zD6:=xJ T (S.df X Z_ 10 rfl) h u;let zC8:=qQ T (S.df X Z_ 11 rfl) h k zC7 d M b R y zD6;let zE1:=HD T (S.df X Z_ 12 rfl) zC8;let i:=p5 T (S.df X Z_ 13 rfl);let j:=qo T (S.df X Z_ 14 rfl);let l:=qU T (S.df X Z_ 15 rfl) j;let I:=mL T (S.df X Z_ 16 rfl) j;let a:=p9 T (S.df X Z_ 17 rfl);let zD3:=u2 T (S.df X Z_ 18 rfl) a j;let D:=oX T (S.df X Z_ 19 rfl) j l;let x:=qh T (S.df X Z_ 20 rfl);let P:=mN T (S.df X Z_ 21 rfl) i;let v:=pI T (S.df X Z_ 22 rfl) x;let w:=oY T (S.df X Z_ 23 rfl);let N:=kZ T (S.df X Z_ 24 rfl) P i;let zD5:=vt T (S.df X Z_ 25 rfl) w N v;let zC9:=qL T (S.df X Z_ 26 rfl);let o:=gA T (S.df X Z_ 27 rfl) zC9 v 8;let zD1:=sB T (S.df X Z_ 28 rfl) w zD5 o zE1;let zE0:=Hp T (S.df X Z_ 29 rfl) a j v I zD3 x D zD1 l;show zE0
end K21
namespace L2
open PySem
variable[Md]
def xF (ns:Z MJ):vm (ns.map D.str)=U ns:=by
 induction ns with
 |nil=>rfl
 |cons n ns ih=>simp![Mx,vm,ih]
@[simp] theorem lim_eq:LZ=1000000:=by decide
@[simp] theorem bindO_s {k β:Type}(a:k) (f:k->G β):ac (U a) f=f a:=(rfl)
@[simp] theorem shO_s (d:D) (b:Bool):JT (U (d,b))=U d:=(rfl)
@[simp] theorem frO_s (ds:Z D):Km (U (.lst ds,V))=U (.lst ds):=(rfl)
@[simp] theorem consO_s (a:D) (l:Z D):aa (U a) (U l)=U (a::l):=(rfl)
@[simp] theorem seqO_n (O:DEnv) (k:DEnv->G Out):aq (U (.next O)) k=k O:=(rfl)
@[simp] theorem ifO_t (x y:G Out):JZ (U V) x y=x:=(rfl)
@[simp] theorem ifO_f (x y:G Out):JZ (U Y) x y=y:=(rfl)
@[simp] theorem retF_s (d:D) (O:DEnv):j4 (U d) O=U (.ret d V O):=(rfl)
@[simp] theorem outF_r (d:D) (b:Bool) (O:DEnv):jr (U (.ret d b O))=U (d,b):=(rfl)
@[simp] theorem nextO_s (O:DEnv):aU O=U (.next O):=(rfl)
@[simp] theorem setO_s (i:Nat) (d:D) (O:DEnv) (h:i<O.length):cC i (U d) O=U (.next (O.set i (U (d,Y)))):=by ext cC;simp![n_ h]
@[simp] theorem setF_s (i:Nat) (d:D) (O:DEnv) (h:i<O.length):gE i (U d) O=U (.next (O.set i (U (d,V)))):=by ext gE;simp![n_ h]
@[simp] theorem toName_s (i:Nat) (d:D) (O:DEnv) (h:i<O.length):ae i d O=U (O.set i (U (d,Y))):=by ext ae;simp![n_ h]
@[simp] theorem addI_s (i j:Int):gX (U (.int i)) (U (.int j))=U (.int (i+j)):=(rfl)
@[simp] theorem mulI_s (i j:Int) (h:(-(2 ^ 64)<i/\i<2 ^ 64)\/(-(2 ^ 64)<j/\j<2 ^ 64)):vQ (U (.int i)) (U (.int j))=U (.int (i*j)):=by simp![vQ,b2,ac,bI,gd,Ip,decide_eq_true_eq,n_ h]
@[simp] theorem modI_s (i j:Int) (h:0<j):fP (U (.int i)) (U (.int j))=U (.int (i%j)):=by simp[fP,b2,ac,bI,gd,Ik,h]
@[simp] theorem divI_s (i j:Int) (h:0<j/\j<1073741824):mA (U (.int i)) (U (.int j))=U (.int (i / j)):=by simp[mA,b2,ac,bI,gd,Ia,h]
@[simp] theorem tupO_s (ds:Z D) (h:ds.length<=LZ):fS (U ds)=U (.tup ds):=by simp![fS,b2,ac,gd,decide_eq_true_eq,n_ h]
@[simp] theorem lstO_s (ds:Z D) (h:ds.length<=LZ):eU (U ds)=U (.lst ds):=by simp![eU,b2,ac,gd,decide_eq_true_eq,n_ h]
@[simp] theorem lstLim_s (ds:Z D):au (U ds)=U (.lst ds):=(rfl)
@[simp] theorem lstL_s (ds:Z D):aV (U (.lst ds))=U ds:=(rfl)
@[simp] theorem tupleO_l (ds:Z D):m7 (U (.lst ds))=U (.tup ds):=(rfl)
@[simp] theorem lenL_l (ds:Z D):cS (U (.lst ds))=U (.int ds.length):=(rfl)
@[simp] theorem lenL_t (ds:Z D):cS (U (.tup ds))=U (.int ds.length):=(rfl)
@[simp] theorem ixO_l (ds:Z D) (i:Int):Lm (U (.lst ds)) (U (.int i))=atI ds i:=(rfl)
@[simp] theorem partI_s (i:Int):bA (U (.int i))=U (U i):=(rfl)
@[simp] theorem cutLO_s (ds:Z D) (l u:G Int):cR (U (.lst ds)) (U l) (U u)=U (.lst (pE ds l u)):=(rfl)
@[simp] theorem cutSO_s (z:MJ) (l u:G Int) (h:z.length<=LZ):xH (U (.str z)) (U l) (U u)=U (.str (xL z l u)):=by simp![xH,b3,b2,ac,gd,decide_eq_true_eq,n_ h]
@[simp] theorem addS_s (x y:MJ) (h:x.length+y.length<=LZ):GE (U (.str x)) (U (.str y))=U (.str (x++y)):=by simp![GE,b2,ac,gd,decide_eq_true_eq,n_ h]
@[simp] theorem notO_s (b:Bool):a7 (U b)=U (!b):=(rfl)
@[simp] theorem cI_s (g:Int->Int->Bool) (i j:Int):cI g (U (.int i)) (U (.int j))=U (g i j):=(rfl)
@[simp] theorem orO_f (y:G Bool):Ku (U Y) y=y:=(rfl)
@[simp] theorem andO_t (y:G Bool):jM (U V) y=y:=(rfl)
@[simp] theorem andO_f (y:G Bool):jM (U Y) y=U Y:=(rfl)
theorem zr (x y:D) (h:Le x y=V):KP (U x) (U y)=U (decide (x=y)):=by simp![KP,b2,ac,gd,decide_eq_true_eq,n_ h]
@[simp] theorem eqO_int (i j:Int):KP (U (.int i)) (U (.int j))=U (decide (i=j)):=by
 rw[zr _ _ (by rfl)];simp![D.int.injEq]
def Gh (x y:D) (h:Le x y=V):KZ (U x) (U y)=U (!decide (x=y)):=by ext KZ;rw[zr _ _ h];rfl
def ni (j:Int) (h: -(2 ^ 62)<=j/\j<2 ^ 62):rI (U (.int j))=U (jH 0 j.toNat):=by ext rI;simp![decide_eq_true h,if_true]
def tB {ds:Z D}(d:D) (h:O[i]?=U (U (.lst ds,V))) (k:ds.length<LZ):rH i (U d) O=U (.next (O.set i (U (.lst (ds++[d]),V)))):=by
 unfold rH dh;simp![h,n_ k]
def EZ {ds es:Z D}(h:O[i]?=U (U (.lst ds,V))) (k:ds.length+es.length<=LZ):Eb i (U (.lst es)) O=U (.next (O.set i (U (.lst (ds++es),V)))):=by
 unfold Eb dh;simp![h,n_ k]
@[simp] theorem rd_0 (m:Bool) (d:D) (O:DEnv):rd m 0 (U (d,Y)::O)=U d:=(rfl)
@[simp] theorem rdOwn_0 (ds:Z D) (O:DEnv):dh 0 (U (.lst ds,V)::O)=U (.lst ds):=(rfl)
@[simp] theorem rdOwn_1 (i:Nat) (x:G (D×Bool)) (O:DEnv):dh (i+1) (x::O)=dh i O:=(rfl)
theorem Be {ds:Z D}(h:ds.length=k):iD n k g ds=jr (g (bP n ds)):=by ext iD;rw[n_ h]
def lY {ds:Z D}(u:f=iD n k g) (j:ds.length=k) (hs:bP n ds=O):f ds=jr (g O):=by subst u hs;show Be j
def Bw {k:Type}{xs:Z k}{i:Int}(g:0<=i) (u:i<xs.length):∃v,v∈xs/\xs[i.toNat]?=U v/\atI xs i=U v:=by
 let hi:i.toNat<xs.length:=⟨⟩
 show⟨xs[i.toNat],OH hi,by simp[hi],?_⟩
 have:=DQ (xs:=xs) (j:=i.toNat) (v:=xs[i.toNat]) (by simp[hi])
 rwa[Int.toNat_of_nonneg g]at this
theorem tI {h:D->G (G D)}{P:D->D->Prop}:∀{ds:Z D},(∀d∈ds,∃y,h d=U (U y)/\P d y)->∃g:Z D,dz h ds=U g/\g.length=ds.length/\∀(i:Nat) d,ds[i]?=U d->∃y,g[i]?=U y/\P d y
 |[],_=>⟨[],rfl,rfl,λi d h=>by simp at h⟩
 |d::ds,e=>by
  let(y,e1,p):=e d (MB ..);let(g,e2,hl,hp):=tI λx hx=>e x (MA _ hx)
  show⟨y::g,?_,by simp[hl],λi z hz=>?_⟩
  .ext dz;rw[e1,e2]
  .cases i with
   |zero=>simp_all
   |succ i=>simp_all
def yk {bo:Bool}{bs:Z Bool}{fe:DEnv->G D}{ds:Z D}(h:ds.length<=LZ):bS bo bs τ ft fe O ds=dz (dk τ ft fe (eX bo bs O)) ds:=by ext bS;rw[n_ h]
def zo {lo:Int}(h:d∈jH lo n):∃i:Nat,i<n/\d=.int (lo+i):=by
 let(i,hi,e):=MC.mp h;show⟨i,NE.mp hi,e.symm⟩
def ja (lo:Int) (n:Nat):(jH lo n).length=n:=by ext jH;simp
def xf:∀(ts:Z MJ),(SL "" ts).length=(ts.map (·.length)).sum:=by
 intro ts;change(Builtin.Str.glued "" ts).length=_;rw[StrLaws.glued_eq_join]
 induction ts with
 |nil=>rfl
 |cons x r ih=>
  cases r with
  |nil=>rfl
  |cons y r=>
   change(x++("":MJ)++Str.join "" (y::r)).length=_;rw[PL,PL,ih];rfl
def BP {P:D->D->Prop}{ds g:Z D}{Q:MJ->Prop}(hl:g.length=ds.length) (h:∀(i:Nat) d,ds[i]?=U d->∃y,g[i]?=U y/\P d y) (hP:∀d y,P d y->∃x,y=.str x/\Q x):∃ss:Z MJ,g=ss.map D.str/\∀x∈ss,Q x:=by
 let hy:∀y∈g,∃x,y=.str x/\Q x:=λy hy=>by
  let(i,hi,e):=Rh.mp hy;let(z,ez,p):=h i (ds[i]'()) (by simp)
  rw[Mq hi]at ez
  obtain rfl:=NB ez;rw[<-e];show hP _ _ p
 clear h hl
 induction g with
 |nil=>simp
 |cons y g ih=>
  let(x,e,q):=hy y (MB ..);let(ss,e2,q2):=ih λz hz=>hy z (MA _ hz)
  show⟨x::ss,by rw[e,e2];rfl,λz hz=>?_⟩
  grind
def CG (z:MJ) (ys:Z MJ) (h:(ys.map (·.length)).sum+ys.length*z.length<=16777216):Ai (U (.str z)) (U (.lst (ys.map D.str)))=U (.str (SL z ys)):=by
 simp![Ai,b2,ac,gd,xF,decide_eq_true_eq,n_ h]
def ud {ss:Z MJ}(h:∀x∈ss,x.length=1):(ss.map (·.length)).sum=ss.length:=by
 induction ss with
 |nil=>rfl
 |cons x r ih=>
  grind
@[simp] theorem lenS_s (z:MJ) (h:z.length<=LZ):GP (U (.str z))=U (.int z.length):=by simp![GP,ac,gd,decide_eq_true_eq,n_ h]
theorem Dk (n d k:Nat):LR n d (U (k:Int))=min k n:=by
 rfl
def CD (x y:MJ):KP (U (.str x)) (U (.str y))=U (decide (x=y)):=by
 rw[zr _ _ rfl];simp
end L2
namespace JP
open PySem L2
variable[Md]
inductive Ce where|nm (w:MJ)|bk (n:Int)
deriving DecidableEq,Inhabited
inductive Te where|any (l:MJ)|nm (w:MJ)
deriving DecidableEq
def KQ:Ce->D|.nm w=>.tup [.str "name",.str w]|.bk n=>.tup [.str "blank",.int n]
def sK (h:KQ a=KQ b):a=b:=by
 ext a<;>ext b<;>simp[KQ]at h
 .rw[h]
 .rw[h]
abbrev Ja:=MJ×Z Ce
abbrev K6:=MJ×Z Te
def ai (r:Ja):D:=.tup [.str r.1,.tup (r.2.map KQ)]
abbrev Ky:=MJ->Ce
def ev (φ:Ky):Te->Ce|.any l=>φ l|.nm w=>.nm w
def Iz (rows:Z Ja) (φ:Ky) (p:K6):Prop:=∃r∈rows,r.1=p.1/\r.2=p.2.map (ev φ)
def Jb:Z Te->Z MJ
 |[]=>[]
 |.any l::ts=>l::Jb ts
 |.nm _::ts=>Jb ts
abbrev Bi:=Z (MJ×Ce)
def gt (b:Bi) (l:MJ):G Ce:=(b.find? λq=>decide (q.1=l)).map (·.2)
def Js:Z Te->Z Ce->Bi->G Bi
 |.any l::ts,c::cs,b=>(match gt b l with|some c'=>if c'=c then Js ts cs b else B|none=>Js ts cs (b++[(l,c)]))
 |.nm w::ts,c::cs,b=>if Ce.nm w=c then Js ts cs b else B
 |_,_,b=>U b
def HP (p:K6) (r:Ja):G Bi:=if r.1=p.1/\r.2.length=p.2.length then Js p.2 r.2 [] else B
def binds (rows:Z Ja) (p:K6):Z Bi:=rows.filterMap (HP p)
def vl (b:Bi) (ls:Z MJ):Z Ce:=ls.map λl=>(gt b l).getD default
abbrev Gr:=Z (Z Ce×Z (Z Ce))
def Ix (g:Gr) (k:Z Ce):Z (Z Ce):=((g.find? λq=>decide (q.1=k)).map (·.2)).getD []
def pk (c:Z Ce) (ps:Z Nat):Z Ce:=ps.map λi=>c.getD i default
def Kv (x:Z Ce) (l:Z (Z Ce)):Z (Z Ce):=if x∈l then l else l++[x]
def aL:y∈Kv x l↔y∈l\/y=x:=by
 unfold Kv;split
 .constructor
  .show .inl
  .lia
 .simp
nonrec theorem mW (h:l.Nodup):(Kv x l).Nodup:=by
 unfold Kv;split
 .show h
 .rename_i n
  rw[NQ];show⟨h,by simp,λa j b k e=>n (by simp_all)⟩
def Iw (g:Gr) (sp kp:Z Nat) (l:Z (Z Ce)) (c:Z Ce):Z (Z Ce):=(Ix g (pk c sp)).foldl (λl a=>Kv (pk c kp++a) l) l
def ext (k:Z (Z Ce)) (sp kp:Z Nat) (g:Gr):Z (Z Ce):=k.foldl (Iw g sp kp) []
structure Jn (rows:Z Ja) (kn:Z MJ) (fd:Z (Z Ce)) (wanted:Z MJ) (done rest:Z K6) (known:Z MJ) (found:Z (Z Ce)):Prop where
 nk:known.Nodup
 nf:found.Nodup
 mem:∀x,x∈found↔∃φ:Ky,x=known.map φ/\kn.map φ∈fd/\∀p∈done,Iz rows φ p
 has:∀l,(l∈kn\/∃p∈done,l∈Jb p.2)->(l∈wanted\/∃p∈rest,l∈Jb p.2)->l∈known
 few:∀l∈known,l∈wanted\/∃p∈rest,l∈Jb p.2
end JP
namespace K21
open PySem L2 JP
def nz:a≠0↔∃k,a.testBit k=V:=by
 constructor
 .intro h
  apply Nx;intro j;show h (Nat.eq_of_testBit_eq λi=>?_)
  simp_all
 .rintro⟨k,h⟩ rfl;simp at h
def uG:a&&& b≠0↔∃k,a.testBit k=V/\b.testBit k=V:=by
 simp[nz,SB,Mo]
def to (φ:Int->Ce):Ce->Ce|.nm w=>.nm w|.bk n=>φ n
def Ld (φ:Int->Ce) (r:Ja):Ja:=(r.1,r.2.map (to φ))
def wN (one oth:Z Ja) (φ:Int->Ce):Prop:=∀r∈one,Ld φ r∈oth
def tE (r:Ja) (p:Nat) (n:Int):Prop:=r.2[p]?=U (.bk n)/\∀j,j<p->r.2[j]?≠U (.bk n)
structure Ky (r q:Ja):Prop where
 tb:r.1=q.1
 ln:r.2.length=q.2.length
 nm:∀(p:Nat) w,r.2[p]?=U (.nm w)->q.2[p]?=U (.nm w)
 al:∀(j p:Nat),j<p->p<r.2.length->r.2[j]?=r.2[p]?->q.2[j]?=q.2[p]?
def kO {α:Type}{l:Z α}{x:α}{p:Nat}(h:l[p]?=U x):∃j,j<=p/\l[j]?=U x/\∀i,i<j->l[i]?≠U x:=by
 induction p using Oq with
 |ind p ih=>
  by_cases z:∃i,i<p/\l[i]?=U x
  .let(i,h1,h2):=z
   let(j,a,b,c):=ih i h1 h2;show⟨j,(),b,c⟩
  .show⟨p,Mj _,h,λi hi e=>z ⟨i,hi,e⟩⟩
def r6 {φ:Int->Ce}{r q:Ja}:Ld φ r=q↔Ky r q/\∀p n,tE r p n->q.2[p]?=U (φ n):=by
 constructor
 .rintro rfl
  show⟨⟨rfl,by simp[Ld],λp w h=>by simp[Ld,h,to],λj p _ _ h=>by simp[Ld,h]⟩,λp n h=>by simp[Ld,h.1,to]⟩
 .rintro⟨f,h⟩
  let(t,cs):=q;obtain rfl:r.1=t:=f.tb;show QM rfl (PK λp=>?_)
  change(r.2.map (to φ))[p]?=cs[p]?;rw[MO]
  cases e:r.2[p]? with
  |none=>
   have:=List.getElem?_eq_none_iff.mp e
   let v:r.2.length=cs.length:=f.ln;rw[ON ⟨⟩];rfl
  |some c=>
   cases c with
   |nm w=>show(f.nm p w e).symm
   |bk n=>
    let(j,u,k,g):=kO e;have:=h j n ⟨k,g⟩;change U (φ n)=_;rw[<-this]
    rcases Nat.lt_or_eq_of_le u with z|rfl
    .show f.al j p z (L9.mp e).1 (k.trans e.symm)
    .rfl
structure Sd where
 one:Z Ja
 oth:Z Ja
def Sd.at (S:Sd) (k p:Nat):G Ce:=(S.oth[k]?).bind λq=>q.2[p]?
def Sd.spot (S:Sd) (r p:Nat) (n:Int):Prop:=∃x,S.one[r]?=U x/\tE x p n
def Sd.fm (S:Sd) (r k:Nat):Prop:=∃x q,S.one[r]?=U x/\S.oth[k]?=U q/\Ky x q
structure Pt where
 ks:Z Int
 dom:Int->Z Ce
 rs:Z Nat
 mask:Nat->Nat
structure Sol (S:Sd) (P:Pt) (φ:Int->Ce):Prop where
 d:∀n∈P.ks,φ n∈P.dom n
 r:∀r∈P.rs,∃k,(P.mask r).testBit k=V/\∀p n,S.spot r p n->n∈P.ks->S.at k p=U (φ n)
def KT (S:Sd) (P:Pt) (r p:Nat) (c:Ce):Prop:=∃k,(P.mask r).testBit k=V/\S.at k p=U c
structure Ok (S:Sd) (P:Pt):Prop where
 nz:∀r∈P.rs,P.mask r≠0
 cov:∀r∈P.rs,∀k,(P.mask r).testBit k=V->∀p n,S.spot r p n->n∈P.ks->∃c∈P.dom n,S.at k p=U c
 rect:∀r∈P.rs,∀k,(P.mask r).testBit k=V↔S.fm r k/\∀p n,S.spot r p n->∃c,S.at k p=U c/\KT S P r p c
 full:∀n∈P.ks,∀c,c∈P.dom n↔∀r∈P.rs,∀p,S.spot r p n->KT S P r p c
def sw (x y:Ce) (c:Ce):Ce:=if c=x then y else if c=y then x else c
def IB (Z8:Ok S P) (ch:∀q∈S.oth,(q.1,q.2.map (sw (.bk i) (.bk j)))∈S.oth) (al:∀r∈P.rs,∀p n,S.spot r p n->(KT S P r p (.bk i)↔KT S P r p (.bk j))) (h:Sol S P φ):Sol S P λn=>sw (.bk i) (.bk j) (φ n):=by
 let su:∀r∈P.rs,∀p n,S.spot r p n->∀c,KT S P r p c->KT S P r p (sw (.bk i) (.bk j) c):=λr g p n hs c W=>by
  ext sw
  grind
 show⟨λn u=>(Z8.full n u _).mpr λr g p hs=>su r g p n hs _ ((Z8.full n u _).mp (h.d n u) r g p hs),λr g=>?_⟩
 let(k,l,m):=h.r r g;let((x,q,K,o,f),t):=(Z8.rect r g k).mp l;let(v,s):=MV.mp (ch q (Mr o));let at':∀p,S.at v p=(S.at k p).map (sw (.bk i) (.bk j)):=λp=>by
  unfold Sd.at;simp_all
 show⟨v,(Z8.rect r g v).mpr ⟨⟨x,_,K,s,⟨f.tb,by simp[f.ln],λp w e=>?_,λa b y z e=>?_⟩⟩,λp n hs=>?_⟩,λp n hs u=>?_⟩
 .simp[f.nm p w e,sw]
 .simp[f.al a b y z e]
 .let(c,T,N):=t p n hs
  show⟨_,by simp_all,su r g p n hs c N⟩
 .rw[at',m p n hs u];rfl
structure Iv (S:Sd) (P:Pt) (W:Nat->Prop):Prop where
 nz:∀r∈P.rs,P.mask r≠0
 rect:∀r∈P.rs,∀k,(P.mask r).testBit k=V↔S.fm r k/\∀p n,S.spot r p n->∃c,S.at k p=U c/\KT S P r p c
 cov:∀r∈P.rs,¬W r->∀k,(P.mask r).testBit k=V->∀p n,S.spot r p n->n∈P.ks->∃c∈P.dom n,S.at k p=U c
 sup:∀r∈P.rs,¬W r->∀p n,S.spot r p n->n∈P.ks->∀c∈P.dom n,KT S P r p c
 row:∀n∈P.ks,∃r∈P.rs,∃p,S.spot r p n
def Iv.ok (I:Iv S P λ_=>False):Ok S P:=⟨I.nz,λr j=>I.cov r j id,I.rect,λn g c=>by
 constructor
 .show λh r j p hs=>I.sup r j id p n hs g c h
 .intro h
  let(r,j,p,hs):=I.row n g;let(k,u,z):=h r j p hs;let(q,y,v):=I.cov r j id k u p n hs g;rfl'⟩
structure Rev (S:Sd) (P P':Pt) (r:Nat):Prop where
 ks:P'.ks=P.ks
 rs:P'.rs=P.rs
 mm:∀k,(P'.mask r).testBit k=V↔(P.mask r).testBit k=V/\∀p n,S.spot r p n->n∈P.ks->∃c∈P.dom n,S.at k p=U c
 mo:∀r',r'≠r->P'.mask r'=P.mask r'
 dm:∀n∈P.ks,∀c,c∈P'.dom n↔c∈P.dom n/\∀p,S.spot r p n->KT S P' r p c
def Rev.sol (R:Rev S P v r) (w:r∈P.rs):Sol S P φ↔Sol S v φ:=by
 constructor
 .intro h
  let(k,c,u):=h.r r w;let y:(v.mask r).testBit k=V:=(R.mm k).mpr ⟨c,λp n hs j=>⟨φ n,h.d n j,u p n hs j⟩⟩
  show⟨λn j=>?_,λq g=>?_⟩
  .rw[R.ks]at j
   show(R.dm n j _).mpr ⟨h.d n j,λp hs=>⟨k,y,u p n hs j⟩⟩
  .rw[R.rs]at g
   by_cases z:q=r
   .subst z;show⟨k,y,λp n hs j=>u p n hs (R.ks▸j)⟩
   .let(t,a,b):=h.r q g
    show⟨t,by rw[R.mo q z];show a,λp n hs j=>b p n hs (R.ks▸j)⟩
 .intro h
  show⟨λn j=>((R.dm n j _).mp (h.d n (R.ks▸j))).1,λq g=>?_⟩
  let(k,a,b):=h.r q (R.rs▸g);show⟨k,?_,λp n hs j=>b p n hs (R.ks▸j)⟩
  by_cases z:q=r
  .subst z;show((R.mm k).mp a).1
  .rw[R.mo q z]at a;show a
def Rev.no (R:Rev S P g r) (j:r∈P.rs) (v:g.mask r=0):¬Sol S P φ:=λh=>by
 let(k,u,_):=((R.sol j).mp h).r r (R.rs▸j)
 simp_all
def Rev.iv (R:Rev S P m r) (I:Iv S P W) (K:r∈P.rs) (D:m.mask r≠0) (T:∀q∈P.rs,q≠r->¬F q->¬W q/\∀p n,S.spot q p n->n∈P.ks->∀c∈P.dom n,c∈m.dom n):Iv S m F:=by
 let so:∀q,q≠r->∀p c,KT S m q p c↔KT S P q p c:=λq z p c=>by ext KT;rw[R.mo q z]
 show⟨λq u=>?_,λq u k=>?_,λq u e k t p n hs j=>?_,λq u e p n hs j c N=>?_,λn j=>?_⟩
 .by_cases z:q=r
  .rfl'
  .rw[R.mo q z];show I.nz q (R.rs▸u)
 .by_cases z:q=r
  .subst z
   constructor
   .intro t
    let Q:=(R.mm k).mp t;let(f,g):=(I.rect q K k).mp Q.1;show⟨f,λp n hs=>?_⟩
    let(c,v,_):=g p n hs;show⟨c,v,k,t,v⟩
   .rintro⟨f,g⟩
    show(R.mm k).mpr ⟨(I.rect q K k).mpr ⟨f,λp n hs=>?_⟩,λp n hs j=>?_⟩
    .let(c,v,l,y,C):=g p n hs
     show⟨c,v,l,((R.mm l).mp y).1,C⟩
    .let(c,v,l,y,C):=g p n hs
     let(c',d1,d2):=((R.mm l).mp y).2 p n hs j
     simp_all
  .rw[R.mo q z,I.rect q (R.rs▸u) k]
   simp![so q z]
 .by_cases z:q=r
  .subst z
   let(c,v,y):=((R.mm k).mp t).2 p n hs (R.ks▸j);show⟨c,(R.dm n (R.ks▸j) c).mpr ⟨v,λo h=>?_⟩,y⟩
   let(x,X,L,M):=hs;let(H,d,A,E):=h;rw[X]at d;ext d;have:p=o:=by
    rcases RW p o with w|w|w
    .simp_all
    .show w
    .simp_all
   subst this;show⟨k,t,y⟩
  .let(i,s):=T q (R.rs▸u) z e
   rw[R.mo q z]at t;let(c,v,y):=I.cov q (R.rs▸u) i k t p n hs (R.ks▸j);show⟨c,s p n hs (R.ks▸j) c v,y⟩
 .by_cases z:q=r
  .subst z;show((R.dm n (R.ks▸j) c).mp N).2 p hs
  .let(i,s):=T q (R.rs▸u) z e
   show(so q z p c).mpr (I.sup q (R.rs▸u) i p n hs (R.ks▸j) c ((R.dm n (R.ks▸j) c).mp N).1)
 .let(q,a,b):=I.row n (R.ks▸j)
  show⟨q,R.rs▸a,b⟩
def Ok.one (Z8:Ok S P) (h:∀n∈P.ks,∀c,c∈P.dom n↔c=φ n):Sol S P φ:=by
 show⟨λn j=>(h n j _).mpr rfl,λr g=>?_⟩
 let(k,u):=K21.nz.mp (Z8.nz r g);show⟨k,u,λp n hs j=>?_⟩
 let(c,y,v):=Z8.cov r g k u p n hs j
 simp_all
def db (P:Pt) (n:Int):Prop:=n∈P.ks/\¬∃c,∀k,k∈P.dom n↔k=c
structure Pie (S:Sd) (P Q:Pt):Prop where
 rs:∀r∈Q.rs,r∈P.rs
 ks:∀n∈Q.ks,db P n
 dom:∀n∈Q.ks,Q.dom n=P.dom n
 mask:∀r∈Q.rs,Q.mask r=P.mask r
 all:∀r∈Q.rs,∀p n,S.spot r p n->db P n->n∈Q.ks
 rows:∀n∈Q.ks,∀r∈P.rs,∀p,S.spot r p n->r∈Q.rs
structure Spl (S:Sd) (P:Pt) (Qs:Z Pt):Prop where
 pie:∀Q∈Qs,Pie S P Q
 all:∀n,db P n->∃Q∈Qs,n∈Q.ks
def Pie.sup (h:Pie S P Q) (k:r∈Q.rs):KT S Q r p c↔KT S P r p c:=by ext KT;rw[h.mask r k]
def Pie.ok (h:Pie S P Q) (Z8:Ok S P):Ok S Q:=by
 show⟨λr j=>by rw[h.mask r j];show Z8.nz r (h.rs r j),λr j k v p n hs u=>?_,λr j k=>?_,λn u c=>?_⟩
 .rw[h.mask r j]at v
  rw[h.dom n u];show Z8.cov r (h.rs r j) k v p n hs (h.ks n u).1
 .rw[h.mask r j,Z8.rect r (h.rs r j) k]
  simp![h.sup j]
 .rw[h.dom n u,Z8.full n (h.ks n u).1]
  constructor
  .show λg r j p hs=>(h.sup j).mpr (g r (h.rs r j) p hs)
  .show λg r j p hs=>(h.sup (h.rows n u r j p hs)).mp (g r (h.rows n u r j p hs) p hs)
def Pie.sol (h:Pie S P Q) (s:Sol S P φ):Sol S Q φ:=by
 show⟨λn j=>by rw[h.dom n j];show s.d n (h.ks n j).1,λr g=>?_⟩
 let(k,v,u):=s.r r (h.rs r g);show⟨k,by rw[h.mask r g];show v,λp n hs j=>u p n hs (h.ks n j).1⟩
def Spl.sol {Qs:Z Pt}(h:Spl S P Qs) (Z8:Ok S P) (m:∀Q∈Qs,Sol S Q φ) (b:∀n∈P.ks,¬db P n->φ n∈P.dom n):Sol S P φ:=by
 let one:∀n∈P.ks,¬db P n->∀c,c∈P.dom n->c=φ n:=λn g j c x=>by
  have:∃c,∀l,l∈P.dom n↔l=c:=Nx λz=>j ⟨g,z⟩
  let(d,hd):=this;rw[(hd c).mp x,(hd _).mp (b n g j)]
 show⟨λn g=>?_,λr y=>?_⟩
 .by_cases j:db P n
  .let(Q,u,v):=h.all n j
   rw[<-(h.pie Q u).dom n v];show(m Q u).d n v
  .show b n g j
 .by_cases z:∃Q∈Qs,r∈Q.rs
  .let(Q,u,v):=z
   let(k,q,i):=(m Q u).r r v;rw[(h.pie Q u).mask r v]at q;show⟨k,q,λp n hs g=>?_⟩
   by_cases j:db P n
   .show i p n hs ((h.pie Q u).all r v p n hs j)
   .let(c,w,t):=Z8.cov r y k q p n hs g
    rw[t,one n g j c w]
  .let(k,f):=K21.nz.mp (Z8.nz r y)
   show⟨k,f,λp n hs g=>?_⟩
   by_cases j:db P n
   .let(Q,u,v):=h.all n j
    show absurd ⟨Q,u,(h.pie Q u).rows n v r y p hs⟩ z
   .let(c,w,t):=Z8.cov r y k f p n hs g
    rw[t,one n g j c w]
structure Cut (S:Sd) (P P':Pt) (m:Int) (x:Ce):Prop where
 ks:P'.ks=P.ks
 rs:P'.rs=P.rs
 mask:∀r,P'.mask r=P.mask r
 dom:∀n,n≠m->P'.dom n=P.dom n
 dm:∀c,c∈P'.dom m↔c=x
def Cut.sol (h:Cut S P u m x) (y:m∈P.ks) (v:x∈P.dom m):Sol S u φ↔Sol S P φ/\φ m=x:=by
 constructor
 .intro s
  let e:φ m=x:=(h.dm _).mp (s.d m (h.ks▸y));show⟨⟨λn j=>?_,λr g=>?_⟩,e⟩
  .by_cases z:n=m
   .subst z;rw[e];show v
   .rw[<-h.dom n z];show s.d n (h.ks▸j)
  .let(k,a,b):=s.r r (h.rs▸g)
   show⟨k,by rw[<-h.mask r];show a,λp n hs j=>b p n hs (h.ks▸j)⟩
 .rintro⟨s,e⟩
  show⟨λn j=>?_,λr g=>?_⟩
  .by_cases z:n=m
   .subst z;show(h.dm _).mpr e
   .rw[h.dom n z];show s.d n (h.ks▸j)
  .let(k,a,b):=s.r r (h.rs▸g)
   show⟨k,by rw[h.mask r];show a,λp n hs j=>b p n hs (h.ks▸j)⟩
def Cut.iv (h:Cut S P v m x) (Z8:Ok S P) (w:x∈P.dom m) (row:∀n∈P.ks,∃r∈P.rs,∃p,S.spot r p n) (t:∀r∈P.rs,∀p,S.spot r p m->W r):Iv S v W:=by
 let su:∀r p c,KT S v r p c↔KT S P r p c:=λr p c=>by ext KT;rw[h.mask r]
 show⟨λr j=>by rw[h.mask r];show Z8.nz r (h.rs▸j),λr j k=>?_,λr j u k y p n hs g=>?_,λr j u p n hs g c q=>?_,λn g=>?_⟩
 .rw[h.mask r,Z8.rect r (h.rs▸j) k];simp_all
 .let z:n≠m:=λe=>u (t r (h.rs▸j) p (e▸hs))
  rw[h.dom n z];rw[h.mask r]at y;show Z8.cov r (h.rs▸j) k y p n hs (h.ks▸g)
 .let z:n≠m:=λe=>u (t r (h.rs▸j) p (e▸hs))
  rw[h.dom n z]at q;show(su r p c).mpr ((Z8.full n (h.ks▸g) c).mp q r (h.rs▸j) p hs)
 .let(r,a,b):=row n (h.ks▸g)
  show⟨r,h.rs▸a,b⟩
def rG (S:Sd) (P:Pt) (n:Int) (x:Ce):Prop:=∀φ,Sol S P φ->φ n≠x
def jZ (S:Sd) (P:Pt):Prop:=∀φ,¬Sol S P φ
structure Ch where
 above:G Nat
 part:Pt
 num:Int
 todo:Z (G Nat×Pt)
 untried:Z Ce
 cell:G Ce
 result:Pt
def res (k:Pt) (tr:Z Ch):G Nat->G Pt
 |none=>U k
 |some i=>(tr[i]?).map (·.result)
def From (S:Sd) (k:Pt) (tr:Z Ch) (a:G Nat) (Q:Pt):Prop:=∃R,res k tr a=U R/\Pie S R Q/\Ok S R
structure Cg (S:Sd) (first:Pt) (tr:Z Ch) (i:Nat) (c:Ch):Prop where
 num:c.num∈c.part.ks
 ok:Ok S c.part
 fro:From S first (tr.take i) c.above c.part
 todo:∀q∈c.todo,From S first (tr.take i) q.1 q.2
 unt:∀x∈c.untried,x∈c.part.dom c.num
 dead:∀x∈c.part.dom c.num,x∉c.untried->c.cell≠U x->rG S c.part c.num x
structure Cr (S:Sd) (c:Ch) (x:Ce):Prop where
 cell:c.cell=U x
 dom:x∈c.part.dom c.num
 ok:Ok S c.result
 sol:∀φ,Sol S c.result φ↔Sol S c.part φ/\φ c.num=x
structure Tr (S:Sd) (first:Pt) (tr:Z Ch):Prop where
 ok:Ok S first
 at':∀i c,tr[i]?=U c->Cg S first tr i c
 cr:∀i c,tr[i]?=U c->i+1<tr.length->∃x,Cr S c x
def nA {k:Type}(l:Z k) (h:i<=j):(l.take j).take i=l.take i:=by rw[Qj,Pf h]
def Tr.cut {tr:Z Ch}(T:Tr S j tr) (k:Nat):Tr S j (tr.take k):=by
 show⟨T.ok,λi c h=>?_,λi c h v=>?_⟩
 .let hi:i<k:=by have:=(L9.mp h).1;simp at this;lia
  rw[MP hi]at h
  let(a,b,d,e,f,g):=T.at' i c h;show⟨a,b,by rw[nA _ (OD hi)];show d,λq u=>by rw[nA _ (OD hi)];show e q u,f,g⟩
 .let hi:i<k:=by have:=(L9.mp h).1;simp at this;lia
  rw[MP hi]at h
  show T.cr i c h (by rw[Nu]at v;lia)
def wS {tr:Z Ch}(h:Cg S k tr i c) (j:c.untried=[]) (g:∀x,c.cell=U x->rG S c.part c.num x):jZ S c.part:=λφ s=>by
 let hd:=s.d _ h.num
 by_cases z:c.cell=U (φ c.num)
 .show g _ z φ s rfl
 .show h.dead _ hd (by rw[j];simp) z φ s rfl
def From.never {tr:Z Ch}(h:From S k tr a Q) (n:jZ S Q):∃R,L2.ac (res k tr a) U=U R/\jZ S R:=by
 let(R,g,j,_):=h;show⟨R,by rw[g];rfl,λφ s=>n φ (j.sol s)⟩
def Cr.dead (h:Cr S c x) (n:jZ S c.result):rG S c.part c.num x:=λφ s e=>n φ ((h.sol φ).mpr ⟨s,e⟩)
theorem IA {S:Sd}{k:Pt}{tr:Z Ch}{i:Nat}{c:Ch}(T:Tr S k tr) (h:tr[i]?=U c) (d:c.untried=[]) (f:∀x,c.cell=U x->rG S c.part c.num x):
  (c.above=B/\jZ S k)\/∃j u,c.above=U j/\j<i/\tr[j]?=U u/\∀x,u.cell=U x->rG S u.part u.num x:=by
 let g:=T.at' i c h;let nv:=wS g d f;let hi:=(L9.mp h).1
 let(R,v,b,_):=g.fro;let q:jZ S R:=λφ s=>nv φ (b.sol s)
 cases w:c.above with
 |none=>rw[w]at v;ext v;show .inl ⟨rfl,q⟩
 |some j=>
  rw[w]at v;let(u,z,m):=O4.mp v;let t:j<i:=by have:=(L9.mp z).1;simp at this;lia
  rw[MP t]at z
  let(x,r):=T.cr j u z ()
  show .inr ⟨j,u,rfl,t,z,λy p=>?_⟩
  rw[r.cell]at p;ext p;show r.dead (by rw[m];show q)
def Ep (R:Pt) (φ:Int->Ce):Prop:=∀n∈R.ks,¬db R n->φ n∈R.dom n
def Snd (S:Sd) (k:Pt) (tr:Z Ch) (todo:Z (G Nat×Pt)):Prop:=∀φ,(∀q∈todo,Sol S q.2 φ)->(∀c∈tr,Ep c.result φ)->Ep k φ->Sol S k φ
def Cs (S:Sd) (k:Pt) (tr:Z Ch) (i:Nat) (c:Ch):Prop:=∀φ,(∀q∈c.todo,Sol S q.2 φ)->Sol S c.part φ->(∀j∈tr.take i,Ep j.result φ)->Ep k φ->Sol S k φ
def Snd.start {Qs:Z Pt}(Z8:Ok S k) (h:Spl S k Qs):Snd S k [] (Qs.map λQ=>(B,Q)):=λφ u _ g=>
 h.sol Z8 (λQ j=>u (B,Q) (No j)) g
def Snd.push {tr:Z Ch}{todo:Z (G Nat×Pt)}(h:Snd S k tr (todo++[(c.above,c.part)])) (e:c.todo=todo):Cs S k (tr++[c]) tr.length c:=λφ y v g j=>by
 show h φ (λq u=>?_) (by simpa using g) j
 grind
def Cs.next {tr:Z Ch}{Qs:Z Pt}(h:Cs S first tr i c) (hi:i+1=tr.length) (hc:tr[i]?=U c) (r:Cr S c x) (sp:Spl S c.result Qs):Snd S first tr (c.todo++Qs.map λQ=>(a,Q)):=λφ h1 h2 h3=>by
 let hm:c∈tr:=Mr hc;let sr:Sol S c.result φ:=sp.sol r.ok (λQ hQ=>h1 (a,Q) (PM _ (No hQ))) (h2 c hm)
 show h φ (λq hq=>h1 q (MI _ hq)) ((r.sol φ).mp sr).1 (λc' hc'=>h2 c' (OT hc')) h3
def Cc (tr:Z Ch):Prop:=∀(i j:Nat) c d,i<j->tr[i]?=U c->tr[j]?=U d->∀n∈c.result.ks,¬db c.result n->n∉d.result.ks
def gL (k:Pt) (tr:Z Ch) (n:Int):Ce:=match tr.reverse.find? (λc=>decide (n∈c.result.ks))with
 |some c=>((c.result.dom n).head?).getD (.bk n)
 |none=>((k.dom n).head?).getD (.bk n)
def t5 {α:Type}{l:Z α}{d x:α}(h:∀y,y∈l↔y=x):(l.head?).getD d=x:=by
 cases l with
 |nil=>simp_all
 |cons a l=>show(h a).mp (MB ..)
theorem rV {tr:Z Ch}(A:Cc tr):∀c∈tr,Ep c.result (gL j tr):=λc f n u y=>by
 obtain⟨x,r⟩:∃l,∀g,g∈c.result.dom n↔g=l:=Nx λz=>y ⟨u,z⟩
 let(i,hi):=MV.mp f;ext gL;cases e:tr.reverse.find? (λc=>decide (n∈c.result.ks))with
 |none=>simp_all
 |some d=>
  let hd:n∈d.result.ks:=by simpa using List.find?_some e
  have:d=c:=by
   let(p,bs,m,b):=(List.find?_eq_some_iff_append.mp e).2
   let q:tr=bs.reverse++d::p.reverse:=by rw[<-List.reverse_reverse tr,m];simp
   let v:tr[bs.reverse.length]?=U d:=by rw[q];simp
   rcases RW i bs.reverse.length with w|w|w
   .show absurd hd (A i _ c d w hi v n u y)
   .lia
   .have:c∈p:=by
     rw[q,MK ()]at hi
     obtain⟨k,t⟩:∃k,i - bs.reverse.length=k+1:=⟨i - bs.reverse.length - 1,()⟩
     rw[t,Nz]at hi
     show List.mem_reverse.mp (Mr hi)
    have:=b c this;simp[u]at this
  subst this;left;rw[t5 r];simp_all
theorem vI {tr:Z Ch}(A:∀n∈k.ks,¬db k n->∀c∈tr,n∉c.result.ks):Ep k (gL k tr):=λn u v=>by
 obtain⟨x,g⟩:∃y,∀j,j∈k.dom n↔j=y:=Nx λz=>v ⟨u,z⟩
 ext gL;cases e:tr.reverse.find? (λc=>decide (n∈c.result.ks))with
 |none=>rw[t5 g];simp_all
 |some d=>
  grind
def done {tr:Z Ch}(h:Snd S k tr []) (A:Cc tr) (j:∀n∈k.ks,¬db k n->∀c∈tr,n∉c.result.ks):Sol S k (gL k tr):=
 h _ (λ_ z=>nomatch z) (rV A) (vI j)
structure Fst (S:Sd) (F:Pt):Prop where
 rs:∀r,r∈F.rs↔r<S.one.length
 mask:∀r,r<S.one.length->∀k,(F.mask r).testBit k=V↔S.fm r k
 ks:∀n,n∈F.ks↔∃r p,S.spot r p n
 dom:∀n∈F.ks,∃r p,S.spot r p n/\∀c,c∈F.dom n↔KT S F r p c
def iK {S:Sd}(h:S.spot r p n):r<S.one.length:=by let(x,e,_):=h;show(L9.mp e).1
def Go {S:Sd}(h:S.fm r k) (hs:S.spot r p n):∃c,S.at k p=U c:=by
 let(x,q,v,t,f):=h;let(y,j,u,_):=hs;rw[v]at j;ext j;let g:=(L9.mp u).1
 let z:p<q.2.length:=by rw[<-f.ln];show g
 show⟨q.2[p],by unfold Sd.at;simp_all⟩
def Fst.sol (h:Fst S F):Sol S F φ↔wN S.one S.oth φ:=by
 constructor
 .intro s x d
  let(r,j):=MV.mp d;let lt:=(L9.mp j).1
  let(k,v,u):=s.r r ((h.rs r).mpr lt);let(c,q,y,z,f):=(h.mask r lt k).mp v;rw[j]at y;ext y;have:Ld φ x=q:=r6.mpr ⟨f,λp n b=>by
   let hs:S.spot r p n:=⟨x,j,b⟩;have:=u p n hs ((h.ks n).mpr ⟨r,p,hs⟩);unfold Sd.at at this
   simp_all⟩
  rw[this];show Mr z
 .intro L
  let w:∀r x,S.one[r]?=U x->∃k,S.fm r k/\∀p n,S.spot r p n->S.at k p=U (φ n):=λr x j=>by
   let(k,t):=MV.mp (L x (Mr j));let(f,g):=r6.mp (rfl:Ld φ x=Ld φ x);show⟨k,⟨x,_,j,t,f⟩,λp n hs=>?_⟩
   let(c,y,z):=hs;rw[j]at y;ext y;unfold Sd.at;rw[t];show g p n z
  show⟨λn m=>?_,λr j=>?_⟩
  .let(r,p,hs,hd):=h.dom n m
   let(x,e,_):=id hs;let(k,v,u):=w r x e;show(hd _).mpr ⟨k,(h.mask r (iK hs) k).mpr v,u p n hs⟩
  .let lt:=(h.rs r).mp j
   let(k,v,u):=w r _ (Mq lt)
   show⟨k,(h.mask r lt k).mpr v,λp n hs _=>u p n hs⟩
def Fst.iv {W:Nat->Prop}(h:Fst S F) (q:∀r,r<S.one.length->F.mask r≠0) (y:∀r,r<S.one.length->W r):Iv S F W:=by
 show⟨λr j=>q r ((h.rs r).mp j),λr j k=>?_,λr j u=>absurd (y r ((h.rs r).mp j)) u,λr j u=>absurd (y r ((h.rs r).mp j)) u,λn z=>?_⟩
 .let lt:=(h.rs r).mp j
  rw[h.mask r lt k];show⟨λf=>⟨f,λp n hs=>?_⟩,λg=>g.1⟩
  let(c,v):=Go f hs;show⟨c,v,k,(h.mask r lt k).mpr f,v⟩
 .let(r,p,hs):=(h.ks n).mp z
  show⟨r,(h.rs r).mpr (iK hs),p,hs⟩
def Fst.no (h:Fst S F) (j:r<S.one.length) (u:F.mask r=0):¬wN S.one S.oth φ:=λL=>by
 let(k,g,_):=(h.sol.mpr L).r r ((h.rs r).mpr j)
 simp_all
def xZ (Z8:Ok S P) (ch:∀q∈S.oth,(q.1,q.2.map (sw (.bk i) (.bk j)))∈S.oth) (al:∀r∈P.rs,∀p m,S.spot r p m->(KT S P r p (.bk i)↔KT S P r p (.bk j))) (h:rG S P n (.bk i)):rG S P n (.bk j):=λφ s e=>h _ (IB Z8 ch al s) (by
 rw[e];ext sw;split<;>simp_all)
def Cg.drop {tr:Z Ch}(h:Cg S k tr i c) (keep:Ce->Bool) (v:∀x∈c.untried,keep x=Y->rG S c.part c.num x):Cg S k tr i {c with untried:=c.untried.filter keep}:=
 ⟨h.num,h.ok,h.fro,h.todo,λx j=>h.unt x (Nk.mp j).1,λx j u g=>by
  by_cases z:x∈c.untried
  .simp_all
  .show h.dead x j z g⟩
def Cg.take {tr:Z Ch}{us:Z Ce}(R:Pt) (h:Cg S k tr i c) (e:c.untried=us++[x]) (hd:∀y,c.cell=U y->rG S c.part c.num y):Cg S k tr i {c with untried:=us,cell:=U x,result:=R}:=
 ⟨h.num,h.ok,h.fro,h.todo,λy j=>h.unt y (by rw[e];show MI _ j),λy j g u=>by
  by_cases z:c.cell=U y
  .show hd y z
  .show h.dead y j (λw=>?_) z
   simp_all⟩
def Tr.push {tr:Z Ch}{todo:Z (G Nat×Pt)}{us:Z Ce}(R:Pt) (T:Tr S k tr) (t:∀c,tr[tr.length - 1]?=U c->∃x,Cr S c x) (w:From S k tr a P) (p:∀q∈todo,From S k tr q.1 q.2) (r:n∈P.ks) (y:∀x,x∈us↔x∈P.dom n) (Z8:Ok S P):Tr S k (tr++[⟨a,P,n,todo,us,B,R⟩]):=by
 show⟨T.ok,λi c h=>?_,λi c h hi=>?_⟩
 .by_cases z:i<tr.length
  .rw[Me z]at h
   let g:=T.at' i c h;show⟨g.num,g.ok,by rw[NR (OD z)];show g.fro,by rw[NR (OD z)];show g.todo,g.unt,g.dead⟩
  .let hi:=(L9.mp h).1
   let e:i=tr.length:=by simp at hi;lia
   subst e;rw[MK (Mj _),Q3]at h
   ext h;let tk:(tr++[(⟨a,P,n,todo,us,B,R⟩:Ch)]).take tr.length=tr:=by simp
   show⟨r,Z8,by rw[tk];show w,by rw[tk];show p,λx j=>(y x).mp j,λx j u _=>absurd ((y x).mpr j) u⟩
 .let v:i<tr.length:=by simp at hi;rfl'
  rw[Me v]at h
  by_cases z:i+1<tr.length
  .show T.cr i c h z
  .show t c (by rw[show tr.length - 1=i by lia];show h)
variable[Md]
def JO {ds:Z D}(v:f=iD n j g) (k:jr (g (bP n ds))=r) (u:Nat.beq ds.length j=V:=by rfl):f ds=r:=by
 subst v;rw[Be (Nat.eq_of_beq_eq_true u)];show k
def Jp (h:x=U d) (k:jr (g (O.set i (U (d,Y))))=r) (hi:QC i O.length=V:=by rfl):jr (aq (cC i x O) g)=r:=by
 simp_all
def K3 (h:x=U d) (k:jr (g (O.set i (U (d,V))))=r) (hi:QC i O.length=V:=by rfl):jr (aq (gE i x O) g)=r:=by
 simp_all
def Kf (h:x=U (.next O)) (k:jr (g O)=r):jr (aq x g)=r:=by
 subst h;show k
def KN (h:c=U Y) (k:jr (g O)=r):jr (aq (JZ c x (aU O)) g)=r:=by
 subst h;show k
def Kc (h:c=U V) (k:x=U d):jr (aq (JZ c (bN x O) y) g)=U (d,Y):=by
 subst h k;rfl
def rO (h:x=U d):jr (bN x O)=U (d,Y):=by subst h;rfl
def rF (h:x=U d):jr (j4 x O)=U (d,V):=by subst h;rfl
section
variable{x y:G D}{a b:Int}
def uf (h:x=U (.int a)) (j:y=U (.int b)) (k:0<b):fP x y=U (.int (a%b)):=by simp_all
def By (h:x=U (.int a)) (j:y=U (.int b)) (k:0<b/\b<1073741824):mA x y=U (.int (a / b)):=by subst h j;show divI_s _ _ k
def vO (h:x=U (.int a)) (k:y=U (.int b)):gX x y=U (.int (a+b)):=by simp_all
def Ho {ds:Z D}(h:x=U (.lst ds)):cS x=U (.int ds.length):=by simp_all
def LG {ds:Z D}(h:x=U (.lst ds)) (k:y=U (.int i)) (e:atI ds i=U d):Lm x y=U d:=by simp_all
def LM (h:x=U (.int a)) (k:y=U (.int b)):KP x y=U (decide (a=b)):=by simp_all
end
def aA {j:Type}{x:G j}{β:Type}{f:j->G β}{a:j}{r:G β}(h:x=U a) (k:f a=r):ac x f=r:=by subst h;show k
def H7 (h:x=U (.int j)) (k: -(2 ^ 62)<=j/\j<2 ^ 62):rI x=U (jH 0 j.toNat):=by subst h;show ni j k
def LO (h:x=U (.tup [a,b])):Lm x (U (.int 0))=U a/\Lm x (U (.int 1))=U b:=by subst h;trivial
def rT (h:x=U a) (k:y=U b):fS (aa x (aa y (U [])))=U (.tup [a,b]):=by simp_all
def LX (h:x=U (.lst d,V)):Km x=U (.lst d):=by subst h;rfl
def jk {bs:Z Bool}{fe:DEnv->G D}{ds es:Z D}(k:x=U ds) (g:ds.length<=1000) (j:eX Y bs O=ε) (h:dz (dk τ ft fe ε) ds=U es) (u:es.length<=1000):au (ac x (bS Y bs τ ft fe O))=U (.lst es):=by
 subst k j;rw[bindO_s,yk ⋯,h,lstLim_s]
def K5 {fe:DEnv->G D}(h:fe (ε.set i (U (d,Y)))=U e) (hi:QC i ε.length=V:=by rfl):dk (ae i) (λO=>U V) fe ε d=U (U e):=by
 ext dk
 simp_all
theorem sI {k β:Type}{f:k->D}{g:β->D}{P:β->Prop}:∀{xs:Z k},(∀x∈xs,∃b,P b/\F (f x)=U (U (g b)))->∃bs:Z β,bs.length=xs.length/\(∀b∈bs,P b)/\dz F (xs.map f)=U (bs.map g)
 |[],_=>⟨[],rfl,(λ_ h=>nomatch h),rfl⟩
 |x::xs,h=>by
  let(b,z,e):=h x (.head _);let(bs,v,q,u):=sI λx j=>h x (.tail _ j)
  show⟨b::bs,by simp[v],λc y=>?_,?_⟩
  .grind
  .rw[Mx];ext dz;rw[u,e];rfl
def kJ {β:Type}{g:β->D}{P:β->Prop}(h:∀k:Nat,k<n->∃b,P b/\F (.int (0+(k:Int)))=U (U (g b))):∃bs:Z β,bs.length=n/\(∀b∈bs,P b)/\dz F (jH 0 n)=U (bs.map g):=by
 let(bs,y,v,u):=sI (f:=λk:Nat=>D.int (0+(k:Int))) (xs:=MW n) λk j=>h k (NE.mp j)
 show⟨bs,by simpa using y,v,u⟩
theorem Ax {j β γ:Type}{f:j->D}{P:β->Prop}{body:D->DEnv->G Out}{E:Z β->γ->DEnv}:∀{xs:Z j}{acc:Z β}{y:γ},acc.length+xs.length<=1000->(∀x∈xs,∀acc y,acc.length<=1000->∃b k,P b/\body (f x) (E acc y)=U (.next (E (acc++[b]) k)))->∃bs k,bs.length=xs.length/\(∀b∈bs,P b)/\av body (xs.map f) (E acc y)=U (.next (E (acc++bs) k))
 |[],acc,y,_,_=>⟨[],y,rfl,(λ_ h=>nomatch h),by simp[av]⟩
 |x::xs,acc,y,z,h=>by
  simp![MX]at z;let(b,u,r,e):=h x (.head _) acc y ()
  let(bs,g,q,w,t):=Ax (xs:=xs) (acc:=acc++[b]) (y:=u) ⋯ λx v=>h x (.tail _ v)
  show⟨b::bs,g,by simp[q],λc p=>?_,?_⟩
  .grind
  .ext av;simp_all
theorem kj {k β γ:Type}{f:k->D}{h:k->β}{body:D->DEnv->G Out}{E:Z β->γ->DEnv}:∀{xs:Z k}{acc:Z β}{y:γ},acc.length+xs.length<=1000->(∀x∈xs,∀acc y,acc.length<=1000->∃j,body (f x) (E acc y)=U (.next (E (acc++[h x]) j)))->∃j,av body (xs.map f) (E acc y)=U (.next (E (acc++xs.map h) j))
 |[],acc,y,_,_=>⟨y,by simp[av]⟩
 |x::xs,acc,y,q,g=>by
  simp![MX]at q;let(v,e):=g x (.head _) acc y ()
  let(u,p):=kj (xs:=xs) (acc:=acc++[h x]) (y:=v) ⋯ λx z=>g x (.tail _ z)
  show⟨u,by ext av;simp_all⟩
def JI (h:x=U d) (k:g (O.set i (U (d,Y)))=r) (hi:QC i O.length=V:=by rfl):aq (cC i x O) g=r:=by
 simp_all
def Ka (h:x=U d) (k:g (O.set i (U (d,V)))=r) (hi:QC i O.length=V:=by rfl):aq (gE i x O) g=r:=by
 simp_all
def LY (h:x=U d):bN x O=U (.ret d Y O):=by subst h;rfl
def K9 (h:c=U V) (k:x=U (.ret d b ε)):jr (aq (JZ c x y) g)=U (d,b):=by
 subst h k;rfl
def ut {k:Type}{f:k->D}(g:∀a b,f a=f b->a=b) (ok:∀a,KY 16 (f a)=V) (a:k) (j:Z k) [Decidable (a∈j)]:eQ (U (f a)) (U (.lst (j.map f)))=U (!decide (a∈j)):=by
 unfold eQ J4;simp![eA,b2,ac,gd];rw[n_]
 .change U (!_)=_
  grind
 simp_all
def Kq (h:c=U V) (k:aq x g=r):aq (JZ c x y) g=r:=by subst h;show k
def KA (h:c=U Y) (k:aq y g=r):aq (JZ c x y) g=r:=by subst h;show k
def LJ (h:x=U (.next O)) (k:g O=r):aq x g=r:=by subst h;show k
theorem tZ {k β γ:Type}{f:k->D}{h:k->Z β}{body:D->DEnv->G Out}{E:Z β->γ->DEnv}:∀{xs:Z k}{acc:Z β}{y:γ},acc.length+(xs.flatMap h).length<=Tx->(∀x∈xs,∀acc y,acc.length+(h x).length<=Tx->∃j,body (f x) (E acc y)=U (.next (E (acc++h x) j)))->∃j,av body (xs.map f) (E acc y)=U (.next (E (acc++xs.flatMap h) j))
 |[],acc,y,_,_=>⟨y,by simp[av]⟩
 |x::xs,acc,y,q,g=>by
  rw[RO,MF]at q;let(v,e):=g x (.head _) acc y ()
  let(u,p):=tZ (xs:=xs) (acc:=acc++h x) (y:=v) (by rw[MF];lia) λx z=>g x (.tail _ z)
  show⟨u,by ext av;simp_all⟩
def GI {ds:Z D}(k:x=U d) (h:O[i]?=U (U (.lst ds,V))) (j:ds.length<=100000):rH i x O=U (.next (O.set i (U (.lst (ds++[d]),V)))):=by
 subst k;show tB d h ⋯
def IJ {ds es:Z D}(k:x=U (.lst es)) (h:O[i]?=U (U (.lst ds,V))) (j:ds.length+es.length<=100000):Eb i x O=U (.next (O.set i (U (.lst (ds++es),V)))):=by
 subst k;show EZ h ⋯
theorem kf {j β:Type}{h:j->Z β}:∀{xs:Z j},(∀x∈xs,(h x).length<=k)->(xs.flatMap h).length<=k*xs.length
 |[],_=>Mj _
 |x::xs,g=>by
  let z:=g x (.head _);let v:=kf (xs:=xs) λy u=>g y (.tail _ u)
  rw[RO,MF,MX,RV];lia
def B8 {k:Type}{f:k->D}(u:∀a,KY 15 (f a)=V) (g:∀a b,(KH 15 (f a) (f b)).isSome=V) (j:Z k):oi (j.map f)=V:=by
 ext oi
 simp_all
def sF {k:Type}{f:k->D}(h:∀a,p (f a)=V) (j:Z k):(j.map f).all p=V:=by simp_all
def JU (h:c=U V) (k:x=r):JZ c x y=r:=by subst h;show k
def J6 (h:c=U Y) (k:y=r):JZ c x y=r:=by subst h;show k
def Jf (h:x=U (d,b)):JT x=U d:=by subst h;rfl
theorem go {j J γ:Type}{f:j->D}{F:J->j->J}{m:J->Nat}{body:D->DEnv->G Out}{E:J->γ->DEnv}:∀{xs:Z j}{s:J}{y:γ},m s+k*xs.length<=Tx->(∀x∈xs,∀s y,m s+k<=Tx->m (F s x)<=m s+k/\∃g,body (f x) (E s y)=U (.next (E (F s x) g)))->m (xs.foldl F s)<=m s+k*xs.length/\∃g,av body (xs.map f) (E s y)=U (.next (E (xs.foldl F s) g))
 |[],s,y,_,_=>⟨Mj _,y,rfl⟩
 |x::xs,s,y,q,h=>by
  rw[MX,RV]at q⊢;let(t,v,e):=h x (.head _) s y ()
  let(r,u,p):=go (xs:=xs) (s:=F s x) (y:=v) () λx z=>h x (.tail _ z)
  rw[O9];show⟨(),u,by rw[Mx];ext av;rw[e];show p⟩
def JK (m:Bool) (x:G (G (D×Bool))) (O:DEnv):G D:=match x with|some (U (d,o))=>if o&&!m then B else U d|_=>B
theorem yP (m:Bool) (i:Nat) (O:DEnv):rd m i O=JK m O[i]? O:=(rfl)
theorem me (m:Bool) (d:D) (O:DEnv):JK m (U (U (d,Y))) O=U d:=(rfl)
theorem mK (ds:Z D) (O:DEnv):JK V (U (U (.lst ds,V))) O=U (.lst ds):=(rfl)
def uN (c:Ce):KY 16 (KQ c)=V:=by ext c<;>rfl
def yq (a b:Ce):KP (U (KQ a)) (U (KQ b))=U (decide (a=b)):=by
 rw[zr _ _ (by ext Le;rw[uN,uN];rfl)]
 congr 1;show decide_eq_decide.mpr ⟨sK,λh=>by rw[h]⟩
theorem wV {k:Type}{f:k->D}(j:∀a b,f a=f b->a=b):∀{l m:Z k},l.map f=m.map f->l=m
 |[],[],_=>rfl
 |[],_::_,h=>by simp at h
 |_::_,[],h=>by simp at h
 |a::l,b::m,h=>by
  simp![Mx,RL]at h;rw[j _ _ h.1,wV j h.2]
theorem bU {k:Type}{f:k->D}{h:k->D}{p:k->Bool}:∀{xs:Z k},(∀x∈xs,F (f x)=U (if p x=V then U (h x) else B))->dz F (xs.map f)=U ((xs.filter p).map h)
 |[],_=>rfl
 |x::xs,H=>by
  rw[Mx];ext dz;rw[H x (MB ..),bU λy j=>H y (MA _ j),h_]
  cases p x<;>rfl
def bK {k:Type}{f:k->D}{h:k->D}{xs:Z k}(H:∀x∈xs,F (f x)=U (U (h x))):dz F (xs.map f)=U (xs.map h):=by
 have:=bU (f:=f) (h:=h) (p:=λ_=>V) (F:=F) (xs:=xs) λx j=>by rw[H x j];rfl
 rwa[O3.mpr λ_ _=>rfl]at this
theorem pQ:∀{xs ys:Z D},(∀x∈xs,∀y∈ys,(lt x y).isSome=V)->(iO lt xs ys).isSome=V
 |[],[],_=>rfl
 |[],_::_,_=>rfl
 |_::_,[],_=>rfl
 |x::xs,y::ys,h=>by
  ext iO;split
  .show pQ λa j b k=>h a (MA _ j) b (MA _ k)
  .show h x (MB ..) y (MB ..)
def bn:¬(Nq "blank")=(Nq "name"):=by decide +kernel
def nb:¬(Nq "name")=(Nq "blank"):=by decide +kernel
def Hh (n:Nat) (c e:Ce):(KH (n+1) (KQ c) (KQ e)).isSome=V:=by
 ext c<;>ext e<;>simp[KQ,KH,iO,bn,nb]<;>split<;>rfl
theorem kh {j:Type}{f:j->D}:∀{l:Z D}{fs:Z j},l.Perm (fs.map f)->∃k:Z j,k.Perm fs/\l=k.map f
 |[],fs,h=>⟨[],by simp_all,rfl⟩
 |d::l,fs,h=>by
  let(a,g,rfl):=MC.mp (h.mem_iff.mp (.head _));let(s,t,rfl):=List.append_of_mem g;let(k,p,rfl):=kh (l:=l) (fs:=s++t) (by rw[Mu]at h⊢;show(h.trans i_).cons_inv)
  show⟨a::k,(p.cons a).trans i_.symm,rfl⟩
def nH (r:Ja) (n:Nat):KY (n+3) (ai r)=V:=by
 simp![ai,KY,Ni,Tf,OG,Bool.true_and,RP,MH];intro c _;ext c<;>simp[KQ,KY]
def EH (n:Nat) (r q:Ja):(KH (n+3) (ai r) (ai q)).isSome=V:=by
 change(iO (KH (n+2)) [.str r.1,.tup (r.2.map KQ)] [.str q.1,.tup (q.2.map KQ)]).isSome=V;ext iO;split
 .ext iO
  split
  .rfl
  .show pQ λx j y k=>?_
   let(c,_,rfl):=MC.mp j;let(e,_,rfl):=MC.mp k;show Hh n c e
 .rfl
def kt (rs:Z Ja):oi (rs.map ai)=V:=by
 ext oi
 simp_all [MH,Mo,nH,EH]
def B9 (rs:Z Ja):(rs.map ai).all (ma .ts)=V:=by
 rw[MH];intro x k;let(r,_,rfl):=MC.mp k;rfl
def gZ (h:ai r=ai q):r=q:=by
 let(a,c):=r;simp![ai,D.tup.injEq,RL,D.str.injEq,and_true]at h;rw[h.1,wV (f:=KQ) (λ_ _=>sK) h.2]
def nM (r:Ja):fU 8 (ai r)=V:=by
 simp![ai,fU,Ni,Tf,OG,Bool.true_and,RP,MH];intro c _;ext c<;>simp[KQ,fU]
structure Cn (fs:Z Ja):Prop where
 nd:fs.Nodup
 so:(fs.map ai).Pairwise JC
def Cn.eq {fs k:Z Ja}(h:Cn fs) (g:Cn k) (j:∀r,r∈fs↔r∈k):fs=k:=
 (List.map_inj_right λ_ _=>gZ).mp (gW (kt fs) _ _ (λ_ h=>h) (((SG h.nd g.nd).mpr j).map ai) h.so g.so)
def ms:¬(Nq "must")=(Nq "same"):=by decide +kernel
abbrev Mv:=Z (Int×Ce)
def JX (q:Int×Ce):D:=.tup [.int q.1,KQ q.2]
variable{rs:Z Ja}
variable{rs:Z Ja}
def mx (c k:Int):Int:=((c%2147483647+40503*k*k+17*k)*48271%2147483647)*((c%2147483647+40503*k*k+17*k)*48271%2147483647%65537+3*k+1)%2147483629
def Hc (c k:Int):0<=mx c k:=by show PG _ ∅
def km (c k:Int) (g:0<=k) (j:k<=1000):zA0 [.int c,.int k]=U (.int (mx c k),Y):=by
 rw[lY (f:=zA0) (O:=[U (.int c,Y),U (.int k,Y),B]) rfl rfl rfl];simp![gK,yP,Nz,NF,me,mK]
 rw[modI_s _ _ ∅,mulI_s 40503 k ⟨⟩,mulI_s (40503*k) k (),addI_s,mulI_s 17 k ⟨⟩,addI_s,mulI_s _ 48271 ⟨⟩,modI_s _ _ ∅,setO_s _ _ _ (by simp)]
 simp![seqO_n,Of,Oe,yP,Nz,NF,me,mK]
 rw[modI_s _ _ ∅,mulI_s 3 k ⟨⟩,addI_s,addI_s,mulI_s _ _ (.inl ()),modI_s _ _ ∅]
 rfl
def Gj:∀n:Nat,n<26->EM (U (.str "abcdefghijklmnopqrstuvwxyz")) (U (.int n))=U (.str ⟨#[97+n]⟩):=by decide +kernel
theorem Dq (a b:MJ):(a++b).cps.toList=a.cps.toList++b.cps.toList:=Rx
def Ed {a b:MJ}{x y:Nat}(h:a++⟨#[x]⟩++b=a++⟨#[y]⟩++b):x=y:=by
 have:=p_ (λs:MJ=>s.cps.toList) h
 grind [Dq,Qy,List.append_cancel_left]
def ze (c m:Int) (S:1<=m) (H:m<=20):∃q:Z MJ,q.length=m.toNat/\q.Nodup/\(∀w∈q,w.length<=20)/\zA5 [.int c,.int m]=U (.lst (q.map .str),V):=by
 generalize r:1+c%8=sz;let j:∀i:Int,0<=i->i<26->EM (U (.str "abcdefghijklmnopqrstuvwxyz")) (U (.int i))=U (.str ⟨#[97+i.toNat]⟩):=λi E L=>by
  have:=Gj i.toNat ⟨⟩
  rwa[Int.toNat_of_nonneg E]at this
 let(g,X,N,A):=tI (ds:=jH 0 sz.toNat) (P:=λ_ y=>∃x:MJ,x.length=1/\y=.str x)
  (h:=dk (ae 6) (λO=>U V) d4 [U (.int c,Y),B,U (.str "abcdefghijklmnopqrstuvwxyz",Y),B,B,B,B]) λd hd=>by
   let(i,hi,rfl):=zo hd;let ex:=j (mx c (0+(i:Int))%26) () ()
   show⟨.str ⟨#[97+(mx c (0+(i:Int))%26).toNat]⟩,?_,⟨#[97+(mx c (0+(i:Int))%26).toNat]⟩,rfl,rfl⟩
   ext dk;rw[toName_s _ _ _ (by simp)]
   simp![bindO_s,Of,Oe,yP,Nz,NF,me,mK,d4,consO_s,km c (0+(i:Int)) ⟨⟩ (),shO_s]
   rw[modI_s _ _ ∅,ex]
 let(p,rfl,v):=BP (Q:=λx=>x.length=1) N A λd y hz=>by let(x,W,e):=hz;show⟨x,e,W⟩
 rw[ja,Ms]at N;let K:=CG "" p (by rw[ud v,show Str.length ""=0 by rfl];lia)
 let t:(SL "" p).length=p.length:=by rw[xf,ud v]
 generalize SL "" p=stem at K t;generalize n:mx c 19%(stem.length:Int)=at';let c1:=pu stem B (U at');let c2:=pu stem (U (at'+1)) B;let o:LZ=1000000:=rfl;let u:dz (dk (ae 6) (λO=>U V) d5 [B,B,U (.str "abcdefghijklmnopqrstuvwxyz",Y),U (.str stem,Y),U (.int at',Y),U (.int (mx c 20),Y),B]) (jH 0 m.toNat)=U (((MW m.toNat).map λk=>xL stem B (U at')++⟨#[97+((mx c 20+(0+(k:Int)))%26).toNat]⟩++xL stem (U (at'+1)) B).map D.str):=by
  ext jH;rw[bK (f:=λk:Nat=>D.int (0+(k:Int))) (h:=λk=>.str (xL stem B (U at')++⟨#[97+((mx c 20+(0+(k:Int)))%26).toNat]⟩++xL stem (U (at'+1)) B)) λk _=>by
   ext dk;rw[toName_s _ _ _ (by simp)]
   simp![bindO_s,Of,Oe,yP,Nz,NF,me,mK,d5,partI_s,addI_s]
   rw[cutSO_s _ _ _ (),cutSO_s _ _ _ (),modI_s _ _ ∅,j _ () (),addS_s _ _ (by change _+1<=_;lia),addS_s _ _ (by rw[PL];change _+1+_<=_;lia)]]
  rw[NU];rfl
 show⟨(MW m.toNat).map λk=>xL stem B (U at')++⟨#[97+((mx c 20+(0+(k:Int)))%26).toNat]⟩++xL stem (U (at'+1)) B,by simp,?_,?_,?_⟩
 .show N7.mpr (Pm (R:=λa b=>a<b) (λ{a b} M F I e=>?_) List.pairwise_lt_range)
  have:=Ed e;let C:=NE.mp F
  lia
 .intro w T
  let(k,_,rfl):=MC.mp T;rw[PL,PL];change _+1+_<=20
  lia
 .rw[lY (f:=zA5) (O:=[U (.int c,Y),U (.int m,Y),B,B,B,B,B]) rfl rfl rfl]
  let s:∀(a d e f g:G (D×Bool)) (x y:D),eX Y [V,Y,V,Y,Y,Y,Y] [U (x,Y),a,U (y,Y),d,e,f,g]=[U (x,Y),B,U (y,Y),B,B,B,B]:=λ_ _ _ _ _ _ _=>rfl
  let l:∀(a b g:G (D×Bool)) (x y z w:D),eX Y [Y,Y,V,V,V,V,Y] [a,b,U (x,Y),U (y,Y),U (z,Y),U (w,Y),g]=[B,B,U (x,Y),U (y,Y),U (z,Y),U (w,Y),B]:=λ_ _ _ _ _ _ _=>rfl
  simp![gq];rw[setO_s _ _ _ (by simp)]
  simp![seqO_n,Of,Oe,yP,Nz,NF,me,mK]
  rw[modI_s _ _ ∅,addI_s,r,ni sz (),bindO_s,yk (by rw[ja,lim_eq];lia),s,X,lstLim_s,K,setO_s _ _ _ (by simp)]
  simp![seqO_n,Of,Oe,yP,Nz,NF,me,mK,consO_s,bindO_s,km c 19 ⟨⟩ ⟨⟩,shO_s]
  rw[lenS_s _ (),modI_s _ _ (),n,setO_s _ _ _ (by simp)]
  simp![seqO_n,Of,Oe,yP,Nz,NF,me,mK,consO_s,bindO_s,km c 20 ⟨⟩ ⟨⟩,shO_s]
  rw[setO_s _ _ _ (by simp)]
  simp![seqO_n,Of,Oe,yP,Nz,NF,me,mK]
  rw[ni m (),bindO_s,yk (by rw[ja,lim_eq];lia),l,u,lstLim_s]
  rfl
section
variable{x y:G D}{a b:Int}
def B2 (h:x=U (.int c)) (u:y=U (.int k)) (g:0<=k) (j:k<=1000):JT (ac (aa x (aa y (U []))) zA0)=U (.int (mx c k)):=by subst h u;simp![consO_s,bindO_s,km c k g j,shO_s]
end
abbrev JM (t:MJ×Int):D:=.tup [.str t.1,.int t.2]
structure Dr (tb:Z (MJ×Int)) (ns:Z MJ) (nu:Z Int):Prop where
 tn:tb≠[]
 ta:∀t∈tb,1<=t.2/\t.2<=3
 nl:ns.length=3
 ul:nu.length=5
 u0:∀n∈nu,0<=n
def CP {j:Type}{f:j->D}{xs:Z j}(h:xs≠[]) (k:Int):∃x∈xs,atI (xs.map f) (k%(xs.length:Int))=U (f x):=by
 let l:=Qb.mpr h;let(v,u,_,e):=Bw (xs:=xs.map f) (i:=k%(xs.length:Int)) (PG _ ⟨⟩) (by rw[Ms];show Qr _ ⟨⟩)
 let(x,g,rfl):=MC.mp u;show⟨x,g,e⟩
def wX {k:Type}{f:k->D}{xs:Z k}{i:Int}(y:0<=i) (u:i<xs.length):∃x∈xs,atI (xs.map f) i=U (f x):=by
 let(v,g,_,e):=Bw (xs:=xs.map f) y (by rw[Ms];show u)
 let(x,j,rfl):=MC.mp g;show⟨x,j,e⟩
def A3 {ns:Z MJ}(hn:ns≠[]) {nu:Z Int}(hu:nu≠[]) (k:Int):∃e:Ce,(∀n,e=.bk n->n∈nu)/\zA4 [.int k,.lst (ns.map D.str),.lst (nu.map D.int)]=U (KQ e,Y):=by
 let l1:=Qb.mpr hn;let l2:=Qb.mpr hu;let(w,_,ew):=CP (f:=D.str) hn (k / 2);let(n,hn0,en):=CP (f:=D.int) hu (k / 2);rw[lY (f:=zA4) (O:=[U (.int k,Y),U (.lst (ns.map D.str),Y),U (.lst (nu.map D.int),Y)]) rfl rfl rfl];ext gP;rw[LM (uf (rfl:rd Y 0 _=U (.int k)) rfl ∅) rfl]
 cases decide (k%2=1)with
 |true=>
  show⟨.bk n,λm e=>(by simp_all),Kc rfl (rT rfl (LG rfl (uf (By rfl rfl ∅) (Ho rfl) (by rw[Ms];rfl')) (by rw[Ms];show en)))⟩
 |false=>show⟨.nm w,λ_ e=>(nomatch e),KN rfl (rO (rT rfl (LG rfl (uf (By rfl rfl ∅) (Ho rfl) (by rw[Ms];rfl')) (by rw[Ms];show ew))))⟩
def vM (c:Int):∃nu:Z Int,nu.length=5/\(∀n∈nu,0<=n)/\zA8 [.int c,.int 5]=U (.lst (nu.map D.int),V):=by
 rw[lY (f:=zA8) (O:=[U (.int c,Y),U (.int 5,Y),B]) rfl rfl rfl];ext ej;rw[LM (uf (rfl:rd Y 0 _=U (.int c)) rfl ∅) rfl]
 cases decide (c%3=0)with
 |true=>show⟨[0,1,2,3,4],rfl,by decide,rfl⟩
 |false=>
  let(nu,h1,h2,h3):=kJ (n:=5) (g:=D.int) (P:=λn=>0<=n) (F:=dk (ae 2) (λO=>U V) fK [U (.int c,Y),B,B]) λk hk=>by
   show⟨_,PG _ ∅,K5 (uf (vO (uf (B2 rfl rfl ∅ ∅) rfl ∅) (mulI_s 7 (0+(k:Int)) ⟨⟩)) rfl ∅)⟩
  show⟨nu,h1,h2,KN rfl (rF (jk (ni 5 ∅) (by trivial) rfl h3 (by simp[h1])))⟩
def sC (xs:Z D) (x:D) (k:xs.length<=1000):atI (xs++[x]) (-1)=U x:=by
 unfold atI Jx;rw[o_ ∅,n_ ⋯,MF,NW,show(-1+((xs.length+1:Nat):Int)).toNat=xs.length by lia]
 simp
def BG (r q:Ja):KZ (U (ai r)) (U (ai q))=U (!decide (r=q)):=by
 rw[Gh _ _ (by ext Le;rw[nH r 13,nH q 13];rfl)]
 congr 2;show decide_eq_decide.mpr ⟨gZ,λh=>by rw[h]⟩
theorem xp (a0:G (D×Bool)):∀(qs fs:Z Ja) (u:G (D×Bool)),fs.length+qs.length<=100->∃(k:Z Ja) (v:G (D×Bool)),(∀r,r∈k↔r∈fs\/r∈qs)/\k.length<=fs.length+qs.length/\(Cn fs->(qs.map ai).Pairwise JC->(∀x∈fs,∀y∈qs,JC (ai x) (ai y))->Cn k)/\
  av (λd O=>ac ((ae 2) d O) bj) (qs.map ai) [a0,U (.lst (fs.map ai),V),u]=U (.next [a0,U (.lst (k.map ai),V),v])
 |[],fs,u,_=>⟨fs,u,λr=>by simp,by simp,λh _ _=>h,by rfl⟩
 |q::qs,fs,u,a=>by
  rw[MX]at a;let b:∀j:Z Ja,(∀r,r∈j↔r∈fs\/r=q)->j.length<=fs.length+1->(Cn fs->(∀x∈fs,JC (ai x) (ai q))->Cn j)->ac ((ae 2) (ai q) [a0,U (.lst (fs.map ai),V),u]) bj=U (.next [a0,U (.lst (j.map ai),V),U (ai q,Y)])->∃(k:Z Ja) (v:G (D×Bool)),(∀r,r∈k↔r∈fs\/r∈q::qs)/\k.length<=fs.length+(q::qs).length/\(Cn fs->((q::qs).map ai).Pairwise JC->(∀x∈fs,∀y∈q::qs,JC (ai x) (ai y))->Cn k)/\
    av (λd O=>ac ((ae 2) d O) bj) ((q::qs).map ai) [a0,U (.lst (fs.map ai),V),u]=U (.next [a0,U (.lst (k.map ai),V),v]):=λj f W N e=>by
   let(k,v,s,R,T,o):=xp a0 qs j (U (ai q,Y)) ()
   show⟨k,v,λr=>by rw[s,f,MG,or_assoc],by simp;lia,λc i t=>?_,?_⟩
   .grind [Mx,OK,No]
   rw[Mx];ext av;rw[e];show o
  let K:rH 1 (U (ai q)) [a0,U (.lst (fs.map ai),V),U (ai q,Y)]=U (.next [a0,U (.lst ((fs++[q]).map ai),V),U (ai q,Y)]):=by
   rw[tB (ds:=fs.map ai) _ rfl ⋯]
   simp
  let m:yQ (U (.int 1))=U (.int (-1)):=rfl
  rcases PN fs with rfl|⟨f0,l,rfl⟩
  .show b [q] (λr=>by simp) (by simp) (λ_ _=>⟨by simp,by simp⟩) ?_
   rfl
  .rw[PP]at*
   let p:KP (U (.int (((f0++[l]).map ai).length:Int))) (U (.int 0))=U Y:=by
    rw[eqO_int,decide_eq_false ⋯]
   let g:atI ((f0++[l]).map ai) (-1)=U (ai l):=by
    rw[Mu];show sC (f0.map ai) (ai l) (by simp at a⊢;lia)
   by_cases h:l=q
   .subst h
    show b (f0++[l]) (λr=>?_) ⟨⟩ (λh _=>h) ?_
    .simp
    .rw[toName_s _ _ _ (by simp)]
     simp![bindO_s,Of,Oe,bj,yP,Nz,NF,me,mK,lenL_l,p,m,ixO_l,g,BG,decide_true,SX,orO_f,ifO_f,nextO_s]
   .show b (f0++[l]++[q]) (λr=>by simp[or_assoc]) (by simp) (λc t=>?_) ?_
    .let i:q∉f0++[l]:=λz=>h (by
      rcases Mw.mp z with z|z
      .let f:JC (ai q) (ai l):=by
        have:=c.so;rw[Mu,OS]at this;show this.2.2 _ (No z) _ (by simp)
       show gZ (A8 (ds:=[ai l,ai q]) (kt [l,q]) (by simp) (by simp) (t l (by simp)) f)
      simp_all)
     show⟨NQ.mpr ⟨c.nd,by simp,λx t y n e=>i (by simp at n;rw[<-n,<-e];show t)⟩,?_⟩
     rw[Mu,OS];show⟨c.so,by simp,λx z y w=>?_⟩
     grind
    rw[toName_s _ _ _ (by simp)]
    simp![bindO_s,Of,Oe,bj,yP,Nz,NF,me,mK,lenL_l,p,m,ixO_l,g,BG,h,decide_false,Bool.not_false,orO_f,ifO_t]
    show K
def zi (rs:Z Ja) (h:rs.length<=60):∃fs:Z Ja,Cn fs/\(∀r,r∈fs↔r∈rs)/\fs.length<=rs.length/\zA1 [.lst (rs.map ai)]=U (.lst (fs.map ai),V):=by
 let(g,k,es):=kh (bQ (rs.map ai));let v:=k.length_eq;let(fs,q,y,t,j,p):=xp (U (.lst (rs.map ai),Y)) g [] B ⋯
 show⟨fs,j ⟨by simp,by simp⟩ (es▸dO (kt rs)) (λ_ z=>nomatch z),λr=>by simp[y,k.mem_iff],by simp_all,?_⟩
 rw[lY (f:=zA1) (O:=[U (.lst (rs.map ai),Y),B,B]) rfl rfl rfl];let u:lh .ts (U (.lst (rs.map ai)))=U (.lst (g.map ai)):=by
  rw[ua (kt rs) (.inr (B9 rs)) (by rw[Ms];lia),es]
 simp_all [fW,rd_0]
def yo (h:x=U (.int c)) (v:y=U (.int m)) (j:1<=m) (g:m<=20):∃k:Z MJ,k.length=m.toNat/\Km (ac (aa x (aa y (U []))) zA5)=U (.lst (k.map .str)):=by
 let(k,u,_,_,e):=ze c m j g;show⟨k,u,by simp_all⟩
def yb (c:Int):∃tb:Z (MJ×Int),tb≠[]/\(∀t∈tb,1<=t.2/\t.2<=3)/\zB5 [.int c,.int 3]=U (.lst (tb.map JM),V):=by
 let(j,q,d):=yo (x:=U (.int c)) (y:=U (.int 3)) rfl rfl ∅ ∅
 let b:(1+c / 8%3).toNat<=3:=()
 let(tb,v,r,p):=kJ (n:=(1+c / 8%3).toNat) (g:=JM) (P:=λt=>1<=t.2/\t.2<=3) (F:=dk (ae 3) (λO=>U V) gV [U (.int c,Y),U (.int 3,Y),U (.lst (j.map .str),Y),B]) λk m=>by
  let u:(0:Int)+(k:Int)<j.length:=by rw[q];change _<((3:Nat):Int);lia
  let(w,_,e):=wX (f:=D.str) (xs:=j) (i:=0+(k:Int)) ⟨⟩ u
  show⟨(w,1+mx c (40+(0+(k:Int)))%3),by have:=Hc c (40+(0+(k:Int)));lia,K5 (rT (LG rfl rfl e) (vO rfl (uf (B2 rfl (vO rfl rfl) () ()) rfl ∅)))⟩
 show⟨tb,λz=>?_,r,Jp d (rF (jk (ds:=jH 0 (1+c / 8%3).toNat) ?_ (by rw[ja];lia) rfl p ⋯))⟩
 .rw[z]at v;simp at v;lia
 .show H7 (vO rfl (uf (By rfl rfl ∅) rfl ∅)) ()
def Bo {rs:Z Ja}(h:x=U (.lst (rs.map ai))) (k:rs.length<=60):∃fs:Z Ja,Cn fs/\(∀r,r∈fs↔r∈rs)/\fs.length<=rs.length/\Km (ac (aa x (U [])) zA1)=U (.lst (fs.map ai)):=by
 subst h;let(fs,u,g,j,e):=zi rs k;show⟨fs,u,g,j,LX e⟩
def Jo (c:Ce):Mv->Ce->Ce
 |[],t=>t
 |q::k,t=>Jo c k (if c=.bk q.1 then q.2 else t)
def pf (x:MJ):KP (U (.str x)) (U (.str x))=U V:=by simp[CD]
def Ir (h:a=U V) (k:b=r):jM a b=r:=by subst h;show k
def tL (T:Z Int):Ce->Z Int
 |.bk n=>if n∈T then T else T++[n]
 |.nm _=>T
def AU (T:Z Int) (c:Ce):(tL T c).length<=T.length+1:=by
 cases c with
 |nm w=>show OA _
 |bk n=>ext tL;left;split<;>simp
def Ad:n∈tL T c↔n∈T\/c=.bk n:=by
 cases c with
 |nm w=>simp[tL]
 |bk k=>ext tL;left;split<;>simp<;>grind
theorem qp:∀{cs:Z Ce}{T:Z Int},n∈cs.foldl tL T↔n∈T\/Ce.bk n∈cs
 |[],T=>by simp
 |c::cs,T=>by rw[O9,qp (cs:=cs),Ad,MG,or_assoc];grind
end K21
namespace K21
open PySem L2 JP
variable[Md]
section
variable{α κ:Type}[DecidableEq α] [DecidableEq κ] {f:α->κ}{us vs:Z α}{g h:α->D}{a:α}{d:D}
def cO (a:α) (us:Z α):Z α:=if a∈us then us else us++[a]
def aL {k:α}:k∈cO a us↔k∈us\/k=a:=by ext cO;grind
nonrec theorem mW (nd:us.Nodup):(cO a us).Nodup:=by
 ext cO;split
 .show nd
 .rename_i h;rw[NQ];show⟨nd,by simp,λa j b k e=>h (by simp_all)⟩
def gI:(cO a us).length<=us.length+1:=by ext cO;split<;>simp
theorem wC (k:∀a b,f a=f b->a=b):∀{us:Z α},aP (f a) (us.map f) (us.map g)=if a∈us then U (g a) else B
 |[]=>rfl
 |m::us=>by
  rw[Mx,Mx];ext aP
  by_cases e:m=a
  .subst e;simp
  .rw[o_ λz=>e (k _ _ z),wC k]
   have:a≠m:=λz=>e z.symm
   simp[this]
def Iu (k:∀a b,f a=f b->a=b):f a∈us.map f↔a∈us:=by
 rw[MC];show⟨λ⟨b,j,e⟩=>k _ _ e▸j,λh=>⟨a,h,rfl⟩⟩
def rh (k:∀a b,f a=f b->a=b):aJ (f a) (us.map f)=(cO a us).map f:=by
 unfold aJ cO
 grind
theorem BD (j:∀a b,f a=f b->a=b):∀{us:Z α},cx (f a) d (us.map f) (us.map g)=us.map λk=>if k=a then d else g k
 |[]=>rfl
 |m::us=>by
  rw[Mx,Mx];ext cx;rw[BD j,Mx]
  grind
def wO (j:∀a b,f a=f b->a=b):cU (f a) d (us.map f) (us.map g)=(cO a us).map λk=>if k=a then d else g k:=by
 unfold cU cO
 by_cases e:a∈us
 .rw[n_ e,n_ ((Iu j).mpr e),BD j]
 .rw[o_ e,o_ λz=>e ((Iu j).mp z),Mu]
  simp;lia
end
structure KK (α:Type) [DecidableEq α] where ofF::
 mk:Z α->(α->D)->D
 key:α->D
 inj:∀a b,key a=key b->a=b
 get:∀us g a,j9 (U (mk us g)) (U (key a))=U (if a∈us then U (g a) else B)
 put:∀us g a d,us.length<=1000->kT (mk us g) (key a) d=U (mk (cO a us) λk=>if k=a then d else g k)
 kv:∀us g,yS (U (mk us g))=U (us.map key,us.map g)
 cn:∀us g,Kz (mk us g)=V
 dc:∀us g,(JE (mk us g)).isSome=V
 frz:∀us g J x,(jz J (us.map g)).1=us.map x->vP J (mk us g)=(mk us x,(jz J (us.map g)).2)
 lb:∀us g k,(∀a∈us,L2.lb k (g a)=V)->L2.lb k (mk us g)=V
 cong:∀us g h,(∀a∈us,g a=h a)->mk us g=mk us h
def dI (us:Z Int) (g:Int->D):D:=.dK (us.map .inl) (us.map g)
def iI:∀a b:Int,(QB a:J8)=.inl b->a=b:=λ_ _=>QB.inj
theorem d8 {α:Type}{g:α->D}:∀{us:Z α},(∀a∈us,L2.lb k (g a)=V)->KO k (us.map g)=V
 |[],_=>by rfl
 |a::us,h=>by simp[L2.KO,h a,d8 λb j=>h b (MA _ j)]
def kI:KK Int where
 mk:=dI
 key:=.int
 inj:=λ_ _=>D.int.inj
 get:=λus g a=>by change U (aP (.inl a:J8) _ _)=_;rw[wC iI]
 put:=λus g a d j=>by
  change(if(us.map QB).length<LZ then U (D.dK (aJ (.inl a:J8) (us.map .inl)) (cU (.inl a:J8) d (us.map .inl) (us.map g))) else B)=_
  rw[n_ (by simp[LZ];lia),rh iI,wO iI];rfl
 kv:=λus g=>by change U ((us.map QB).map kD,us.map g)=_;rw[NU];rfl
 cn:=λ_ _=>rfl
 dc:=λ_ _=>rfl
 frz:=λus g J x h=>by change(D.dK _ _,_)=_;rw[h];rfl
 lb:=λus g k h=>by ext dI;simp[L2.lb,d8 h]
 cong:=λus g h e=>by ext dI;rw[NJ e]
def dX {α:Type}(f:α->D) (us:Z α) (g:α->D):D:=.dD (us.map f) (us.map g)
def r9:∀(n k:Nat) (d:D),fU n d=V->L2.lb k d=V:=by
 intro n
 induction n with
 |zero=>intro k d h;ext d<;>simp_all [fU,L2.lb]
 |succ n ih=>
  intro k d h;cases d with
  |tup ds=>
   let h':ds.all (fU n)=V:=h;have:∀es:Z D,es.all (fU n)=V->L2.KO k es=V:=λes=>by
    induction es with
    |nil=>intro _;simp[L2.KO]
    |cons e es ih2=>intro z;simp![Ni,Mo]at z;simp[L2.KO,ih k e z.1,ih2 z.2]
   simpa[L2.lb]using this ds h'
  |_=>simp_all [fU,L2.lb]
def kX {α:Type}[DecidableEq α] (f:α->D) (j:∀a b,f a=f b->a=b) (u:∀a,fU 8 (f a)=V/\yU (f a)=V):KK α where
 mk:=dX f
 key:=f
 inj:=j
 get:=λus g a=>by
  change(if(fU 8 (f a)&&yU (f a))=V then U (aP (f a) (us.map f) (us.map g)) else B)=_
  rw[n_ (by simp_all),wC j]
 put:=λus g a d v=>by
  change(if(fU 8 (f a)&&yU (f a)&&decide ((us.map f).length<LZ))=V then U (D.dD (aJ (f a) (us.map f)) (cU (f a) d (us.map f) (us.map g))) else B)=_
  rw[n_ (by rw[(u a).1,(u a).2];simp[LZ];lia),rh j,wO j];rfl
 kv:=λus g=>rfl
 cn:=λ_ _=>rfl
 dc:=λ_ _=>rfl
 frz:=λus g J x h=>by change(D.dD _ _,_)=_;rw[h];rfl
 lb:=λus g k h=>by
  ext dX;simp![L2.lb,Mo];show⟨d8 λa _=>r9 8 k _ (u a).1,d8 h⟩
 cong:=λus g h e=>by ext dX;rw[NJ e]
section
variable{α:Type}[DecidableEq α] (k:KK α) {us:Z α}{g h:α->D}{a:α}{d:D}{x y:G D}
def KK.dix (u:x=U (k.mk us g)) (j:y=U (k.key a)) (e:a∈us):ix x y=U (g a):=by subst u j;ext ix;rw[k.get,n_ e]
def KK.din (u:x=U (k.mk us g)) (j:y=U (k.key a)):pw y x=U (decide (a∈us)):=by
 subst u j;ext pw;rw[k.get];by_cases e:a∈us<;>simp[e]
def KK.dgetD (u:x=U (k.mk us g)) (j:y=U (k.key a)) (hz:z=U d):bd x y z=U (if a∈us then g a else d):=by
 subst u j hz;ext bd;rw[k.get];by_cases e:a∈us<;>simp[e]
def KK.keys (j:x=U (k.mk us g)):ia x=U (us.map k.key):=by subst j;ext ia;rw[k.kv]
def KK.listK (j:x=U (k.mk us g)):fG x=U (.lst (us.map k.key)):=by subst j;ext fG;rw[k.kv]
def KK.pairs (j:x=U (k.mk us g)):jE x=U (us.map λa=>.tup [k.key a,g a]):=by
 subst j;ext jE;rw[k.kv];simp
end
section
variable{ns J:DEnv}{n i j:Nat}{x:G (D×Bool)}{d:D}{ds es:Z D}
def CI (h:ns.length=n):(ns++J)[n+j]?=J[j]?:=by subst h;rw[MK (PU ..)];congr 1;rfl'
def Eu (h:ns.length=n):(ns++J).set (n+j) x=ns++J.set j x:=by
 simp_all
def Hb (h:i<ns.length):(ns++J).set i x=ns.set i x++J:=To _ _ h
def sN (h:ns.length=n):(ns++J).drop n=J:=by subst h;simp
def Di (h:ns.length=n):(ns++J).take n=ns:=by subst h;simp
def Ih (h:ns.length=n):(ns++J).length - n=J.length:=by subst h;simp
def r7 (h:ns.length=n) (e:J[j]?=U (U (.lst ds,V))):zt n (ns++J) (.loc B j)=U (j,ds):=by ext zt;left;rw[CI h,e]
def zJ (h:ns.length=n) (e:J[j]?=U (U (d,V))) (hd:(JE d).isSome=V):Bm n (ns++J) (.loc B j)=U (j,d):=by ext Bm;left;rw[CI h,e];simp[hd]
def gF (h:ns.length=n) (e:J[j]?=U (U (d,V))) (hd:Kz d=V):Jr n (ns++J) (U (.loc B j))=U d:=by ext Jr;left;rw[CI h,e];simp[hd]
def cY (h:ns.length=n) (e:J[j]?=U (U (d,V))) (hd:Kz d=V):L1 n (ns++J) (U (.loc B j))=U d:=by
 ext L1;left;rw[CI h,e];ext d<;>simp_all [Kz]
end
def J7 (p:Nat->Prop) (J J':DEnv):Prop:=J.length<=J'.length/\∀i,i<J.length->p i->J'[i]?=J[i]?
theorem aF {α:Type}{f:α->D}{body:D->DEnv->G Out}(I:Z α->DEnv->Prop):∀{xs pre:Z α}{O:DEnv},I pre O->(∀p x O,(∃r,pre++xs=p++x::r)->I p O->∃δ',body (f x) O=U (.next δ')/\I (p++[x]) δ')->∃δ',av body (xs.map f) O=U (.next δ')/\I (pre++xs) δ'
 |[],pre,O,h,_=>⟨O,rfl,by simpa using h⟩
 |x::xs,pre,O,h,H=>by
  let(j,e,u):=H pre x O ⟨xs,rfl⟩ h;let(k,v,z):=aF I (xs:=xs) (pre:=pre++[x]) u λp y O ⟨r,g⟩=>H p y O ⟨r,by simpa using g⟩
  show⟨k,?_,by simp_all⟩
  rw[Mx];ext av;rw[e];show v
theorem eC (I:Nat->DEnv->Prop) (Q:DEnv->Prop) (R:D->Bool->DEnv->Prop) (H:∀m O,I m O->(t O=U Y/\Q O)\/(t O=U V/\∃δ' m',b O=U (.next δ')/\m'<m/\I m' δ')\/(t O=U V/\∃d fr δ',b O=U (.ret d fr δ')/\R d fr δ')):∀n m O,I m O->m<n->(∃δ',cA t b n O=U (.next δ')/\Q δ')\/(∃d fr δ',cA t b n O=U (.ret d fr δ')/\R d fr δ')
 |0,_,_,_,h=>absurd h (OC _)
 |n+1,m,O,u,h=>by
  rcases H m O u with⟨e,q⟩|⟨e,δ',m',j,y,v⟩|⟨e,d,fr,δ',j,r⟩
  .show .inl ⟨O,by ext cA;rw[e],q⟩
  .rcases eC I Q R H n m' δ' v ()with⟨k,g,q⟩|⟨d,fr,k,g,r⟩
   .show .inl ⟨k,by ext cA;rw[e];left;rw[j];show g,q⟩
   .show .inr ⟨d,fr,k,by ext cA;rw[e];left;rw[j];show g,r⟩
  .show .inr ⟨d,fr,δ',by ext cA;rw[e];left;rw[j],r⟩
section
variable{α:Type}[DecidableEq α] {k:KK α}{L j0:Nat}{us:Z α}{j:α->Nat}{x:α->D}{a:α}{d:D}{ns J:DEnv}{n i:Nat}
structure DS (k:KK α) (L:Nat) (J:DEnv) (j0:Nat) (us:Z α) (j:α->Nat) (x:α->D):Prop where
 nd:us.Nodup
 len:L<=J.length
 at0:J[j0]?=U (U (k.mk us λa=>.loc B (j a),V))
 at':∀a∈us,J[j a]?=U (U (x a,V))/\j a≠j0/\L<=j a
 ij:∀a∈us,∀b∈us,j a=j b->a=b
def DS.sd (H:DS k L J j0 us j x) (N:us.length<=900) (t:ns.length=n) {fa fk fe:DEnv->G D}(s:fa (ns++J)=U (.loc B j0)) (h:fk (ns++J)=U (k.key a)) (l:fe (ns++J)=U e):
  ∃J' w,Lp n fa fk fe (ns++J)=U (.loc B (w a),ns++J')/\DS k L J' j0 (cO a us) w (λb=>if b∈us then x b else e)/\J7 (· ≠j0) J J':=by
 let o:=zJ t H.at0 (k.dc _ _);ext Lp;rw[s,h,l];left;rw[o];left;rw[k.get]
 by_cases z:a∈us
 .rw[n_ z]
  show⟨J,j,rfl,?_,Mj _,λ_ _ _=>rfl⟩
  rw[show cO a us=us from n_ z]
  show⟨H.nd,H.len,H.at0,λb v=>by rw[n_ v];show H.at' b v,H.ij⟩
 .rw[o_ z];rw[k.put _ _ _ _ ()]
  left;rw[Ih t,Qy,Eu t];let d:j0<J.length:=(L9.mp H.at0).1
  let y:∀b∈us,j b<J.length:=λb v=>(L9.mp (H.at' b v).1).1
  show⟨(J++[U (e,V)]).set j0 (U (k.mk (cO a us) λb=>if b=a then .loc B J.length else .loc B (j b),V)),λb=>if b=a then J.length else j b,by simp,⟨mW H.nd,?_,?_,?_,?_⟩,?_,?_⟩
  .have:=H.len;simp;lia
  .rw[Mz ⋯]
   congr 4
   funext b;by_cases q:b=a<;>simp[q]
  .intro b v
   by_cases q:b=a
   .subst q
    simp![if_true,o_ z];show⟨?_,(),H.len⟩
    simp_all
   .let g:b∈us:=(aL.mp v).resolve_right q
    simp![o_ q,n_ g];let(a1,a2,K):=H.at' b g;show⟨?_,a2,K⟩
    rw[Mh (λz=>a2 z.symm),Me (y b g)];show a1
  .intro b v c m u
   let g:=aL.mp v;let r:=aL.mp m
   by_cases q:b=a<;>by_cases p:c=a
   .rw[q,p]
   .have:=y c (r.resolve_right p);simp[q,p]at u;lia
   .have:=y b (g.resolve_right q);simp[q,p]at u;rfl'
   .simp![o_ q,o_ p]at u
    show H.ij b (g.resolve_right q) c (r.resolve_right p) u
  .simp
  .intro i hi f
   rw[Mh (λz=>f z.symm),Me hi]
def DS.set (H:DS k L J j0 us j x) (u:a∈us):DS k L (J.set (j a) (U (d,V))) j0 us j (λb=>if b=a then d else x b):=by
 show⟨H.nd,by simpa using H.len,?_,λb g=>?_,H.ij⟩
 .rw[Mh (H.at' a u).2.1];show H.at0
 .let(a1,a2,v):=H.at' b g
  show⟨?_,a2,v⟩
  by_cases q:b=a
  .subst q;simp[(L9.mp a1).1]
  .rw[Mh (λz=>q (H.ij _ u _ g z).symm),a1,o_ q]
nonrec theorem DS.app {l:α->Z D}(H:DS k L J j0 us j λa=>.lst (l a)) (w:us.length<=900) (u:ns.length=n) {fa fk fe fv:DEnv->G D}(x:fa (ns++J)=U (.loc B j0)) (m:fk (ns++J)=U (k.key a)) (f:fe (ns++J)=U (.lst [])) (c:∀J',fv (ns++J')=U v) (e:a∉us->l a=[]) (hz:(l a).length<=900):
  ∃J' r,yI n (Lp n fa fk fe) (br fv) (ns++J)=U (.next (ns++J'))/\DS k L J' j0 (cO a us) r (λb=>.lst (if b=a then l a++[v] else if b∈us then l b else[]))/\(∀i,i<L->i≠j0->J'[i]?=J[i]?)/\J.length<=J'.length:=by
 let(g,y,s,p,o1,o2):=H.sd w u x m f;let q:a∈cO a us:=aL.mpr (.inr rfl);let(a1,a2,o):=p.at' a q;let h:(if a∈us then D.lst (l a) else D.lst [])=.lst (l a):=by
  split
  .rfl
  .rename_i z;rw[e z]
 rw[h]at a1;show⟨g.set (y a) (U (.lst (l a++[v]),V)),y,?_,?_,λi hi t=>?_,by simpa using o1⟩
 .ext yI;rw[s];left
  rw[r7 u a1];rw[show br fv (ns++g)=U (v,ns++g) by ext br;rw[c]]
  left;rw[r7 u a1];left;rw[n_ (by simp[LZ];lia),Eu u]
 .have:=p.set (d:=.lst (l a++[v])) q
  grind
 .rw[Mh ()]
  show o2 i (RK hi H.len) t
theorem tP {j:α->Nat}{x:α->D}:∀{us:Z α}{J:DEnv},us.Nodup->(∀a∈us,∀b∈us,j a=j b->a=b)->(∀a∈us,J[j a]?=U (U (x a,V))/\Kz (x a)=V)->(jz J (us.map λa=>.loc B (j a))).1=us.map x/\(∀i,(∀a∈us,j a≠i)->(jz J (us.map λa=>.loc B (j a))).2[i]?=J[i]?)/\(jz J (us.map λa=>.loc B (j a))).2.length=J.length
 |[],J,_,_,_=>⟨rfl,λ_ _=>rfl,rfl⟩
 |a::us,J,nd,ij,h=>by
  rw[N0]at nd;let(v,u):=h a (MB ..);let es:Ke J (.loc B (j a))=U (j a,x a):=by ext Ke;left;rw[v];simp[u]
  let ne:∀b∈us,j a≠j b:=λb k z=>nd.1 (ij a (MB ..) b (MA _ k) z▸k)
  let(p,q,y):=tP (us:=us) (J:=J.set (j a) B) nd.2 (λb k c g=>ij b (MA _ k) c (MA _ g)) λb k=>by
   rw[Mh (ne b k)];show h b (MA _ k)
  rw[Mx];ext jz;simp_all
def DS.frz (H:DS k L J j0 us j x) (y:∀a∈us,Kz (x a)=V) (u:ns.length=n) (hi:ns[i]?=U (U (.loc B j0,Y))):∃J',frzN n i (ns++J)=U (ns.set i (U (k.mk us x,Y))++J')/\J'.length=J.length/\∀q,q<L->q≠j0->J'[q]?=J[q]?:=by
 let(t,v,r):=tP (J:=J) H.nd H.ij λa g=>⟨(H.at' a g).1,y a g⟩
 let lt:i<ns.length:=(L9.mp hi).1
 let es:Ke J (.loc B j0)=U (j0,k.mk us λa=>.loc B (j a)):=by ext Ke;left;rw[H.at0];simp[k.cn]
 let w:=k.frz us (λa=>.loc B (j a)) J x t
 show⟨(jz J (us.map λa=>.loc B (j a))).2.set j0 B,?_,?_,λq c p=>?_⟩
 .ext frzN
  rw[Me lt,hi]
  left;rw[sN u,es];left;rw[w];rw[n_ (by rw[v j0 λa g=>(H.at' a g).2.1];show H.at0),Di u,Hb lt]
 .simp[r]
 .rw[Mh (λz=>p z.symm),v q λa g z=>by have:=(H.at' a g).2.2;lia]
end
def msk (p:Nat->Bool):Nat->Nat|0=>0|n+1=>msk p n ||| (if p n=V then 2 ^ n else 0)
theorem sQ (p:Nat->Bool) (k:Nat):∀n,(msk p n).testBit k=(decide (k<n)&&p k)
 |0=>by simp[msk]
 |n+1=>by
  ext msk;rw[Rv,sQ p k n]
  grind
def Lw (l:Z Ja) (k p:Nat):G Ce:=(l[k]?).bind λq=>q.2[p]?
theorem zR (S:Sd) (k p:Nat):S.at k p=Lw S.oth k p:=rfl
def JV (l:Z Ja) (p:Nat) (c:Ce):Nat:=msk (λk=>decide (Lw l k p=U c)) l.length
def jJ:(JV l p c).testBit k=V↔Lw l k p=U c:=by
 ext JV;rw[sQ];simp![Mo,decide_eq_true_eq];show⟨λh=>h.2,λh=>⟨?_,h⟩⟩
 unfold Lw at h
 grind
def wM {a b:Nat}(h:∀k,a.testBit k=V↔b.testBit k=V):a=b:=Nat.eq_of_testBit_eq λk=>Pe.mpr (h k)
section
variable{x y:G D}{a b:Nat}
def LK (h:x=U (.int a)) (k:y=U (.int b)):L5 x y=U (.int ((a ||| b:Nat):Int)):=by subst h k;rfl
def Ex (h:x=U (.int a)) (k:y=U (.int b)):tx x y=U (.int ((a&&& b:Nat):Int)):=by subst h k;rfl
def Hl (h:x=U (.int 1)) (k:y=U (.int a)) (j:a<=1000):GF x y=U (.int ((2 ^ a:Nat):Int)):=by
 subst h k;change gd (decide (((1:Int)=1/\(0:Int)<=(a:Int)/\(a:Int)<=1000000))) _=_;ext gd;rw[n_ ⋯];rfl
end
def iR:∀a b:Ce,KQ a=KQ b->a=b:=λ_ _=>sK
def kC:KK Ce:=kX KQ iR λc=>by ext c<;>show⟨rfl,rfl⟩
def kR:KK Ja:=kX ai (λ_ _=>gZ) λr=>⟨nM r,rfl⟩
def Bc (m:Ce->Nat) (l:Z Ce):Nat:=l.foldl (λa c=>a ||| m c) 0
theorem wk {m:Ce->Nat}{k:Nat}:∀{l:Z Ce}{z:Nat},(l.foldl (λa c=>a ||| m c) z).testBit k=V↔z.testBit k=V\/∃c∈l,(m c).testBit k=V
 |[],z=>by simp
 |c::l,z=>by rw[O9,wk,Rv];simp[or_assoc]
def wE (h:∀c,bd (U k) (U (KQ c)) (U (.int 0))=U (.int (m c))) (l:Z Ce):zC4 [k,.lst (l.map KQ)]=U (.int (Bc m l:Nat),Y):=by
 let(δ',e,x3,rfl):=aF (f:=KQ) (body:=λd O=>ac ((ae 3) d O) nt) (λp O=>∃x3,O=[U (k,Y),U (.lst (l.map KQ),Y),U (.int (Bc m p:Nat),Y),x3]) (xs:=l) (pre:=[]) ⟨B,rfl⟩ λp c O _ ⟨x3,j⟩=>by
  subst j;show⟨_,aA rfl (show cC 2 (L5 (U (.int (Bc m p:Nat))) (bd (U k) (U (KQ c)) (U (.int 0)))) [U (k,Y),U (.lst (l.map KQ),Y),U (.int (Bc m p:Nat),Y),U (KQ c,Y)]=U (.next _) from by rw[LK rfl (h c)];rfl),U (KQ c,Y),?_⟩
  ext Bc;simp
 show JO rfl (Jp rfl (Kf e (rO rfl)))
def BU (r:Ja) (k:Nat):Bool:=match r.2[k]? with|some (.bk n)=>decide (r.2.idxOf (.bk n)=k)|_=>Y
def Fg (r:Ja) (k:Nat):Int:=match r.2[k]? with|some (.bk n)=>n|_=>0
def IU (r:Ja):Z (Nat×Int):=((MW r.2.length).filter (BU r)).map λk=>(k,Fg r k)
def JY (q:Nat×Int):D:=.tup [.int q.1,.int q.2]
def vU {k:Type}[DecidableEq k] {a x:k}{l:Z k}(h:a≠x):(a::l).idxOf x=l.idxOf x+1:=by
 grind
def q7 {α:Type}[DecidableEq α] {l:Z α}{x:α}(h:l[k]?=U x):l.idxOf x=k↔∀j,j<k->l[j]?≠U x:=by
 induction l generalizing k with
 |nil=>simp at h
 |cons a l ih=>
  cases k with
  |zero=>simp_all
  |succ k=>
   by_cases e:a=x
   .subst e
    constructor
    .simp
    .intro g;show absurd rfl (g 0 ⟨⟩)
   .rw[vU e,Nat.add_right_cancel_iff,ih h]
    constructor
    .intro g j hj
     cases j with
     |zero=>simpa using e
     |succ j=>simp_all
    .intro g j hj;simpa using g (j+1) ⟨⟩
nonrec theorem Da:(p,n)∈IU r↔tE r p n:=by
 unfold IU tE;simp![MC,Nk,NE,Rf];constructor
 .rintro⟨k,⟨g,j⟩,rfl,rfl⟩
  unfold BU at j;ext Fg;split at j
  .rename_i m e
   rw[e];show⟨rfl,(q7 e).mp (of_decide_eq_true j)⟩
  .ext j
 .rintro⟨g,j⟩
  show⟨p,⟨(L9.mp g).1,?_⟩,rfl,?_⟩
  .ext BU;rw[g];show decide_eq_true ((q7 g).mpr j)
  .ext Fg;rw[g]
theorem sY {k:Type}[DecidableEq k] {f:k->D}(j:∀a b,f a=f b->a=b) (x:k):∀l:Z k,(l.map f).idxOf (f x)=l.idxOf x
 |[]=>rfl
 |a::l=>by
  rw[Mx]
  by_cases e:a=x
  .subst e;simp
  .rw[vU λz=>e (j _ _ z),vU e,sY j x l]
def Iy {cs:Z Ce}(h:c∈cs):vz (U (.tup (cs.map KQ))) (U (KQ c))=U (.int (cs.idxOf c:Nat)):=by
 change(if KY 16 (KQ c)=V/\(cs.map KQ).all (KY 16)=V/\(cs.map KQ).idxOf (KQ c)<(cs.map KQ).length then U (D.int ((cs.map KQ).idxOf (KQ c):Nat)) else B)=_
 rw[n_ ⟨uN c,sF uN cs,by rw[sY iR,Ms];show List.idxOf_lt_length_of_mem h⟩,sY iR]
def xv {cs:Z Ce}{k:Nat}{c:Ce}(h:cs[k]?=U c):atI (cs.map KQ) (0+(k:Int))=U (KQ c):=by
 unfold atI Jx;let(this,h):=L9.mp h
 simp[this,h]
def mB (r:Ja) (q:r.2.length<=100):zB4 [ai r]=U (.lst ((IU r).map JY),V):=by
 let v:dz (dk (ae 2) (λO=>jM (KP (Lm (Lm (rY 1 O) (rY 2 O)) (U (.int 0))) (U (.str "blank"))) (KP (vz (rY 1 O) (Lm (rY 1 O) (rY 2 O))) (rY 2 O))) c6 [B,U (.tup (r.2.map KQ),Y),B]) (jH 0 r.2.length)=U (((MW r.2.length).filter (BU r)).map λk=>JY (k,Fg r k)):=by
  show bU (f:=λk:Nat=>D.int (0+(k:Int))) λk g=>?_
  let g:=NE.mp g;obtain⟨c,e⟩:∃c,r.2[k]?=U c:=⟨_,Mq g⟩
  let u:Lm (U (.tup (r.2.map KQ))) (U (.int (0+(k:Int))))=U (KQ c):=xv e;change ac (U [B,U (.tup (r.2.map KQ),Y),U (.int (0+(k:Int)),Y)]) (λδ'=>match jM (KP (Lm (Lm (rY 1 δ') (rY 2 δ')) (U (.int 0))) (U (.str "blank"))) (KP (vz (rY 1 δ') (Lm (rY 1 δ') (rY 2 δ'))) (rY 2 δ'))with|some V=>(match c6 δ' with|some y=>U (U y)|none=>B)|some Y=>U B|none=>B)=_
  rw[bindO_s];change(match jM (KP (Lm (Lm (U (.tup (r.2.map KQ))) (U (.int (0+(k:Int))))) (U (.int 0))) (U (.str "blank"))) (KP (vz (U (.tup (r.2.map KQ))) (Lm (U (.tup (r.2.map KQ))) (U (.int (0+(k:Int)))))) (U (.int (0+(k:Int)))))with|some V=>(match fS (aa (U (.int (0+(k:Int)))) (aa (Lm (Lm (U (.tup (r.2.map KQ))) (U (.int (0+(k:Int))))) (U (.int 1))) (U [])))with|some y=>U (U y)|none=>B)|some Y=>U B|none=>B)=_
  rw[u,Iy (Mr e),LM rfl rfl];unfold BU Fg;rw[e];cases c with
  |nm w=>
   rfl
  |bk n=>
   rw[show KP (Lm (U (KQ (.bk n))) (U (.int 0))) (U (.str "blank"))=U V from by
    rfl]
   by_cases z:r.2.idxOf (.bk n)=k
   .rw[show decide (((r.2.idxOf (.bk n):Nat):Int)=0+(k:Int))=V from decide_eq_true ⟨⟩]
    simp![z,decide_true,if_true];rw[Int.zero_add];rfl
   .rw[show decide (((r.2.idxOf (.bk n):Nat):Int)=0+(k:Int))=Y from decide_eq_false ()]
    simp[z,jM]
 show JO rfl (Jp (d:=.tup (r.2.map KQ)) rfl (rF ?_))
 show(jk (ds:=jH 0 r.2.length) ?_ (by simp[jH];lia) rfl v (by simp;have:=MS (BU r) (MW r.2.length);simp at this;lia)).trans ?_
 .show(H7 (j:=r.2.length) ?_ ()).trans (by simp)
  change cS (U (.tup (r.2.map KQ)))=_;simp
 .ext IU;rw[NU];rfl
inductive Mk|tl (t:MJ) (n:Nat)|nm (p:Nat) (w:MJ)|al (a p:Nat)
deriving DecidableEq
def L8:Mk->D|.tl t n=>.tup [.str t,.int n]|.nm p w=>.tup [.int p,KQ (.nm w)]|.al a p=>.tup [.int a,.int p]
def C5:∀a b:Mk,L8 a=L8 b->a=b:=by
 intro a b h;ext a<;>ext b<;>simp_all [L8,KQ]<;>lia
def kM:KK Mk:=kX L8 C5 λm=>by ext m<;>show⟨rfl,rfl⟩
def wF (cs:Z Ce) (q:Ce×Nat):Z Mk:=(match q.1 with|.nm w=>[.nm q.2 w]|.bk _=>[])++((MW q.2).filter λa=>decide (cs[a]?=U q.1)).map λa=>.al a q.2
def K8 (r:Ja):Z Mk:=.tl r.1 r.2.length::r.2.zipIdx.flatMap (wF r.2)
theorem c5 {k:Type}{f:k->D}:∀(cs:Z k) (i:Nat),lM i (cs.map f)=(cs.zipIdx i).map λq=>.tup [.int q.2,f q.1]
 |[],_=>rfl
 |c::cs,i=>by rw[Mx,List.zipIdx_cons,Mx];ext lM;rw[c5 cs]
def yt:.tl t n∈K8 r↔t=r.1/\n=r.2.length:=by
 unfold K8 wF;simp![MG,QO,Mw,MC,Mk.tl.injEq];constructor
 .rintro(h|⟨⟨c,k⟩,_,h⟩)
  .show h
  .ext c<;>simp at h
 .show .inl
def yi:.nm p w∈K8 r↔r.2[p]?=U (.nm w):=by
 unfold K8 wF;simp![MG,QO,Mw,MC,reduceCtorEq,false_or];constructor
 .rintro⟨⟨c,k⟩,j,h⟩
  have:=Oa.mp j;ext c<;>simp_all
 .intro h
  show⟨(.nm w,p),Oa.mpr h,.inl (by simp)⟩
def xS:.al a p∈K8 r↔a<p/\∃c,r.2[p]?=U c/\r.2[a]?=U c:=by
 unfold K8 wF;simp![MG,QO,Mw,MC,reduceCtorEq,false_or,Nk,NE,decide_eq_true_eq,Mk.al.injEq];constructor
 .rintro⟨⟨c,k⟩,u,h⟩
  have:=Oa.mp u
  rcases h with h|⟨b,⟨g,j⟩,rfl,rfl⟩
  .ext c<;>simp at h
  .show⟨g,c,this,j⟩
 .rintro⟨h,c,g,j⟩
  show⟨(c,p),Oa.mpr g,.inr ⟨a,⟨h,j⟩,rfl,rfl⟩⟩
def wY:Ky r q↔∀m∈K8 r,m∈K8 q:=by
 constructor
 .rintro⟨x,b,f,d⟩ m v
  cases m with
  |tl t n=>simp_all [yt]
  |nm p w=>rw[yi]at*;show f p w v
  |al a p=>
   rw[xS]at*;let(h,c,g,u):=v;let k:=(L9.mp g).1
   have:=d a p h k (u.trans g.symm);let e:=Mq (l:=q.2) (i:=p) ⟨⟩
   show⟨h,_,e,this.trans e⟩
 .intro H
  let y:=yt.mp (H _ (yt.mpr ⟨rfl,rfl⟩));show⟨y.1,y.2,λp w h=>yi.mp (H _ (yi.mpr h)),λj p z k e=>?_⟩
  let(_,c,g,u):=xS.mp (H (.al j p) (xS.mpr ⟨z,_,Mq k,e.trans (Mq k)⟩))
  show u.trans g.symm
def xQ (h:r.2.length<=4):(K8 r).length<=21:=by
 ext K8;rw[MX];have:(r.2.zipIdx.flatMap (wF r.2)).length<=5*r.2.zipIdx.length:=kf λq j=>by
  let(c,k):=q;let u:=(L9.mp (Oa.mp j)).1
  ext wF;rw[MF,Ms];let g:=MS (λa=>decide (r.2[a]?=U c)) (MW k)
  rw[OU]at g;ext c<;>simp<;>lia
 rw[PF]at this;lia
def Ab (r:Ja) (hl:r.2.length<=4):zC3 [ai r]=U (.lst ((K8 r).map L8),V):=by
 let ml:=xQ hl;let((y1,y2,y3),e):=tZ (f:=λq:Ce×Nat=>D.tup [.int q.2,KQ q.1]) (h:=wF r.2) (body:=λd O=>ac ((aW (ah (ae 3) (ah (ae 4) (aY)))) d O) qD) (E:=λ(acc:Z Mk) (y:G (D×Bool)×G (D×Bool)×G (D×Bool))=>[U (ai r,Y),U (.tup (r.2.map KQ),Y),U (.lst (acc.map L8),V),y.1,y.2.1,y.2.2]) (Tx:=100) (xs:=r.2.zipIdx) (acc:=[.tl r.1 r.2.length]) (y:=(B,B,B)) (by unfold K8 at ml;simp at ml⊢;lia) λq hq acc y ha=>by
  let(c,k):=q;let hc:=Oa.mp hq;let hk:=(L9.mp hc).1
  show⟨(U (.int k,Y),U (KQ c,Y),y.2.2),?_⟩
  dsimp only at ha hc hk⊢;show aA (a:=[U (ai r,Y),U (.tup (r.2.map KQ),Y),U (.lst (acc.map L8),V),U (.int k,Y),U (KQ c,Y),y.2.2]) rfl ?_
  let ex:∀acc':Z Mk,(∃xs,acc'++((MW k).filter λa=>decide (r.2[a]?=U c)).map (λa=>Mk.al a k)=xs/\xs.length<=100)->Eb 2 (au (ac (rI (U (.int k))) (bS Y [Y,V,Y,V,V,Y] (ae 5) (λO=>KP (Lm (rY 1 O) (rY 5 O)) (rY 4 O)) pY [U (ai r,Y),U (.tup (r.2.map KQ),Y),U (.lst (acc'.map L8),V),U (.int k,Y),U (KQ c,Y),y.2.2]))) [U (ai r,Y),U (.tup (r.2.map KQ),Y),U (.lst (acc'.map L8),V),U (.int k,Y),U (KQ c,Y),y.2.2]=U (.next [U (ai r,Y),U (.tup (r.2.map KQ),Y),U (.lst ((acc'++((MW k).filter λa=>decide (r.2[a]?=U c)).map (λa=>Mk.al a k)).map L8),V),U (.int k,Y),U (KQ c,Y),y.2.2]):=λacc' ⟨xs,hx,hx2⟩=>by
   let l2:((MW k).filter λa=>decide (r.2[a]?=U c)).length<=100:=by
    have:=MS (λa=>decide (r.2[a]?=U c)) (MW k);simp at this;lia
   subst hx;let l3:acc'.length+((MW k).filter λa=>decide (r.2[a]?=U c)).length<=100:=by simpa using hx2
   show(IJ (es:=(((MW k).filter λa=>decide (r.2[a]?=U c)).map (λa=>Mk.al a k)).map L8) (jk (ds:=jH 0 k) ?_ (by simp[jH];lia) rfl ?_ ⋯) rfl (by rw[Ms,Ms,Ms];lia)).trans ?_
   .show(H7 rfl ()).trans (by simp)
   .show(bU (f:=λa:Nat=>D.int (0+(a:Int))) (h:=λa=>L8 (.al a k)) (p:=λa=>decide (r.2[a]?=U c)) λa ha=>?_).trans (by rw[NU];rfl)
    let ha:=NE.mp ha;obtain⟨c',e⟩:∃c',r.2[a]?=U c':=⟨_,Mq (show a<r.2.length by lia)⟩
    let ei:Lm (U (.tup (r.2.map KQ))) (U (.int (0+(a:Int))))=U (KQ c'):=xv e;change(match KP (Lm (U (.tup (r.2.map KQ))) (U (.int (0+(a:Int))))) (U (KQ c))with|some V=>(match fS (aa (U (.int (0+(a:Int)))) (aa (U (.int k)) (U [])))with|some y=>U (U y)|none=>B)|some Y=>U B|none=>B)=_
    rw[ei,yq,e]
    by_cases z:c'=c
    .subst z;simp[L8]
    .simp[z]
   .simp
  let hx:(wF r.2 (c,k)).length+acc.length<=100:=()
  cases c with
  |nm w=>
   show Kq (g:=λO=>_) (rfl) (LJ (GI (d:=L8 (.nm k w)) (ds:=acc.map L8) rfl rfl ⋯) ?_)
   show SW ?_ ((ex (acc++[.nm k w]) ⟨_,rfl,?_⟩).trans ?_)
   .rw[Mu];rfl
   .unfold wF at hx;simp at hx⊢;lia
   .ext wF;simp
  |bk n=>
   show KA (g:=λO=>_) ?_ (LJ (O:=[U (ai r,Y),U (.tup (r.2.map KQ),Y),U (.lst (acc.map L8),V),U (.int k,Y),U (KQ (.bk n),Y),y.2.2]) rfl ?_)
   .rfl
   show SW ?_ ((ex acc ⟨_,rfl,?_⟩).trans ?_)
   .rfl
   .unfold wF at hx;simp at hx⊢;lia
   rfl
 show JO rfl (Jp (d:=.tup (r.2.map KQ)) rfl (K3 (d:=.lst [L8 (.tl r.1 r.2.length)]) ?_ (Kf (aA (a:=r.2.zipIdx.map λq=>D.tup [.int q.2,KQ q.1]) (p_ U (c5 r.2 0)) e) (rF rfl))))
 .change eU (aa (fS (aa (U (.str r.1)) (aa (cS (U (.tup (r.2.map KQ)))) (U [])))) (U []))=_
  have:cS (U (.tup (r.2.map KQ)))=U (.int r.2.length):=by ext cS;simp[ac,eA]
  rw[this];rfl
section
variable{α κ:Type}[DecidableEq α] [DecidableEq κ] {us xs:Z α}{g h:α->D}{a:α}{d:D}{O:DEnv}{i:Nat}{x y:G D}
def KK.putO (k:KK α) (e:O[i]?=U (U (k.mk us g,V))) (u:x=U (k.key a)) (j:y=U d) (v:us.length<=1000):nS i x y O=U (.next (O.set i (U (k.mk (cO a us) (λb=>if b=a then d else g b),V)))):=by
 subst u j;let z:dh i O=U (k.mk us g):=by ext dh;rw[e]
 ext nS;rw[z];left;rw[k.put us g a d v]
def KK.getI (k:KK α) {v:α->Nat}(u:∀b,b∉us->v b=0) (g:x=U (k.mk us λb=>.int (v b))) (j:y=U (k.key a)):bd x y (U (.int 0))=U (.int (v a)):=by
 rw[k.dgetD g j rfl]
 simp_all
def cD (us xs:Z α):Z α:=xs.foldl (λus a=>cO a us) us
theorem i6 {b:α}:∀{xs us:Z α},b∈cD us xs↔b∈us\/b∈xs
 |[],us=>by simp[cD]
 |a::xs,us=>by
  change b∈cD (cO a us) xs↔_;rw[i6,aL,MG,or_assoc]
theorem oF:∀{xs us:Z α},us.Nodup->(cD us xs).Nodup
 |[],_,h=>h
 |a::xs,us,h=>oF (xs:=xs) (mW h)
theorem ki:∀{xs us:Z α},(cD us xs).length<=us.length+xs.length
 |[],_=>Mj _
 |a::xs,us=>by
  let j:=ki (xs:=xs) (us:=cO a us);let k:=gI (a:=a) (us:=us);change(cD (cO a us) xs).length<=_;rw[MX];lia
theorem l6:∀{xs us:Z α},(us++xs).Nodup->cD us xs=us++xs
 |[],us,_=>by simp[cD]
 |a::xs,us,h=>by
  change cD (cO a us) xs=_;let k:a∉us:=λz=>(NQ.mp h).2.2 a z a (MB ..) rfl
  let e:cO a us=us++[a]:=o_ k;rw[e,l6 (by simpa using h)];simp
theorem qV {f:α->D}(k:∀a b,f a=f b->a=b):∀{xs us:Z α}{g h:α->D},oH (us.map f) (us.map g) (xs.map λa=>(f a,h a))=((cD us xs).map f,(cD us xs).map λa=>if a∈xs then h a else g a)
 |[],us,g,h=>by rfl
 |a::xs,us,g,h=>by
  rw[Mx];ext oH;rw[rh k,wO k,qV k];show QM rfl (NJ λb j=>?_)
  by_cases z:b∈xs
  .simp[z]
  .by_cases w:b=a<;>simp[z,w]
theorem q9:∀{xs us:Z Int}{g h:Int->D},lK (xs.map λa=>((.inl a:J8),h a)) (us.map .inl) (us.map g)=((cD us xs).map .inl,(cD us xs).map λa=>if a∈xs then h a else g a)
 |[],us,g,h=>by rfl
 |a::xs,us,g,h=>by
  rw[Mx];ext lK;rw[rh iI,wO iI,q9];show QM rfl (NJ λb k=>?_)
  by_cases z:b∈xs
  .simp[z]
  .by_cases w:b=a<;>simp[z,w]
theorem pJ:∀{xs us:Z Int}{g h:Int->D},dZ (xs.map .inl) (xs.map h) (us.map .inl) (us.map g)=((cD us xs).map .inl,(cD us xs).map λa=>if a∈xs then h a else g a)
 |[],us,g,h=>by rfl
 |a::xs,us,g,h=>by
  rw[Mx,Mx];ext dZ;rw[rh iI,wO iI,pJ];show QM rfl (NJ λb k=>?_)
  by_cases z:b∈xs
  .simp[z]
  .by_cases w:b=a<;>simp[z,w]
def DD {f:α->D}(hf:∀a b,f a=f b->a=b) (hh:∀a,fU 8 (f a)=V/\yU (f a)=V) (hx:x=U (.lst (xs.map λa=>.tup [f a,h a]))) (hl:xs.length<=1000):m8 x=U (dX f (cD [] xs) h):=by
 subst hx;let e:∀xs:Z α,jo (xs.map λa=>.tup [f a,h a])=U (xs.map λa=>(f a,h a)):=λxs=>by
  induction xs with
  |nil=>rfl
  |cons a xs ih=>
   rw[Mx];ext jo;rw[ih];change(match(if(fU 8 (f a)&&yU (f a))=V then U (f a,h a) else B),U _ with|some p,U ps=>U (p::ps)|_,_=>B)=_
   rw[n_ (by rw[(hh a).1,(hh a).2];rfl)];rfl
 ext m8;left;rw[e];left;rw[n_ (by simp[LZ];lia),show(oH [] [] _:Z D×Z D)=_ from qV (us:=[]) (g:=h) hf]
 change U (D.dD _ _)=_;ext dX;congr 2;show NJ λa _=>by simp
def sT {xs:Z Int}{h:Int->D}(hx:x=U (.lst (xs.map λa=>.tup [.int a,h a]))) (hl:xs.length<=1000):ic x=U (kI.mk (cD [] xs) h):=by
 subst hx;let e:∀xs:Z Int,iz (xs.map λa=>.tup [.int a,h a])=U (xs.map λa=>((.inl a:J8),h a)):=λxs=>by
  induction xs with
  |nil=>rfl
  |cons a xs ih=>rw[Mx];ext iz;rw[ih];rfl
 ext ic;left;rw[e];left;rw[n_ (by simp[LZ];lia),show(lK _ [] []:Z J8×Z D)=_ from q9 (us:=[]) (g:=h)]
 change U (D.dK _ _)=U (dI _ _);ext dI;congr 2;show NJ λa _=>by simp
def Ft {us xs:Z Int}{g h:Int->D}(u:us.length+xs.length<=1000) (j:x=U (kI.mk us g)) (k:y=U (kI.mk xs h)):EU x y=U (kI.mk (cD us xs) λa=>if a∈xs then h a else g a):=by
 subst j k;change(if(us.map QB).length+(xs.map QB).length<=LZ then U (D.dK (dZ (xs.map QB) (xs.map h) (us.map QB) (us.map g)).1 (dZ (xs.map QB) (xs.map h) (us.map QB) (us.map g)).2) else B)=_
 rw[n_ (by simp[LZ];lia),pJ];rfl
end
def Ii (l:Z Ja) (m:Mk) (k:Nat):Bool:=match l[k]? with|some q=>decide (m∈K8 q)|none=>Y
def wm (l:Z Ja) (m:Mk):Nat:=msk (Ii l m) l.length
def tY:(wm l m).testBit k=V↔∃q,l[k]?=U q/\m∈K8 q:=by
 unfold wm Ii;rw[sQ];simp![Mo,decide_eq_true_eq];constructor
 .rintro⟨g,j⟩
  split at j
  .show⟨_,by assumption,of_decide_eq_true j⟩
  .ext j
 .rintro⟨q,g,j⟩
  rw[g];show⟨(L9.mp g).1,decide_eq_true j⟩
def wi (p:Z Ja) (ms:Z Mk) (m:Mk):Nat:=wm p m ||| (if m∈ms then 2 ^ p.length else 0)
def Bl:wi p (K8 q) m=wm (p++[q]) m:=wM λk=>by
 ext wi;rw[Rv,P5,tY,tY];constructor
 .rintro(⟨g,j,u⟩|h)
  .show⟨g,by rw[Me (L9.mp j).1];show j,u⟩
  .split at h
   .rw[Nat.testBit_two_pow,decide_eq_true_eq]at h
    subst h;show⟨q,by simp,by assumption⟩
   .simp at h
 .rintro⟨g,j,u⟩
  by_cases z:k<p.length
  .rw[Me z]at j;show .inl ⟨g,j,u⟩
  .have:=(L9.mp j).1
   let e:k=p.length:=by simp at this;lia
   subst e;simp at j;subst j;show .inr (by simp_all)
def v8 {p:Z Ja}{ms:Z Mk}{m a:Mk}:wi p (ms++[a]) m=if m=a then wi p ms a ||| 2 ^ p.length else wi p ms m:=by
 ext wi
 by_cases e:m=a
 .subst e
  rw[n_ rfl,n_ (by simp)]
  by_cases z:m∈ms
  .rw[n_ z,Nat.or_assoc,Nat.or_self]
  .simp_all
 .rw[o_ e];simp[e]
def Kw (l:Z Ja) (r:Ja):Nat:=(K8 r).foldl (λz m=>z&&& wm l m) (2 ^ l.length - 1)
theorem wR {f:Mk->Nat}{k:Nat}:∀{ms:Z Mk}{z:Nat},(ms.foldl (λz m=>z&&& f m) z).testBit k=V↔z.testBit k=V/\∀m∈ms,(f m).testBit k=V
 |[],z=>by simp
 |a::ms,z=>by rw[O9,wR,SB,Mo];simp[and_assoc]
def Bz:(Kw l r).testBit k=V↔∃q,l[k]?=U q/\Ky r q:=by
 ext Kw;rw[wR,Nat.testBit_two_pow_sub_one,decide_eq_true_eq];constructor
 .rintro⟨j,u⟩
  show⟨l[k],Mq j,wY.mpr λm g=>?_⟩
  let(q,y,v):=tY.mp (u m g)
  simp_all
 .rintro⟨q,j,u⟩
  show⟨(L9.mp j).1,λm g=>tY.mpr ⟨q,j,wY.mp u m g⟩⟩
def uq {α:Type}{l:Z α}{p:Z (α×Nat)}{q:α×Nat}{r:Z (α×Nat)}(h:l.zipIdx=p++q::r):q.2=p.length/\l[p.length]?=U q.1:=by
 let k:l.zipIdx[p.length]?=U q:=by rw[h];simp
 rw[Tp]at k
 let(a,g,j):=O4.mp k;subst j;show⟨by simp,g⟩
def wA {α:Type}{l:Z α}:l.zipIdx.map (·.1)=l:=by simp
def IV (h:x=U d) (hi:QC i O.length=V:=by rfl):cC i x O=U (.next (O.set i (U (d,Y)))):=by simp_all
def Sh (l:Z Ja):Prop:=l.length<=8/\∀r∈l,r.2.length<=4
def A7 (h:x=U (ai r)) (k:r.2.length<=4):aV (Km (ac (aa x (U [])) zC3))=U ((K8 r).map L8):=by
 subst h;change aV (Km (zC3 [ai r]))=_;rw[Ab r k];rfl
def Io (h:x=U (.int a)) (k:y=U (.int b)):GM x y=U (.int (a - b)):=by subst h k;rfl
def mJ {one oth:Z Ja}(h1:Sh one) (h2:Sh oth):zB9 [.lst (one.map ai),.lst (oth.map ai)]=U (.lst (one.map λr=>.int (Kw oth r:Nat)),V):=by
 let(δ1,e1,us,y1,y2,y3,rfl,_,hu):=aF (f:=λq:Ja×Nat=>D.tup [.int q.2,ai q.1]) (body:=λd O=>ac ((aW (ah (ae 3) (ah (ae 4) (aY)))) d O) f9) (λp O=>∃us y1 y2 y3,O=[U (.lst (one.map ai),Y),U (.lst (oth.map ai),Y),U (kM.mk us (λm=>.int (wm (p.map (·.1)) m)),V),y1,y2,y3,B,B]/\us.length<=21*p.length/\∀m,m∉us->wm (p.map (·.1)) m=0) (xs:=oth.zipIdx) (pre:=[]) ⟨[],B,B,B,rfl,Mj _,λm _=>rfl⟩ λp q O ⟨r,hr⟩ ⟨us,y1,y2,y3,hδ,ul,hu⟩=>by
  subst hδ;let(q,k):=q;let hpl:p.length<oth.length:=by have:=p_ NS hr;simp at this;rfl'
  let hk:k=p.length/\q∈oth:=by
   let h:oth.zipIdx[p.length]?=U (q,k):=by
    have:oth.zipIdx=p++(q,k)::r:=by simpa using hr
    rw[this];simp
   rw[Tp]at h
   let(a,ha,hb):=O4.mp h;simp at hb;show⟨hb.2.symm,hb.1▸Mr ha⟩
  let hq:=h2.2 q hk.2;let ml:=xQ hq;let pl:(p.map (·.1)).length=p.length:=by simp
  let(δ2,e2,vs,z5,rfl,vl,hv):=aF (f:=L8) (body:=λd O=>ac ((ae 5) d O) gh) (λms O=>∃vs z5,O=[U (.lst (one.map ai),Y),U (.lst (oth.map ai),Y),U (kM.mk vs (λm=>.int (wi (p.map (·.1)) ms m)),V),U (.int k,Y),U (ai q,Y),z5,B,B]/\vs.length<=21*p.length+ms.length/\∀m,m∉vs->wi (p.map (·.1)) ms m=0) (xs:=K8 q) (pre:=[]) (O:=[U (.lst (one.map ai),Y),U (.lst (oth.map ai),Y),U (kM.mk us (λm=>.int (wm (p.map (·.1)) m)),V),U (.int k,Y),U (ai q,Y),y3,B,B]) ⟨us,y3,by simp[wi],by simpa using ul,λm hm=>by simp[wi,hu m hm]⟩ λms m O ⟨r',hr'⟩ ⟨vs,z5,hδ,vl,hv⟩=>by
   subst hδ;let hml:ms.length<(K8 q).length:=by have:=p_ NS hr';simp at this;rfl'
   have:=h2.1;show⟨_,aA rfl ((kM.putO (us:=vs) (g:=λm=>.int (wi (p.map (·.1)) ms m)) (a:=m) (d:=.int ((wi (p.map (·.1)) ms m ||| 2 ^ k:Nat):Int)) rfl rfl (LK (kM.getI hv rfl rfl) (Hl rfl rfl ())) ()).trans rfl),cO m vs,U (L8 m,Y),?_,?_,λm' hm'=>?_⟩
   .have:(λb=>if b=m then D.int ((wi (p.map (·.1)) ms m ||| 2 ^ k:Nat):Int) else .int (wi (p.map (·.1)) ms b:Nat))=λb=>D.int (wi (p.map (·.1)) (ms++[m]) b:Nat):=by
     funext m'
     rw[v8,pl,hk.1]
     by_cases z:m'=m
     .subst z;simp
     .simp[z]
    rw[this];rfl
   .have:=gI (a:=m) (us:=vs);simp;lia
   .rw[v8,o_ λz=>hm' (aL.mpr (.inr z)),hv m' λz=>hm' (aL.mpr (.inl z))]
  show⟨_,aA (a:=[U (.lst (one.map ai),Y),U (.lst (oth.map ai),Y),U (kM.mk us (λm=>.int (wm (p.map (·.1)) m)),V),U (.int k,Y),U (ai q,Y),y3,B,B]) rfl (aA (A7 rfl hq) e2),vs,U (.int k,Y),U (ai q,Y),z5,?_,?_,λm hm=>?_⟩
  .simp![Np,Mu,Mx,RN,<-Bl]
  .simp at vl⊢;lia
  simp_all [Np,Bl]
 rw[Np,wA]at e1 hu;let((w4,w5,w7),e3):=kj (f:=ai) (h:=λr=>D.int (Kw oth r:Nat)) (body:=λd O=>ac ((ae 4) d O) fX) (E:=λ(acc:Z D) (y:G (D×Bool)×G (D×Bool)×G (D×Bool))=>[U (.lst (one.map ai),Y),U (.lst (oth.map ai),Y),U (kM.mk us (λm=>.int (wm oth m)),Y),y1,y.1,y.2.1,U (.lst acc,V),y.2.2]) (xs:=one) (acc:=[]) (y:=(y2,y3,B)) (by have:=h1.1;simp;lia) λr hr acc y hacc=>by
  let(δ2,e2,z5,rfl):=aF (f:=L8) (body:=λd O=>ac ((ae 5) d O) gx) (λms O=>∃z5,O=[U (.lst (one.map ai),Y),U (.lst (oth.map ai),Y),U (kM.mk us (λm=>.int (wm oth m)),Y),y1,U (ai r,Y),z5,U (.lst acc,V),U (.int (ms.foldl (λz m=>z&&& wm oth m) (2 ^ oth.length - 1):Nat),Y)]) (xs:=K8 r) (pre:=[]) ⟨y.2.1,rfl⟩ λms m O _ ⟨z5,hδ⟩=>by
   subst hδ;show⟨_,aA rfl (IV (Ex (a:=ms.foldl (λz m=>z&&& wm oth m) (2 ^ oth.length - 1)) rfl (kM.getI (a:=m) hu rfl rfl))),U (L8 m,Y),?_⟩
   simp
  show⟨(U (ai r,Y),z5,U (.int (Kw oth r:Nat),Y)),aA (a:=[U (.lst (one.map ai),Y),U (.lst (oth.map ai),Y),U (kM.mk us (λm=>.int (wm oth m)),Y),y1,U (ai r,Y),y.2.1,U (.lst acc,V),y.2.2]) rfl (JI (d:=.int (2 ^ oth.length - 1:Nat)) ?_ (LJ (aA (A7 rfl (h1.2 r hr)) e2) (GI rfl rfl ())))⟩
  let e:cS (U (.lst (oth.map ai)))=U (.int oth.length):=by ext cS;simp[ac,eA]
  let p2:1<=2 ^ oth.length:=Nat.one_le_two_pow;show(Io (Hl rfl e (by have:=h2.1;lia)) rfl).trans ?_
  congr 2;lia
 show JO rfl (K3 (d:=kM.mk [] λm=>.int (wm [] m)) rfl (Kf (aA (p_ U (c5 oth 0)) e1) (K3 (d:=.lst []) rfl (Kf (aA rfl e3) (rF ?_)))))
 simp
section
variable{α:Type}[DecidableEq α] {us:Z α}{g:α->D}{a:α}{d v:D}{ns J:DEnv}{n i j:Nat}{fa fk fv fe:DEnv->G D}{ds es:Z D}{x:G (D×DEnv)}
def KK.putL (k:KK α) (u:ns.length=n) (p:fa (ns++J)=U (.loc B j)) (q:fk (ns++J)=U (k.key a)) (z:fv (ns++J)=U v) (e:J[j]?=U (U (k.mk us g,V))) (y:us.length<=1000):L2.putL n fa fk fv (ns++J)=U (.next (ns++J.set j (U (k.mk (cO a us) (λb=>if b=a then v else g b),V)))):=by
 unfold L2.putL;rw[p,q,z];left;rw[zJ u e (k.dc _ _)];left;rw[k.put _ _ _ _ y];simp_all
def gM (h:x=U (d,ns++J)) (hi:QC i ns.length=V:=by rfl):fB i x=U (.next (ns.set i (U (d,Y))++J)):=by
 subst h;ext fB;simp_all
def lW (k:ns.length=n) (h:fa (ns++J)=U d):bu n fa (ns++J)=U (.loc B J.length,ns++(J++[U (d,V)])):=by
 ext bu;simp_all
def kH {fr:Bool}(v:KO 0 ds=V) (j:ds.length=k) (u:f (bP n ds++[])=U (.ret r fr O)) (g:lb 0 r=V):zA n k f ds=U (r,fr):=by
 ext zA;rw[n_ v];ext kB;rw[n_ j,u];unfold eV pF;left;split<;>simp[g]
end
def o8 (l:Z Ja):lb 0 (.lst (l.map ai))=V:=by
 show d8 λr _=>r9 8 _ _ (nM r)
def DS.congr {α:Type}[DecidableEq α] {k:KK α}{us:Z α}{j:α->Nat}{x y:α->D}(H:DS k L J g us j x) (e:∀a∈us,x a=y a):DS k L J g us j y:=
 ⟨H.nd,H.len,H.at0,λa u=>by rw[<-e a u];show H.at' a u,H.ij⟩
def Jy (l:Z Ja) (q:Ja) (t p:Nat) (c:Ce):Nat:=JV l p c ||| (if p<t/\q.2[p]?=U c then 2 ^ l.length else 0)
nonrec theorem DZ:Jy l q q.2.length p c=JV (l++[q]) p c:=wM λk=>by
 ext Jy;rw[Rv,P5,jJ,jJ];ext Lw;constructor
 .rintro(h|h)
  .have:k<l.length:=by
    cases e:l[k]? with
    |none=>simp_all
    |some q=>show(L9.mp e).1
   rw[Me this];show h
  .split at h
   .rename_i z
    rw[Nat.testBit_two_pow,decide_eq_true_eq]at h;subst h;simp;show z.2
   .simp at h
 .intro h
  by_cases z:k<l.length
  .rw[Me z]at h;show .inl h
  .show .inr ?_
   let e:k=l.length:=by
    cases e:(l++[q])[k]? with
    |none=>simp_all
    |some j=>have:=(L9.mp e).1;simp at this;lia
   subst e;simp at h;rw[n_ ⟨(L9.mp h).1,h⟩];simp
def n6 (h:q.2[t]?=U d):Jy l q (t+1) p c=if p=t/\c=d then Jy l q t t d ||| 2 ^ l.length else Jy l q t p c:=by
 ext Jy
 by_cases e:p=t
 .subst e
  by_cases k:c=d
  .subst k;simp[h]
  .simp[k,h,show ¬d=c from λz=>k z.symm]
 .simp![show ¬(p=t/\c=d) from λz=>e z.1,if_false]
  congr 1
  by_cases z:p<t
  .simp[z,show p<t+1 by lia]
  .simp[z,show ¬p<t+1 by lia]
def K0 (us:Z Int) (cl:Int->Z Ce) (oth:Z Ja):D:=kI.mk us λp=>kC.mk (cl p) λc=>.int (JV oth p.toNat c:Nat)
structure Hi (oth:Z Ja) (us:Z Int) (cl:Int->Z Ce) (v:Nat->Ce->Nat) (Tx:Nat):Prop where
 ul:us.length<=Tx
 pos:∀b∈us,0<=b
 cd:∀b,(cl b).Nodup/\(cl b).length<=Tx
 no:∀(n:Nat) c,¬((n:Int)∈us/\c∈cl n)->v n c=0
def rA {oth k:Z Ja}{us:Z Int}{x3 x6 y4 y5:G (D×Bool)}(hd:q.2[t]?=U d) (I:Tx<=100) (F:k.length<=8) (S:DS kI 1 J 0 us j λp=>kC.mk (cl p) λc=>.int (Jy k q t p.toNat c:Nat)) (H:Hi oth us cl (Jy k q t) Tx):
  ∃J' m x N z,cM ([U (.lst (oth.map ai),Y),U (.loc B 0,Y),U (.int k.length,Y),x3,U (.int t,Y),U (KQ d,Y),x6]++J)=U (.next ([U (.lst (oth.map ai),Y),U (.loc B 0,Y),U (.int k.length,Y),x3,U (.int t,Y),U (KQ d,Y),z]++J'))/\DS kI 1 J' 0 m N (λp=>kC.mk (x p) λc=>.int (Jy k q (t+1) p.toNat c:Nat))/\Hi oth m x (Jy k q (t+1)) (Tx+1):=by
 let(g,r,R,C,o1):=S.sd (a:=(t:Int)) (n:=7) (by have:=H.ul;lia) (ns:=[U (.lst (oth.map ai),Y),U (.loc B 0,Y),U (.int k.length,Y),x3,U (.int t,Y),U (KQ d,Y),x6]) rfl (fa:=λO=>rY 1 O) (fk:=λO=>rY 4 O) (fe:=λO=>U (.dD [] [])) rfl rfl rfl
 let K:=C.congr (y:=λp=>kC.mk (if p∈us then cl p else[]) λc=>.int (Jy k q t p.toNat c:Nat)) λa _=>by
  by_cases z:a∈us
  .simp[z]
  .simp![o_ z];rfl
 let o:(t:Int)∈cO (t:Int) us:=aL.mpr (.inr rfl);let(a1,a2,P):=K.at' _ o;let i:∀c,c∉(if(t:Int)∈us then cl t else[])->Jy k q t t c=0:=λc W=>H.no t c λ⟨u,f⟩=>W (by rw[n_ u];show f)
 let e:(if(t:Int)∈us then cl t else[]).length<=Tx:=by split;show(H.cd _).2;show Nw _
 show⟨g.set (r t) (U (kC.mk (cO d (if(t:Int)∈us then cl t else[])) (λc=>if c=d then .int ((Jy k q t t d ||| 2 ^ k.length:Nat):Int) else .int (Jy k q t t c:Nat)),V)),cO (t:Int) us,λp=>if p=t then cO d (if(t:Int)∈us then cl t else[]) else cl p,r,U (.loc B (r t),Y),?_,?_,⟨?_,?_,λb=>⟨?_,?_⟩,λn c s=>?_⟩⟩
 .show LJ (show fB 6 (Lp 7 (λO=>rY 1 O) (λO=>rY 4 O) (λO=>U (.dD [] [])) _)=U (.next ([U (.lst (oth.map ai),Y),U (.loc B 0,Y),U (.int k.length,Y),x3,U (.int t,Y),U (KQ d,Y),U (.loc B (r t),Y)]++g)) from by rw[R];rfl) ?_
  let T:L1 7 ([U (.lst (oth.map ai),Y),U (.loc B 0,Y),U (.int k.length,Y),x3,U (.int t,Y),U (KQ d,Y),U (.loc B (r t),Y)]++g) (U (.loc B (r t)))=U (kC.mk (if(t:Int)∈us then cl t else[]) λc=>.int (Jy k q t (Int.toNat t) c:Nat)):=cY rfl a1 (kC.cn _ _)
  show(kC.putL (a:=d) (v:=.int ((Jy k q t t d ||| 2 ^ k.length:Nat):Int)) (ns:=[U (.lst (oth.map ai),Y),U (.loc B 0,Y),U (.int k.length,Y),x3,U (.int t,Y),U (KQ d,Y),U (.loc B (r t),Y)]) rfl rfl rfl (LK (kC.getI i T rfl) (Hl (a:=k.length) rfl rfl ())) a1 (ME e ())).trans ?_
  rfl
 .show(K.set o).congr λb h=>?_
  by_cases z:b=(t:Int)
  .subst z
   left;rw[n_ rfl,n_ rfl];show kC.cong _ _ _ λc _=>?_
   rw[OV,n6 hd]
   by_cases w:c=d<;>simp[w]
  .let l:=(aL.mp h).resolve_right z
   left;rw[o_ z,o_ z,n_ l];show kC.cong _ _ _ λc _=>?_
   rw[n6 hd,o_ λw=>z (by have:=H.pos b l;lia)]
 .have:=gI (a:=(t:Int)) (us:=us);have:=H.ul;lia
 .intro b h
  rcases aL.mp h with z|rfl
  .show H.pos b z
  .rfl'
 .split
  .show mW ?_
   split
   .show(H.cd _).1
   simp
  .show(H.cd b).1
 .split
  .have:=gI (a:=d) (us:=if(t:Int)∈us then cl t else[]);lia
  .have:=(H.cd b).2;lia
 .rw[n6 hd,o_ λ⟨u,f⟩=>s ⟨aL.mpr (.inr (by rw[u])),by rw[u,f,n_ rfl];show aL.mpr (.inr rfl)⟩]
  show H.no n c λ⟨u,f⟩=>s ⟨aL.mpr (.inl u),?_⟩
  by_cases z:(n:Int)=t
  .rw[n_ z];show aL.mpr (.inl ?_);rw[<-z,n_ u];show f
  .rw[o_ z];show f
def k5 {oth:Z Ja}(h:Sh oth):∃us cl,zB6 [.lst (oth.map ai)]=U (K0 us cl oth,Y)/\Hi oth us cl (JV oth) 32:=by
 let(I,e1,J,us,cl,j,m,y3,y4,y5,y6,rfl,S,H):=aF (f:=λq:Ja×Nat=>D.tup [.int q.2,ai q.1]) (body:=λd O=>ac ((aW (ah (ae 2) (ah (ae 3) (aY)))) d O) fF) (λp O=>∃J us cl j m y3 y4 y5 y6,O=[U (.lst (oth.map ai),Y),U (.loc B 0,Y),m,y3,y4,y5,y6]++J/\DS kI 1 J 0 us j (λb=>kC.mk (cl b) λc=>.int (JV (p.map (·.1)) b.toNat c:Nat))/\Hi oth us cl (JV (p.map (·.1))) (4*p.length)) (xs:=oth.zipIdx) (pre:=[]) ⟨[U (kI.mk [] λ_=>.non,V)],[],λ_=>[],λ_=>0,B,B,B,B,B,rfl,⟨Nr,Mj _,rfl,λ_ z=>(nomatch z),λ_ z=>nomatch z⟩,Mj _,(λ_ z=>nomatch z),λ_=>⟨Nr,Mj _⟩,λ_ _ _=>rfl⟩ λp q O ⟨r,hr⟩ ⟨J,us,cl,j,m,y3,y4,y5,y6,g,S,H⟩=>by
  subst g;let(M,R):=uq (by trivial)
  let(q,k):=q;subst M;let X:p.length<oth.length:=(L9.mp R).1
  let hl:=h.1;let A:=h.2 q (Mr R);let pl:(p.map (·.1)).length=p.length:=by simp
  let(F,e2,l,x,N,P,w,y,v,rfl,T,u):=aF (f:=λq:Ce×Nat=>D.tup [.int q.2,KQ q.1]) (body:=λd O=>ac ((aW (ah (ae 4) (ah (ae 5) (aY)))) d O) cM) (λt O=>∃J us cl j w y v,O=[U (.lst (oth.map ai),Y),U (.loc B 0,Y),U (.int p.length,Y),U (ai q,Y),w,y,v]++J/\DS kI 1 J 0 us j (λb=>kC.mk (cl b) λc=>.int (Jy (p.map (·.1)) q t.length b.toNat c:Nat))/\Hi oth us cl (Jy (p.map (·.1)) q t.length) (4*p.length+t.length)) (xs:=q.2.zipIdx) (pre:=[]) ⟨J,us,cl,j,y4,y5,y6,rfl,by simpa[Jy]using S,by
   have:Jy (p.map (·.1)) q 0=JV (p.map (·.1)):=by funext n c;simp[Jy]
   rw[PZ,this];show H⟩ λt c O ⟨r',E⟩ ⟨J,us,cl,j,w,y,v,g,S,H⟩=>by
   subst g;let(K,C):=uq (by trivial)
   let(c,k'):=c;subst K;let ht:=(L9.mp C).1
   let(J',s,W,Q,z,e,S',H'):=rA (x3:=U (ai q,Y)) (x6:=v) (y4:=w) (y5:=y) C () (by rw[pl];lia) S H
   rw[pl]at e;show⟨_,aA rfl e,J',s,W,Q,U (.int t.length,Y),U (KQ c,Y),z,rfl,?_,?_⟩
   .simpa using S'
   .rw[MF,NW];show H'
  rw[Np,PF]at T u;let L:Jy (p.map (·.1)) q q.2.length=JV ((p++[(q,p.length)]).map (·.1)):=by
   funext n c;rw[DZ];simp
  rw[L]at T u;show⟨_,aA (a:=[U (.lst (oth.map ai),Y),U (.loc B 0,Y),U (.int p.length,Y),U (ai q,Y),y4,y5,y6]++J) rfl (aA (a:=q.2.zipIdx.map λq=>D.tup [.int q.2,KQ q.1]) ?_ e2),l,x,N,P,_,_,w,y,v,rfl,T,?_⟩
  .show p_ U (c5 q.2 0)
  .rw[MF,NW]
   show⟨by have:=u.ul;lia,u.pos,λb=>⟨(u.cd b).1,by have:=(u.cd b).2;lia⟩,u.no⟩
 rw[Np,wA]at S H;rw[PF]at H;let(J',ef,_):=S.frz (n:=7) (i:=1) (ns:=[U (.lst (oth.map ai),Y),U (.loc B 0,Y),m,y3,y4,y5,y6]) (λa _=>kC.cn _ _) rfl rfl
 let o:lb 0 (K0 us cl oth)=V:=kI.lb _ _ _ λa _=>kC.lb _ _ _ λc _=>by rfl
 show⟨us,cl,?_,⟨by have:=H.ul;have:=h.1;lia,H.pos,λb=>⟨(H.cd b).1,by have:=(H.cd b).2;have:=h.1;lia⟩,H.no⟩⟩
 let eg:dU (bP 7 [.lst (oth.map ai)]++[])=U (.ret (K0 us cl oth) Y ([U (.lst (oth.map ai),Y),U (K0 us cl oth,Y),m,y3,y4,y5,y6]++J')):=by
  show LJ rfl (LJ (aA (p_ U (c5 oth 0)) e1) ?_)
  ext LQ;rw[ef];rfl
 show kH (by simp![L2.KO,o8,OG]) rfl eg o
structure Rw (us:Z Ce) (rwq:Ce->Z Ja) (Tx:Nat) (W:Ce->Ja->Prop):Prop where
 ul:us.length<=Tx
 rl:∀c,(rwq c).length<=Tx
 no:∀c,c∉us->rwq c=[]
 mem:∀c q,q∈rwq c↔W c q
def JD (us:Z Ce) (rwq:Ce->Z Ja):D:=kC.mk us λc=>.lst ((rwq c).map ai)
def qM {oth:Z Ja}(h:Sh oth):∃us rwq,zB0 [.lst (oth.map ai)]=U (JD us rwq,Y)/\Rw us rwq 32 λc q=>q∈oth/\c∈q.2:=by
 let(T,M,J,us,rwq,j,u,y3,rfl,S,H):=aF (f:=ai) (body:=λd O=>ac ((ae 2) d O) cX) (λp O=>∃J us rwq j u y3,O=[U (.lst (oth.map ai),Y),U (.loc B 0,Y),u,y3]++J/\DS kC 1 J 0 us j (λc=>.lst ((rwq c).map ai))/\Rw us rwq (4*p.length) λc q=>q∈p/\c∈q.2) (xs:=oth) (pre:=[]) ⟨[U (kC.mk [] λ_=>.non,V)],[],λ_=>[],λ_=>0,B,B,rfl,⟨Nr,Mj _,rfl,(λ_ z=>nomatch z),λ_ z=>nomatch z⟩,Mj _,λ_=>Mj _,λ_ _=>rfl,λ_ _=>by simp⟩ λp q O ⟨r,I⟩ ⟨J,us,rwq,j,u,y3,k,S,H⟩=>by
  subst k;let g:oth=p++q::r:=by simpa using I
  let Q:p.length<oth.length:=by rw[g];simp
  let P:=h.2 q (by simp_all)
  let E:=h.1;let(W,D,s,o,K,C,m,rfl,L,w):=aF (f:=KQ) (body:=λd O=>ac ((ae 3) d O) dt) (λt O=>∃J us rwq j m,O=[U (.lst (oth.map ai),Y),U (.loc B 0,Y),U (ai q,Y),m]++J/\DS kC 1 J 0 us j (λc=>.lst ((rwq c).map ai))/\Rw us rwq (4*p.length+t.length) λc y=>(y∈p/\c∈y.2)\/(y=q/\c∈t)) (xs:=q.2) (pre:=[]) ⟨J,us,rwq,j,y3,rfl,S,by simpa using H⟩ λt c O ⟨R,g⟩ ⟨J,us,rwq,j,m,k,S,H⟩=>by
   subst k;let ht:t.length<q.2.length:=by
    have:q.2=t++c::R:=by simpa using g
    rw[this];simp
   let(J',F,e,S',_,_):=DS.app (n:=4) (a:=c) (l:=λc=>(rwq c).map ai) S (by have:=H.ul;lia) (ns:=[U (.lst (oth.map ai),Y),U (.loc B 0,Y),U (ai q,Y),U (KQ c,Y)]) rfl (fa:=λO=>rY 1 O) (fk:=λO=>rY 3 O) (fe:=λO=>eU (U [])) (fv:=λO=>rY 2 O) (v:=ai q) rfl rfl rfl (λ_=>rfl) (λz=>by rw[H.no c z];rfl) (by have:=H.rl c;simp;lia)
   show⟨_,aA rfl e,J',cO c us,λb=>if b=c then rwq c++[q] else rwq b,F,U (KQ c,Y),rfl,S'.congr λb x=>?_,?_,λb=>?_,λb x=>?_,λb y=>?_⟩
   .by_cases z:b=c
    .simp[z]
    .simp[z,(aL.mp x).resolve_right z]
   .have:=gI (a:=c) (us:=us);have:=H.ul;simp;lia
   .have:=H.rl b;have:=H.rl c
    split<;>simp<;>lia
   .rw[o_ λz=>x (aL.mpr (.inr z)),H.no b λz=>x (aL.mpr (.inl z))]
   .by_cases z:b=c
    .subst z
     rw[n_ rfl,Mw,H.mem];grind
    .rw[o_ z,H.mem];grind
  rw[Np]at w;show⟨_,aA (a:=[U (.lst (oth.map ai),Y),U (.loc B 0,Y),U (ai q,Y),y3]++J) rfl (aA (a:=q.2.map KQ) rfl D),s,o,K,C,_,m,rfl,L,?_⟩
  rw[MF,NW];show⟨by have:=w.ul;lia,λc=>by have:=w.rl c;lia,w.no,λc y=>by rw[w.mem];grind⟩
 rw[Np]at H;let(J',X,_):=S.frz (n:=4) (i:=1) (ns:=[U (.lst (oth.map ai),Y),U (.loc B 0,Y),u,y3]) (λa _=>rfl) rfl rfl
 let N:lb 0 (JD us rwq)=V:=kC.lb _ _ _ λa _=>o8 _
 let E:=h.1;show⟨us,rwq,?_,by have:=H.ul;lia,λc=>by have:=H.rl c;lia,H.no,H.mem⟩
 let A:ci (bP 4 [.lst (oth.map ai)]++[])=U (.ret (JD us rwq) Y ([U (.lst (oth.map ai),Y),U (JD us rwq,Y),u,y3]++J')):=by
  show LJ rfl (LJ (aA rfl M) ?_)
  ext LQ;rw[X];rfl
 show kH (by simp![L2.KO,o8,OG]) rfl A N
def zj:∃d,wB (U (KQ a)) (U (KQ b))=U d/\∀c,bd (U d) (U (KQ c)) (U (KQ c))=U (KQ (sw a b c)):=by
 show⟨kC.mk (cO b (cO a [])) (λc=>if c=b then KQ a else if c=a then KQ b else .non),?_,λc=>?_⟩
 .ext wB
  left;rw[show kT (.dD [] []) (KQ a) (KQ b)=U (kC.mk (cO a []) λc=>if c=a then KQ b else .non) from kC.put [] (λ_=>.non) a (KQ b) (by simp)]
  show kC.put (cO a []) _ b (KQ a) (by have:=gI (a:=a) (us:=[]);simp at this;lia)
 .show(kC.dgetD (a:=c) rfl rfl rfl).trans (p_ U ?_)
  ext sw
  by_cases e:c=b
  .subst e
   rw[n_ (aL.mpr (.inr rfl)),n_ rfl];rfl'
  .by_cases k:c=a
   .subst k
    rw[n_ (aL.mpr (.inl (aL.mpr (.inr rfl)))),o_ e,n_ rfl,n_ rfl]
   simp[aL,e,k]
def pT (hd:∀c,bd (U d) (U (KQ c)) (U (KQ c))=U (KQ (sw a b c))) (k:r.2.length<=4):zC0 [ai r,d]=U (ai (r.1,r.2.map (sw a b)),Y):=by
 show JO rfl (rO (rT rfl ?_))
 let e:au (ac (yR (U (.tup (r.2.map KQ)))) (bS Y [Y,V,Y] (ae 2) (λO=>U V) i9 [U (ai r,Y),U (d,Y),B]))=U (.lst ((r.2.map (sw a b)).map KQ)):=by
  show jk rfl ⋯ rfl ?_ ⋯
  rw[NU];show bK λc _=>K5 (hd c)
 show(p_ m7 e).trans rfl
def wy {oth:Z Ja}(j:oth.length<=8) (k:x=U (.lst (oth.map λr=>.tup [ai r,.bl V]))):m8 x=U (kR.mk (cD [] oth) λ_=>.bl V):=DD (λ_ _=>gZ) (λr=>⟨nM r,rfl⟩) k ()
end K21
namespace K21
open PySem L2 JP
def KF (a b c d e f g:D):aP ("others":MJ) am [a,b,c,d,e,f,g]=U a/\aP ("rows_with":MJ) am [a,b,c,d,e,f,g]=U b/\aP ("holding":MJ) am [a,b,c,d,e,f,g]=U c/\aP ("spots":MJ) am [a,b,c,d,e,f,g]=U d/\aP ("first_masks":MJ) am [a,b,c,d,e,f,g]=U e/\aP ("rows_of":MJ) am [a,b,c,d,e,f,g]=U f/\aP ("weights":MJ) am [a,b,c,d,e,f,g]=U g:=by
 trivial
variable[Md]
section
variable{ns J:DEnv}{n i j:Nat}{c name:MJ}{ks:Z MJ}{vs:Z D}{x:G D}{d:D}
def K1 (g:ns.length=n) (k:x=U (.loc (U c) j)) (e:J[j]?=U (U (.ob c ks vs,V))):af n c name (ns++J) x=aP name ks vs:=by
 subst k;ext af;left;rw[CI g,e];simp
def Jd {fa:DEnv->G D}{ga:DEnv->G (D×DEnv)}{J':DEnv}{ks':Z MJ}{vs':Z D}(hn:ns.length=n) (hg:ga O=U (d,ns++J')) (hx:fa (ns++J')=U (.loc (U c) j)) (e:J'[j]?=U (U (.ob c ks vs,V))) (hk:aJ name ks=ks') (hv:cU name d ks vs=vs') (hl:ks'.length<=100):bT n c name fa ga O=U (.next (ns++J'.set j (U (.ob c ks' vs',V)))):=by
 subst hk hv;ext bT;rw[hg];left;rw[hx];left;rw[CI hn,e];left;rw[n_ ⟨rfl,rfl,hl⟩,Eu hn]
def JR {ks:Z MJ}(g:ns.length=n) (k:x=U (.loc (U c) j)) (e:J[j]?=U (U (.ob c ks vs,V))) (h:name∉ks):uT n c name (ns++J) x=U (.loc (U c) j):=by
 subst k;ext uT;left;rw[CI g,e];left;rw[n_ ⟨rfl,rfl,h⟩]
end
structure Sx where
 S:Sd
 us:Z Int
 cl:Int->Z Ce
 uw:Z Ce
 rwq:Ce->Z Ja
 ns:Z Int
 rof:Int->Z Nat
 j:Int->Nat
 base:DEnv
def Bu (one:Z Ja):D:=.lst (one.map λr=>.lst ((IU r).map JY))
def Et (S:Sd):D:=.lst (S.one.map λr=>.int (Kw S.oth r:Nat))
def vB (oth:Z Ja):D:=kR.mk (cD [] oth) λ_=>.bl V
def L3 (S:Sd) (us:Z Int) (cl:Int->Z Ce) (uw:Z Ce) (rwq:Ce->Z Ja) (k:Nat):D:=.ob "Search" am [vB S.oth,JD uw rwq,K0 us cl S.oth,Bu S.one,Et S,.loc B 1,.loc B k]
def yT (rof:Int->Z Nat) (n:Int):D:=.lst ((rof n).map λr:Nat=>.int r)
structure Ro (us:Z Int) (rof:Int->Z Nat) (Tx:Nat) (W:Int->Nat->Prop):Prop where
 ul:us.length<=Tx
 rl:∀n,(rof n).length<=Tx
 nd:∀n,(rof n).Nodup
 no:∀n,n∉us↔rof n=[]
 mem:∀n r,r∈rof n↔W n r
structure Hs (X:Sx):Prop where
 one:Sh X.S.one
 oth:Sh X.S.oth
 hi:Hi X.S.oth X.us X.cl (JV X.S.oth) 32
 rwq:Rw X.uw X.rwq 32 λc q=>q∈X.S.oth/\c∈q.2
 ro:Ro X.ns X.rof 32 λn r=>∃p,X.S.spot r p n
 b0:X.base[0]?=U (U (L3 X.S X.us X.cl X.uw X.rwq X.base.length,V))
 b1:DS kI 2 X.base 1 X.ns X.j (yT X.rof)
structure Hst (X:Sx) (J:DEnv) (w:Int->Int):Prop where
 old:∀i,i<X.base.length->J[i]?=X.base[i]?
 w:J[X.base.length]?=U (U (kI.mk X.ns λn=>.int (w n),V))
def lX:(IU r).length<=r.2.length:=by
 ext IU;rw[Ms];have:=MS (BU r) (MW r.2.length);simpa using this
def bM {S:Sd}(h:S.one[r]?=U x):S.spot r p n↔(p,n)∈IU x:=by
 rw[Da];constructor
 .rintro⟨j,e,k⟩;rfl'
 .show λk=>⟨x,h,k⟩
def nZ {S:Sd}(h:S.spot r p n) (g:S.spot r j n):p=j:=by
 let(x,y,t,q):=h;let(z,k,v,u):=g;rw[y]at k;ext k
 rcases RW p j with w|w|w
 .simp_all
 .show w
 .simp_all
def yH:(IU r).Nodup:=by
 show PW _ (λa b h e=>h (Prod.ext_iff.mp e).1) (j_.filter _)
def FQ {ε:DEnv}{i:Nat}(h:i<ε.length):rY i (ε.set i (U (d,Y)))=U d:=by
 unfold rY rd;rw[Mz h];rfl
def GD (h:x=U (ai r)) (k:r.2.length<=100):Km (ac (aa x (U [])) zB4)=U (.lst ((IU r).map JY)):=by
 subst h;rw[show aa (U (ai r)) (U [])=U [ai r] from rfl,bindO_s,mB r k];rfl
def vH {oth:Z Ja}(g:Sh one) (k:6<ε.length):dz (dk (ae 6) (λO=>U V) gN ε) (one.map ai)=U (one.map λr=>.lst ((IU r).map JY)):=by
 show bK λr j=>?_
 show K5 (i:=6) (GD (FQ k) (by have:=g.2 r j;lia)) (PV.mpr k)
def ya {S:Sd}{a1 a2 y4 y6 y7 y8:G (D×Bool)}{us:Z Int}{J:DEnv}{Tx:Nat}(m:S.one[k]?=U x) (C:Tx<=100) (s:IU x=t++q::w) (K:J[0]?=U (U (.ob "Search" ["others","rows_with","holding","spots","first_masks","rows_of"] ob,V))) (f:aP ("rows_of":MJ) ["others","rows_with","holding","spots","first_masks","rows_of"] ob=U (.loc B 1)) (W:DS kI 2 J 1 us j (yT rof)) (R:Ro us rof Tx λn r=>(r<k/\∃p,S.spot r p n)\/(r=k/\∃p,(p,n)∈t)):
  ∃J' y g c,c0 ([U (.loc (U "Search") 0,Y),a1,a2,U (.int k,Y),y4,U (JY q,Y),y6,y7,y8]++J)=U (.next ([U (.loc (U "Search") 0,Y),a1,a2,U (.int k,Y),y4,U (JY q,Y),y6,y7,y8]++J'))/\J'[0]?=J[0]?/\DS kI 2 J' 1 y c (yT g)/\Ro y g (Tx+1) λn r=>(r<k/\∃p,S.spot r p n)\/(r=k/\∃p,(p,n)∈t++[q]):=by
 let(p,n):=q;let u:S.spot k p n:=(bM m).mpr (by rw[s];simp)
 let o:k∉rof n:=λz=>by
  rcases(R.mem n k).mp z with z|⟨_,h,z⟩
  .rfl'
  .let d:S.spot k h n:=(bM m).mpr (by simp_all)
   have:=nZ d u;subst this;let nd:=yH (r:=x)
   grind
 let(J',c,e,N,o1,_):=DS.app (k:=kI) (n:=9) (a:=n) (l:=λn=>(rof n).map λr:Nat=>D.int r) W (by have:=R.ul;lia) (ns:=[U (.loc (U "Search") 0,Y),a1,a2,U (.int k,Y),y4,U (JY (p,n),Y),y6,y7,y8]) rfl (fa:=λO=>af 9 "Search" "rows_of" O (rY 0 O)) (fk:=λO=>Lm (rY 5 O) (U (.int 1))) (fe:=λO=>eU (U [])) (fv:=λO=>rY 3 O) (v:=.int k) ((K1 rfl rfl K).trans f) rfl rfl (λ_=>rfl) (λz=>by rw[(R.no n).mp z];rfl) (by have:=R.rl n;simp;lia)
 show⟨J',cO n us,λb=>if b=n then rof n++[k] else rof b,c,e,o1 0 ⟨⟩ (),N.congr λb i=>?_,?_,λb=>?_,λb=>?_,λb=>?_,λb r=>?_⟩
 .ext yT
  by_cases z:b=n
  .simp[z]
  .simp[z,(aL.mp i).resolve_right z]
 .have:=gI (a:=n) (us:=us);have:=R.ul;lia
 .have:=R.rl b;have:=R.rl n
  split<;>simp<;>rfl'
 .split
  .rw[NQ]
   show⟨R.nd n,by simp,λa T b i e=>o (by simp_all)⟩
  .show R.nd b
 .rw[aL,not_or,R.no b]
  by_cases z:b=n
  .simp[z]
  .simp[z]
 .by_cases z:b=n
  .subst z
   rw[n_ rfl,Mw,R.mem];grind
  .rw[o_ z,R.mem];grind
end K21
namespace K21
open PySem L2 JP
variable[Md]
def e9 (h:f O=U d):br f O=U (d,O):=by ext br;rw[h]
def sH {β:Type}{f:Z D->G β}{r:G β}(h:x=U d) (e:f [d]=r):ac (aa x (U [])) f=r:=by subst h;show e
def jV {β:Type}{f:Z D->G β}{r:G β}(h:x=U d) (j:y=U e) (k:f [d,e]=r):ac (aa x (aa y (U []))) f=r:=by subst h j;show k
def DS.mono {g:Type}[DecidableEq g] {k:KK g}{us:Z g}{j:g->Nat}{x:g->D}{J J':DEnv}(H:DS k L J u us j x) (z:L<=J'.length) (e:∀i,i<J.length->(i=u\/L<=i)->J'[i]?=J[i]?):DS k L J' u us j x:=by
 show⟨H.nd,z,?_,λa q=>?_,H.ij⟩
 .rw[e u (L9.mp H.at0).1 (.inl rfl)];show H.at0
 .let(y,p,v):=H.at' a q
  show⟨by rw[e _ (L9.mp y).1 (.inr v)];show y,p,v⟩
abbrev oS (ks:Z MJ) (vs:Z D):G (D×Bool):=U (.ob "Search" ks vs,V)
def Ro.start (S:Sd):Ro [] (λ_=>[]) 0 λn r=>(r<0/\∃p,S.spot r p n)\/(r=0/\∃p,(p,n)∈([]:Z (Nat×Int))):=
 ⟨Mj _,λ_=>Mj _,λ_=>Nr,λ_=>by simp,λ_ _=>by simp⟩
def Ro.next {S:Sd}{us:Z Int}(hx:S.one[k]?=U x) (h:Ro us rof Tx λn r=>(r<k/\∃p,S.spot r p n)\/(r=k/\∃p,(p,n)∈IU x)):Ro us rof Tx λn r=>(r<k+1/\∃p,S.spot r p n)\/(r=k+1/\∃p,(p,n)∈([]:Z (Nat×Int))):=
 ⟨h.ul,h.rl,h.nd,h.no,λn r=>by
  rw[h.mem];simp![Nt,exists_false,and_false,or_false];constructor
  .rintro(⟨h1,h2⟩|⟨rfl,p,h2⟩)
   .show⟨(),h2⟩
   .show⟨⟨⟩,p,(bM hx).mpr h2⟩
  .rintro⟨h1,p,h2⟩
   by_cases z:r<k
   .show .inl ⟨z,p,h2⟩
   .obtain rfl:r=k:=()
    show .inr ⟨rfl,p,(bM hx).mp h2⟩⟩
def wu {ds:Z D}{J J' ns:DEnv}(j:ds.length=k) (g:ns.length=n) (h:f (bP n ds++J)=U (.next (ns++J'))) (u:JL J.length J J'=Y):kB n k f ds J=U (.non,Y,J'):=by
 ext kB;rw[n_ j,h];unfold eV pF
 simp_all
def mQ {S:Sd}(h1:Sh S.one) (h2:Sh S.oth):∃(X:Sx) (J':DEnv),X.S=S/\Hs X/\bW [.loc (U "Search") 0,.lst (S.one.map ai),.lst (S.oth.map ai)] [oS [] []]=U (.non,Y,J')/\Hst X J' (λn=>((X.rof n).length:Nat))/\J'.length=X.base.length+1:=by
 let(us,cl,eh,H):=k5 h2;let(uw,rw',er,W):=qM h2;let l1:=h1.1;let l2:=h2.1
 letI N (a b c d e f:G (D×Bool)):DEnv:=[U (.loc (U "Search") 0,Y),U (.lst (S.one.map ai),Y),U (.lst (S.oth.map ai),Y),a,b,c,d,e,f]
 letI vs5:Z D:=[vB S.oth,JD uw rw',K0 us cl S.oth,Bu S.one,Et S]
 letI ob6:Z D:=vs5++[.loc B 1]
 letI ks6:Z MJ:=["others","rows_with","holding","spots","first_masks","rows_of"]
 let(δ1,e1,J,us',rof,j,y3,y4,y5,rfl,g0,D1,R):=aF (f:=λq:Ja×Nat=>D.tup [.int q.2,.lst ((IU q.1).map JY)]) (body:=λd O=>ac ((aW (ah (ae 3) (ah (ae 4) (aY)))) d O) gT) (λp O=>∃J us' rof j y3 y4 y5,O=N y3 y4 y5 B B B++J/\J[0]?=U (oS ks6 ob6)/\DS kI 2 J 1 us' j (yT rof)/\Ro us' rof (4*p.length) λn r=>(r<p.length/\∃p,S.spot r p n)\/(r=p.length/\∃p,(p,n)∈([]:Z (Nat×Int)))) (xs:=S.one.zipIdx) (pre:=[]) (O:=N B B B B B B++[oS ks6 ob6,U (.dK [] [],V)]) ⟨_,[],λ_=>[],λ_=>0,B,B,B,rfl,rfl,⟨Nr,Mj _,rfl,(λ_ z=>nomatch z),λ_ z=>nomatch z⟩,Ro.start S⟩ λp q O ⟨r,hr⟩ ⟨J,us',rof,j,y3,y4,y5,hδ,g0,D1,R⟩=>by
  subst hδ;let(hk,hq):=uq (by simpa using hr)
  let(x,k):=q;dsimp only at hk hq;subst hk;let hpl:p.length<S.one.length:=(L9.mp hq).1
  let hx4:(IU x).length<=4:=ME lX (h1.2 x (Mr hq));let(δ2,e2,σ2,us2,rof2,j2,z5,rfl,g2,D2,R2):=aF (f:=JY) (body:=λd O=>ac ((ae 5) d O) c0) (λt O=>∃J us' rof j z5,O=N (U (.int p.length,Y)) (U (.lst ((IU x).map JY),Y)) z5 B B B++J/\J[0]?=U (oS ks6 ob6)/\DS kI 2 J 1 us' j (yT rof)/\Ro us' rof (4*p.length+t.length) λn r=>(r<p.length/\∃p,S.spot r p n)\/(r=p.length/\∃p,(p,n)∈t)) (xs:=IU x) (pre:=[]) (O:=N (U (.int p.length,Y)) (U (.lst ((IU x).map JY),Y)) y5 B B B++J) ⟨_,_,_,_,_,rfl,g0,D1,by simpa using R⟩ λt q O ⟨r',hr'⟩ ⟨J,us',rof,j,z5,hδ,g0,D1,R⟩=>by
   subst hδ;let ht:IU x=t++q::r':=by simpa using hr'
   let htl:t.length<(IU x).length:=by rw[ht];simp
   let(J',us3,rof3,j3,e,o,D3,R3):=ya (a1:=U (.lst (S.one.map ai),Y)) (a2:=U (.lst (S.oth.map ai),Y)) (y4:=U (.lst ((IU x).map JY),Y)) (y6:=B) (y7:=B) (y8:=B) hq () ht g0 (by kernel_rfl) D1 R
   show⟨_,aA (a:=N (U (.int p.length,Y)) (U (.lst ((IU x).map JY),Y)) (U (JY q,Y)) B B B++J) rfl e,J',us3,rof3,j3,_,rfl,by rw[o];show g0,D3,by rw[MF,NW];show R3⟩
  rw[Np]at R2;show⟨_,aA (a:=N (U (.int p.length,Y)) (U (.lst ((IU x).map JY),Y)) y5 B B B++J) rfl (aA (a:=(IU x).map JY) rfl e2),σ2,us2,rof2,j2,_,_,z5,rfl,g2,D2,?_⟩
  have:=Ro.next hq R2;rw[MF,NW];show⟨by have:=this.ul;lia,λn=>by have:=this.rl n;lia,this.nd,this.no,this.mem⟩
 rw[Np,PF]at R;let lσ:2<=J.length:=D1.len
 letI wD:D:=kI.mk us' λn=>.int ((rof n).length:Nat)
 letI base:=J.set 0 (U (L3 S us cl uw rw' J.length,V))
 show⟨⟨S,us,cl,uw,rw',us',rof,j,base⟩,(J++[U (wD,V)]).set 0 (U (L3 S us cl uw rw' J.length,V)),rfl,⟨h1,h2,H,W,⟨ME R.ul (),λn=>ME (R.rl n) (),R.nd,R.no,λn r=>?_⟩,?_,D1.mono (by simp[base];rfl') λi hi z=>?_⟩,?_,⟨λi hi=>?_,?_⟩,by simp[base]⟩
 .rw[R.mem]
  simp![Nt,exists_false,and_false,or_false];show⟨λz=>z.2,λ⟨p,z⟩=>⟨iK z,p,z⟩⟩
 .change base[0]?=_
  unfold base;rw[Mz ()];simp
 .change(J.set 0 _)[i]?=_
  rw[Mh ()]
 .let hw:(J++[U (wD,V)]).set 0 (U (L3 S us cl uw rw' J.length,V))=(J++[U (wD,V)]).set 0 (oS am (ob6++[.loc B J.length])):=rfl
  show wu (ns:=N y3 y4 y5 B B B) rfl rfl (show eY (N B B B B B B++[oS [] []])=_ from ?_) ?_
  .show LJ (Jd (ns:=N B B B B B B) (J':=[oS [] []]) (d:=vB S.oth) rfl (e9 (wy l2 ?_)) rfl rfl (ks':=["others"]) (vs':=[vB S.oth]) (by kernel_rfl) (by kernel_rfl) ∅) ?_
   .show jk (ε:=[B,B,B,B,B,B,B,B,B]++[oS [] []]) rfl ⋯ rfl ?_ ⋯
    show bK λr _=>K5 (rT rfl rfl)
   show LJ (Jd (ns:=N B B B B B B) (J':=[oS ["others"] [vB S.oth]]) (d:=JD uw rw') rfl (e9 (Jf (sH rfl er))) rfl rfl (ks':=["others","rows_with"]) (vs':=[vB S.oth,JD uw rw']) (by kernel_rfl) (by kernel_rfl) ∅) ?_
   show LJ (Jd (ns:=N B B B B B B) (J':=[oS ["others","rows_with"] [vB S.oth,JD uw rw']]) (d:=K0 us cl S.oth) rfl (e9 (Jf (sH rfl eh))) rfl rfl (ks':=["others","rows_with","holding"]) (vs':=[vB S.oth,JD uw rw',K0 us cl S.oth]) (by kernel_rfl) (by kernel_rfl) ∅) ?_
   show LJ (Jd (ns:=N B B B B B B) (J':=[oS ["others","rows_with","holding"] [vB S.oth,JD uw rw',K0 us cl S.oth]]) (d:=Bu S.one) rfl (e9 ?_) rfl rfl (ks':=["others","rows_with","holding","spots"]) (vs':=[vB S.oth,JD uw rw',K0 us cl S.oth,Bu S.one]) (by kernel_rfl) (by kernel_rfl) ∅) ?_
   .show jk (ε:=[B,B,B,B,B,B,B,B,B]++[oS ["others","rows_with","holding"] [vB S.oth,JD uw rw',K0 us cl S.oth]]) rfl ⋯ rfl (vH (oth:=S.oth) h1 (by simp)) ⋯
   show LJ (Jd (ns:=N B B B B B B) (J':=[oS ["others","rows_with","holding","spots"] [vB S.oth,JD uw rw',K0 us cl S.oth,Bu S.one]]) (d:=Et S) rfl (e9 (LX (jV rfl rfl (mJ h1 h2)))) rfl rfl (ks':=["others","rows_with","holding","spots","first_masks"]) (vs':=vs5) (by kernel_rfl) (by kernel_rfl) ∅) ?_
   show LJ (Jd (ns:=N B B B B B B) (J':=[oS ["others","rows_with","holding","spots","first_masks"] vs5,U (.dK [] [],V)]) (d:=.loc B 1) rfl rfl rfl rfl (ks':=ks6) (vs':=ob6) (by kernel_rfl) (by kernel_rfl) ∅) ?_
   show LJ (aA (a:=S.one.zipIdx.map λq=>D.tup [.int q.2,.lst ((IU q.1).map JY)]) ?_ e1) ?_
   .show SW (p_ oU (K1 rfl rfl rfl)) ?_
    show SW (p_ oU (?_:_=U (Bu S.one))) (p_ U (c5 (f:=λr=>.lst ((IU r).map JY)) S.one 0))
    kernel_rfl
   .show(Jd (ns:=N y3 y4 y5 B B B) (J':=J++[U (wD,V)]) (d:=.loc B J.length) rfl (lW rfl ?_) rfl (by rw[Me ()];show g0) (ks':=am) (vs':=ob6++[.loc B J.length]) (by kernel_rfl) (by kernel_rfl) ∅).trans (by rw[hw])
    let ea:af 9 "Search" "rows_of" (N y3 y4 y5 B B B++J) (U (.loc (U "Search") 0))=U (.loc B 1):=(K1 rfl rfl g0).trans (by kernel_rfl)
    let ed:Jr 9 (N y3 y4 y5 B B B++J) (af 9 "Search" "rows_of" (N y3 y4 y5 B B B++J) (U (.loc (U "Search") 0)))=U (kI.mk us' λn=>.loc B (j n)):=by rw[ea];show gF rfl D1.at0 (kI.cn _ _)
    let ul:=R.ul;show(sT (xs:=us') (h:=λn=>.int ((rof n).length:Nat)) (jk (ε:=[B,B,B,B,B,B,B,B,B]++J) (kI.pairs ed) ⋯ rfl (bK λn hn=>?_) ⋯) ()).trans ?_
    .let e8:L1 9 ([B,B,B,B,B,B,B,U (.int n,Y),U (.loc B (j n),Y)]++J) (U (.loc B (j n)))=U (yT rof n):=cY rfl (D1.at' n hn).1 rfl
     change ac (U ([B,B,B,B,B,B,B,U (.int n,Y),U (.loc B (j n),Y)]++J)) (λδ'=>match U V with|some V=>(match fY δ' with|some y=>U (U y)|none=>B)|some Y=>U B|none=>B)=_
     rw[bindO_s];change(match fS (aa (U (.int n)) (aa (cS (L1 9 ([B,B,B,B,B,B,B,U (.int n,Y),U (.loc B (j n),Y)]++J) (U (.loc B (j n))))) (U [])))with|some y=>U (U y)|none=>B)=_
     rw[e8,show cS (U (yT rof n))=U (.int ((rof n).length:Nat)) from by unfold yT cS;simp[ac,eA]]
     rfl
    .have:cD [] us'=us':=by rw[l6 (by simpa using D1.nd)];rfl
     rw[this]
  .cases J with
   |nil=>simp at lσ
   |cons s0 J=>simp[JL,L3,lbE,L2.lb,L2.KO]
 .change((J++[_]).set 0 _)[i]?=(J.set 0 _)[i]?
  let hi':i<J.length:=by simpa[base]using hi
  rw[To _ _ (),Me (by simpa using hi')]
 .change((J++[_]).set 0 _)[base.length]?=_
  have:base.length=J.length:=by simp[base]
  rw[this,Mh ()];simp
  rfl
end K21
namespace K21
open PySem L2 JP
def K4 (a b:D):aP ("domains":MJ) aZ [a,b]=U a/\aP ("masks":MJ) aZ [a,b]=U b:=by
 trivial
variable[Md]
section
variable{X:Sx}{J J':DEnv}{w:Int->Int}{ns:DEnv}{n Z7 a b:Nat}{P P':Pt}{x:G D}{d:D}
def Hst.off (h:Hst X J w) (e:∀i,i<=X.base.length->J'[i]?=J[i]?):Hst X J' w:=
 ⟨λi hi=>by rw[e i (OD hi)];show h.old i hi,by rw[e _ (Mj _)];show h.w⟩
def Hs.lt (H:Hs X):2<=X.base.length:=H.b1.len
def Hst.at0 (h:Hst X J w) (H:Hs X):J[0]?=U (U (L3 X.S X.us X.cl X.uw X.rwq X.base.length,V)):=by rw[h.old 0 (by have:=H.lt;lia)];show H.b0
def Hst.sp (h:Hst X J w) (H:Hs X) (hn:ns.length=n) (hx:x=U (.loc (U "Search") 0)):af n "Search" "spots" (ns++J) x=U (Bu X.S.one):=(K1 hn hx (h.at0 H)).trans (KF ..).2.2.2.1
def Hst.ho (h:Hst X J w) (H:Hs X) (hn:ns.length=n) (hx:x=U (.loc (U "Search") 0)):af n "Search" "holding" (ns++J) x=U (K0 X.us X.cl X.S.oth):=(K1 hn hx (h.at0 H)).trans (KF ..).2.2.1
def Hst.fm (h:Hst X J w) (H:Hs X) (hn:ns.length=n) (hx:x=U (.loc (U "Search") 0)):af n "Search" "first_masks" (ns++J) x=U (Et X.S):=(K1 hn hx (h.at0 H)).trans (KF ..).2.2.2.2.1
def Hst.ot (h:Hst X J w) (H:Hs X) (hn:ns.length=n) (hx:x=U (.loc (U "Search") 0)):af n "Search" "others" (ns++J) x=U (vB X.S.oth):=(K1 hn hx (h.at0 H)).trans (KF ..).1
def Hst.rwq (h:Hst X J w) (H:Hs X) (hn:ns.length=n) (hx:x=U (.loc (U "Search") 0)):af n "Search" "rows_with" (ns++J) x=U (JD X.uw X.rwq):=(K1 hn hx (h.at0 H)).trans (KF ..).2.1
def Hst.ro (h:Hst X J w) (H:Hs X) (hn:ns.length=n) (hx:x=U (.loc (U "Search") 0)):af n "Search" "rows_of" (ns++J) x=U (.loc B 1):=(K1 hn hx (h.at0 H)).trans (KF ..).2.2.2.2.2.1
def Hst.we (h:Hst X J w) (H:Hs X) (hn:ns.length=n) (hx:x=U (.loc (U "Search") 0)):af n "Search" "weights" (ns++J) x=U (.loc B X.base.length):=(K1 hn hx (h.at0 H)).trans (KF ..).2.2.2.2.2.2
def Hst.ros (h:Hst X J w) (H:Hs X) (hn:ns.length=n) (hx:x=U (.loc (U "Search") 0)) {m:Int}{y:G D}(hy:y=U (.int m)) (hm:m∈X.ns):xr n (ns++J) (h8 n (ns++J) (af n "Search" "rows_of" (ns++J) x) y)=U ((X.rof m).map λr:Nat=>.int r):=by
 let D1:DS kI 2 J 1 X.ns X.j (yT X.rof):=by
  let lt:=H.lt;let hl:X.base.length<J.length:=(L9.mp h.w).1
  show H.b1.mono () λi hi _=>h.old i hi
 let e1:h8 n (ns++J) (af n "Search" "rows_of" (ns++J) x) y=U (.loc B (X.j m)):=by
  ext h8;rw[h.ro H hn hx,gF hn D1.at0 (kI.cn _ _)];show kI.dix rfl hy hm
 ext xr;rw[e1,gF hn (D1.at' m hm).1 rfl];rfl
def jT (P:Pt):D:=kI.mk P.ks λn=>.lst ((P.dom n).map KQ)
def oW (P:Pt):D:=kI.mk (P.rs.map λr:Nat=>(r:Int)) λr=>.int (P.mask r.toNat:Nat)
def Pa (J:DEnv) (d:D) (P:Pt):Prop:=∀(ns:DEnv) (n:Nat),ns.length=n->(Jr n (ns++J) (af n "Part" "domains" (ns++J) (U d))=U (jT P)/\L1 n (ns++J) (af n "Part" "domains" (ns++J) (U d))=U (jT P))/\Jr n (ns++J) (af n "Part" "masks" (ns++J) (U d))=U (oW P)
structure Pl (X:Sx) (J:DEnv) (Z7 a b:Nat) (P:Pt):Prop where
 o:J[Z7]?=U (U (.ob "Part" aZ [.loc B a,.loc B b],V))
 sa:J[a]?=U (U (jT P,V))
 sb:J[b]?=U (U (oW P,V))
 lt:X.base.length<Z7/\X.base.length<a/\X.base.length<b
 ne:a≠b/\a≠Z7/\b≠Z7
def Pl.da (h:Pl X J Z7 a b P) (hn:ns.length=n) (hx:x=U (.loc (U "Part") Z7)):af n "Part" "domains" (ns++J) x=U (.loc B a):=(K1 hn hx h.o).trans (K4 ..).1
def Pl.mb (h:Pl X J Z7 a b P) (hn:ns.length=n) (hx:x=U (.loc (U "Part") Z7)):af n "Part" "masks" (ns++J) x=U (.loc B b):=(K1 hn hx h.o).trans (K4 ..).2
def Pl.pa (h:Pl X J Z7 a b P):Pa J (.loc (U "Part") Z7) P:=λns n hn=>by
 rw[h.da hn rfl,h.mb hn rfl];show⟨⟨gF hn h.sa (kI.cn _ _),cY hn h.sa (kI.cn _ _)⟩,gF hn h.sb (kI.cn _ _)⟩
def Pa.plain (P:Pt):Pa J (.ob "Part" aZ [jT P,oW P]) P:=λns n hn=>by
 trivial
def Pa.dom (h:Pa J d P) (hn:ns.length=n) (hx:x=U d) {y:G D}{m:Int}(hy:y=U (.int m)) (hm:m∈P.ks):h8 n (ns++J) (af n "Part" "domains" (ns++J) x) y=U (.lst ((P.dom m).map KQ)):=by
 subst hx;ext h8;rw[(h ns n hn).1.1];show kI.dix rfl hy hm
def Pa.msk (h:Pa J d P) (hn:ns.length=n) (hx:x=U d) {y:G D}{r:Nat}(hy:y=U (.int r)) (hr:r∈P.rs):h8 n (ns++J) (af n "Part" "masks" (ns++J) x) y=U (.int (P.mask r:Nat)):=by
 subst hx;ext h8;rw[(h ns n hn).2];show(kI.dix rfl hy (No hr)).trans (by simp)
def Pa.din (h:Pa J d P) (hn:ns.length=n) (hx:x=U d) {y:G D}{m:Int}(hy:y=U (.int m)):pw y (L1 n (ns++J) (af n "Part" "domains" (ns++J) x))=U (decide (m∈P.ks)):=by
 subst hx;rw[(h ns n hn).1.2];show kI.din rfl hy
def Pl.setD (h:Pl X J Z7 a b P) {P':Pt}(e:oW P'=oW P):Pl X (J.set a (U (jT P',V))) Z7 a b P':=by
 let ha:=(L9.mp h.sa).1
 show⟨?_,Mz ha,?_,h.lt,h.ne⟩
 .rw[Mh h.ne.2.1];show h.o
 .rw[Mh h.ne.1,e];show h.sb
def Pl.setM (h:Pl X J Z7 a b P) {P':Pt}(e:jT P'=jT P):Pl X (J.set b (U (oW P',V))) Z7 a b P':=by
 let hb:=(L9.mp h.sb).1
 show⟨?_,?_,Mz hb,h.lt,h.ne⟩
 .rw[Mh h.ne.2.2];show h.o
 .rw[Mh (λz=>h.ne.1 z.symm),e];show h.sa
def Pl.off (h:Pl X J Z7 a b P) (e:∀i,i=Z7\/i=a\/i=b->J'[i]?=J[i]?):Pl X J' Z7 a b P:=
 ⟨by rw[e Z7 (.inl rfl)];show h.o,by rw[e a (.inr (.inl rfl))];show h.sa,by rw[e b (.inr (.inr rfl))];show h.sb,h.lt,h.ne⟩
def bh {np:Nat}{f:DEnv->G Out}{ds:Z D}(hl:ds.length=np):kB n np f ds J=eV n J (f (bP n ds++J)):=n_ hl
def kF {τ:DEnv}{fr:Bool}(hn:ns.length=n) (hc:τ.length=J.length):eV n J (U (.ret d fr (ns++τ)))=U (d,fr,τ):=by
 unfold eV pF;left;rw[sN hn];split
 .rw[<-hc,QN]
 .rfl
def sV {τ:DEnv}(hn:ns.length=n) (hc:τ.length=J.length):eV n J (U (.next (ns++τ)))=U (.non,Y,τ):=by
 unfold eV pF;left;rw[sN hn];split
 .rw[<-hc,QN]
 .rfl
def IX {τ:D->DEnv->G DEnv}{ft:DEnv->G Bool}{fe:DEnv->G D}{ε ε':DEnv}{y:D}{c:Bool}(h1:τ d ε=U ε') (h2:ft ε'=U c) (h3:c=V->fe ε'=U y):dk τ ft fe ε d=U (if c=V then U y else B):=by
 ext dk;rw[h1,bindO_s,h2];cases c with
 |true=>rw[h3 rfl];rfl
 |false=>rfl
def J5 (X:Sx) (p:Nat):D:=kC.mk (X.cl (p:Int)) λc=>.int (JV X.S.oth p c:Nat)
def Hs.us (H:Hs X) {k p:Nat}{c:Ce}(h:X.S.at k p=U c):(p:Int)∈X.us/\c∈X.cl p:=by
 apply Nx;intro z;let h0:=H.hi.no p c z;have:=jJ.mpr h
 simp_all
def Cb {p:Nat}{y:G D}(hx:x=U (K0 X.us X.cl X.S.oth)) (hy:y=U (.int p)) (hp:(p:Int)∈X.us):ix x y=U (J5 X p):=(kI.dix hx hy hp).trans (by rfl)
def tX (H:Hs X) {p:Nat}{y:G D}{c:Ce}(hx:x=U (J5 X p)) (hy:y=U (KQ c)) (hp:(p:Int)∈X.us):bd x y (U (.int 0))=U (.int (JV X.S.oth p c:Nat)):=kC.getI (v:=JV X.S.oth p) (λb hb=>H.hi.no p b λz=>hb z.2) hx hy
end
end K21
namespace K21
open PySem L2 JP
variable[Md]
def B5 (oth:Z Ja) (sp:Z (Nat×Int)) (m:Nat) (n:Int) (c:Ce):Bool:=sp.all λq=>decide (q.2≠n)||decide (JV oth q.1 c&&& m≠0)
def eJ (S:Sd) (P:Pt) (sp:Z (Nat×Int)) (r m:Nat):Pt:=⟨P.ks,λn=>(P.dom n).filter (B5 S.oth sp m n),P.rs,λq=>if q=r then m else P.mask q⟩
def nX (S:Sd) (P:Pt) (sp:Z (Nat×Int)) (r:Nat):Nat:=sp.foldl (λm q=>m&&& Bc (JV S.oth q.1) (P.dom q.2)) (P.mask r)
theorem uo {β:Type}{f:β->Nat}{k:Nat}:∀{ms:Z β}{z:Nat},(ms.foldl (λz m=>z&&& f m) z).testBit k=V↔z.testBit k=V/\∀m∈ms,(f m).testBit k=V
 |[],z=>by simp
 |a::ms,z=>by rw[O9,uo,SB,Mo];simp[and_assoc]
def zg {S:Sd}{P:Pt}{sp:Z (Nat×Int)}{r k:Nat}:(nX S P sp r).testBit k=V↔(P.mask r).testBit k=V/\∀q∈sp,∃c∈P.dom q.2,S.at k q.1=U c:=by
 ext nX;rw[uo];show and_congr QD (forall_congr' λq=>forall_congr' λj=>?_)
 ext Bc;rw[wk];simp![Nat.zero_testBit,MZ,false_or,jJ,zR]
def Kb (P:Pt) (x:Ja):Z (Nat×Int):=(IU x).filter λq=>decide (q.2∈P.ks)
def dW {S:Sd}{P:Pt}{x:Ja}{r p:Nat}{n:Int}(k:S.one[r]?=U x):(p,n)∈Kb P x↔S.spot r p n/\n∈P.ks:=by
 ext Kb;rw[Nk,bM k];simp
def B3 {S:Sd}{P:Pt}{x:Ja}{r:Nat}(j:S.one[r]?=U x):Rev S P (eJ S P (Kb P x) r (nX S P (Kb P x) r)) r:=by
 show⟨rfl,rfl,λk=>?_,λt h=>o_ h,λn u c=>?_⟩
 .change(if r=r then _ else _:Nat).testBit k=V↔_
  rw[n_ rfl,zg];show and_congr QD ⟨λh p n hs u=>h (p,n) ((dW j).mpr ⟨hs,u⟩),λh q g=>h q.1 q.2 ((dW j).mp g).1 ((dW j).mp g).2⟩
 .change c∈(P.dom n).filter _↔_
  rw[Nk];show and_congr QD ?_
  ext B5;rw[MH];let hs:∀p,KT S (eJ S P (Kb P x) r (nX S P (Kb P x) r)) r p c↔JV S.oth p c&&& nX S P (Kb P x) r≠0:=λp=>by
   rw[uG];change(∃k,(if r=r then nX S P (Kb P x) r else _:Nat).testBit k=V/\_)↔_
   simp![jJ,zR];show exists_congr λk=>and_comm
  constructor
  .intro h p y
   have:=h (p,n) ((dW j).mpr ⟨y,u⟩)
   simp_all
  .rintro h ⟨p,v⟩ g
   by_cases z:v=n
   .subst z
    have:=(hs p).mp (h p ((dW j).mp g).1);rfl'
   .simp[z]
structure Wf (X:Sx) (P:Pt):Prop where
 kn:P.ks.Nodup
 kx:∀n∈P.ks,n∈X.ns
 rn:P.rs.Nodup
 rx:∀r∈P.rs,r<X.S.one.length
 dn:∀n∈P.ks,(P.dom n).Nodup
 dl:∀n∈P.ks,(P.dom n).length<=8
 rr:∀n∈P.ks,∀r p,X.S.spot r p n->r∈P.rs
def Wf.cut {X:Sx}{P:Pt}{sp:Z (Nat×Int)}{r m:Nat}(h:Wf X P):Wf X (eJ X.S P sp r m):=
 ⟨h.kn,h.kx,h.rn,h.rx,λn k=>(h.dn n k).filter _,λn k=>ME (MS ..) (h.dl n k),h.rr⟩
def kY {k:Type}[DecidableEq k] {a:k}{us:Z k}(h:a∈us):cO a us=us:=n_ h
def Iq {x:G D}{a:Nat}(h:x=U (.int a)):jD x=U (decide (a≠0)):=by
 subst h;change U ((a:Int) != 0)=_;congr 1
 by_cases z:a=0
 .subst z;rfl
 .simp[z]
def IC {x y:G D}{a b:Nat}(h:x=U (.int a)) (k:y=U (.int b)):cI JJ x y=U (decide (a<b)):=by
 simp_all
def DU {k:Type}{f:k->D}{l:Z k}{x:G D}(h:x=U (.lst (l.map f))):cS x=U (.int l.length):=by simp_all
def cG {k:Type}{l m:Z k}(nd:l.Nodup) (h:∀a∈l,a∈m):l.length<=m.length:=nd.length_le_of_subset h
def vG {k:Type}{p:k->Bool}{l:Z k}(h:¬(l.filter p).length<l.length):l.filter p=l:=
 O3.mpr (List.length_filter_eq_length_iff.mp (by have:=MS p l;rfl'))
def kq {X:Sx}{r:Nat}{x:Ja}{y z:G D}(k:X.S.one[r]?=U x) (h:y=U (Bu X.S.one)) (g:z=U (.int r)):Lm y z=U (.lst ((IU x).map JY)):=by
 show LG (ds:=X.S.one.map λr=>.lst ((IU r).map JY)) h g ?_
 let(j,e):=L9.mp k
 unfold atI Jx;simp[j,e]
def yL {S:Sd}{P:Pt}{t:Z (Nat×Int)}{q:Nat×Int}{r m:Nat}{n:Int}:(eJ S P (t++[q]) r m).dom n=((eJ S P t r m).dom n).filter λc=>decide (q.2≠n)||decide (JV S.oth q.1 c&&& m≠0):=by
 change(P.dom n).filter _=((P.dom n).filter _).filter _;rw[List.filter_filter];show List.filter_congr λc _=>?_
 ext B5;rw[List.all_append];simp[Bool.and_comm]
def FF {S:Sd}{P:Pt}{t:Z (Nat×Int)}{q:Nat×Int}{r m:Nat}{n:Int}(h:n≠q.2):(eJ S P (t++[q]) r m).dom n=(eJ S P t r m).dom n:=by
 rw[yL,O3];intro c _;simp[show ¬q.2=n from λz=>h z.symm]
def zV {S:Sd}{P:Pt}{t:Z (Nat×Int)}{q:Nat×Int}{r m:Nat}:(eJ S P (t++[q]) r m).dom q.2=((eJ S P t r m).dom q.2).filter λc=>decide (JV S.oth q.1 c&&& m≠0):=by
 simp[yL]
structure Shk (P P':Pt) (sh:Z Int):Prop where
 nd:sh.Nodup
 ks:∀n∈sh,n∈P.ks
 no:∀n,n∉sh->P'.dom n=P.dom n
 lt:∀n∈sh,(P'.dom n).length<(P.dom n).length
def uM {X:Sx}{J:DEnv}{w:Int->Int}{Z7 a b r:Nat}{P:Pt}{x:Ja}(H:Hs X) (h:Hst X J w) (p:Pl X J Z7 a b P) (f:Wf X P) (hx:X.S.one[r]?=U x) (hr:r∈P.rs) (hu:∀p n,X.S.spot r p n->n∈P.ks->(p:Int)∈X.us):
  ((eJ X.S P (Kb P x) r (nX X.S P (Kb P x) r)).mask r=0/\aX [.loc (U "Search") 0,.loc (U "Part") Z7,.int r] J=U (.non,Y,J))\/
  ((eJ X.S P (Kb P x) r (nX X.S P (Kb P x) r)).mask r≠0/\∃sh J',aX [.loc (U "Search") 0,.loc (U "Part") Z7,.int r] J=U (.lst (sh.map .int),Y,J')/\Pl X J' Z7 a b (eJ X.S P (Kb P x) r (nX X.S P (Kb P x) r))/\Shk P (eJ X.S P (Kb P x) r (nX X.S P (Kb P x) r)) sh/\J'.length=J.length/\∀i,i≠a->i≠b->J'[i]?=J[i]?):=by
 let hx4:(IU x).length<=4:=ME lX (H.one.2 x (Mr hx));let hsl:(Kb P x).length<=4:=ME (MS ..) hx4;let mr:∀sp m,(eJ X.S P sp r m).mask r=m:=λ_ _=>n_ rfl
 rw[mr]
 letI N (a b c d e f g i:G (D×Bool)):DEnv:=[U (.loc (U "Search") 0,Y),U (.loc (U "Part") Z7,Y),U (.int r,Y),a,b,c,d,e,f,g,i]
 letI sq (q:Nat×Int):D:=.tup [J5 X q.1,.int q.2]
 let hin:∀q∈Kb P x,(q.1:Int)∈X.us/\q.2∈P.ks:=λq hq=>⟨hu q.1 q.2 ((dW hx).mp hq).1 ((dW hx).mp hq).2,((dW hx).mp hq).2⟩
 let e1:au (ac (aV (Lm (af 11 "Search" "spots" (N B B B B B B B B++J) (rY 0 (N B B B B B B B B++J))) (rY 2 (N B B B B B B B B++J)))) (bS Y [V,V,Y,Y,Y,Y,Y,Y,Y,Y,Y] (aW (ah (ae 9) (ah (ae 6) (aY)))) (λO=>pw (rY 6 O) (L1 11 O (af 11 "Part" "domains" O (rY 1 O)))) dL (N B B B B B B B B++J)))=U (.lst ((Kb P x).map sq)):=by
  let es:Lm (af 11 "Search" "spots" (N B B B B B B B B++J) (rY 0 (N B B B B B B B B++J))) (rY 2 (N B B B B B B B B++J))=U (.lst ((IU x).map JY)):=kq hx (h.sp H rfl rfl) rfl;show jk (ds:=(IU x).map JY) (by rw[es];rfl) ⋯ rfl (bU λq hq=>?_) (by rw[Ms];show ME hsl ⟨⟩)
  letI M:DEnv:=[U (.loc (U "Search") 0,Y),U (.loc (U "Part") Z7,Y),B,B,B,B,U (.int q.2,Y),B,B,U (.int q.1,Y),B]
  show IX (ε':=M++J) rfl (p.pa.din (ns:=M) rfl rfl (m:=q.2) rfl) λz=>rT (Cb (h.ho H rfl rfl) rfl (hin q (Nk.mpr ⟨hq,z⟩)).1) rfl
 let anyG:∀q∈Kb P x,∀{y z:G D},y=U (J5 X q.1)->z=U (.lst ((P.dom q.2).map KQ))->JT (ac (aa y (aa z (U []))) zC4)=U (.int (Bc (JV X.S.oth q.1) (P.dom q.2):Nat)):=λq hq y z hy hz=>Jf (jV hy hz (wE (λc=>tX H rfl rfl (hin q hq).1) _))
 let(δ2,e2,y5,y6,rfl):=aF (f:=sq) (body:=λd O=>ac ((aW (ah (ae 5) (ah (ae 6) (aY)))) d O) dN) (λt O=>∃y5 y6,O=N (U (.lst ((Kb P x).map sq),Y)) (U (.int (nX X.S P t r:Nat),Y)) y5 y6 B B B B++J) (xs:=Kb P x) (pre:=[]) (O:=N (U (.lst ((Kb P x).map sq),Y)) (U (.int (P.mask r:Nat),Y)) B B B B B B++J) ⟨B,B,rfl⟩ λt q O ⟨rest,hr'⟩ ⟨y5,y6,hδ⟩=>by
  subst hδ;let hq:q∈Kb P x:=by
    have:Kb P x=t++q::rest:=by simpa using hr'
    rw[this];simp
  show⟨_,aA (a:=N (U (.lst ((Kb P x).map sq),Y)) (U (.int (nX X.S P t r:Nat),Y)) (U (J5 X q.1,Y)) (U (.int q.2,Y)) B B B B++J) rfl (IV (d:=.int (nX X.S P (t++[q]) r:Nat)) ?_ (PV.mpr (by simp[N]))),_,_,rfl⟩
  .show(Ex (a:=nX X.S P t r) rfl (anyG q hq rfl (p.pa.dom rfl rfl rfl (hin q hq).2))).trans ?_
   ext nX;simp
 rw[Np]at e2;generalize hm:nX X.S P (Kb P x) r=m at*;let base:aX [.loc (U "Search") 0,.loc (U "Part") Z7,.int r] J=eV 11 J (aq (JZ (U (decide ((m:Int)=0))) (bN (U .non) (N (U (.lst ((Kb P x).map sq),Y)) (U (.int m,Y)) y5 y6 B B B B++J)) (aU (N (U (.lst ((Kb P x).map sq),Y)) (U (.int m,Y)) y5 y6 B B B B++J))) (λO=>aq (putL 11 (λO=>af 11 "Part" "masks" O (rY 1 O)) (λO=>rY 2 O) (λO=>rY 4 O) O) (λO=>aq (gE 7 (eU (U [])) O) (λO=>aq (ac (aV (rY 3 O)) λds=>av (λd O=>ac ((aW (ah (ae 5) (ah (ae 6) (aY)))) d O) bv) ds O) (λO=>dB (mG 7 O)))))):=by
  show(bh rfl).trans (p_ (eV 11 J) ?_)
  change cJ (N B B B B B B B B++J)=_;show Ka (d:=.lst ((Kb P x).map sq)) e1 ?_ (PV.mpr (by simp[N]))
  change dC (N (U (.lst ((Kb P x).map sq),Y)) B B B B B B B++J)=_;show JI (d:=.int (P.mask r:Nat)) (p.pa.msk rfl rfl rfl hr) ?_ (PV.mpr (by simp[N]))
  show LJ (aA (a:=(Kb P x).map sq) rfl e2) ?_
  show p_ (λz=>aq (JZ z _ _) _) (LM rfl rfl)
 by_cases hz:m=0
 .show .inl ⟨hz,?_⟩
  rw[base,decide_eq_true ⟨⟩]
  show kF rfl rfl
 .show .inr ⟨hz,?_⟩
  rw[base,decide_eq_false ⟨⟩]
  let hb:∀y:D,y=D.int m->kI.mk (cO (r:Int) (P.rs.map λr:Nat=>(r:Int))) (λb=>if b=(r:Int) then y else .int (P.mask b.toNat:Nat))=oW (eJ X.S P [] r m):=λy hy=>by
   rw[kY (No hr)];show kI.cong _ _ _ λb hb=>?_
   let(q,_,rfl):=MC.mp hb;change _=D.int ((if(q:Int).toNat=r then m else P.mask (q:Int).toNat:Nat):Int)
   rw[OV,hy]
   by_cases z:q=r
   .rfl'
   .simp[z,show ¬(q:Int)=(r:Int) by lia]
  let hd0:jT (eJ X.S P [] r m)=jT P:=kI.cong _ _ _ λn _=>by
   change D.lst (((P.dom n).filter _).map KQ)=_;rw[O3.mpr];intro c _;rfl
  let p1:=p.setM hd0;let(δ3,e3,sh,J',z5,z6,z8,rfl,p',S',st',l',o'):=aF (f:=sq) (body:=λd O=>ac ((aW (ah (ae 5) (ah (ae 6) (aY)))) d O) bv) (λt O=>∃sh J' z5 z6 z8,O=N (U (.lst ((Kb P x).map sq),Y)) (U (.int m,Y)) z5 z6 (U (.lst (sh.map D.int),V)) z8 B B++J'/\Pl X J' Z7 a b (eJ X.S P t r m)/\Shk P (eJ X.S P t r m) sh/\(∀n∈sh,n∈t.map (·.2))/\J'.length=J.length/\∀i,i≠a->i≠b->J'[i]?=J[i]?) (xs:=Kb P x) (pre:=[]) (O:=N (U (.lst ((Kb P x).map sq),Y)) (U (.int m,Y)) y5 y6 (U (.lst [],V)) B B B++J.set b (U (oW (eJ X.S P [] r m),V))) ⟨[],_,y5,y6,B,rfl,p1,⟨Nr,(λ_ z=>nomatch z),λn _=>by change(P.dom n).filter _=_;rw[O3.mpr];intro c _;rfl,λ_ z=>nomatch z⟩,(λ_ z=>nomatch z),by simp,λi _ hi=>by rw[Mh (λz=>hi z.symm)]⟩ λt q O ⟨rest,hr'⟩ ⟨sh,J',z5,z6,z8,hδ,p',S',st',l',o'⟩=>by
   subst hδ;let hsp:Kb P x=t++q::rest:=by simpa using hr'
   let hq:q∈Kb P x:=by rw[hsp];simp
   let hq2:q.2∉t.map (·.2):=λz=>by
    let(q',h1,h2):=MC.mp z;let hq':q'∈Kb P x:=by rw[hsp];simp[h1]
    let s1:=((dW (p:=q'.1) (n:=q'.2) hx).mp hq').1;let s2:=((dW (p:=q.1) (n:=q.2) hx).mp hq).1;rw[h2]at s1;let e:=nZ s1 s2;have:q'=q:=QM e h2;subst this;let nd:(Kb P x).Nodup:=yH.filter _;rw[hsp,NQ]at nd;show nd.2.2 _ h1 _ (MB ..) rfl
   let hsl':sh.length<=4:=by
    have:t.length<(Kb P x).length:=by rw[hsp];simp
    let h2:sh.length<=(t.map (·.2)).length:=cG S'.nd st'
    simp at h2;lia
   let hks:=(hin q hq).2;let hdl:((eJ X.S P t r m).dom q.2).length<=8:=ME (MS ..) (f.dl _ hks)
   letI E (y8:G (D×Bool)) (l:Z Int):DEnv:=N (U (.lst ((Kb P x).map sq),Y)) (U (.int m,Y)) (U (J5 X q.1,Y)) (U (.int q.2,Y)) (U (.lst (l.map D.int),V)) y8 B B
   letI cs:=((eJ X.S P t r m).dom q.2).filter λc=>decide (JV X.S.oth q.1 c&&& m≠0)
   let hcl:cs.length<=8:=ME (MS ..) hdl;let ec:au (ac (aV (h8 11 (E z8 sh++J') (af 11 "Part" "domains" (E z8 sh++J') (rY 1 (E z8 sh++J'))) (rY 6 (E z8 sh++J')))) (bS Y [Y,Y,Y,Y,V,V,Y,Y,Y,Y,Y] (ae 10) (λO=>jD (tx (bd (rY 5 O) (rY 10 O) (U (.int 0))) (rY 4 O))) dM (E z8 sh++J')))=U (.lst (cs.map KQ)):=by
    show jk (ds:=((eJ X.S P t r m).dom q.2).map KQ) ((p_ aV (p'.pa.dom (ns:=E z8 sh) rfl rfl (m:=q.2) rfl hks)).trans rfl) ⋯ rfl (bU (p:=λc=>decide (JV X.S.oth q.1 c&&& m≠0)) λc _=>?_) ⋯
    show IX (ε':=[B,B,B,B,U (.int m,Y),U (J5 X q.1,Y),B,B,B,B,U (KQ c,Y)]++J') rfl (Iq (Ex (tX H rfl rfl (hin q hq).1) rfl)) λ_=>rfl
   let step:∀(sh2:Z Int) (σ2:DEnv),dG (E (U (.lst (cs.map KQ),Y)) sh++J')=U (.next (E (U (.lst (cs.map KQ),Y)) sh2++σ2))->bv (E z8 sh++J')=U (.next (E (U (.lst (cs.map KQ),Y)) sh2++σ2)):=λsh2 σ2 hk=>Ka (d:=.lst (cs.map KQ)) ec hk (PV.mpr (by simp[E,N]))
   let el:cI JJ (cS (rY 8 (E (U (.lst (cs.map KQ),Y)) sh++J'))) (cS (h8 11 (E (U (.lst (cs.map KQ),Y)) sh++J') (af 11 "Part" "domains" (E (U (.lst (cs.map KQ),Y)) sh++J') (rY 1 (E (U (.lst (cs.map KQ),Y)) sh++J'))) (rY 6 (E (U (.lst (cs.map KQ),Y)) sh++J'))))=U (decide (cs.length<((eJ X.S P t r m).dom q.2).length)):=IC (DU rfl) (DU (p'.pa.dom (ns:=E (U (.lst (cs.map KQ),Y)) sh) rfl rfl (m:=q.2) rfl hks));let cdom:∀n,(eJ X.S P (t++[q]) r m).dom n=if n=q.2 then cs else(eJ X.S P t r m).dom n:=λn=>by
    by_cases z:n=q.2
    .rw[n_ z,z];show zV
    .rw[o_ z];show FF z
   by_cases z:cs.length<((eJ X.S P t r m).dom q.2).length
   .rw[decide_eq_true z]at el
    let ed:kI.mk (cO q.2 (eJ X.S P t r m).ks) (λb=>if b=q.2 then D.lst (cs.map KQ) else .lst (((eJ X.S P t r m).dom b).map KQ))=jT (eJ X.S P (t++[q]) r m):=by
     rw[show cO q.2 (eJ X.S P t r m).ks=P.ks from kY hks]
     show kI.cong _ _ _ λb _=>?_
     rw[cdom];split<;>rfl
    let ep:=kI.putL (ns:=E (U (.lst (cs.map KQ),Y)) sh) (J:=J') (n:=11) (fa:=λO=>af 11 "Part" "domains" O (rY 1 O)) (fk:=λO=>rY 6 O) (fv:=λO=>rY 8 O) (v:=.lst (cs.map KQ)) (a:=q.2) rfl (p'.da rfl rfl) rfl rfl p'.sa (by
     have:=cG f.kn f.kx;have:=H.ro.ul;change P.ks.length<=1000;lia)
    rw[ed]at ep;show⟨_,aA (a:=E z8 sh++J') rfl (step (sh++[q.2]) (J'.set a (U (jT (eJ X.S P (t++[q]) r m),V))) (JU el (LJ ep ?_))),sh++[q.2],_,_,_,_,rfl,p'.setD rfl,⟨?_,λn hn=>?_,λn hn=>?_,λn hn=>?_⟩,λn hn=>?_,by simpa using l',λi h1 h2=>?_⟩
    .show(GI (d:=.int q.2) rfl (ds:=sh.map D.int) rfl ⋯).trans ?_
     simp[E,N]
    .rw[NQ]
     show⟨S'.nd,by simp,λa ha b hb e=>hq2 (by simp at hb;rw[<-hb,<-e];show st' a ha)⟩
    .rcases Mw.mp hn with z|z
     .show S'.ks n z
     simp_all
    .let h1:n∉sh:=λw=>hn (MI _ w)
     let h2:n≠q.2:=λw=>hn (by rw[w];simp)
     rw[cdom,o_ h2];show S'.no n h1
    .rw[cdom]
     by_cases w:n=q.2
     .rw[n_ w];subst w
      have:=S'.no _ (λw=>hq2 (st' _ w))
      rw[<-this];show z
     .rw[o_ w]
      show S'.lt n (by simp_all)
    .rw[Mu,Mw]
     rcases Mw.mp hn with v|v
     .show .inl (st' n v)
     .show .inr (by trivial)
    .rw[Mh (λz=>h1 z.symm)];show o' i h1 h2
   .rw[decide_eq_false z]at el
    let ec2:cs=(eJ X.S P t r m).dom q.2:=vG z;let edom:∀n,(eJ X.S P (t++[q]) r m).dom n=(eJ X.S P t r m).dom n:=λn=>by
     simp_all
    let ep:eJ X.S P (t++[q]) r m=eJ X.S P t r m:=by
     have:(eJ X.S P (t++[q]) r m).dom=(eJ X.S P t r m).dom:=funext edom;show p_ (λd=>(⟨P.ks,d,P.rs,λq=>if q=r then m else P.mask q⟩:Pt)) this
    show⟨_,aA (a:=E z8 sh++J') rfl (step sh J' (J6 el rfl)),sh,J',_,_,_,rfl,by rw[ep];show p',by rw[ep];show S',λn hn=>?_,l',o'⟩
    rw[Mu,Mw];show .inl (st' n hn)
  show⟨sh,J',?_,p',S',l',o'⟩
  let ep:=kI.putL (ns:=N (U (.lst ((Kb P x).map sq),Y)) (U (.int m,Y)) y5 y6 B B B B) (J:=J) (n:=11) (fa:=λO=>af 11 "Part" "masks" O (rY 1 O)) (fk:=λO=>rY 2 O) (fv:=λO=>rY 4 O) (v:=.int m) (a:=(r:Int)) rfl (p.mb rfl rfl) rfl rfl p.sb (by
   have:=cG f.rn (m:=MW X.S.one.length) λn hn=>NE.mpr (f.rx n hn)
   let h1:=H.one.1;rw[OU]at this;rw[Ms];lia)
  rw[show kI.mk (cO (r:Int) (P.rs.map λr:Nat=>(r:Int))) (λb=>if b=(r:Int) then D.int m else .int (P.mask b.toNat:Nat))=_ from hb _ rfl]at ep
  show SW (p_ (eV 11 J) ?_) (kF (ns:=N (U (.lst ((Kb P x).map sq),Y)) (U (.int m,Y)) z5 z6 (U (.lst (sh.map D.int),Y)) z8 B B) rfl l')
  show LJ rfl (LJ ep (Ka (d:=.lst []) rfl (LJ (aA rfl e3) ?_) (PV.mpr (by simp[N]))))
  rfl
section
variable{X:Sx}{J J':DEnv}{w:Int->Int}{ns:DEnv}{n Z7 a b j q:Nat}{P P':Pt}{x:G D}{d r:D}
def lU {c name:MJ}{fa:DEnv->G D}{fs:DEnv->G (Z D×DEnv)}{ks:Z MJ}{vs ds:Z D}(v:ns.length=n) (u:fa (ns++J)=U (.loc (U c) j)) (e:J[j]?=U (U (.ob c ks vs,V))) (h:name∉ks) (hs:fs (ns++J)=U (ds,ns++g)) (y:f (.loc (U c) j::ds) g=U (r,Y,k)):dy n c name f fa fs (ns++J)=U (r,ns++k):=by
 ext dy;rw[JR v u e h];ext mO
 simp_all
def fL {ds:Z D}(h:f O=U ds):bX f O=U (ds,O):=by ext bX;rw[h]
def H3 {fr:DEnv->G D}{ds:Z D}(k:ns.length=n) (h:fr (ns++J)=U (.loc B j)) (e:J[j]?=U (U (.lst (d::ds),V))) (g:ds.length<=1000):uZ n fr (ns++J)=U (d,ns++J.set j (U (.lst ds,V))):=by
 ext uZ;rw[h];left;rw[r7 k e];left;rw[n_ (by simp[LZ];lia),Eu k]
def FB {fa:DEnv->G D}{ds es:Z D}(k:ns.length=n) (h:g (ns++J)=U (.loc B j,ns++J)) (e:J[j]?=U (U (.lst ds,V))) (u:fa (ns++J)=U (.lst es)) (v:ds.length+es.length<=1000):DR n g fa (ns++J)=U (.next (ns++J.set j (U (.lst (ds++es),V)))):=by
 ext DR;rw[h];left;rw[r7 k e,u];left;rw[n_ (by simp[LZ];lia),Eu k]
def IE {us:Z Int}{v:Int->Int}{fa fk fv:DEnv->G D}(u:ns.length=n) (h:fa (ns++J)=U (.loc B j)) (z:fk (ns++J)=U (.int m)) (g:fv (ns++J)=U (.int 1)) (e:J[j]?=U (U (kI.mk us λn=>.int (v n),V))) (k:m∈us) (y:us.length<=1000):GC n fa fk fv (ns++J)=U (.next (ns++J.set j (U (kI.mk us λb=>.int (if b=m then v m+1 else v b),V)))):=by
 ext GC;rw[h,z,g];left;rw[zJ u e (kI.dc _ _)];left;rw[show j9 (U (kI.mk us λn=>.int (v n))) (U (.int m))=U (U (.int (v m))) from(kI.get us _ m).trans (by rw[n_ k])]
 left;rw[show kT (kI.mk us λn=>.int (v n)) (.int m) (.int (v m+1))=U (kI.mk us λb=>.int (if b=m then v m+1 else v b)) from(kI.put us _ m _ y).trans (by rw[kY k];congr 2;funext b;split<;>rfl)]
 simp_all
end
def Hs.nsm (H:Hs X):n∈X.ns↔∃r p,X.S.spot r p n:=by
 constructor
 .intro h
  apply Nx;intro z;show absurd h ((H.ro.no n).mpr (List.eq_nil_iff_forall_not_mem.mpr λr k=>z ⟨r,(H.ro.mem n r).mp k⟩))
 .rintro⟨r,p,h⟩
  apply Nx;intro z;have:=(H.ro.mem n r).mpr ⟨p,h⟩;rw[(H.ro.no n).mp z]at this;simp at this
def Grw (k:Nat) (w j:Int->Int):Prop:=∀n,w n<=j n/\j n<=w n+k
nonrec theorem An {X:Sx}{J:DEnv}{w:Int->Int}{r:Nat}{x:Ja}(H:Hs X) (h:Hst X J w) (hx:X.S.one[r]?=U x):∃J' w',cm [.loc (U "Search") 0,.int r] J=U (.non,Y,J')/\Hst X J' w'/\Grw 4 w w'/\J'.length=J.length/\∀i,i≠X.base.length->J'[i]?=J[i]?:=by
 let hx4:(IU x).length<=4:=ME lX (H.one.2 x (Mr hx));let(δ1,e1,J',w',y2,rfl,h',g',l',o'):=aF (f:=JY) (body:=λd O=>ac ((ae 2) d O) fN) (λt O=>∃J' w' y2,O=[U (.loc (U "Search") 0,Y),U (.int r,Y),y2]++J'/\Hst X J' w'/\Grw t.length w w'/\J'.length=J.length/\∀i,i≠X.base.length->J'[i]?=J[i]?) (xs:=IU x) (pre:=[]) (O:=[U (.loc (U "Search") 0,Y),U (.int r,Y),B]++J) ⟨J,w,B,rfl,h,λn=>by simp,rfl,λ_ _=>rfl⟩ λt q O ⟨rest,hr⟩ ⟨J',w',y2,hδ,h',g',l',o'⟩=>by
  subst hδ;let hq:q∈IU x:=by
    have:IU x=t++q::rest:=by simpa using hr
    rw[this];simp
  let hm:q.2∈X.ns:=H.nsm.mpr ⟨r,q.1,(bM hx).mpr hq⟩;let hl:=(L9.mp h'.w).1
  show⟨_,aA (a:=[U (.loc (U "Search") 0,Y),U (.int r,Y),U (JY q,Y)]++J') rfl (IE (m:=q.2) rfl (h'.we H rfl rfl) rfl rfl h'.w hm (by have:=H.ro.ul;lia)),_,λb=>if b=q.2 then w' q.2+1 else w' b,_,rfl,⟨λi hi=>?_,Mz hl⟩,λn=>?_,by simpa using l',λi hi=>?_⟩
  .rw[Mh ()];show h'.old i hi
  .let h1:=g' n
   let h2:=g' q.2;rw[MF,NW];left;split
   .rename_i z;subst z;lia
   .lia
  .rw[Mh (λz=>hi z.symm)];show o' i hi
 show⟨J',w',?_,h',λn=>?_,l',o'⟩
 .show(bh rfl).trans ((p_ (eV 3 J) ?_).trans (sV (ns:=[U (.loc (U "Search") 0,Y),U (.int r,Y),y2]) rfl l'))
  show aA (a:=(IU x).map JY) ((p_ aV (kq hx (h.sp H (n:=3) (ns:=[U (.loc (U "Search") 0,Y),U (.int r,Y),B]) rfl rfl) rfl)).trans rfl) e1
 .have:=g' n;simp at this;lia
def vR (P:Pt):Nat:=(P.ks.map λn=>(P.dom n).length).sum
def Gs {ks sh:Z Int}(h:∀n∈ks,g n+(if n∈sh then 1 else 0)<=f n):(ks.map g).sum+(ks.filter λn=>decide (n∈sh)).length<=(ks.map f).sum:=by
 induction ks with
 |nil=>simp
 |cons n ks ih=>
  let h1:=h n (MB ..);let h2:=ih λm hm=>h m (MA _ hm)
  rw[Mx,Mx,RD,RD,h_]
  by_cases z:n∈sh
  .simp[z]at h1⊢;lia
  .simp[z]at h1⊢;lia
def Shk.sum {sh:Z Int}(h:Shk P P' sh) (e:P'.ks=P.ks):vR P'+sh.length<=vR P:=by
 let u:=Gs (ks:=P.ks) (sh:=sh) (f:=λn=>(P.dom n).length) (g:=λn=>(P'.dom n).length) λn _=>by
  by_cases z:n∈sh
  .have:=h.lt n z;simp[z];lia
  .rw[h.no n z];simp[z]
 let j:=cG h.nd (m:=P.ks.filter λn=>decide (n∈sh)) λn k=>Nk.mpr ⟨h.ks n k,decide_eq_true k⟩
 ext vR;rw[e];lia
def CR (h:∀n∈P.ks,(P.dom n).length<=Tx):vR P<=Tx*P.ks.length:=by
 ext vR;generalize P.ks=ks at h
 induction ks with
 |nil=>simp
 |cons n ks ih=>
  let h1:=h n (MB ..);let h2:=ih λm hm=>h m (MA _ hm)
  rw[Mx,RD,MX,RV];lia
def LL {x y:G D}{a b:Nat}(h:x=U (.int a)) (k:y=U (.int b)):KZ x y=U (decide (a≠b)):=by
 ext KZ;rw[LM h k];simp;lia
def za:∀a b:Nat,(D.int (a:Int))=.int b->a=b:=λa b h=>by have:=D.int.inj h;lia
def Hs.rof8 (H:Hs X) (n:Int):(X.rof n).length<=8:=by
 have:=cG (H.ro.nd n) (m:=MW X.S.one.length) λr k=>by
  let(p,h):=(H.ro.mem n r).mp k;show NE.mpr (iK h)
 rw[OU]at this;show ME this H.one.1
def more (X:Sx) (r:Nat) (W:Z Nat) (n:Int):Z Nat:=(X.rof n).filter λk=>decide (k≠r)&&!decide (k∈W)
def EP (H:Hs X):(more X r W n).length<=8:=ME (MS ..) (H.rof8 n)
def wJ {X:Sx}{J:DEnv}{w:Int->Int}{r q:Nat}{n:Int}{W:Z Nat}{a1 g j:G (D×Bool)}(H:Hs X) (h:Hst X J w) (u:J[q]?=U (U (.lst (W.map λr:Nat=>.int r),V))) (v:n∈X.ns) (c:W.length<=500):
  bZ ([U (.loc (U "Search") 0,Y),a1,U (.loc B q,Y),U (.int r,Y),g,U (.int n,Y),j]++J)=U (.next ([U (.loc (U "Search") 0,Y),a1,U (.loc B q,Y),U (.int r,Y),g,U (.int n,Y),j]++J.set q (U (.lst ((W++more X r W n).map λr:Nat=>.int r),V)))):=by
 let b:=H.rof8 n;let d:=EP H (r:=r) (W:=W) (n:=n);show(FB (ns:=[U (.loc (U "Search") 0,Y),a1,U (.loc B q,Y),U (.int r,Y),g,U (.int n,Y),j]) (es:=(more X r W n).map λr:Nat=>.int r) rfl (e9 rfl) u ?_ ⋯).trans (by simp)
 show jk (ds:=(X.rof n).map λr:Nat=>.int r) (h.ros H rfl rfl rfl v) ⋯ rfl (bU (f:=λr:Nat=>.int r) (p:=λk=>decide (k≠r)&&!decide (k∈W)) λk _=>?_) ⋯
 show IX (ε':=[B,B,U (.loc B q,Y),U (.int r,Y),B,B,U (.int k,Y)]++J) rfl ?_ λ_=>rfl
 let t:KZ (U (.int k)) (U (.int r))=U (decide (k≠r)):=LL rfl rfl;let y:eQ (U (.int k)) (L1 7 ([B,B,U (.loc B q,Y),U (.int r,Y),B,B,U (.int k,Y)]++J) (U (.loc B q)))=U (!decide (k∈W)):=(p_ (eQ _) (cY (n:=7) rfl u rfl)).trans (ut (f:=λr:Nat=>D.int r) za (λ_=>rfl) k W)
 show(congr (p_ jM t) y).trans ?_
 by_cases z:k=r
 .simp_all
 simp_all
def Im (h:x=U (d,O)):GG x=U (.next O):=by subst h;rfl
def LI (h:x=U (.ret d b O)):aq x g=U (.ret d b O):=by subst h;rfl
structure Nar (X:Sx) (P P':Pt):Prop where
 ks:P'.ks=P.ks
 rs:P'.rs=P.rs
 sub:∀n c,c∈P'.dom n->c∈P.dom n
 sol:∀φ,Sol X.S P φ↔Sol X.S P' φ
structure Ps (X:Sx) (P:Pt) (J:DEnv) (w:Int->Int) (Z7 a b q:Nat) (P':Pt) (J':DEnv) (W:Z Nat):Prop where
 hs:Hst X J' w
 pl:Pl X J' Z7 a b P'
 wf:Wf X P'
 nar:Nar X P P'
 iv:Iv X.S P' λr=>r∈W
 wr:∀r∈W,r∈P.rs
 qs:J'[q]?=U (U (.lst (W.map λr:Nat=>.int r),V))
 len:J'.length=J.length
 off:∀i,i≠a->i≠b->i≠q->J'[i]?=J[i]?
def Rev.nar (R:Rev X.S k j r) (g:r∈k.rs) (hs:∀n c,c∈j.dom n->c∈k.dom n) (h:Nar X P k):Nar X P j:=
 ⟨R.ks.trans h.ks,R.rs.trans h.rs,λn c u=>h.sub n c (hs n c u),λφ=>(h.sol φ).trans (R.sol g)⟩
def IH {y3 y4 y5 y6:G (D×Bool)}(H:Hs X) (hq0:q≠a/\q≠b/\q≠Z7/\X.base.length<q) (hW:W.length+8*vR P1<=400) (s:Ps X P J w Z7 a b q P1 σ1 (r::W)):
  (∃P2 σ2 W2 z3 z4 z5 z6,bC ([U (.loc (U "Search") 0,Y),U (.loc (U "Part") Z7,Y),U (.loc B q,Y),y3,y4,y5,y6]++σ1)=U (.next ([U (.loc (U "Search") 0,Y),U (.loc (U "Part") Z7,Y),U (.loc B q,Y),z3,z4,z5,z6]++σ2))/\Ps X P J w Z7 a b q P2 σ2 W2/\W2.length+8*vR P2<(r::W).length+8*vR P1)\/
  (∃σ2 w2 z3 z4 z5 z6,bC ([U (.loc (U "Search") 0,Y),U (.loc (U "Part") Z7,Y),U (.loc B q,Y),y3,y4,y5,y6]++σ1)=U (.ret (.bl Y) Y ([U (.loc (U "Search") 0,Y),U (.loc (U "Part") Z7,Y),U (.loc B q,Y),z3,z4,z5,z6]++σ2))/\Hst X σ2 w2/\Grw 4 w w2/\(∀φ,¬Sol X.S P φ)/\σ2.length=J.length/\∀i,i≠a->i≠b->i≠q->i≠X.base.length->σ2[i]?=J[i]?):=by
 let(hqa,hqb,hqJ,hqw):=hq0;let hlt:=s.pl.lt;let hrP:r∈P1.rs:=s.nar.rs▸s.wr r (MB ..);obtain⟨x,hx⟩:∃x,X.S.one[r]?=U x:=⟨_,Mq (s.wf.rx r hrP)⟩
 let hu:∀p n,X.S.spot r p n->n∈P1.ks->(p:Int)∈X.us:=λp n hs _=>by
  let(k,hk):=nz.mp (s.iv.nz r hrP);let(c,hc,_):=((s.iv.rect r hrP k).mp hk).2 p n hs;show(H.us hc).1
 let hql:=(L9.mp s.qs).1
 letI E (y3 y4 y5 y6:G (D×Bool)):DEnv:=[U (.loc (U "Search") 0,Y),U (.loc (U "Part") Z7,Y),U (.loc B q,Y),y3,y4,y5,y6]
 letI σa:=σ1.set q (U (.lst (W.map λr:Nat=>.int r),V))
 let oa:∀i,i≠q->σa[i]?=σ1[i]?:=λi hi=>Mh (λz=>hi z.symm)
 let ha:Hst X σa w:=s.hs.off λi hi=>oa i ()
 let pa:Pl X σa Z7 a b P1:=s.pl.off λi hi=>oa i ()
 let e1:fB 3 (uZ 7 (λO=>rY 2 O) (E y3 y4 y5 y6++σ1))=U (.next (E (U (.int r,Y)) y4 y5 y6++σa)):=gM (ns:=E y3 y4 y5 y6) (H3 (ns:=E y3 y4 y5 y6) rfl rfl s.qs ⋯)
 let rv:=B3 (P:=P1) hx;let hsub:∀n c,c∈(eJ X.S P1 (Kb P1 x) r (nX X.S P1 (Kb P1 x) r)).dom n->c∈P1.dom n:=λn c hc=>(Nk.mp hc).1
 let h0:=ha.at0 H
 rcases uM H ha pa s.wf hx hrP hu with⟨hz,er⟩|⟨hz,sh,σb,er,pb,S2,lb,ob⟩
 .-- nothing is left for it
  show .inr ?_
  let(σ2,w2,eb,h2,g2,l2,o2):=An H ha hx;show⟨σ2,w2,U (.int r,Y),U (.non,Y),y5,y6,?_,h2,g2,λφ z=>rv.no hrP hz ((s.nar.sol φ).mp z),by rw[l2];simp[σa,s.len],λi h1 h2 h3 h4=>?_⟩
  .show LJ e1 (LJ (gM (ns:=E (U (.int r,Y)) y4 y5 y6) (lU (ns:=E (U (.int r,Y)) y4 y5 y6) rfl rfl h0 ∅ (fL rfl) er)) ?_)
   show Kq (by rfl) (LI (LJ (Im (lU (ns:=E (U (.int r,Y)) (U (.non,Y)) y5 y6) rfl rfl h0 ∅ (fL rfl) eb)) rfl))
  .rw[o2 i h4,oa i h3];show s.off i h1 h2 h3
 .show .inl ?_
  let hb:Hst X σb w:=ha.off λi hi=>ob i () ()
  let qb:σb[q]?=U (U (.lst (W.map λr:Nat=>.int r),V)):=by rw[ob q hqa hqb];show Mz hql
  let shl:vR (eJ X.S P1 (Kb P1 x) r (nX X.S P1 (Kb P1 x) r))+sh.length<=vR P1:=S2.sum rfl;let(δ2,e2,σc,W2,z5,z6,rfl,oc,qc,lc,wl,wm):=aF (f:=D.int) (body:=λd O=>ac ((ae 5) d O) bZ) (λt O=>∃J' W' z5 z6,O=E (U (.int r,Y)) (U (.lst (sh.map D.int),Y)) z5 z6++J'/\(∀i,i≠q->J'[i]?=σb[i]?)/\J'[q]?=U (U (.lst (W'.map λr:Nat=>.int r),V))/\J'.length=σb.length/\W'.length<=W.length+8*t.length/\∀r',r'∈W'↔r'∈W\/(r'≠r/\∃n∈t,r'∈X.rof n)) (xs:=sh) (pre:=[]) (O:=E (U (.int r,Y)) (U (.lst (sh.map D.int),Y)) y5 y6++σb) ⟨σb,W,y5,y6,rfl,λ_ _=>rfl,qb,rfl,Mj _,λr'=>by simp⟩ λt n O ⟨rest,hr⟩ ⟨J',W',z5,z6,hδ,oc,qc,lc,wl,wm⟩=>by
   subst hδ;let hsh:sh=t++n::rest:=by simpa using hr
   let htl:t.length<sh.length:=by rw[hsh];simp
   let hn:n∈X.ns:=s.wf.kx n (S2.ks n (by simp_all))
   let h':Hst X J' w:=hb.off λi hi=>oc i ()
   let hl:=(L9.mp qc).1
   show⟨_,aA (a:=E (U (.int r,Y)) (U (.lst (sh.map D.int),Y)) (U (.int n,Y)) z6++J') rfl (wJ H h' qc hn ()),_,W'++more X r W' n,_,_,rfl,λi hi=>?_,Mz hl,by simpa using lc,?_,λr'=>?_⟩
   .rw[Mh (λz=>hi z.symm)];show oc i hi
   .have:=EP H (r:=r) (W:=W') (n:=n)
    rw[MF,MF,NW];lia
   .let hm:r'∈more X r W' n↔r'∈X.rof n/\r'≠r/\r'∉W':=by ext more;rw[Nk];simp
    have:=wm r';rw[Mw,hm]
    grind
  rw[Np]at wl wm;let hc:Hst X σc w:=hb.off λi hi=>oc i ()
  let pc:Pl X σc Z7 a b (eJ X.S P1 (Kb P1 x) r (nX X.S P1 (Kb P1 x) r)):=pb.off λi hi=>oc i ()
  show⟨_,σc,W2,U (.int r,Y),U (.lst (sh.map D.int),Y),z5,z6,?_,⟨hc,pc,s.wf.cut,rv.nar hrP hsub s.nar,?_,λr' hr'=>?_,qc,by rw[lc,lb];simp[σa,s.len],λi h1 h2 h3=>by rw[oc i h3,ob i h1 h2,oa i h3];show s.off i h1 h2 h3⟩,by rw[MX];lia⟩
  .show LJ e1 (LJ (gM (ns:=E (U (.int r,Y)) y4 y5 y6) (lU (ns:=E (U (.int r,Y)) y4 y5 y6) rfl rfl h0 ∅ (fL rfl) er)) ?_)
   assumption
  .show rv.iv s.iv hrP hz λr' hr' hne hw=>⟨λz=>?_,λp n hs hn c hc=>?_⟩
   .simp_all
   .by_cases z:n∈sh
    .show absurd ((wm r').mpr (.inr ⟨hne,n,z,(H.ro.mem n r').mpr ⟨p,hs⟩⟩)) hw
    .rw[S2.no n z];show hc
  .rcases(wm r').mp hr' with z|⟨_,n,hn,z⟩
   .show s.wr r' (MA _ z)
   .let(p,hs):=(H.ro.mem n r').mp z
    show s.nar.rs▸s.wf.rr n (S2.ks n hn) r' p hs
def rp {X:Sx}{P:Pt}{J:DEnv}{w:Int->Int}{Z7 a b q:Nat}{W:Z Nat}(H:Hs X) (h5:X.ns.length<=5) (hq0:q≠a/\q≠b/\q≠Z7/\X.base.length<q) (h:Hst X J w) (p:Pl X J Z7 a b P) (f:Wf X P) (I:Iv X.S P λr=>r∈W) (wr:∀r∈W,r∈P.rs) (hq:J[q]?=U (U (.lst (W.map λr:Nat=>.int r),V))) (hW:W.length<=8):
  ∃ok J' w',aQ [.loc (U "Search") 0,.loc (U "Part") Z7,.loc B q] J=U (.bl ok,Y,J')/\Hst X J' w'/\Grw 4 w w'/\J'.length=J.length/\(∀i,i≠a->i≠b->i≠q->i≠X.base.length->J'[i]?=J[i]?)/\(ok=V->∃P',Pl X J' Z7 a b P'/\Wf X P'/\Nar X P P'/\Ok X.S P')/\(ok=Y->∀φ,¬Sol X.S P φ):=by
 letI E (y3 y4 y5 y6:G (D×Bool)):DEnv:=[U (.loc (U "Search") 0,Y),U (.loc (U "Part") Z7,Y),U (.loc B q,Y),y3,y4,y5,y6]
 let hd:vR P<=40:=by
  let h1:=CR f.dl;let h2:=cG f.kn f.kx;lia
 let run:=eC (t:=cb) (b:=bC) (λm O=>∃P1 σ1 W1 y3 y4 y5 y6,O=E y3 y4 y5 y6++σ1/\Ps X P J w Z7 a b q P1 σ1 W1/\m=W1.length+8*vR P1/\m<=328) (λO=>∃P1 σ1 y3 y4 y5 y6,O=E y3 y4 y5 y6++σ1/\Ps X P J w Z7 a b q P1 σ1 []) (λd fr O=>d=.bl Y/\fr=Y/\∃σ2 w2 y3 y4 y5 y6,O=E y3 y4 y5 y6++σ2/\Hst X σ2 w2/\Grw 4 w w2/\(∀φ,¬Sol X.S P φ)/\σ2.length=J.length/\∀i,i≠a->i≠b->i≠q->i≠X.base.length->σ2[i]?=J[i]?) (λm O ⟨P1,σ1,W1,y3,y4,y5,y6,hδ,s,hm,hm2⟩=>by
  subst hδ;let et:cb (E y3 y4 y5 y6++σ1)=U (!W1.isEmpty):=(p_ jD (cY (ns:=E y3 y4 y5 y6) rfl s.qs rfl)).trans (by ext W1<;>rfl)
  cases W1 with
  |nil=>show .inl ⟨et,P1,σ1,y3,y4,y5,y6,rfl,s⟩
  |cons r W1=>
   rw[MX]at hm
   rcases IH (y3:=y3) (y4:=y4) (y5:=y5) (y6:=y6) H hq0 () s with⟨P2,σ2,W2,z3,z4,z5,z6,e,s2,lt⟩|⟨σ2,w2,z3,z4,z5,z6,e,h2,g2,no,l2,o2⟩
   .rw[MX]at lt
    show .inr (.inl ⟨et,_,_,e,⟨⟩,P2,σ2,W2,z3,z4,z5,z6,rfl,s2,rfl,()⟩)
   .show .inr (.inr ⟨et,_,_,_,e,rfl,rfl,σ2,w2,z3,z4,z5,z6,rfl,h2,g2,no,l2,o2⟩)) 1000 _ (E B B B B++J) ⟨P,J,W,B,B,B,B,rfl,⟨h,p,f,⟨rfl,rfl,λ_ _ h=>h,λ_=>QD⟩,I,wr,hq,rfl,λ_ _ _ _=>rfl⟩,rfl,()⟩ ()
 rcases run with⟨δ',e,P1,σ1,y3,y4,y5,y6,rfl,s⟩|⟨d,fr,δ',e,rfl,rfl,σ2,w2,y3,y4,y5,y6,rfl,h2,g2,no,l2,o2⟩
 .show⟨V,σ1,w,?_,s.hs,λn=>(),s.len,λi h1 h2 h3 _=>s.off i h1 h2 h3,λ_=>⟨P1,s.pl,s.wf,s.nar,?_⟩,λz=>nomatch z⟩
  .show(bh rfl).trans ((p_ (eV 7 J) (LJ e rfl)).trans (kF (ns:=E y3 y4 y5 y6) rfl s.len))
  .show Iv.ok (by simpa using s.iv)
 .show⟨Y,σ2,w2,?_,h2,g2,l2,o2,(λz=>nomatch z),λ_=>no⟩
  show(bh rfl).trans ((p_ (eV 7 J) (LI e)).trans (kF (ns:=E y3 y4 y5 y6) rfl l2))
section
variable{X:Sx}{J J':DEnv}{w:Int->Int}{ns:DEnv}{n Z7 a b j q:Nat}{P P':Pt}{x:G D}{d r d1 d2:D}
def Dw {ds:Z D}{r:G (D×Bool)}(u:f=rD n j g) (k:jr (g (bP n ds++J))=r) (v:Nat.beq ds.length j=V:=by rfl):f ds J=r:=by
 subst u;ext rD;simp_all
def kW {c name:MJ}{fa:DEnv->G D}{fs:DEnv->G (Z D)}{ks:Z MJ}{vs ds:Z D}{fr:Bool}(g:ns.length=n) (k:fa (ns++J)=U (.loc (U c) j)) (e:J[j]?=U (U (.ob c ks vs,V))) (h:name∉ks) (hs:fs (ns++J)=U ds) (u:f (.loc (U c) j::ds) J=U (r,fr)):b7 n c name f fa fs (ns++J)=U r:=by
 ext b7;rw[JR g k e h,hs]
 simp_all
def ry:aM [.loc (U "Part") J.length,d1,d2] (J++[U (.ob "Part" [] [],V)])=U (.non,Y,J++[U (.ob "Part" aZ [d1,d2],V)]):=by
 letI N:DEnv:=[U (.loc (U "Part") J.length,Y),U (d1,Y),U (d2,Y)]
 show(bh rfl).trans ((p_ (eV 3 _) (?_:iC (N++(J++[U (.ob "Part" [] [],V)]))=U (.next (N++(J++[U (.ob "Part" aZ [d1,d2],V)]))))).trans (sV (ns:=N) rfl (by simp)))
 show LJ (Jd (ns:=N) (d:=d1) (ks':=["domains"]) (vs':=[d1]) rfl (e9 rfl) rfl (List.getElem?_concat_length) (by kernel_rfl) (by kernel_rfl) ∅) ?_
 show(Jd (ns:=N) (d:=d2) (ks':=aZ) (vs':=[d1,d2]) rfl (e9 rfl) rfl (Mz (by simp)) (by kernel_rfl) (by kernel_rfl) ∅).trans ?_
 simp
def v9 {fs:DEnv->G (Z D×DEnv)}(j:ns.length=n) (hs:fs (ns++J)=U ([d1,d2],ns++k)):rE n "Part" aM fs (ns++J)=U (.loc (U "Part") k.length,ns++(k++[U (.ob "Part" aZ [d1,d2],V)])):=by
 ext rE;simp_all [hs,ry]
def Bj {fa fb:DEnv->G D}(k:ns.length=n) (g:fa (ns++J)=U d1) (j:fb (ns++(J++[U (d1,V)]))=U d2):cP (bu n fa) (cP (bu n fb) (λO=>U ([],O))) (ns++J)=U ([.loc B J.length,.loc B (J.length+1)],ns++(J++[U (d1,V),U (d2,V)])):=by
 ext cP;rw[lW k g];left;rw[lW k j];simp
def kG {fr:Bool}(j:ns.length=n):∃k,eV n J (U (.ret d fr (ns++τ)))=U (d,fr,k)/\(k=τ\/k=τ.take J.length):=by
 unfold eV pF;left;rw[sN j];split
 .show⟨_,rfl,.inr rfl⟩
 .show⟨_,rfl,.inl rfl⟩
def pS {fr:Bool}(k:ns.length=n) (h:lb J.length d=Y):eV n J (U (.ret d fr (ns++τ)))=U (d,fr,τ):=by
 unfold eV pF
 simp_all
end
theorem q5 {fk:D->G D}(h:∀c,fk (f c)=U (.bl (g c))):∀cs:Z Ce,jY fk (cs.map f)=U (cs.map g)
 |[]=>rfl
 |c::cs=>by rw[Mx];ext jY;rw[h,q5 h cs];rfl
def zl {ds:Z D}{ks:Z Bool}(h:ds.length=ks.length):((rC ks).map λi=>ds.getD i .non).Perm ds:=by
 show((eF ks).map _).trans ?_
 have:(MW ks.length).map (λi=>ds.getD i .non)=ds:=by
  apply R6
  .simp[h]
  .intro i j k;simp[k]
 rw[this]
def Gw {k:Type}{f:k->D}(j:∀a b,f a=f b->a=b) {l:Z k}(h:l.Nodup):(l.map f).Nodup:=PW _ (λa b h e=>h (j _ _ e)) h
def Fc {fk:D->G D}{ds:Z D}{ks:Z Bool}(k:x=U (.lst ds)) (j:jY fk ds=U ks) (v:ds.length<64) (u:ds.Nodup) (g:ds.all (KY 16)=V):qn x fk=U (.lst ((rC ks).map λi=>ds.getD i .non)):=by
 subst k;ext qn;left;rw[n_ ⟨v,u,g⟩,j]
def lD {X:Sx}{J:DEnv}{w:Int->Int}{p m:Nat}{n:Int}(H:Hs X) (h:Hst X J w) (f:(p:Int)∈X.us):∃dm:Z Ce,aR [.loc (U "Search") 0,.int p,.int n,.int m] J=U (.lst (dm.map KQ),V)/\dm.Nodup/\(∀c,c∈dm↔JV X.S.oth p c&&& m≠0)/\dm.length<=8:=by
 letI N (y4 y5 y6:G (D×Bool)):DEnv:=[U (.loc (U "Search") 0,Y),U (.int p,Y),U (.int n,Y),U (.int m,Y),y4,y5,y6]
 letI cs:=(X.cl p).filter λc=>decide (JV X.S.oth p c&&& m≠0)
 let y:=(H.hi.cd p).2;let b:cs.length<=32:=ME (MS ..) y;let j:∀c,c∈cs↔JV X.S.oth p c&&& m≠0:=λc=>by
  rw[Nk,decide_eq_true_eq];show⟨λz=>z.2,λz=>⟨?_,z⟩⟩
  apply Nx;intro t;rw[H.hi.no p c λw=>t w.2]at z;simp at z
 let i:au (ac (ia (rY 4 (N (U (J5 X p,Y)) (U (KQ (.bk n),Y)) B++J))) (bS Y [Y,Y,Y,V,V,Y,Y] (ae 6) (λO=>jD (tx (ix (rY 4 O) (rY 6 O)) (rY 3 O))) bV (N (U (J5 X p,Y)) (U (KQ (.bk n),Y)) B++J)))=U (.lst (cs.map KQ)):=by
  show jk (ds:=(X.cl p).map KQ) (kC.keys rfl) ⋯ rfl (bU (p:=λc=>decide (JV X.S.oth p c&&& m≠0)) λc u=>?_) ⋯
  show IX (ε':=[B,B,B,U (.int m,Y),U (J5 X p,Y),B,U (KQ c,Y)]++J) rfl (Iq (Ex (kC.dix (a:=c) rfl rfl u) rfl)) λ_=>rfl
 let l:jY (BQ 6 [Y,Y,Y,Y,Y,V,Y] a8 (N (U (J5 X p,Y)) (U (KQ (.bk n),Y)) B++J)) (cs.map KQ)=U (cs.map λc=>!decide (c=.bk n)):=q5 (λc=>by
  change ac (U ([B,B,B,B,B,U (KQ (.bk n),Y),U (KQ c,Y)]++J)) a8=_;change L7 (a7 (KP (U (KQ c)) (U (KQ (.bk n)))))=_;rw[yq];rfl) cs
 let(dm,g,r):=kh (zl (ds:=cs.map KQ) (ks:=cs.map λc:Ce=>!decide (c=Ce.bk n)) (by simp))
 let nd:dm.Nodup:=g.nodup_iff.mpr ((H.hi.cd p).1.filter _);show⟨dm,?_,nd,λc=>by rw[g.mem_iff,j],?_⟩
 .show Jp (Cb (h.ho H (ns:=N B B B) rfl rfl) rfl f) (Jp (d:=KQ (.bk n)) rfl (rF ?_))
  show(Fc i l ⋯ (Gw iR ((H.hi.cd p).1.filter _)) (sF uN cs)).trans (by rw[r])
 .have:=cG nd (m:=X.S.oth.filterMap λq=>q.2[p]?) λc u=>by
   rw[g.mem_iff,j,uG]at u;let(k,v,_):=u;let v:=jJ.mp v;let(q,e,x):=OY.mp v;show g_.mpr ⟨q,Mr e,x⟩
  show ME this (ME (SV ..) H.oth.1)
def vJ (S:Sd) (r:Nat):Nat:=match S.one[r]? with|some x=>Kw S.oth x|none=>0
def uC:(vJ S r).testBit k=V↔S.fm r k:=by
 unfold vJ Sd.fm;cases e:S.one[r]? with
 |none=>simp
 |some x=>rw[Bz];simp
def BC (h:S.one[r]?=U x):vJ S r=Kw S.oth x:=by ext vJ;rw[h]
def IR {l:Z Nat}(h:x=U (.lst (l.map λk:Nat=>.int k))):J4 (U (.int 0)) x=U (decide (0∈l)):=by
 subst h;change(if(KY 16 (.int 0)&&(l.map λk:Nat=>D.int k).all (KY 16))=V then U (decide (D.int 0∈l.map λk:Nat=>D.int k)) else B)=_
 simp[KY]
def F4 (g:S.one.length<=8) (h:x=U (Et S)):lR x=U (kI.mk ((MW S.one.length).map λr:Nat=>(r:Int)) λr=>.int (vJ S r.toNat:Nat)):=by
 subst h;unfold Et lR;left;rw[n_ (by simp[LZ];lia)]
 congr 2
 .ext vf;simp
 .apply R6
  .simp
  .intro i k j
   simp at k j;let e:=Mq k
   simp[BC e]
structure Fp (X:Sx) (k:Nat) (t:Z (Nat×Int)) (P:Pt):Prop where
 kn:P.ks.Nodup
 rs:P.rs=MW X.S.one.length
 mask:P.mask=vJ X.S
 mem:∀n,n∈P.ks↔(∃r p,r<k/\X.S.spot r p n)\/∃p,(p,n)∈t
 dom:∀n∈P.ks,∃r p,X.S.spot r p n/\(∀c,c∈P.dom n↔JV X.S.oth p c&&& vJ X.S r≠0)/\(P.dom n).Nodup/\(P.dom n).length<=8
def Fp.next (g:X.S.one[k]?=U x) (h:Fp X k (IU x) P):Fp X (k+1) [] P:=
 ⟨h.kn,h.rs,h.mask,λn=>by
  rw[h.mem];simp![Nt,exists_false,or_false];constructor
  .rintro(⟨r,p,u,j⟩|⟨p,j⟩)
   .show⟨r,p,(),j⟩
   .show⟨k,p,⟨⟩,(bM g).mpr j⟩
  .rintro⟨r,p,u,j⟩
   by_cases z:r<k
   .show .inl ⟨r,p,z,j⟩
   .obtain rfl:r=k:=()
    show .inr ⟨p,(bM g).mp j⟩,h.dom⟩
def Fp.fst (h:Fp X X.S.one.length [] P):Fst X.S P:=by
 show⟨λr=>by rw[h.rs];simp,λr _ k=>by rw[h.mask];show uC,λn=>?_,λn j=>?_⟩
 .rw[h.mem]
  simp![Nt,exists_false,or_false];show⟨λ⟨r,p,_,z⟩=>⟨r,p,z⟩,λ⟨r,p,z⟩=>⟨r,p,iK z,z⟩⟩
 .let(r,p,hs,hd,_):=h.dom n j
  show⟨r,p,hs,λc=>?_⟩
  rw[hd,uG];ext KT;rw[h.mask];simp![jJ,zR];show exists_congr λk=>and_comm
def Fp.wf (H:Hs X) (h:Fp X X.S.one.length [] P):Wf X P:=by
 let F:=h.fst;show⟨h.kn,λn k=>H.nsm.mpr ((F.ks n).mp k),by rw[h.rs];show j_,λr j=>(F.rs r).mp j,λn k=>?_,λn k=>?_,λn _ r p hs=>(F.rs r).mpr (iK hs)⟩
 .let(_,_,_,_,z,_):=h.dom n k;show z
 .let(_,_,_,_,_,z):=h.dom n k;show z
def yN {y3:G (D×Bool)}(H:Hs X) (h:Hst X J w) (o:X.S.one[k]?=U x) (A:vJ X.S k≠0) (K:IU x=t++q::u) (p:Pl X J Z7 a b P) (F:Fp X k t P):
  ∃g J',bB ([U (.loc (U "Search") 0,Y),U (.loc (U "Part") Z7,Y),U (.int k,Y),y3,U (.int q.1,Y),U (.int q.2,Y)]++J)=U (.next ([U (.loc (U "Search") 0,Y),U (.loc (U "Part") Z7,Y),U (.int k,Y),y3,U (.int q.1,Y),U (.int q.2,Y)]++J'))/\Pl X J' Z7 a b g/\Fp X k (t++[q]) g/\J'.length=J.length/\∀i,i≠a->J'[i]?=J[i]?:=by
 letI N:DEnv:=[U (.loc (U "Search") 0,Y),U (.loc (U "Part") Z7,Y),U (.int k,Y),y3,U (.int q.1,Y),U (.int q.2,Y)]
 let hs:X.S.spot k q.1 q.2:=(bM o).mpr (by rw[K];simp)
 let d:pw (U (.int q.2)) (L1 6 (N++J) (af 6 "Part" "domains" (N++J) (U (.loc (U "Part") Z7))))=U (decide (q.2∈P.ks)):=p.pa.din (ns:=N) rfl rfl rfl;let R:k∈P.rs:=by rw[F.rs];show NE.mpr (iK hs)
 by_cases z:q.2∈P.ks
 .rw[decide_eq_true z]at d
  show⟨P,J,J6 ((p_ a7 d).trans rfl) rfl,p,⟨F.kn,F.rs,F.mask,λn=>?_,F.dom⟩,rfl,λ_ _=>rfl⟩
  constructor
  .intro j
   show((F.mem n).mp j).imp id λ⟨p,h⟩=>⟨p,MI _ h⟩
  .rintro(j|⟨p,h⟩)
   .show(F.mem n).mpr (.inl j)
   .rcases Mw.mp h with h|h
    .show(F.mem n).mpr (.inr ⟨p,h⟩)
    .rw[show n=q.2 by rw[<-My.mp h]];show z
 .rw[decide_eq_false z]at d
  let W:(q.1:Int)∈X.us:=by
   let(L,f):=nz.mp A;let(c,C):=Go (uC.mp f) hs;show(H.us C).1
  let(dm,e,E,Q,I):=lD (m:=vJ X.S k) (n:=q.2) H h W;let M:h8 6 (N++J) (af 6 "Part" "masks" (N++J) (U (.loc (U "Part") Z7))) (U (.int k))=U (.int (vJ X.S k:Nat)):=by
   have:=p.pa.msk (ns:=N) rfl rfl (y:=U (.int k)) rfl R;rw[F.mask]at this;show this
  let ev:b7 6 "Search" "first_domain" aR (λO=>rY 0 O) (λO=>aa (rY 4 O) (aa (rY 5 O) (aa (h8 6 O (af 6 "Part" "masks" O (rY 1 O)) (rY 2 O)) (U [])))) (N++J)=U (.lst (dm.map KQ)):=by
   show kW (ns:=N) (ds:=[.int q.1,.int q.2,.int (vJ X.S k:Nat)]) rfl rfl (h.at0 H) ∅ ?_ e
   change aa (U (.int q.1)) (aa (U (.int q.2)) (aa (h8 6 (N++J) (af 6 "Part" "masks" (N++J) (U (.loc (U "Part") Z7))) (U (.int k))) (U [])))=_;rw[M];rfl
  letI g:Pt:=⟨cO q.2 P.ks,λn=>if n=q.2 then dm else P.dom n,P.rs,P.mask⟩
  let T:P.ks.length<=1000:=by
   have:=cG F.kn (m:=X.ns) λn j=>by
    let(r,p,hs,_):=F.dom n j;show H.nsm.mpr ⟨r,p,hs⟩
   have:=H.ro.ul;lia
  let s:=kI.putL (ns:=N) (J:=J) (n:=6) (fa:=λO=>af 6 "Part" "domains" O (rY 1 O)) (fk:=λO=>rY 5 O) (a:=q.2) rfl (p.da rfl rfl) rfl ev p.sa T
  let l:kI.mk (cO q.2 P.ks) (λb=>if b=q.2 then D.lst (dm.map KQ) else .lst ((P.dom b).map KQ))=jT g:=kI.cong _ _ _ λn _=>by
   lia
  rw[show kI.mk (cO q.2 P.ks) (λb=>if b=q.2 then D.lst (dm.map KQ) else .lst ((P.dom b).map KQ))=_ from l]at s
  show⟨g,J.set a (U (jT g,V)),JU ((p_ a7 d).trans rfl) s,p.setD rfl,⟨mW F.kn,F.rs,F.mask,λn=>?_,λn j=>?_⟩,by simp,λi hi=>by rw[Mh (λz=>hi z.symm)]⟩
  .rw[aL,F.mem,or_assoc]
   show or_congr QD ⟨?_,?_⟩
   .rintro(⟨p,h⟩|rfl)
    .show⟨p,MI _ h⟩
    .show⟨q.1,by simp⟩
   .rintro⟨p,h⟩
    rcases Mw.mp h with h|h
    .show .inl ⟨p,h⟩
    .show .inr (by rw[<-My.mp h])
  .change ∃r p,X.S.spot r p n/\(∀c,c∈(if n=q.2 then dm else P.dom n)↔_)/\(if n=q.2 then dm else P.dom n).Nodup/\(if n=q.2 then dm else P.dom n).length<=8
   by_cases v:n=q.2
   .simp![n_ v]
    show⟨k,q.1,v▸hs,Q,E,I⟩
   .simp![o_ v]
    show F.dom n ((aL.mp j).resolve_right v)
def uj {fa fb:DEnv->G D}{ns J:DEnv}{d1 d2:D}(k:ns.length=n) (g:fa (ns++J)=U d1) (j:fb (ns++J)=U d2):cP (br fa) (cP (bu n fb) (λO=>U ([],O))) (ns++J)=U ([d1,.loc B J.length],ns++(J++[U (d2,V)])):=by
 ext cP;rw[e9 g];left;rw[lW k j]
def Ib {ga:DEnv->G (D×DEnv)}{fa fb:DEnv->G D}(h:ga O=U (.bl ok,δ1)) (e:(if ok=V then fa δ1 else fb δ1)=U d):DV (ED ga fa fb O)=U (.ret d Y δ1):=by
 ext ED;rw[h];cases ok with
 |true=>change DV (br fa δ1)=_;rw[e9 e];rfl
 |false=>change DV (br fb δ1)=_;rw[e9 e];rfl
def n8 (H:Hs X) (h5:X.ns.length<=5) (h:Hst X J w) (hl:J.length=X.base.length+1):
  (∃J',az [.loc (U "Search") 0] J=U (.non,Y,J')/\∀φ,¬wN X.S.one X.S.oth φ)\/
  (∃J' w' Z7 a b P,az [.loc (U "Search") 0] J=U (.loc (U "Part") Z7,Y,J')/\Hst X J' w'/\Grw 4 w w'/\Pl X J' Z7 a b P/\Wf X P/\Ok X.S P/\(∀φ,Sol X.S P φ↔wN X.S.one X.S.oth φ)/\∀n,n∈P.ks↔∃r p,X.S.spot r p n):=by
 letI N (y1 y2 y3 y4 y5:G (D×Bool)):DEnv:=[U (.loc (U "Search") 0,Y),y1,y2,y3,y4,y5]
 let l1:=H.one.1
 letI l:Z Nat:=X.S.one.map λx=>Kw X.S.oth x
 let e0:J4 (U (.int 0)) (af 6 "Search" "first_masks" (N B B B B B++J) (U (.loc (U "Search") 0)))=U (decide (0∈l)):=IR ((h.fm H (ns:=N B B B B B) rfl rfl).trans (by rw[NU];rfl))
 let base:az [.loc (U "Search") 0] J=eV 6 J (a9 (N B B B B B++J)):=bh rfl
 by_cases z:0∈l
 .show .inl ?_
  rw[decide_eq_true z]at e0;let(J',e,_):=kG (J:=J) (d:=.non) (fr:=Y) (ns:=N B B B B B) (n:=6) (τ:=J) rfl;show⟨J',?_,λφ hL=>?_⟩
  .show(p_ (eV 6 J) (Kq e0 rfl)).trans e
  .let(x,hx,hz):=MC.mp z
   let(k,hk):=MV.mp (hL x hx);have:=Bz.mpr ⟨_,hk,(r6.mp (rfl:Ld φ x=Ld φ x)).1⟩
   simp_all
 .rw[decide_eq_false z]at e0
  let hz:∀k x,X.S.one[k]?=U x->vJ X.S k≠0:=λk x hx hz=>z (MC.mpr ⟨x,Mr hx,by rw[<-BC hx,hz]⟩)
  letI P0:Pt:=⟨[],λ_=>[],MW X.S.one.length,vJ X.S⟩
  letI a:=J.length
  letI b:=J.length+1
  letI Z7:=J.length+2
  letI σ0:DEnv:=J++[U (jT P0,V),U (oW P0,V)]++[U (.ob "Part" aZ [.loc B a,.loc B b],V)]
  let en:fB 1 (rE 6 "Part" aM (cP (bu 6 (λO=>U (.dK [] []))) (cP (bu 6 (λO=>lR (af 6 "Search" "first_masks" O (rY 0 O)))) ((λO=>U ([],O))))) (N B B B B B++J))=U (.next (N (U (.loc (U "Part") Z7,Y)) B B B B++σ0)):=by
   show gM (ns:=N B B B B B) ((v9 (ns:=N B B B B B) rfl (Bj (d1:=.dK [] []) (d2:=oW P0) rfl rfl ?_)).trans ?_)
   .show(p_ lR ?_).trans (F4 l1 rfl)
    let h':Hst X (J++[U (.dK [] [],V)]) w:=h.off λi hi=>by rw[Me ()]
    show h'.fm H (ns:=N B B B B B) rfl rfl
   .rw[MF];rfl
  let pl0:Pl X σ0 Z7 a b P0:=by
   show⟨?_,?_,?_,(),()⟩
   .simp[σ0,Z7]
   .simp[σ0,a]
   .simp[σ0,b]
  let h0:Hst X σ0 w:=h.off λi hi=>by
   change(J++[_,_]++[_])[i]?=_;rw[Qy,Me ()]
  let(δ1,e1,P1,σ1,y2,y3,y4,y5,rfl,p1,F1,len1,o1):=aF (f:=λq:Ja×Nat=>D.tup [.int q.2,.lst ((IU q.1).map JY)]) (body:=λd O=>ac ((aW (ah (ae 2) (ah (ae 3) (aY)))) d O) cB) (λt O=>∃P1 σ1 y2 y3 y4 y5,O=N (U (.loc (U "Part") Z7,Y)) y2 y3 y4 y5++σ1/\Pl X σ1 Z7 a b P1/\Fp X t.length [] P1/\σ1.length=σ0.length/\∀i,i≠a->σ1[i]?=σ0[i]?) (xs:=X.S.one.zipIdx) (pre:=[]) (O:=N (U (.loc (U "Part") Z7,Y)) B B B B++σ0) ⟨P0,σ0,B,B,B,B,rfl,pl0,⟨Nr,rfl,rfl,λn=>by simp[P0],λ_ z=>nomatch z⟩,rfl,λ_ _=>rfl⟩ λt q O ⟨rest,hr⟩ ⟨P1,σ1,y2,y3,y4,y5,hδ,p1,F1,len1,o1⟩=>by
   subst hδ;let(hk,hq):=uq (by trivial)
   let(x,k):=q;subst hk;let(δ2,e2,P2,σ2,z4,z5,rfl,p2,F2,len2,o2):=aF (f:=JY) (body:=λd O=>ac ((aW (ah (ae 4) (ah (ae 5) (aY)))) d O) bB) (λu O=>∃P2 σ2 z4 z5,O=N (U (.loc (U "Part") Z7,Y)) (U (.int t.length,Y)) (U (.lst ((IU x).map JY),Y)) z4 z5++σ2/\Pl X σ2 Z7 a b P2/\Fp X t.length u P2/\σ2.length=σ0.length/\∀i,i≠a->σ2[i]?=σ0[i]?) (xs:=IU x) (pre:=[]) (O:=N (U (.loc (U "Part") Z7,Y)) (U (.int t.length,Y)) (U (.lst ((IU x).map JY),Y)) y4 y5++σ1) ⟨P1,σ1,y4,y5,rfl,p1,F1,len1,o1⟩ λu q O ⟨rest',hr'⟩ ⟨P2,σ2,z4,z5,hδ,p2,F2,len2,o2⟩=>by
    subst hδ;let hs:IU x=u++q::rest':=by simpa using hr'
    let h2:Hst X σ2 w:=h0.off λi hi=>o2 i ()
    let(P3,σ3,e3,p3,F3,len3,o3):=yN (y3:=U (.lst ((IU x).map JY),Y)) H h2 hq (hz _ _ hq) hs p2 F2;show⟨_,aA (a:=N (U (.loc (U "Part") Z7,Y)) (U (.int t.length,Y)) (U (.lst ((IU x).map JY),Y)) (U (.int q.1,Y)) (U (.int q.2,Y))++σ2) rfl e3,P3,σ3,_,_,rfl,p3,F3,by rw[len3,len2],λi hi=>by rw[o3 i hi];show o2 i hi⟩
   show⟨_,aA (a:=N (U (.loc (U "Part") Z7,Y)) (U (.int t.length,Y)) (U (.lst ((IU x).map JY),Y)) y4 y5++σ1) rfl (aA (a:=(IU x).map JY) rfl e2),P2,σ2,_,_,z4,z5,rfl,p2,?_,len2,o2⟩
   rw[MF,NW];show F2.next hq
  rw[Np,PF]at F1;let h1:Hst X σ1 w:=h0.off λi hi=>o1 i ()
  let W1:=F1.wf H;let Fs:=F1.fst
  letI q:=σ1.length
  letI σq:DEnv:=σ1++[U (.lst ((MW X.S.one.length).map λr:Nat=>.int r),V)]
  let len0:σ0.length=J.length+3:=by simp[σ0]
  let oq:∀i,i<σ1.length->σq[i]?=σ1[i]?:=λi hi=>Me hi
  let hq:Hst X σq w:=h1.off λi hi=>oq i ()
  let pq:Pl X σq Z7 a b P1:=p1.off λi hi=>oq i ()
  let(ok,σ2,w2,en2,h2,g2,len2,o2,hok,hno):=rp (q:=q) (W:=MW X.S.one.length) H h5 () hq pq W1 (Fs.iv (λr hr=>by rw[F1.mask];show hz r _ (Mq hr)) λr hr=>NE.mpr hr) (λr hr=>by rw[F1.rs];show hr) (by simp[σq,q]) (by simpa using l1)
  letI N1:DEnv:=N (U (.loc (U "Part") Z7,Y)) y2 y3 y4 y5
  let em:dy 6 "Search" "narrow" aQ (λO=>rY 0 O) (cP (br (λO=>rY 1 O)) (cP (bu 6 (λO=>pN 6 O (af 6 "Part" "masks" O (rY 1 O)))) ((λO=>U ([],O))))) (N1++σ1)=U (.bl ok,N1++σ2):=by
   show lU (ns:=N1) rfl rfl (h1.at0 H) ∅ (uj (ns:=N1) rfl rfl ?_) en2
   let e:=kI.listK (p1.pa N1 6 rfl).2;rw[F1.rs,NU]at e;show e
  let eg:∀d,(if ok=V then U (.loc (U "Part") Z7) else U .non)=U d->a9 (N B B B B B++J)=U (.ret d Y (N1++σ2)):=λd hd=>by
   show KA e0 (LJ rfl (LJ en (LJ (aA (a:=X.S.one.zipIdx.map λq=>D.tup [.int q.2,.lst ((IU q.1).map JY)]) ?_ e1) (Ib em ?_))))
   .show(p_ oU (h0.sp H (ns:=N (U (.loc (U "Part") Z7,Y)) B B B B) rfl rfl)).trans (p_ U (c5 (f:=λr=>.lst ((IU r).map JY)) X.S.one 0))
   assumption
  cases ok with
  |true=>
   let(P',p',W',nr,O'):=hok rfl;show .inr ⟨σ2,w2,Z7,a,b,P',?_,h2,g2,p',W',O',λφ=>(nr.sol φ).symm.trans Fs.sol,λn=>by rw[nr.ks];show Fs.ks n⟩
   show base.trans ((p_ (eV 6 J) (eg _ rfl)).trans (pS (ns:=N1) rfl (by simp[L2.lb,Z7])))
  |false=>
   let(J',e,_):=kG (J:=J) (d:=.non) (fr:=Y) (ns:=N1) (n:=6) (τ:=σ2) rfl;show .inl ⟨J',base.trans ((p_ (eV 6 J) (eg _ rfl)).trans e),λφ L=>hno rfl φ (Fs.sol.mpr L)⟩
def Wf.row (H:Hs X) (f:Wf X P) (k:n∈P.ks):∃r∈P.rs,∃p,X.S.spot r p n:=by
 let(r,p,h):=H.nsm.mp (f.kx n k);show⟨r,f.rr n k r p h,p,h⟩
def BI (P:Pt) (n:Int) (c:Ce):Pt:=⟨P.ks,λm=>if m=n then[c] else P.dom m,P.rs,P.mask⟩
def sZ:Cut S P (BI P n c) n c:=⟨rfl,rfl,λ_=>rfl,λm h=>o_ h,λk=>by change k∈(if n=n then[c] else P.dom n)↔_;simp⟩
def Fw (f:Wf X P):Wf X (BI P n c):=⟨f.kn,f.kx,f.rn,f.rx,λm k=>by
 change(if m=n then[c] else P.dom m).Nodup
 split
 .simp
 .show f.dn m k,λm k=>by
 change(if m=n then[c] else P.dom m).length<=8
 split
 .simp
 .show f.dl m k,f.rr⟩
def yx {us:Z Int}(h:x=U (kI.mk us g)):uB x=U (kI.mk us g):=by subst h;rfl
theorem Hst.list {X:Sx}{J:DEnv}{w:Int->Int}{ns:DEnv}{n:Nat}{x:G D}(h:Hst X J w) (H:Hs X) (g:ns.length=n) (j:x=U (.loc (U "Search") 0)) {m:Int}{y:G D}(k:y=U (.int m)) (u:m∈X.ns):rZ n (ns++J) (h8 n (ns++J) (af n "Search" "rows_of" (ns++J) x) y)=U (.lst ((X.rof m).map λr:Nat=>.int r)):=by
 change xA (xr n (ns++J) _)=_;rw[h.ros H g j k u];rfl
theorem AV (H:Hs X) (h5:X.ns.length<=5) (h:Hst X J w) (pa:∀τ:DEnv,(∀i,i<J.length->τ[i]?=J[i]?)->Pa τ d P) (f:Wf X P) (Z8:Ok X.S P) (hn:n∈P.ks) (hc:c∈P.dom n):
  ∃res J' w',aO [.loc (U "Search") 0,d,.int n,KQ c] J=U (res,Y,J')/\Hst X J' w'/\Grw 4 w w'/\J.length<=J'.length/\(∀i,i<J.length->i≠X.base.length->J'[i]?=J[i]?)/\
   ((res=.non/\∀φ,Sol X.S P φ->φ n≠c)\/∃Z7 a b P',res=.loc (U "Part") Z7/\Pl X J' Z7 a b P'/\Wf X P'/\Ok X.S P'/\(∀φ,Sol X.S P' φ↔Sol X.S P φ/\φ n=c)/\P'.ks=P.ks/\P'.rs=P.rs/\(∀m c',c'∈P'.dom m->c'∈(BI P n c).dom m)/\(J.length<=Z7/\J.length<=a/\J.length<=b)):=by
 let hlw:X.base.length<J.length:=(L9.mp h.w).1
 letI N (y:G (D×Bool)):DEnv:=[U (.loc (U "Search") 0,Y),U (d,Y),U (.int n,Y),U (KQ c,Y),y]
 letI a:=J.length
 letI b:=J.length+1
 letI Z7:=J.length+2
 letI σ0:DEnv:=J++[U (jT P,V),U (oW P,V)]++[U (.ob "Part" aZ [.loc B a,.loc B b],V)]
 let en:fB 4 (rE 5 "Part" aM (cP (bu 5 (λO=>m6 5 O (af 5 "Part" "domains" O (rY 1 O)))) (cP (bu 5 (λO=>m6 5 O (af 5 "Part" "masks" O (rY 1 O)))) ((λO=>U ([],O))))) (N B++J))=U (.next (N (U (.loc (U "Part") Z7,Y))++σ0)):=by
  show gM (ns:=N B) ((v9 (ns:=N B) rfl (Bj (d1:=jT P) (d2:=oW P) rfl ?_ ?_)).trans ?_)
  .show yx ((pa J λ_ _=>rfl) (N B) 5 rfl).1.1
  .show yx ((pa (J++[U (jT P,V)]) λi hi=>Me hi) (N B) 5 rfl).2
  .change U (D.loc (U "Part") (J++[_,_]).length,_)=U (D.loc (U "Part") (J.length+2),_)
   rw[MF];rfl
 let pl0:Pl X σ0 Z7 a b P:=by
  show⟨?_,?_,?_,(),()⟩
  .simp[σ0,Z7]
  .simp[σ0,a]
  .simp[σ0,b]
 let o0:∀i,i<J.length->σ0[i]?=J[i]?:=λi hi=>by
  change(J++[_,_]++[_])[i]?=_;rw[Qy,Me hi]
 let ep:=kI.putL (ns:=N (U (.loc (U "Part") Z7,Y))) (J:=σ0) (n:=5) (fa:=λO=>af 5 "Part" "domains" O (rY 4 O)) (fk:=λO=>rY 2 O) (fv:=λO=>eU (aa (rY 3 O) (U []))) (v:=.lst [KQ c]) (a:=n) rfl (pl0.da rfl rfl) rfl rfl pl0.sa (by
  have:=cG f.kn f.kx;change P.ks.length<=1000;lia)
 let ed:kI.mk (cO n P.ks) (λb=>if b=n then D.lst [KQ c] else .lst ((P.dom b).map KQ))=jT (BI P n c):=by
  rw[kY hn];show kI.cong _ _ _ λm _=>?_
  change _=D.lst ((if m=n then[c] else P.dom m).map KQ)
  split<;>rfl
 rw[show kI.mk (cO n P.ks) (λb=>if b=n then D.lst [KQ c] else .lst ((P.dom b).map KQ))=_ from ed]at ep
 letI σ1:=σ0.set a (U (jT (BI P n c),V))
 let p1:Pl X σ1 Z7 a b (BI P n c):=pl0.setD rfl;let o1:∀i,i<J.length->σ1[i]?=J[i]?:=λi hi=>by
  change(σ0.set _ _)[i]?=_;rw[Mh ()];show o0 i hi
 let len0:σ0.length=J.length+3:=by simp[σ0]
 let len1:σ1.length=J.length+3:=by simp[σ1,len0]
 let h1:Hst X σ1 w:=h.off λi hi=>o1 i ()
 letI q:=σ1.length
 letI σq:DEnv:=σ1++[U (.lst ((X.rof n).map λr:Nat=>.int r),V)]
 let oq:∀i,i<σ1.length->σq[i]?=σ1[i]?:=λi hi=>Me hi
 let hq:Hst X σq w:=h1.off λi hi=>oq i ()
 let pq:Pl X σq Z7 a b (BI P n c):=p1.off λi hi=>oq i ()
 let hrof:∀r,r∈X.rof n->r∈P.rs:=λr hr=>by
  let(p,hs):=(H.ro.mem n r).mp hr;show f.rr n hn r p hs
 let(ok,σ2,w2,en2,h2,g2,len2,o2,hok,hno):=rp (q:=q) (W:=X.rof n) H h5 () hq pq (Fw f) (sZ.iv Z8 hc (λm hm=>f.row H hm) λr _ p hs=>(H.ro.mem n r).mpr ⟨p,hs⟩) hrof (by simp[σq,q]) (H.rof8 n)
 letI N1:=N (U (.loc (U "Part") Z7,Y))
 let em:dy 5 "Search" "narrow" aQ (λO=>rY 0 O) (cP (br (λO=>rY 4 O)) (cP (bu 5 (λO=>rZ 5 O (h8 5 O (af 5 "Search" "rows_of" O (rY 0 O)) (rY 2 O)))) ((λO=>U ([],O))))) (N1++σ1)=U (.bl ok,N1++σ2):=
  lU (ns:=N1) rfl rfl (h1.at0 H) ∅ (uj (ns:=N1) rfl rfl (h1.list H rfl rfl rfl (f.kx n hn))) en2
 let base:aO [.loc (U "Search") 0,d,.int n,KQ c] J=eV 5 J (cq (N B++J)):=bh rfl;let eg:∀d,(if ok=V then U (.loc (U "Part") Z7) else U .non)=U d->cq (N B++J)=U (.ret d Y (N1++σ2)):=λd hd=>by
  show LJ en (LJ ep (Ib em ?_))
  assumption
 let len3:σ2.length=J.length+4:=by rw[len2];simp[σq,len1]
 let o3:∀i,i<J.length->i≠X.base.length->σ2[i]?=J[i]?:=λi hi hb=>by
  rw[o2 i () () () hb,oq i ()];show o1 i hi
 cases ok with
 |true=>
  let(P',p',W',nr,O'):=hok rfl;show⟨_,σ2,w2,base.trans ((p_ (eV 5 J) (eg _ rfl)).trans (pS (ns:=N1) rfl (by simp[L2.lb,Z7]))),h2,g2,(),o3,.inr ⟨Z7,a,b,P',rfl,p',W',O',λφ=>(nr.sol φ).symm.trans (sZ.sol hn hc),nr.ks,nr.rs,nr.sub,()⟩⟩
 |false=>
  let(J',e,he):=kG (J:=J) (d:=.non) (fr:=Y) (ns:=N1) (n:=5) (τ:=σ2) rfl;let o4:∀i,i<J.length->J'[i]?=σ2[i]?:=λi hi=>by
   rcases he with rfl|rfl
   .rfl
   .simp_all
  show⟨_,J',w2,base.trans ((p_ (eV 5 J) (eg _ rfl)).trans e),h2.off λi hi=>o4 i (),g2,?_,λi hi hb=>by rw[o4 i hi];show o3 i hi hb,.inl ⟨rfl,λφ hs hv=>hno rfl φ ((sZ.sol hn hc).mpr ⟨hs,hv⟩)⟩⟩
  rcases he with rfl|rfl
  .lia
  .rw[Nu];lia
section
variable{J:DEnv}{ns:DEnv}{n j:Nat}{d:D}
def HQ {fr:DEnv->G D}{ds:Z D}(k:ns.length=n) (h:fr (ns++J)=U (.loc B j)) (e:J[j]?=U (U (.lst (ds++[d]),V))) (g:ds.length<=1000):uK n fr (ns++J)=U (d,ns++J.set j (U (.lst ds,V))):=by
 ext uK;rw[h];left;rw[r7 k e];left;rw[n_ (by simp[LZ];lia),show(ds++[d])[(ds++[d]).length - 1]?=U d by simp];simp_all
def Hf {fa:DEnv->G D}{O j:DEnv}(h:fa O=U x) (g:gb O=U (k,j)) (e:ix (U x) (U k)=U y):EC fa gb O=U (y,j):=by
 ext EC;rw[h,g];left;rw[e]
def HO {us xs:Z Int}{fa fb:DEnv->G D}(k:ns.length=n) (y:fa (ns++J)=U (.loc B j)) (v:fb (ns++J)=U (kI.mk xs h)) (e:J[j]?=U (U (kI.mk us g,V))) (u:us.length+xs.length<=1000):Ey n fa fb (ns++J)=U (.next (ns++J.set j (U (kI.mk (cD us xs) (λa=>if a∈xs then h a else g a),V)))):=by
 ext Ey;rw[y,v];left;rw[zJ k e (kI.dc _ _)];left;rw[Ft u rfl rfl];simp_all
end
def tt {α:Type}(us:Z α) (k:Z α->(α->D)->D):D:=k us λ_=>.bl V
section
variable{α:Type}[DecidableEq α] {k:KK α}{rows:Z α}{L:α->Z Int}{us:Z Int}
def kg (rows:Z α) (L:α->Z Int) (n:Int):Z α:=rows.filter λr=>decide (n∈L r)
def mT (k:KK α) (rows:Z α) (L:α->Z Int):D:=k.mk rows λr=>.lst ((L r).map D.int)
def A5 (k:KK α) (rows:Z α) (L:α->Z Int) (us:Z Int):D:=kI.mk us λn=>.lst ((kg rows L n).map k.key)
structure Ls (rows:Z α) (L:α->Z Int) (us:Z Int):Prop where
 rn:rows.Nodup
 rl:rows.length<=12
 nd:∀r∈rows,(L r).Nodup
 ll:∀r∈rows,(L r).length<=4
 un:us.Nodup
 ul:us.length<=48
 us:∀n,n∈us↔∃r∈rows,n∈L r
structure Ci (rows:Z α) (L:α->Z Int) (us:Z Int) (S0:Z Int) (n0:Int) (old:α->Prop) (C:Z α) (W S:Z Int):Prop where
 cn:C.Nodup
 cr:∀r∈C,r∈rows
 sn:S.Nodup
 su:∀n∈S,n∈us
 s0:∀n∈S0,n∈S
 w:∀n∈W,n∈S/\(n=n0\/n∉S0)
 nw:∀n∈S,n=n0\/n∉S0->n∈W\/∀r∈rows,n∈L r->r∈C
 cs:∀r∈C,∀n∈L r,n∈S
 sc:∀n∈S,n∉S0->∃r∈C,n∈L r
 no:∀r∈C,¬old r
structure Old (rows:Z α) (L:α->Z Int) (S0:Z Int) (n0:Int) (old:α->Prop):Prop where
 mem:∀r n,old r->n∈L r->n∈S0/\n≠n0
 cl:∀n∈S0,n≠n0->∀r∈rows,n∈L r->old r
structure Cj (rows:Z α) (L:α->Z Int) (us:Z Int) (S0:Z Int) (n0:Int) (old:α->Prop) (C:Z α) (W S:Z Int) (n1:Int) (done:Z α):Prop where
 cn:C.Nodup
 cr:∀r∈C,r∈rows
 sn:S.Nodup
 su:∀n∈S,n∈us
 s0:∀n∈S0,n∈S
 w:∀n∈W,n∈S/\(n=n0\/n∉S0)
 nw:∀n∈S,n=n0\/n∉S0->n∈W\/n=n1\/∀r∈rows,n∈L r->r∈C
 cs:∀r∈C,∀n∈L r,n∈S
 sc:∀n∈S,n∉S0->∃r∈C,n∈L r
 no:∀r∈C,¬old r
 n1:n1∈S/\(n1=n0\/n1∉S0)
 dn:∀r∈done,r∈C
variable{S0 W S:Z Int}{n0 n1:Int}{old:α->Prop}{C done:Z α}
def Ci.pop (h:Ci rows L us S0 n0 old C (W++[n1]) S):Cj rows L us S0 n0 old C W S n1 []:=by
 show⟨h.cn,h.cr,h.sn,h.su,h.s0,λn k=>h.w n (MI _ k),λn k hz=>?_,h.cs,h.sc,h.no,h.w n1 (by simp),λ_ z=>nomatch z⟩
 rcases h.nw n k hz with z|z
 .grind
 .show .inr (.inr z)
def Cj.fin (h:Cj rows L us S0 n0 old C W S n1 (kg rows L n1)):Ci rows L us S0 n0 old C W S:=by
 show⟨h.cn,h.cr,h.sn,h.su,h.s0,h.w,λn g hz=>?_,h.cs,h.sc,h.no⟩
 rcases h.nw n g hz with z|rfl|z
 .show .inl z
 .show .inr λr j k=>h.dn r (Nk.mpr ⟨j,decide_eq_true k⟩)
 .show .inr z
def Cj.skip (h:Cj rows L us S0 n0 old C W S n1 done) {r:α}(j:r∈C):Cj rows L us S0 n0 old C W S n1 (done++[r]):=
 ⟨h.cn,h.cr,h.sn,h.su,h.s0,h.w,h.nw,h.cs,h.sc,h.no,h.n1,λq k=>by
  rcases Mw.mp k with z|z
  .show h.dn q z
  simp_all⟩
def Cj.add (H:Ls rows L us) (Z8:Old rows L S0 n0 old) (h:Cj rows L us S0 n0 old C W S n1 done) {r:α}(t:r∈rows) (k:n1∈L r) (c:r∉C) (Tt:Z Int) (p:∀n,n∈Tt↔n∈L r/\n∉S):Cj rows L us S0 n0 old (C++[r]) (W++Tt) (cD S Tt) n1 (done++[r]):=by
 let g:∀n,n∈cD S Tt↔n∈S\/n∈Tt:=λn=>i6
 show⟨?_,λq j=>?_,oF h.sn,λn k=>?_,λn k=>(g n).mpr (.inl (h.s0 n k)),λn k=>?_,λn k hz=>?_,λq j n u=>?_,λn k hz=>?_,λq j=>?_,⟨(g n1).mpr (.inl h.n1.1),h.n1.2⟩,λq j=>?_⟩
 .rw[NQ];show⟨h.cn,by simp,λa f b d e=>c (by simp_all)⟩
 .rcases Mw.mp j with z|z
  .show h.cr q z
  simp_all
 .rcases(g n).mp k with z|z
  .show h.su n z
  .show(H.us n).mpr ⟨r,t,((p n).mp z).1⟩
 .rcases Mw.mp k with z|z
  .show⟨(g n).mpr (.inl (h.w n z).1),(h.w n z).2⟩
  .show⟨(g n).mpr (.inr z),.inr λw=>((p n).mp z).2 (h.s0 n w)⟩
 .rcases(g n).mp k with z|z
  .rcases h.nw n z hz with w|w|w
   .show .inl (MI _ w)
   .show .inr (.inl w)
   .show .inr (.inr λq j u=>MI _ (w q j u))
  .show .inl (PM _ z)
 .rcases Mw.mp j with z|z
  .show(g n).mpr (.inl (h.cs q z n u))
  grind
 .rcases(g n).mp k with z|z
  .let(q,y,v):=h.sc n z hz;show⟨q,MI _ y,v⟩
  simp_all
 .rcases Mw.mp j with z|z
  .show h.no q z
  .rw[My.mp z]
   intro ho;let(y,v):=Z8.mem r n1 ho k
   rcases h.n1.2 with z|z
   .show v z
   .show z y
 .rcases Mw.mp j with z|z
  .show MI _ (h.dn q z)
  .show PM _ z
def Ci.fin (Z8:Old rows L S0 n0 old) (h:Ci rows L us S0 n0 old C [] S):(∀r∈C,∀n∈L r,∀q∈rows,n∈L q->q∈C)/\(∀n,n∈S↔n∈S0\/∃r∈C,n∈L r):=by
 show⟨λr k n j q u g=>?_,λn=>⟨λj=>?_,?_⟩⟩
 .let hs:=h.cs r k n j
  let hz:n=n0\/n∉S0:=by
   by_cases z:n=n0
   .show .inl z
   .show .inr λw=>h.no r k (Z8.cl n w z r (h.cr r k) j)
  rcases h.nw n hs hz with z|z
  .ext z
  simp_all
 .by_cases z:n∈S0
  .show .inl z
  .show .inr (h.sc n j z)
 .rintro(z|⟨r,k,z⟩)
  .show h.s0 n z
  .show h.cs r k n z
end
section
variable{α:Type}[DecidableEq α] {k:KK α}{rows:Z α}{L:α->Z Int}{us:Z Int}{S0 W S:Z Int}{n0 n1:Int}{old:α->Prop}{C done:Z α}
abbrev LN (S:Z Int):D:=kI.mk S λ_=>.bl V
def Fn (k:KK α) (rows:Z α) (L:α->Z Int) (us:Z Int) (n0:Int) (js j:Nat) (C:Z α) (a b c d:G (D×Bool)):DEnv:=[U (.int n0,Y),U (mT k rows L,Y),U (A5 k rows L us,Y),U (.loc B js,Y),U (k.mk C λ_=>.bl V,V),U (.loc B j,Y),a,b,c,d]
def Gz {us:Z α}{g:α->D}{a:α}(u:x=U (k.mk us g)) (j:y=U (k.key a)):a7 (pw y x)=U (!decide (a∈us)):=by rw[k.din u j];rfl
def zN (H:Ls rows L us) (Z8:Old rows L S0 n0 old) {js u:Nat}(o:js≠u) (hs:J[js]?=U (U (LN S,V))) (l:J[u]?=U (U (.lst (W.map D.int),V))) (h:Cj rows L us S0 n0 old C W S n1 done) (hw:W.length<=100) {r:α}(q:r∈rows) (Q:n1∈L r) {a b c d:G (D×Bool)}:
  ∃N x s J' b' c' d',cK (Fn k rows L us n0 js u C a (U (k.key r,Y)) c d++J)=U (.next (Fn k rows L us n0 js u N a b' c' d'++J'))/\J'[js]?=U (U (LN s,V))/\J'[u]?=U (U (.lst (x.map D.int),V))/\(∀i,i≠js->i≠u->J'[i]?=J[i]?)/\J'.length=J.length/\Cj rows L us S0 n0 old N x s n1 (done++[r])/\x.length+S.length=W.length+s.length:=by
 let P:S.length<=48:=ME (cG h.sn h.su) H.ul;let A:C.length<=12:=ME (cG h.cn h.cr) H.rl
 by_cases z:r∈C
 .show⟨C,W,S,J,U (k.key r,Y),c,d,J6 ((Gz (k:=k) rfl rfl).trans (by simp[z])) rfl,hs,l,λ_ _ _=>rfl,rfl,h.skip z,rfl⟩
 .letI Tt:=(L r).filter λn=>!decide (n∈S)
  let K:∀n,n∈Tt↔n∈L r/\n∉S:=λn=>by change n∈(L r).filter _↔_;rw[Nk];simp
  let un:Tt.Nodup:=(H.nd r q).filter _;let ul:Tt.length<=4:=ME (MS ..) (H.ll r q);let ll:=H.ll r q;let F:cD [] Tt=Tt:=by rw[l6 (by trivial)];rfl
  let m:cD S Tt=S++Tt:=l6 (by
   rw[NQ];show⟨h.sn,un,λa M b X e=>((K b).mp X).2 (e▸M)⟩)
  let I:cO r C=C++[r]:=o_ z;let t:=(L9.mp hs).1
  let f:=(L9.mp l).1
  letI E (c:G (D×Bool)):=Fn k rows L us n0 js u (C++[r]) a (U (k.key r,Y)) c d
  let e1:nS 4 (rY 7 (Fn k rows L us n0 js u C a (U (k.key r,Y)) c d++J)) (U (.bl V)) (Fn k rows L us n0 js u C a (U (k.key r,Y)) c d++J)=U (.next (E c++J)):=by
   show(k.putO (us:=C) (g:=λ_=>.bl V) (a:=r) (d:=.bl V) rfl rfl rfl ()).trans ?_
   have:(λb=>if b=r then D.bl V else D.bl V)=λ_=>.bl V:=by funext b;split<;>rfl
   rw[I,this];rfl
  let e2:au (ac (aV (ix (rY 1 (E c++J)) (rY 7 (E c++J)))) (bS Y [Y,Y,Y,V,Y,Y,Y,Y,Y,Y] (ae 9) (λO=>a7 (pw (rY 9 O) (L1 10 O (rY 3 O)))) fM (E c++J)))=U (.lst (Tt.map D.int)):=by
   let el:ix (rY 1 (E c++J)) (rY 7 (E c++J))=U (.lst ((L r).map D.int)):=k.dix rfl rfl q;show jk (ds:=(L r).map D.int) (by rw[el];rfl) ⋯ rfl (bU (p:=λn=>!decide (n∈S)) λn _=>?_) (by rw[Ms];show ME ul ⟨⟩)
   show IX (ε':=[B,B,B,U (.loc B js,Y),B,B,B,B,B,U (.int n,Y)]++J) rfl (Gz (k:=kI) (cY (n:=10) rfl hs rfl) rfl) λ_=>rfl
  letI j:=J.set js (U (LN (cD S Tt),V))
  let T:j[js]?=U (U (LN (cD S Tt),V)):=Mz t
  let R:j[u]?=U (U (.lst (W.map D.int),V)):=by change(J.set _ _)[u]?=_;rw[Mh o];show l
  letI v:=E (U (.lst (Tt.map D.int),Y))
  let e3:Ey 10 (λO=>rY 3 O) (λO=>ic (au (ac (aV (rY 8 O)) (bS Y [Y,Y,Y,Y,Y,Y,Y,Y,Y,Y] (ae 9) (λO=>U V) cH O)))) (v++J)=U (.next (v++j)):=by
   let ed:ic (au (ac (aV (rY 8 (v++J))) (bS Y [Y,Y,Y,Y,Y,Y,Y,Y,Y,Y] (ae 9) (λO=>U V) cH (v++J))))=U (LN Tt):=by
    show(sT (xs:=Tt) (h:=λ_=>.bl V) (jk (ds:=Tt.map D.int) (ε:=[B,B,B,B,B,B,B,B,B,B]++J) rfl (by rw[Ms];lia) rfl (bK λn _=>K5 (rT rfl rfl)) (by rw[Ms];lia)) ()).trans (by rw[F])
   show(HO (ns:=v) (us:=S) (xs:=Tt) rfl rfl ed hs ()).trans ?_
   have:(λa=>if a∈Tt then D.bl V else D.bl V)=λ_=>.bl V:=by funext b;split<;>rfl
   rw[this]
  letI y:=j.set u (U (.lst ((W++Tt).map D.int),V))
  let e4:DR 10 (br λO=>rY 5 O) (λO=>rY 8 O) (v++j)=U (.next (v++y)):=(FB (ns:=v) rfl (e9 rfl) R rfl ⋯).trans (by rw[<-Mu])
  show⟨C++[r],W++Tt,cD S Tt,y,U (k.key r,Y),U (.lst (Tt.map D.int),Y),d,?_,?_,?_,λi h1 h2=>?_,by simp[y,j],h.add H Z8 q Q z Tt K,?_⟩
  .show JU ((Gz (k:=k) rfl rfl).trans (by simp[z])) (LJ e1 (Ka (d:=.lst (Tt.map D.int)) e2 ?_))
   show LJ e3 e4
  .change(j.set _ _)[js]?=_
   rw[Mh (λw=>o w.symm)];show T
  .show Mz (by simp[j];show f)
  .change((J.set _ _).set _ _)[i]?=_
   rw[Mh (λw=>h2 w.symm),Mh (λw=>h1 w.symm)]
  .rw[m,MF,MF];lia
def lB (hk0:k.mk [] (λ_=>.bl V)=.dK [] []) (H:Ls rows L us) (Z8:Old rows L S0 n0 old) (h0:n0∈us) (sn:S0.Nodup) (su:∀n∈S0,n∈us) (hn0:n0∈S0) {js:Nat}(hs:J[js]?=U (U (LN S0,V))):
  ∃C S J',zA6 [.int n0,mT k rows L,A5 k rows L us,.loc B js] J=U (.lst (C.map k.key),Y,J')/\J'[js]?=U (U (LN S,V))/\(∀i,i<J.length->i≠js->J'[i]?=J[i]?)/\Ci rows L us S0 n0 old C [] S/\∃r∈C,n0∈L r:=by
 let A:=(L9.mp hs).1
 letI g:=J.length
 letI σ0:DEnv:=J++[U (.lst [.int n0],V)]
 let P:=eC (t:=cL) (b:=fH) (λm O=>∃C W S J' a b c d,O=Fn k rows L us n0 js g C a b c d++J'/\J'[js]?=U (U (LN S,V))/\J'[g]?=U (U (.lst (W.map D.int),V))/\(∀i,i<J.length->i≠js->J'[i]?=J[i]?)/\Ci rows L us S0 n0 old C W S/\m+S.length=W.length+48/\m<=49) (λO=>∃C S J' a b c d,O=Fn k rows L us n0 js g C a b c d++J'/\J'[js]?=U (U (LN S,V))/\(∀i,i<J.length->i≠js->J'[i]?=J[i]?)/\Ci rows L us S0 n0 old C [] S) (λ_ _ _=>False) (λm O ⟨C,W,S,J',a,b,c,d,p,hs,hq,ho,u,hm,hm2⟩=>by
  subst p;let et:cL (Fn k rows L us n0 js g C a b c d++J')=U (!W.isEmpty):=(p_ jD (cY (ns:=Fn k rows L us n0 js g C a b c d) (n:=10) rfl hq rfl)).trans (by ext W<;>rfl)
  rcases PN W with rfl|⟨W,n1,rfl⟩
  .show .inl ⟨et,C,S,J',a,b,c,d,rfl,hs,ho,u⟩
  .rw[PP]at*
   show .inr (.inl ⟨et.trans (by simp),?_⟩)
   let hsl:S.length<=48:=ME (cG u.sn u.su) H.ul;simp at hm;let h1u:n1∈us:=u.su n1 (u.w n1 (by simp)).1
   letI σ1:=J'.set g (U (.lst (W.map D.int),V))
   let N:js≠g:=()
   let X:=(L9.mp hq).1
   let e1:fB 6 (EC (λO=>rY 2 O) (uK 10 (λO=>rY 5 O)) (Fn k rows L us n0 js g C a b c d++J'))=U (.next (Fn k rows L us n0 js g C (U (.lst ((kg rows L n1).map k.key),Y)) b c d++σ1)):=by
    show gM (ns:=Fn k rows L us n0 js g C a b c d) (Hf rfl (HQ (ns:=Fn k rows L us n0 js g C a b c d) (d:=.int n1) rfl rfl (by rw[hq,Mu];rfl) ⋯) ?_)
    show kI.dix rfl rfl h1u
   let(δ2,e2,s,l,v,j,b2,T,d2,rfl,I,Q,o2,l2,y,m2):=aF (f:=k.key) (body:=λd O=>ac ((ae 7) d O) cK) (λt O=>∃s l v j b2 T d2,O=Fn k rows L us n0 js g s (U (.lst ((kg rows L n1).map k.key),Y)) b2 T d2++j/\j[js]?=U (U (LN v,V))/\j[g]?=U (U (.lst (l.map D.int),V))/\(∀i,i≠js->i≠g->j[i]?=σ1[i]?)/\j.length=σ1.length/\Cj rows L us S0 n0 old s l v n1 t/\l.length+S.length=W.length+v.length) (xs:=kg rows L n1) (pre:=[]) (O:=Fn k rows L us n0 js g C (U (.lst ((kg rows L n1).map k.key),Y)) b c d++σ1) ⟨C,W,S,σ1,b,c,d,rfl,by change(J'.set _ _)[js]?=_;rw[Mh (λw=>N w.symm)];show hs,Mz X,λ_ _ _=>rfl,rfl,u.pop,rfl⟩ λt r O ⟨o,hr⟩ ⟨s,l,v,j,b2,T,d2,p,I,Q,o2,l2,y,m2⟩=>by
    subst p;let hk:r∈kg rows L n1:=by
     have:kg rows L n1=t++r::o:=by simpa using hr
     rw[this];simp
    let(q,R):=Nk.mp hk;let K:v.length<=48:=ME (cG y.sn y.su) H.ul;let(C3,W3,S3,F,b3,c3,d3,e3,s3,q3,o3,l3,j3,m3):=zN (k:=k) (a:=U (.lst ((kg rows L n1).map k.key),Y)) (b:=b2) (c:=T) (d:=d2) H Z8 N I Q y () q (of_decide_eq_true R)
    show⟨_,aA (a:=Fn k rows L us n0 js g s (U (.lst ((kg rows L n1).map k.key),Y)) (U (k.key r,Y)) T d2++j) rfl e3,C3,W3,S3,F,b3,c3,d3,rfl,s3,q3,λi q R=>by rw[o3 i q R];show o2 i q R,by rw[l3,l2],j3,()⟩
   show⟨_,l.length+48 - v.length,LJ e1 (aA (a:=(kg rows L n1).map k.key) rfl e2),?_,s,l,v,j,_,_,_,_,rfl,I,Q,λi hi q=>?_,y.fin,?_,?_⟩
   .let K:v.length<=48:=ME (cG y.sn y.su) H.ul
    lia
   .rw[o2 i q ()]
    change(J'.set _ _)[i]?=_;rw[Mh ()];show ho i hi q
   .let K:v.length<=48:=ME (cG y.sn y.su) H.ul
    lia
   .lia) 1000 (49 - S0.length) (Fn k rows L us n0 js g [] B B B B++σ0) ⟨[],[n0],S0,σ0,B,B,B,B,rfl,by change(J++_)[js]?=_;rw[Me A];show hs,by simp[σ0,g],λi hi _=>Me hi,⟨Nr,(λ_ z=>nomatch z),sn,su,λ_ z=>z,λn x=>by simp_all,λn x hz=>by
    simp;lia,(λ_ z=>nomatch z),λn x hz=>absurd x hz,λ_ z=>nomatch z⟩,by
    have:S0.length<=48:=ME (cG sn su) H.ul;simp;lia,⟨⟩⟩ ()
 rcases P with⟨δ',e,C,S,J',a,b,c,d,rfl,s',o',u⟩|⟨_,_,_,_,h⟩
 .let(τ,eτ,M):=kG (J:=J) (d:=.lst (C.map k.key)) (fr:=Y) (ns:=[U (.int n0,Y),U (mT k rows L,Y),U (A5 k rows L us,Y),U (.loc B js,Y),U (k.mk C λ_=>.bl V,Y),U (.loc B g,Y),a,b,c,d]) (n:=10) (τ:=J') rfl
  let E:∀i,i<J.length->τ[i]?=J'[i]?:=λi hi=>by
   rcases M with rfl|rfl
   .rfl
   .simp_all
  show⟨C,S,τ,?_,by simp_all,λi hi q=>by rw[E i hi];show o' i hi q,u,?_⟩
  .show(bh rfl).trans ((p_ (eV 10 J) ?_).trans eτ)
   show Ka (d:=k.mk [] λ_=>.bl V) ?_ (LJ (gM (ns:=[U (.int n0,Y),U (mT k rows L,Y),U (A5 k rows L us,Y),U (.loc B js,Y),U (k.mk [] λ_=>.bl V,V),B,B,B,B,B]) (lW (ns:=[U (.int n0,Y),U (mT k rows L,Y),U (A5 k rows L us,Y),U (.loc B js,Y),U (k.mk [] λ_=>.bl V,V),B,B,B,B,B]) (J:=J) (d:=.lst [.int n0]) rfl rfl)) (LJ e ?_))
   .rw[hk0]
   .show LY (k.listK rfl)
  .let(r,hr,x):=(H.us n0).mp h0
   rcases u.nw n0 (u.s0 n0 hn0) (.inl rfl)with z|z
   .ext z
   .show⟨r,z r hr x,x⟩
 .show h.elim
end
section
variable{J:DEnv}{ns:DEnv}{n j i:Nat}{d:D}
def HU {fs:DEnv->G (Z D)}{ds:Z D}{J':DEnv}(k:ns.length=n) (hs:fs (ns++J)=U ds) (j:f ds J=U (d,Y,J')):mO n f (bX fs) (ns++J)=U (d,ns++J'):=by
 ext mO;rw[fL hs];simp_all
def HG {ga:DEnv->G (D×DEnv)}{ds:Z D}{J':DEnv}(j:dh i O=U (.lst ds)) (k:ga O=U (d,ns++J')) (g:ds.length<=1000) (hi:QC i ns.length=V:=by rfl):Es i ga O=U (.next (ns.set i (U (.lst (ds++[d]),V))++J')):=by
 ext Es;rw[j,k];left;rw[n_ (by simp[LZ];lia),Hb (PV.mp hi)]
end
section
variable{α:Type}[DecidableEq α] {k:KK α}{rows:Z α}{L:α->Z Int}{us S:Z Int}
def IY (pre:Z α) (L:α->Z Int) (r:α) (t:Z Int) (n:Int):Z α:=kg pre L n++if n∈t then[r] else[]
def BZ {pre:Z α}{r:α}:IY pre L r (L r) n=kg (pre++[r]) L n:=by
 unfold IY kg
 grind
def w8 (H:Ls rows L us):∃y2 y3 y4 J us' j,av (λd O=>ac ((aW (ah (ae 2) (ah (ae 3) (aY)))) d O) gf) (rows.map λr=>D.tup [k.key r,.lst ((L r).map D.int)]) ([U (mT k rows L,Y),U (.loc B 0,Y),B,B,B,B,B]++[U (.dK [] [],V)])=U (.next ([U (mT k rows L,Y),U (.loc B 0,Y),y2,y3,y4,B,B]++J))/\DS kI 1 J 0 us' j (λn=>.lst ((kg rows L n).map k.key))/\us'.length<=48/\∀n,n∈us'↔∃r∈rows,n∈L r:=by
 let(δ1,e1,y2,y3,y4,J,us',j,rfl,D1,ul,um):=aF (f:=λr=>D.tup [k.key r,.lst ((L r).map D.int)]) (body:=λd O=>ac ((aW (ah (ae 2) (ah (ae 3) (aY)))) d O) gf) (λpre O=>∃y2 y3 y4 J us' j,O=[U (mT k rows L,Y),U (.loc B 0,Y),y2,y3,y4,B,B]++J/\DS kI 1 J 0 us' j (λn=>.lst ((kg pre L n).map k.key))/\us'.length<=4*pre.length/\∀n,n∈us'↔∃r∈pre,n∈L r) (xs:=rows) (pre:=[]) (O:=[U (mT k rows L,Y),U (.loc B 0,Y),B,B,B,B,B]++[U (.dK [] [],V)]) ⟨B,B,B,_,[],λ_=>0,rfl,⟨Nr,Mj _,rfl,(λ_ z=>nomatch z),λ_ z=>nomatch z⟩,Mj _,λn=>by simp⟩ λpre r O ⟨rest,hr⟩ ⟨y2,y3,y4,J,us',j,hδ,D1,ul,um⟩=>by
  subst hδ;let hrw:rows=pre++r::rest:=by simpa using hr
  let hrr:r∈rows:=by rw[hrw];simp
  let hpl:pre.length<12:=by have:=H.rl;rw[hrw]at this;simp at this;lia
  let ll:=H.ll r hrr;let(δ2,e2,z4,σ2,us2,j2,rfl,D2,ul2,um2):=aF (f:=D.int) (body:=λd O=>ac ((ae 4) d O) jG) (λt O=>∃z4 J us' j,O=[U (mT k rows L,Y),U (.loc B 0,Y),U (k.key r,Y),U (.lst ((L r).map D.int),Y),z4,B,B]++J/\DS kI 1 J 0 us' j (λn=>.lst ((IY pre L r t n).map k.key))/\us'.length<=4*pre.length+t.length/\∀n,n∈us'↔(∃r∈pre,n∈L r)\/n∈t) (xs:=L r) (pre:=[]) (O:=[U (mT k rows L,Y),U (.loc B 0,Y),U (k.key r,Y),U (.lst ((L r).map D.int),Y),y4,B,B]++J) ⟨y4,J,us',j,rfl,D1.congr λn _=>by ext IY;simp,ul,λn=>by rw[um];simp⟩ λt n O ⟨rest',hr'⟩ ⟨z4,J,us',j,hδ,D1,ul,um⟩=>by
   subst hδ;let hL:L r=t++n::rest':=by simpa using hr'
   let hnt:n∉t:=λz=>by
    have:=H.nd r hrr
    grind
   let htl:t.length<4:=by rw[hL]at ll;simp at ll;lia
   let(J',j',e,D2,_,_):=DS.app (k:=kI) (n:=7) (a:=n) (l:=λn=>(IY pre L r t n).map k.key) D1 () (ns:=[U (mT k rows L,Y),U (.loc B 0,Y),U (k.key r,Y),U (.lst ((L r).map D.int),Y),U (.int n,Y),B,B]) rfl (fa:=λO=>rY 1 O) (fk:=λO=>rY 4 O) (fe:=λO=>eU (U [])) (fv:=λO=>rY 2 O) (v:=k.key r) rfl rfl rfl (λ_=>rfl) (λz=>by
    unfold IY kg
    simp_all) (by
    unfold IY kg;rw[o_ hnt,PC,Ms];show ME (MS ..) ())
   show⟨_,aA rfl e,U (.int n,Y),J',cO n us',j',rfl,D2.congr λb hb=>?_,?_,λb=>?_⟩
   .by_cases z:b=n
    .subst z
     ext IY;rw[o_ hnt,n_ (by simp)];simp
    .rw[o_ z,n_ ((aL.mp hb).resolve_right z)]
     ext IY;simp[z]
   .have:=gI (a:=n) (us:=us');simp;lia
   .rw[aL,um,or_assoc];simp
  rw[Np]at ul2;show⟨_,aA (a:=[U (mT k rows L,Y),U (.loc B 0,Y),U (k.key r,Y),U (.lst ((L r).map D.int),Y),y4,B,B]++J) rfl (aA (a:=(L r).map D.int) rfl e2),_,_,z4,σ2,us2,j2,rfl,D2.congr λn _=>by rw[Np,BZ],by simp;lia,λn=>?_⟩
  simp_all
 rw[Np]at D1 ul um;show⟨y2,y3,y4,J,us',j,e1,D1,by have:=H.rl;lia,um⟩
structure KI (rows:Z α) (L:α->Z Int) (us:Z Int) (Ks:Z (Z α)) (S:Z Int):Prop where
 sn:S.Nodup
 su:∀n∈S,n∈us
 kk:∀K∈Ks,K.Nodup/\(∀r∈K,r∈rows)/\(∀r∈K,∀n∈L r,∀q∈rows,n∈L q->q∈K)/\∃r∈K,∃n,n∈L r
 dis:Ks.Pairwise λA Tx=>∀r∈A,r∉Tx
 sm:∀n,n∈S↔∃K∈Ks,∃r∈K,n∈L r
abbrev Ll (k:KK α) (K:Z α):D:=.lst (K.map k.key)
def sD (hk0:k.mk [] (λ_=>.bl V)=.dK [] []) (hkl:∀a,lb 0 (k.key a)=V) (rn:rows.Nodup) (rl:rows.length<=12) (nd:∀r∈rows,(L r).Nodup) (ll:∀r∈rows,(L r).length<=4):
  ∃Ks us S,zC2 [mT k rows L]=U (.lst (Ks.map (Ll k)),V)/\KI rows L us Ks S/\(∀r∈rows,∀n∈L r,∃K∈Ks,r∈K)/\Ks.length<=48:=by
 let fl:(rows.flatMap L).length<=48:=by
  have:=kf (xs:=rows) (h:=L) (k:=4) ll;lia
 let H0:Ls rows L (cD [] (rows.flatMap L)):=⟨rn,rl,nd,ll,oF Nr,by have:=ki (us:=[]) (xs:=rows.flatMap L);simp at this;simp at fl;lia,λn=>by rw[i6];simp⟩
 let(y2,y3,y4,J,us,j,e1,D1,ul,um):=w8 (k:=k) H0;let H:Ls rows L us:=⟨rn,rl,nd,ll,D1.nd,ul,um⟩;let(σ1,ef,_):=D1.frz (n:=7) (i:=1) (ns:=[U (mT k rows L,Y),U (.loc B 0,Y),y2,y3,y4,B,B]) (λa _=>rfl) rfl rfl
 letI js:=σ1.length
 letI E (y4:G (D×Bool)) (Ks:Z (Z α)):DEnv:=[U (mT k rows L,Y),U (A5 k rows L us,Y),y2,y3,y4,U (.lst (Ks.map (Ll k)),V),U (.loc B js,Y)]
 let(δ2,e2,z4,Ks,S,σ2,rfl,s2,h2,kl,ks):=aF (f:=D.int) (body:=λd O=>ac ((ae 4) d O) jS) (λt O=>∃z4 Ks S σ2,O=E z4 Ks++σ2/\σ2[js]?=U (U (LN S,V))/\KI rows L us Ks S/\Ks.length<=t.length/\∀n∈t,n∈S) (xs:=us) (pre:=[]) (O:=E y4 []++(σ1++[U (LN [],V)])) ⟨y4,[],[],_,rfl,by simp[js],⟨Nr,(λ_ z=>nomatch z),(λ_ z=>nomatch z),Q4,λn=>by simp⟩,Mj _,λ_ z=>nomatch z⟩ λt n O ⟨rest,hr⟩ ⟨z4,Ks,S,σ2,hδ,s2,h2,kl,ks⟩=>by
  subst hδ;let hu:us=t++n::rest:=by simpa using hr
  let hnu:n∈us:=by rw[hu];simp
  let htl:t.length<48:=by rw[hu]at ul;simp at ul;lia
  let ed:a7 (pw (U (.int n)) (L1 7 (E (U (.int n,Y)) Ks++σ2) (U (.loc B js))))=U (!decide (n∈S)):=Gz (k:=kI) (cY (ns:=E (U (.int n,Y)) Ks) rfl s2 rfl) rfl
  by_cases z:n∈S
  .show⟨_,aA (a:=E (U (.int n,Y)) Ks++σ2) rfl (J6 (ed.trans (by simp[z])) rfl),U (.int n,Y),Ks,S,σ2,rfl,s2,h2,by simp;lia,λm hm=>?_⟩
   rcases Mw.mp hm with hm|hm
   .show ks m hm
   .simp_all
  .let js':=(L9.mp s2).1
   let hsl:S.length<=48:=ME (cG h2.sn h2.su) ul;let iS:cO n S=S++[n]:=o_ z;let ndS:(S++[n]).Nodup:=iS▸mW h2.sn
   letI σ3:=σ2.set js (U (LN (S++[n]),V))
   let ep:putL 7 (λO=>rY 6 O) (λO=>rY 4 O) (λO=>U (.bl V)) (E (U (.int n,Y)) Ks++σ2)=U (.next (E (U (.int n,Y)) Ks++σ3)):=by
    show(kI.putL (ns:=E (U (.int n,Y)) Ks) (us:=S) (a:=n) rfl rfl rfl rfl s2 ()).trans ?_
    have:(λb=>if b=n then D.bl V else D.bl V)=λ_=>.bl V:=by funext b;split<;>rfl
    rw[iS,this]
   let Z8:Old rows L (S++[n]) n (λr=>∃K∈Ks,r∈K):=⟨λr m ⟨K,hK,hr⟩ hm=>by
    let hS:m∈S:=(h2.sm m).mpr ⟨K,hK,r,hr,hm⟩;show⟨MI _ hS,λw=>z (w▸hS)⟩,λm hm hne r hr hmr=>by
    let hS:m∈S:=by
     rcases Mw.mp hm with w|w
     .show w
     .simp_all
    let(K,hK,q,hq,hmq):=(h2.sm m).mp hS;show⟨K,hK,(h2.kk K hK).2.2.1 q hq m hmq r hr hmr⟩⟩
   let(C,S',σ4,e4,s4,o4,c4,r0,hr0,hn0):=lB (k:=k) hk0 H Z8 hnu ndS (λm hm=>by
    rcases Mw.mp hm with w|w
    .show h2.su m w
    .rw[My.mp w];show hnu) (by simp) (J:=σ3) (js:=js) (Mz js')
   let(c1,c2):=c4.fin Z8;let ec:mO 7 zA6 (bX (λO=>aa (rY 4 O) (aa (rY 0 O) (aa (rY 1 O) (aa (rY 6 O) (U [])))))) (E (U (.int n,Y)) Ks++σ3)=U (Ll k C,E (U (.int n,Y)) Ks++σ4):=HU (ns:=E (U (.int n,Y)) Ks) rfl rfl e4
   let ea:Es 5 (mO 7 zA6 (bX (λO=>aa (rY 4 O) (aa (rY 0 O) (aa (rY 1 O) (aa (rY 6 O) (U []))))))) (E (U (.int n,Y)) Ks++σ3)=U (.next (E (U (.int n,Y)) (Ks++[C])++σ4)):=(HG (ns:=E (U (.int n,Y)) Ks) (ds:=Ks.map (Ll k)) rfl ec ⋯).trans (by simp[E])
   show⟨_,aA (a:=E (U (.int n,Y)) Ks++σ2) rfl (JU (ed.trans (by simp[z])) (LJ ep ea)),U (.int n,Y),Ks++[C],S',σ4,rfl,s4,⟨c4.sn,c4.su,λK hK=>?_,?_,λm=>?_⟩,by simp;rfl',λm hm=>?_⟩
   .rcases Mw.mp hK with w|w
    .show h2.kk K w
    .rw[My.mp w];show⟨c4.cn,c4.cr,c1,r0,hr0,n,hn0⟩
   .rw[OS]
    show⟨h2.dis,S1 _ _,λK hK Tx hB r hr w=>by
     rw[My.mp hB]at w;show c4.no r w ⟨K,hK,hr⟩⟩
   .rw[c2]
    constructor
    .rintro(w|⟨r,hr,w⟩)
     .rcases Mw.mp w with w|w
      .let(K,hK,v):=(h2.sm m).mp w
       show⟨K,MI _ hK,v⟩
      .rw[My.mp w];show⟨C,by simp,r0,hr0,hn0⟩
     .show⟨C,by simp,r,hr,w⟩
    .rintro⟨K,hK,r,hr,w⟩
     rcases Mw.mp hK with v|v
     .show .inl (MI _ ((h2.sm m).mpr ⟨K,v,r,hr,w⟩))
     .rw[My.mp v]at hr;show .inr ⟨r,hr,w⟩
   .rw[c2]
    rcases Mw.mp hm with w|w
    .show .inl (MI _ (ks m w))
    .show .inl (by simp_all)
 rw[Np]at kl ks;show⟨Ks,us,S,?_,h2,λr hr n hn=>?_,()⟩
 .let eg:jw (bP 7 [mT k rows L]++[])=U (.ret (.lst (Ks.map (Ll k))) V (E z4 Ks++σ2)):=by
   show LJ rfl (LJ (aA (k.pairs rfl) e1) ?_)
   ext LQ;rw[ef];left;show Ka (d:=.lst []) rfl (LJ (gM (ns:=[U (mT k rows L,Y),U (A5 k rows L us,Y),y2,y3,y4,U (.lst [],V),B]) (lW (ns:=[U (mT k rows L,Y),U (A5 k rows L us,Y),y2,y3,y4,U (.lst [],V),B]) (J:=σ1) (d:=LN []) rfl rfl)) (LJ (aA (a:=us.map D.int) (kI.keys (us:=us) rfl) e2) rfl))
  show kH ?_ rfl eg ?_
  .simp![L2.KO,OG]
   show k.lb _ _ _ λr _=>by show d8 λn _=>rfl
  .show d8 λK _=>by show d8 λr _=>hkl r
 .let(K,hK,q,hq,hm):=(h2.sm n).mp (ks n ((um n).mpr ⟨r,hr,hn⟩))
  show⟨K,hK,(h2.kk K hK).2.2.1 q hq n hm r hr hn⟩
end
def aE (P:Pt):D:=.ob "Part" aZ [jT P,oW P]
def yv (K:Z Nat):D:=.lst (K.map λr:Nat=>.int r)
def Ef (P:Pt) (L:Nat->Z Int) (K:Z Nat):Pt:=⟨cD [] (K.flatMap L),P.dom,K,P.mask⟩
def GT (rows:Z Nat) (L:Nat->Z Int):D:=mT kI (rows.map λr:Nat=>(r:Int)) λr=>L r.toNat
def xX (P:Pt):lb 0 (jT P)=V:=kI.lb _ _ _ λn _=>by
 show d8 λc _=>r9 8 _ _ (by ext c<;>rfl)
def wb (P:Pt):lb 0 (oW P)=V:=kI.lb _ _ _ λn _=>rfl
def yM {fs:DEnv->G (Z D)}(h:fs O=U [jT P,oW P]):Gy "Part" aM fs O=U (aE P):=by
 ext Gy;rw[h];left;rw[n_ (by simp![L2.KO,xX,wb,OG]),show aM (.loc (U "Part") 0::[jT P,oW P]) [U (.ob "Part" [] [],V)]=_ from ry (J:=[]) (d1:=jT P) (d2:=oW P)]
 change(if Nq "Part"="Part"/\KO 0 [jT P,oW P]=V then _ else _)=_
 rw[n_ ⟨rfl,by simp![L2.KO,xX,wb,OG]⟩];rfl
def uv {k:Type}[DecidableEq k] {us xs ys:Z k}:cD us (xs++ys)=cD (cD us xs) ys:=by ext cD;simp
def Fi {rows:Z Nat}(j:x=U (GT rows L)) (k:y=U (.int r)) (g:r∈rows):ix x y=U (.lst ((L r).map D.int)):=
 (kI.dix j k (No g)).trans (by simp)
def zy {rows K:Z Nat}(pa:Pa J d P) (x:∀r∈K,r∈rows/\r∈P.rs) (C:∀r∈K,∀n∈L r,n∈P.ks) (ll:∀r∈K,(L r).length<=4) (m:K.length<=12) (kn:K.Nodup):zC6 [d,yv K,GT rows L] J=U (aE (Ef P L K),Y):=by
 letI N (us:Z Int) (o:Bool) (a b:G (D×Bool)):DEnv:=[U (d,Y),U (yv K,Y),U (GT rows L,Y),U (kI.mk us λn=>.lst ((P.dom n).map KQ),o),a,b]
 let(W,E,a,b,rfl):=aF (f:=λr:Nat=>D.int r) (body:=λd O=>ac ((ae 4) d O) qK) (λt O=>∃a b,O=N (cD [] (t.flatMap L)) V a b++J) (xs:=K) (pre:=[]) (O:=N [] V B B++J) ⟨B,B,rfl⟩ λt r O ⟨y,w⟩ ⟨a,b,j⟩=>by
  subst j;let i:K=t++r::y:=by simpa using w
  let v:r∈K:=by rw[i];simp
  let R:t.length<12:=by rw[i]at m;simp at m;lia
  let tl:(t.flatMap L).length<=4*t.length:=kf λq A=>ll q (by simp_all)
  let c:=ll r v;let(s,Q,b2,rfl):=aF (f:=D.int) (body:=λd O=>ac ((ae 5) d O) qN) (λu O=>∃b,O=N (cD (cD [] (t.flatMap L)) u) V (U (.int r,Y)) b++J) (xs:=L r) (pre:=[]) (O:=N (cD [] (t.flatMap L)) V (U (.int r,Y)) b++J) ⟨b,rfl⟩ λu n O ⟨k,p⟩ ⟨b,j⟩=>by
   subst j;let l:L r=u++n::k:=by simpa using p
   let S:n∈P.ks:=C r v n (by rw[l];simp)
   let T:u.length<=4:=by rw[l]at c;simp at c;lia
   show⟨_,aA (a:=N (cD (cD [] (t.flatMap L)) u) V (U (.int r,Y)) (U (.int n,Y))++J) rfl ((kI.putO (us:=cD (cD [] (t.flatMap L)) u) (g:=λn=>.lst ((P.dom n).map KQ)) (a:=n) (d:=.lst ((P.dom n).map KQ)) rfl rfl (pa.dom (ns:=N (cD (cD [] (t.flatMap L)) u) V (U (.int r,Y)) (U (.int n,Y))) rfl rfl rfl S) ?_).trans ?_),U (.int n,Y),rfl⟩
   .let F:=ki (us:=[]) (xs:=t.flatMap L)
    let X:=ki (us:=cD [] (t.flatMap L)) (xs:=u);simp at F tl;lia
   .have:(λb=>if b=n then D.lst ((P.dom n).map KQ) else .lst ((P.dom b).map KQ))=λn=>.lst ((P.dom n).map KQ):=by
     funext b;by_cases z:b=n<;>simp[z]
    rw[this,uv];rfl
  show⟨_,aA (a:=N (cD [] (t.flatMap L)) V (U (.int r,Y)) b++J) rfl (aA (a:=(L r).map D.int) ?_ Q),U (.int r,Y),b2,?_⟩
  .show(p_ aV (Fi rfl rfl (x r v).1)).trans rfl
  simp[Np,List.flatMap_append,RO,List.flatMap_nil,PC,uv]
 let nK:(K.map λr:Nat=>(r:Int)).Nodup:=PW _ (λa b h e=>h ()) kn
 letI M:DEnv:=N (cD [] (K.flatMap L)) Y a b
 let I:ic (au (ac (aV (rY 1 (M++J))) (bS Y [V,Y,Y,Y,Y,Y] (ae 4) (λO=>U V) qH (M++J))))=U (oW (Ef P L K)):=by
  show(sT (xs:=K.map λr:Nat=>(r:Int)) (h:=λr=>.int (P.mask r.toNat:Nat)) (jk (ds:=K.map λr:Nat=>.int r) (ε:=[U (d,Y),B,B,B,B,B]++J) rfl ⋯ rfl ?_ ⋯) ⋯).trans ?_
  .rw[NU]
   show bK λr w=>K5 (rT rfl ((pa.msk (ns:=[U (d,Y),B,B,B,U (.int r,Y),B]) rfl rfl rfl (x r w).2).trans ?_))
   simp
  .rw[l6 (by trivial)];rfl
 show Dw rfl (K3 (d:=kI.mk [] λn=>.lst ((P.dom n).map KQ)) rfl (Kf (aA rfl E) (rO (yM (P:=Ef P L K) ?_))))
 show(p_ (λz=>aa (rY 3 (M++J)) (aa z (U []))) I).trans rfl
def x0 (j:n∈P.ks) (nd:(P.dom n).Nodup) (ne:P.dom n≠[]):db P n↔1<(P.dom n).length:=by
 constructor
 .rintro⟨_,h⟩
  apply Nx;intro z
  match e:P.dom n,ne,z with
  |[],ne,_=>show ne rfl
  |[c],_,_=>show h ⟨c,λv=>by rw[e];simp⟩
  |_::_::_,_,z=>simp at z
 .intro h
  show⟨j,λ⟨c,k⟩=>?_⟩
  match e:P.dom n,nd,h with
  |a::b::l,nd,_=>
   let u:=(k a).mp (by rw[e];simp)
   let g:=(k b).mp (by rw[e];simp)
   rw[u,g]at nd;simp at nd
def uu (H:Hs X) (f:Wf X P) (Z8:Ok X.S P) (g:n∈P.ks):P.dom n≠[]:=λz=>by
 let(r,j,p,hs):=f.row H g;let(k,u):=nz.mp (Z8.nz r j);let(c,v,_):=Z8.cov r j k u p n hs g
 simp_all
def zM (S:Sd) (r:Nat):Ja:=match S.one[r]? with|some x=>x|none=>(default:MJ×Z Ce)
def vF (P:Pt) (n:Int):Nat:=if n∈P.ks then(P.dom n).length else 0
def KU (S:Sd) (P:Pt) (r:Nat):Z Int:=((IU (zM S r)).map (·.2)).filter λn=>decide (1<vF P n)
def nh (h:S.one[r]?=U x):zM S r=x:=by ext zM;rw[h]
def lV (H:Hs X) (f:Wf X P) (Z8:Ok X.S P) (k:X.S.one[r]?=U x):n∈KU X.S P r↔(∃p,X.S.spot r p n)/\db P n:=by
 unfold KU vF;rw[Nk,decide_eq_true_eq,nh k,MC];show and_congr ⟨λ⟨q,g,j⟩=>⟨q.1,(bM k).mpr (j▸g)⟩,λ⟨p,h⟩=>⟨(p,n),(bM k).mp h,rfl⟩⟩ ?_
 by_cases z:n∈P.ks
 .rw[n_ z];show(x0 z (f.dn n z) (uu H f Z8 z)).symm
 .rw[o_ z];show⟨λw=>absurd w ⟨⟩,λw=>absurd w.1 z⟩
def FK (k:S.one[r]?=U x):(KU S P r).Nodup:=by
 ext KU;rw[nh k];show Sc _ ?_
 show N7.mpr (Pm (R:=(· ≠·)) (λ{a b} v u j e=>j ?_) yH)
 let y:=(bM (S:=S) (p:=a.1) (n:=a.2) k).mpr v;let g:=(bM (S:=S) (p:=b.1) (n:=b.2) k).mpr u;rw[<-e]at g;show QM (nZ y g) e
def yK (H:Hs X) (k:X.S.one[r]?=U x):(KU X.S P r).length<=4:=by
 ext KU;rw[nh k];show ME (MS ..) ?_
 rw[Ms];show ME lX (H.one.2 x (Mr k))
def L4 (K:Z Int):Z Nat:=K.map Int.toNat
def G7 {K:Z Int}(h:∀r∈K,0<=r):(.lst (K.map D.int):D)=yv (L4 K):=by
 unfold yv L4;rw[NU];congr 1;show NJ λr k=>by have:=h r k;change D.int r=D.int (r.toNat:Int);congr 1;lia
def kK {K:Z Int}(h:∀r∈K,0<=r) {q:Nat}:q∈L4 K↔(q:Int)∈K:=by
 ext L4;rw[MC];show⟨λ⟨r,k,j⟩=>by have:=h r k;rw[show(q:Int)=r by lia];show k,λz=>⟨q,z,by simp⟩⟩
def IF {x y:G D}{a b:Nat}(h:x=U (.int a)) (k:y=U (.int b)):cI JF x y=U (decide (b<a)):=by
 simp_all
def pG {X:Sx}{J:DEnv}{w:Int->Int}{d:D}{P:Pt}(H:Hs X) (h:Hst X J w) (pa:Pa J d P) (f:Wf X P) (Z8:Ok X.S P):
  ∃Qs:Z Pt,aD [.loc (U "Search") 0,d] J=U (.lst (Qs.map aE),V)/\Spl X.S P Qs/\(∀Q∈Qs,Wf X Q/\∃n,n∈Q.ks)/\Qs.Pairwise (λA Tx=>∀n∈A.ks,n∉Tx.ks)/\Qs.length<=48:=by
 let l1:=H.one.1;let rl:P.rs.length<=8:=by
  have:=cG f.rn (m:=MW X.S.one.length) λr u=>NE.mpr (f.rx r u)
  rw[OU]at this;lia
 letI N (us:Z Nat) (o:Bool) (a b c e g i:G (D×Bool)):DEnv:=[U (.loc (U "Search") 0,Y),U (d,Y),U (kI.mk (us.map λr:Nat=>(r:Int)) λr=>.lst ((KU X.S P r.toNat).map D.int),o),a,b,c,e,g]
 let s:∀a b:Nat,((a:Int))=b->a=b:=λa b h=>()
 let(δ1,e1,a,b,rfl):=aF (f:=λr:Nat=>D.int r) (body:=λd O=>ac ((ae 3) d O) eE) (λt O=>∃a b,O=N t V a b B B B B++J) (xs:=P.rs) (pre:=[]) (O:=N [] V B B B B B B++J) ⟨B,B,rfl⟩ λt r O ⟨rest,u⟩ ⟨a,b,hδ⟩=>by
  subst hδ;let hk:P.rs=t++r::rest:=by simpa using u
  let hrr:r∈P.rs:=by rw[hk];simp
  let hnt:r∉t:=λz=>by
   have:=f.rn
   grind
  let htl:t.length<8:=by rw[hk]at rl;simp at rl;lia
  obtain⟨x,W⟩:∃x,X.S.one[r]?=U x:=⟨_,Mq (f.rx r hrr)⟩
  let hx4:(IU x).length<=4:=ME lX (H.one.2 x (Mr W))
  letI M (b:G (D×Bool)):=N t V (U (.int r,Y)) b B B B B
  let e2:au (ac (aV (Lm (af 8 "Search" "spots" (M b++J) (rY 0 (M b++J))) (rY 3 (M b++J)))) (bS Y [Y,Y,Y,Y,Y,Y,Y,Y] (ae 6) (λO=>U V) eK (M b++J)))=U (.lst (((IU x).map (·.2)).map D.int)):=by
   show jk (ds:=(IU x).map JY) ((p_ aV (kq W (h.sp H (ns:=M b) rfl rfl) rfl)).trans rfl) ⋯ rfl ?_ ⋯
   rw[NU];show bK λq _=>K5 rfl
  letI M2:=M (U (.lst (((IU x).map (·.2)).map D.int),Y))
  let e3:eR (M2++J)=U (.next (N (t++[r]) V (U (.int r,Y)) (U (.lst (((IU x).map (·.2)).map D.int),Y)) B B B B++J)):=by
   let el:au (ac (aV (rY 4 (M2++J))) (bS Y [Y,V,Y,Y,Y,Y,Y,Y] (ae 7) (λO=>cI JF (cS (bd (L1 8 O (af 8 "Part" "domains" O (rY 1 O))) (rd V 7 O) (eU (U [])))) (U (.int 1))) eD (M2++J)))=U (.lst ((KU X.S P r).map D.int)):=by
    show(jk (ds:=((IU x).map (·.2)).map D.int) rfl ⋯ rfl (bU (h:=D.int) (p:=λn=>decide (1<vF P n)) λn _=>?_) ?_).trans ?_
    .show IX (ε':=[B,U (d,Y),B,B,B,B,B,U (.int n,Y)]++J) rfl (IF (a:=vF P n) (b:=1) ?_ rfl) λ_=>rfl
     let ed:=kI.dgetD (a:=n) (d:=.lst []) (pa [B,U (d,Y),B,B,B,B,B,U (.int n,Y)] 8 rfl).1.2 rfl rfl;show(p_ cS ed).trans ?_
     ext vF;split
     .show DU rfl
     .rfl
    .have:=MS (λn=>decide (1<vF P n)) ((IU x).map (·.2))
     simp at this⊢;lia
    .ext KU;rw[nh W]
   show(kI.putO (us:=t.map λr:Nat=>(r:Int)) (g:=λr=>.lst ((KU X.S P r.toNat).map D.int)) (a:=(r:Int)) (d:=.lst ((KU X.S P r).map D.int)) rfl rfl el ⋯).trans ?_
   let e5:cO (r:Int) (t.map λr:Nat=>(r:Int))=(t++[r]).map λr:Nat=>(r:Int):=by
    rw[Mu];show o_ λz=>?_
    let(q,E,h2):=MC.mp z;show hnt (s q r h2▸E)
   let e6:(λb=>if b=(r:Int) then D.lst ((KU X.S P r).map D.int) else .lst ((KU X.S P b.toNat).map D.int))=λr=>.lst ((KU X.S P r.toNat).map D.int):=by
    funext b;by_cases z:b=(r:Int)
    .simp_all
    .rw[o_ z]
   rw[e5,e6];rfl
  show⟨_,aA (a:=M b++J) rfl (Ka (d:=.lst (((IU x).map λq:Nat×Int=>q.2).map D.int)) e2 e3),_,_,rfl⟩
 letI rowsI:=P.rs.map λr:Nat=>(r:Int)
 let T:∀r∈rowsI,∃q∈P.rs,r=(q:Int)/\∃x,X.S.one[q]?=U x:=λr u=>by
  let(q,E,h2):=MC.mp u;show⟨q,E,h2.symm,_,Mq (f.rx q E)⟩
 let(Ks,us,S,ec,F,hall,hKl):=sD (k:=kI) (rows:=rowsI) (L:=λr=>KU X.S P r.toNat) rfl (λ_=>rfl) (PW _ (λa b h e=>h (s a b e)) f.rn) (by simp[rowsI];lia) (λr u=>by
  let(q,_,rfl,x,W):=T r u;show FK W) (λr u=>by
  let(q,_,rfl,x,W):=T r u;show yK H W)
 let y:∀K∈Ks,∀r∈K,0<=r:=λK j r u=>by
  let(q,_,rfl,_):=T r ((F.kk K j).2.1 r u);rfl'
 let v:∀K∈Ks,∀q∈L4 K,q∈P.rs/\(q:Int)∈K/\∃x,X.S.one[q]?=U x:=λK j q hq=>by
  let E:=(kK (y K j)).mp hq;let(q',h2,h3,h4):=T _ ((F.kk K j).2.1 _ E);obtain rfl:=s q q' h3
  trivial
 let knd:∀K∈Ks,(L4 K).Nodup:=λK j=>by
  show N7.mpr (Pm (R:=(· ≠·)) (λ{a b} ha hb hab e=>hab ?_) (F.kk K j).1)
  let E:=y K j a ha;let h2:=y K j b hb;lia
 letI Qs:=Ks.map λK=>Ef P (KU X.S P) (L4 K)
 let I:∀K∈Ks,∀n,n∈(Ef P (KU X.S P) (L4 K)).ks↔∃q∈L4 K,n∈KU X.S P q:=λK j n=>by
  change n∈cD [] _↔_;rw[i6,QO];simp
 let C:∀K∈Ks,∀n,n∈(Ef P (KU X.S P) (L4 K)).ks->db P n/\∃q∈L4 K,∃p,X.S.spot q p n:=λK j n l=>by
  let(q,hq,hm):=(I K j n).mp l;let(_,_,x,W):=v K j q hq;let(hp,hl):=(lV H f Z8 W).mp hm;show⟨hl,q,hq,hp⟩
 let qcl:∀K∈Ks,∀n,n∈(Ef P (KU X.S P) (L4 K)).ks->∀r∈P.rs,∀p,X.S.spot r p n->r∈L4 K:=λK j n l r u p hs=>by
  let(q,hq,hm):=(I K j n).mp l;let(hl,_):=C K j n l;let(x,W,_):=id hs;show(kK (y K j)).mpr ((F.kk K j).2.2.1 q (v K j q hq).2.1 n (by assumption) r (No u) ?_)
  show(lV H f Z8 W).mpr ⟨⟨p,hs⟩,hl⟩
 show⟨Qs,?_,⟨λQ hQ=>?_,λn l=>?_⟩,λQ hQ=>?_,?_,by simp[Qs];show hKl⟩
 .letI M3:DEnv:=N P.rs Y a b B B B B
  show Dw rfl (K3 (d:=kI.mk [] λr=>.lst ((KU X.S P r.toNat).map D.int)) rfl (Kf (aA (a:=P.rs.map λr:Nat=>.int r) ?_ e1) (rF ?_)))
  .show(kI.keys (pa (N [] V B B B B B B) 8 rfl).2).trans ?_
   rw[NU];rfl
  .show jk (ds:=Ks.map (Ll kI)) (ε:=[B,U (d,Y),U (GT P.rs (KU X.S P),Y),B,B,B,B,B]++J) ((p_ aV (Jf (sH (d:=mT kI rowsI λr=>KU X.S P r.toNat) rfl ec))).trans rfl) ⋯ rfl ?_ (by simp[Qs];lia)
   rw[NU];show bK λK j=>K5 ?_
   rw[show Ll kI K=yv (L4 K) from G7 (y K j)]
   show Jf (zy pa (λr u=>⟨(v K j r u).1,(v K j r u).1⟩) (λr u n l=>by
    let(_,_,x,W):=v K j r u;show((lV H f Z8 W).mp l).2.1) (λr u=>by
    let(_,_,x,W):=v K j r u;show yK H W) (by
    have:=cG (knd K j) λr u=>(v K j r u).1
    lia) (knd K j))
 .let(K,j,rfl):=MC.mp hQ
  show⟨λr u=>(v K j r u).1,λn l=>(C K j n l).1,λ_ _=>rfl,λ_ _=>rfl,λr u p n hs hl=>?_,λn l r u p hs=>qcl K j n l r u p hs⟩
  let(_,_,x,W):=v K j r u;show(I K j n).mpr ⟨r,u,(lV H f Z8 W).mpr ⟨⟨p,hs⟩,hl⟩⟩
 .let(r,u,p,hs):=f.row H l.1
  let(x,W,_):=id hs;let hm:=(lV H f Z8 W).mpr ⟨⟨p,hs⟩,l⟩;let(K,j,hrK):=hall r (No u) n (by assumption)
  show⟨_,No j,(I K j n).mpr ⟨r,(kK (y K j)).mpr hrK,hm⟩⟩
 .let(K,j,rfl):=MC.mp hQ
  show⟨⟨oF Nr,λn l=>f.kx n (C K j n l).1.1,knd K j,λr u=>f.rx r (v K j r u).1,λn l=>f.dn n (C K j n l).1.1,λn l=>f.dl n (C K j n l).1.1,λn l r p hs=>qcl K j n l r (f.rr n (C K j n l).1.1 r p hs) p hs⟩,?_⟩
  let(r,u,n,l):=(F.kk K j).2.2.2;let(q,_,rfl,_):=T r ((F.kk K j).2.1 r u);show⟨n,(I K j n).mpr ⟨q,(kK (y K j)).mpr u,l⟩⟩
 .show N7.mpr (Pm (λ{A Tx} hA hB hd n l hn'=>?_) F.dis)
  let(_,q,hq,p,hs):=C A hA n l;let E:=(v A hA q hq);let h2:=qcl Tx hB n hn' q E.1 p hs;show hd _ E.2.1 ((kK (y Tx hB)).mp h2)
theorem jf {α γ:Type}{f:α->D}{p:α->Bool}{body:D->DEnv->G Out}{E:γ->DEnv}:∀{xs:Z α}{y:γ},(∀x∈xs,∀y,(p x=V->∃y',body (f x) (E y)=U (.next (E y')))/\(p x=Y->∃O,body (f x) (E y)=U (.ret (.bl Y) Y O)))->(xs.all p=V/\∃y',av body (xs.map f) (E y)=U (.next (E y')))\/(xs.all p=Y/\∃O,av body (xs.map f) (E y)=U (.ret (.bl Y) Y O))
 |[],y,_=>.inl ⟨rfl,y,rfl⟩
 |x::xs,y,H=>by
  let(h1,h2):=H x (MB ..) y;cases hp:p x with
  |false=>
   let(O,e):=h2 hp;show .inr ⟨by simp[hp],O,by rw[Mx];ext av;rw[e]⟩
  |true=>
   let(y',e):=h1 hp
   rcases jf (xs:=xs) (y:=y') λz hz=>H z (MA _ hz)with⟨h3,y2,e2⟩|⟨h3,O,e2⟩
   .show .inl ⟨by simp[hp,h3],y2,by rw[Mx];ext av;rw[e];show e2⟩
   .show .inr ⟨by simp[hp,h3],O,by rw[Mx];ext av;rw[e];show e2⟩
def Hs.uwm {X:Sx}(H:Hs X) {k p:Nat}{c:Ce}(h:X.S.at k p=U c):c∈X.uw:=by
 apply Nx;intro z;let(q,e1,e2):=OY.mp h;have:=(H.rwq.mem c q).mpr ⟨Mr e1,Mr e2⟩;rw[H.rwq.no c z]at this;ext this
def Ji (a b:Ce) (q:Ja):Ja:=(q.1,q.2.map (sw a b))
def H9 (S:Sd) (a b:Ce):Prop:=∀q∈S.oth,(q.1,q.2.map (sw a b))∈S.oth
def nP {X:Sx}{J:DEnv}{w:Int->Int}{a b:Ce}(H:Hs X) (h:Hst X J w) (ha:a∈X.uw) (hb:b∈X.uw):∃t,ay [.loc (U "Search") 0,KQ a,KQ b] J=U (.bl t,Y)/\(t=V->H9 X.S a b):=by
 let(d,ed,hd):=zj (a:=a) (b:=b)
 letI E (y:G (D×Bool)):DEnv:=[U (.loc (U "Search") 0,Y),U (KQ a,Y),U (KQ b,Y),U (d,Y),y]++J
 letI rs:=X.rwq a++X.rwq b
 let ra:=H.rwq.rl a;let rb:=H.rwq.rl b;let hrs:∀q∈rs,q∈X.S.oth:=λq hq=>by
  rcases Mw.mp hq with z|z
  .show((H.rwq.mem a q).mp z).1
  .show((H.rwq.mem b q).mp z).1
 let el:aV (tv (ix (af 5 "Search" "rows_with" (E B) (rY 0 (E B))) (rY 1 (E B))) (ix (af 5 "Search" "rows_with" (E B) (rY 0 (E B))) (rY 2 (E B))))=U (rs.map ai):=by
  let e0:af 5 "Search" "rows_with" (E B) (rY 0 (E B))=U (JD X.uw X.rwq):=h.rwq H (ns:=[U (.loc (U "Search") 0,Y),U (KQ a,Y),U (KQ b,Y),U (d,Y),B]) rfl rfl;let e1:ix (af 5 "Search" "rows_with" (E B) (rY 0 (E B))) (rY 1 (E B))=U (.lst ((X.rwq a).map ai)):=kC.dix e0 rfl ha;let e2:ix (af 5 "Search" "rows_with" (E B) (rY 0 (E B))) (rY 2 (E B))=U (.lst ((X.rwq b).map ai)):=kC.dix e0 rfl hb;show(p_ aV (congr (p_ tv e1) e2)).trans ?_
  change aV (if((X.rwq a).map ai).length+((X.rwq b).map ai).length<=LZ then U (.lst ((X.rwq a).map ai++(X.rwq b).map ai)) else B)=_
  rw[n_ (by simp[LZ];lia),<-Mu];rfl
 let run:=jf (f:=ai) (p:=λq=>decide (Ji a b q∈X.S.oth)) (body:=λd O=>ac ((ae 4) d O) aT) (E:=E) (xs:=rs) (y:=B) λq hq y=>by
  let hq4:=H.oth.2 q (hrs q hq);let e1:a7 (pw (JT (ac (aa (rY 4 (E (U (ai q,Y)))) (aa (rY 3 (E (U (ai q,Y)))) (U []))) zC0)) (af 5 "Search" "others" (E (U (ai q,Y))) (rY 0 (E (U (ai q,Y))))))=U (!decide (Ji a b q∈X.S.oth)):=(Gz (k:=kR) (h.ot H (ns:=[U (.loc (U "Search") 0,Y),U (KQ a,Y),U (KQ b,Y),U (d,Y),U (ai q,Y)]) rfl rfl) (Jf (jV rfl rfl (pT hd hq4)))).trans (p_ (λb=>U (!b)) (decide_eq_decide.mpr (by rw[i6];simp[Ji])))
  constructor
  .intro hp
   rw[hp]at e1;show⟨U (ai q,Y),aA (a:=E (U (ai q,Y))) rfl (J6 e1 rfl)⟩
  .intro hp
   rw[hp]at e1;show⟨_,aA (a:=E (U (ai q,Y))) rfl (JU e1 rfl)⟩
 let base:∀{r},jr (aq (av (λd O=>ac ((ae 4) d O) aT) (rs.map ai) (E B)) (λO=>bN (U (.bl V)) O))=r->ay [.loc (U "Search") 0,KQ a,KQ b] J=r:=λk=>by
  show Dw rfl (K3 (d:=d) ed ?_)
  show(p_ (λz=>jr (aq z _)) (aA el rfl)).trans k
 rcases run with⟨h1,y,e⟩|⟨h1,O,e⟩
 .show⟨V,base (by rw[e];rfl),λ_ q hq=>?_⟩
  by_cases z:q∈rs
  .show of_decide_eq_true (MH.mp h1 q z)
  .have:q.2.map (sw a b)=q.2:=(NJ (g:=id) λc hc=>by
    let h2:c≠a:=λw=>z (MI _ ((H.rwq.mem a q).mpr ⟨hq,w▸hc⟩))
    let h3:c≠b:=λw=>z (PM _ ((H.rwq.mem b q).mpr ⟨hq,w▸hc⟩))
    ext sw;rw[o_ h2,o_ h3];rfl).trans (List.map_id _)
   rw[this];show hq
 .show⟨Y,base (by rw[e];rfl),λz=>nomatch z⟩
def ri {X:Sx}{J:DEnv}{w:Int->Int}{d:D}{P:Pt}{a b:Ce}(H:Hs X) (h:Hst X J w) (pa:Pa J d P) (f:Wf X P) (Z8:Ok X.S P):∃t,aS [.loc (U "Search") 0,d,KQ a,KQ b] J=U (.bl t,Y)/\(t=V->∀r∈P.rs,∀p n,X.S.spot r p n->(KT X.S P r p a↔KT X.S P r p b)):=by
 letI N (y4 y5 y6 y7 y8:G (D×Bool)):DEnv:=[U (.loc (U "Search") 0,Y),U (d,Y),U (KQ a,Y),U (KQ b,Y),y4,y5,y6,y7,y8]
 letI pq (r:Nat) (q:Nat×Int):Bool:=decide ((JV X.S.oth q.1 a&&& P.mask r=0)↔(JV X.S.oth q.1 b&&& P.mask r=0))
 let run:=jf (f:=λr:Nat=>D.tup [.int r,.int (P.mask r:Nat)]) (p:=λr=>(IU (zM X.S r)).all (pq r)) (body:=λd O=>ac ((aW (ah (ae 4) (ah (ae 5) (aY)))) d O) bF) (E:=λy:G (D×Bool)×G (D×Bool)×G (D×Bool)×G (D×Bool)×G (D×Bool)=>N y.1 y.2.1 y.2.2.1 y.2.2.2.1 y.2.2.2.2++J) (xs:=P.rs) (y:=(B,B,B,B,B)) λr hr y=>by
  obtain⟨x,hx⟩:∃x,X.S.one[r]?=U x:=⟨_,Mq (f.rx r hr)⟩
  rw[nh hx];let in2:=jf (f:=JY) (p:=pq r) (body:=λd O=>ac ((aW (ah (ae 6) (ah (ae 7) (aY)))) d O) cN) (E:=λy:G (D×Bool)×G (D×Bool)×G (D×Bool)=>N (U (.int r,Y)) (U (.int (P.mask r:Nat),Y)) y.1 y.2.1 y.2.2++J) (xs:=IU x) (y:=y.2.2) λq hq y=>by
   let hs:X.S.spot r q.1 q.2:=(bM hx).mpr hq;let hp:(q.1:Int)∈X.us:=by
    let(k,hk):=nz.mp (Z8.nz r hr);let(c,hc,_):=((Z8.rect r hr k).mp hk).2 q.1 q.2 hs;show(H.us hc).1
   letI M (y8:G (D×Bool)):=N (U (.int r,Y)) (U (.int (P.mask r:Nat),Y)) (U (.int q.1,Y)) (U (.int q.2,Y)) y8
   let e8:ix (af 9 "Search" "holding" (M y.2.2++J) (rY 0 (M y.2.2++J))) (rY 6 (M y.2.2++J))=U (J5 X q.1):=Cb (h.ho H (ns:=M y.2.2) rfl rfl) rfl hp;let z0:∀n:Nat,KP (U (.int n)) (U (.int 0))=U (decide (n=0)):=λn=>(LM (a:=n) (b:=0) rfl rfl).trans (p_ U (decide_eq_decide.mpr ⟨⟩))
   let ea:L7 (KP (tx (bd (rY 8 (M (U (J5 X q.1,Y))++J)) (rY 2 (M (U (J5 X q.1,Y))++J)) (U (.int 0))) (rY 5 (M (U (J5 X q.1,Y))++J))) (U (.int 0)))=U (.bl (decide (JV X.S.oth q.1 a&&& P.mask r=0))):=(p_ L7 ((p_ (λz=>KP z (U (.int 0))) (Ex (tX H rfl rfl hp) rfl)).trans (z0 _))).trans rfl
   let eb:L7 (KP (tx (bd (rY 8 (M (U (J5 X q.1,Y))++J)) (rY 3 (M (U (J5 X q.1,Y))++J)) (U (.int 0))) (rY 5 (M (U (J5 X q.1,Y))++J))) (U (.int 0)))=U (.bl (decide (JV X.S.oth q.1 b&&& P.mask r=0))):=(p_ L7 ((p_ (λz=>KP z (U (.int 0))) (Ex (tX H rfl rfl hp) rfl)).trans (z0 _))).trans rfl
   let en:HS (L7 (KP (tx (bd (rY 8 (M (U (J5 X q.1,Y))++J)) (rY 2 (M (U (J5 X q.1,Y))++J)) (U (.int 0))) (rY 5 (M (U (J5 X q.1,Y))++J))) (U (.int 0)))) (L7 (KP (tx (bd (rY 8 (M (U (J5 X q.1,Y))++J)) (rY 3 (M (U (J5 X q.1,Y))++J)) (U (.int 0))) (rY 5 (M (U (J5 X q.1,Y))++J))) (U (.int 0))))=U (!pq r q):=by
    rw[ea,eb];change U (!(decide _==decide _))=U (!decide _);congr 2
    by_cases z1:JV X.S.oth q.1 a&&& P.mask r=0<;>by_cases z2:JV X.S.oth q.1 b&&& P.mask r=0<;>simp[z1,z2]
   constructor
   .intro hp'
    rw[hp']at en;show⟨(U (.int q.1,Y),U (.int q.2,Y),U (J5 X q.1,Y)),aA (a:=M y.2.2++J) rfl (JI (d:=J5 X q.1) e8 (J6 en rfl))⟩
   .intro hp'
    rw[hp']at en;show⟨_,aA (a:=M y.2.2++J) rfl (JI (d:=J5 X q.1) e8 (JU en rfl))⟩
  let es:aV (Lm (af 9 "Search" "spots" (N (U (.int r,Y)) (U (.int (P.mask r:Nat),Y)) y.2.2.1 y.2.2.2.1 y.2.2.2.2++J) (U (.loc (U "Search") 0))) (U (.int r)))=U ((IU x).map JY):=(p_ aV (kq hx (h.sp H (ns:=N (U (.int r,Y)) (U (.int (P.mask r:Nat),Y)) y.2.2.1 y.2.2.2.1 y.2.2.2.2) rfl rfl) rfl)).trans rfl
  rcases in2 with⟨h1,y',e⟩|⟨h1,O,e⟩
  .show⟨λ_=>⟨(U (.int r,Y),U (.int (P.mask r:Nat),Y),y'),aA (a:=N (U (.int r,Y)) (U (.int (P.mask r:Nat),Y)) y.2.2.1 y.2.2.2.1 y.2.2.2.2++J) rfl (aA es e)⟩,λz=>by rw[h1]at z;cases z⟩
  .show⟨λz=>(by rw[h1]at z;ext z),λ_=>⟨_,aA (a:=N (U (.int r,Y)) (U (.int (P.mask r:Nat),Y)) y.2.2.1 y.2.2.2.1 y.2.2.2.2++J) rfl (aA es e)⟩⟩
 let ep:q8 9 (N B B B B B++J) (af 9 "Part" "masks" (N B B B B B++J) (U d))=U (P.rs.map λr:Nat=>D.tup [.int r,.int (P.mask r:Nat)]):=by
  show(kI.pairs (pa (N B B B B B) 9 rfl).2).trans ?_
  rw[NU];congr 1
 let base:∀{r},jr (aq (av (λd O=>ac ((aW (ah (ae 4) (ah (ae 5) (aY)))) d O) bF) (P.rs.map λr:Nat=>D.tup [.int r,.int (P.mask r:Nat)]) (N B B B B B++J)) (λO=>bN (U (.bl V)) O))=r->aS [.loc (U "Search") 0,d,KQ a,KQ b] J=r:=λk=>by
  show(p_ (λz=>jr (aq z _)) (aA ep rfl)).trans k
 rcases run with⟨h1,y,e⟩|⟨h1,O,e⟩
 .show⟨V,base (by rw[e];rfl),λ_ r hr p n hs=>?_⟩
  let(x,hx,_):=id hs;let h2:=MH.mp h1 r hr;rw[nh hx]at h2;let h3:=of_decide_eq_true (MH.mp h2 (p,n) ((bM hx).mp hs));let sup:∀c,KT X.S P r p c↔JV X.S.oth p c&&& P.mask r≠0:=λc=>by
   rw[uG];simp![jJ,zR];show exists_congr λk=>and_comm
  simp_all
 .show⟨Y,base (by rw[e];rfl),λz=>nomatch z⟩
end K21
namespace K21
open PySem L2 JP
def LD (a b c d e f g:D):aP ("above":MJ) nsChoice [a,b,c,d,e,f,g]=U a/\aP ("part":MJ) nsChoice [a,b,c,d,e,f,g]=U b/\aP ("number":MJ) nsChoice [a,b,c,d,e,f,g]=U c/\aP ("todo":MJ) nsChoice [a,b,c,d,e,f,g]=U d/\aP ("untried":MJ) nsChoice [a,b,c,d,e,f,g]=U e/\aP ("cell":MJ) nsChoice [a,b,c,d,e,f,g]=U f/\aP ("result":MJ) nsChoice [a,b,c,d,e,f,g]=U g:=by
 trivial
def Jm (a b c d e f g x:D):cU ("untried":MJ) x nsChoice [a,b,c,d,e,f,g]=[a,b,c,d,x,f,g]/\cU ("cell":MJ) x nsChoice [a,b,c,d,e,f,g]=[a,b,c,d,e,x,g]/\cU ("result":MJ) x nsChoice [a,b,c,d,e,f,g]=[a,b,c,d,e,f,x]:=by
 trivial
def Jc:aJ ("untried":MJ) nsChoice=nsChoice/\aJ ("cell":MJ) nsChoice=nsChoice/\aJ ("result":MJ) nsChoice=nsChoice:=by
 trivial
theorem oN:∀{J τ:DEnv}{i:Nat}{x y:G (D×Bool)},J[i]?=U x->τ[i]?=U y->x≠y->lbE k y=Y->JL k J τ=Y
 |[],_,_,_,_,h,_,_,_=>by simp at h
 |_::_,[],_,_,_,_,h,_,_=>by simp at h
 |a::J,b::τ,0,x,y,h,u,j,g=>by
  simp_all [JL,j,g]
 |a::J,b::τ,i+1,x,y,h,u,j,g=>by
  simp at h u;ext JL;rw[oN h u j g];simp
variable[Md]
def tW {ns J τ:DEnv}(k:ns.length=n) (j:JL J.length J τ=Y):eV n J (U (.next (ns++τ)))=U (.non,Y,τ):=by
 unfold eV pF
 simp_all
def Jk:G Nat->D|none=>.int (-1)|some i=>.int i
def Ju:G Ce->D|none=>.non|some c=>KQ c
def Jg (q:G Nat×Pt):D:=.tup [Jk q.1,aE q.2]
def IQ (c:Ch) (ju:Nat) (dR:D):Z D:=[Jk c.above,aE c.part,.int c.num,.lst (c.todo.map Jg),.loc B ju,Ju c.cell,dR]
def wU (c:Ch) (us:Z Ce):Ch:=⟨c.above,c.part,c.num,c.todo,us,c.cell,c.result⟩
structure Cst (J:DEnv) (jc ju:Nat) (dR:D) (c:Ch):Prop where
 o:J[jc]?=U (U (.ob "Choice" nsChoice (IQ c ju dR),V))
 u:J[ju]?=U (U (.lst (c.untried.map KQ),V))
section
variable{X:Sx}{J J':DEnv}{w:Int->Int}{ns:DEnv}{n jc ju:Nat}{c:Ch}{dR d:D}{x:G D}
def Cst.ab (h:Cst J jc ju dR c) (j:ns.length=n) (k:x=U (.loc (U "Choice") jc)):af n "Choice" "above" (ns++J) x=U (Jk c.above):=(K1 j k h.o).trans (LD ..).1
def Cst.pa (h:Cst J jc ju dR c) (j:ns.length=n) (k:x=U (.loc (U "Choice") jc)):af n "Choice" "part" (ns++J) x=U (aE c.part):=(K1 j k h.o).trans (LD ..).2.1
def Cst.nu (h:Cst J jc ju dR c) (j:ns.length=n) (k:x=U (.loc (U "Choice") jc)):af n "Choice" "number" (ns++J) x=U (.int c.num):=(K1 j k h.o).trans (LD ..).2.2.1
def Cst.td (h:Cst J jc ju dR c) (j:ns.length=n) (k:x=U (.loc (U "Choice") jc)):af n "Choice" "todo" (ns++J) x=U (.lst (c.todo.map Jg)):=(K1 j k h.o).trans (LD ..).2.2.2.1
def Cst.un (h:Cst J jc ju dR c) (j:ns.length=n) (k:x=U (.loc (U "Choice") jc)):af n "Choice" "untried" (ns++J) x=U (.loc B ju):=(K1 j k h.o).trans (LD ..).2.2.2.2.1
def Cst.ce (h:Cst J jc ju dR c) (j:ns.length=n) (k:x=U (.loc (U "Choice") jc)):af n "Choice" "cell" (ns++J) x=U (Ju c.cell):=(K1 j k h.o).trans (LD ..).2.2.2.2.2.1
def Cst.re (h:Cst J jc ju dR c) (j:ns.length=n) (k:x=U (.loc (U "Choice") jc)):af n "Choice" "result" (ns++J) x=U dR:=(K1 j k h.o).trans (LD ..).2.2.2.2.2.2
def Cst.ne (h:Cst J jc ju dR c):jc≠ju:=λz=>by
 have:=h.o
 simp_all [z,h.u]
def Cst.off (h:Cst J jc ju dR c) (e:∀i,i=jc\/i=ju->J'[i]?=J[i]?):Cst J' jc ju dR c:=⟨by rw[e jc (.inl rfl)];show h.o,by rw[e ju (.inr rfl)];show h.u⟩
def i7 (P:Pt):Pa J (aE P) P:=Pa.plain P
def Twin (S:Sd) (P:Pt) (i:Int) (c:Ce):Prop:=∃j,c=.bk j/\H9 S (.bk i) (.bk j)/\∀r∈P.rs,∀p n,S.spot r p n->(KT S P r p (.bk i)↔KT S P r p (.bk j))
def p7 {c:Ce}(H:Hs X) (h:Hst X J w) (f:Wf X P) (Z8:Ok X.S P) (hi:(Ce.bk i)∈X.uw) (u:c∈X.uw):∃t,aC [.loc (U "Search") 0,aE P,KQ (.bk i),KQ c] J=U (.bl t,Y)/\(t=V->Twin X.S P i c):=by
 letI N:DEnv:=[U (.loc (U "Search") 0,Y),U (aE P,Y),U (KQ (.bk i),Y),U (KQ c,Y)]
 cases c with
 |nm v=>
  show⟨Y,Dw rfl (rO ?_),λz=>nomatch z⟩
  rfl
 |bk j=>
  let(k,n,q):=nP H h hi u;let(g,m,y):=ri (a:=.bk i) (b:=.bk j) H h (i7 P) f Z8;let d:L7 (KP (Lm (rY 3 (N++J)) (U (.int 0))) (U (.str "blank")))=U (.bl V):=by
   change L7 (KP (U (.str "blank")) (U (.str "blank")))=_;rw[pf];rfl
  let r:b7 4 "Search" "can_change_places" ay (λO=>rY 0 O) (λO=>aa (rY 2 O) (aa (rY 3 O) (U []))) (N++J)=U (.bl k):=kW (ns:=N) rfl rfl (h.at0 H) ∅ rfl n
  let p:b7 4 "Search" "are_alike" aS (λO=>rY 0 O) (λO=>aa (rY 1 O) (aa (rY 2 O) (aa (rY 3 O) (U [])))) (N++J)=U (.bl g):=kW (ns:=N) rfl rfl (h.at0 H) ∅ rfl m
  show⟨k&&g,Dw rfl (rO ?_),λz=>?_⟩
  .show(congr (p_ uA d) (congr (p_ uA r) p)).trans ?_
   ext k<;>rfl
  .rw[Mo]at z
   show⟨j,rfl,q z.1,y z.2⟩
def Twin.dead {i n:Int}{c:Ce}(Z8:Ok X.S P) (h:Twin X.S P i c) (hd:rG X.S P n (.bk i)):rG X.S P n c:=by
 let(j,rfl,g,k):=h;show xZ Z8 g k hd
def BJ {n:Int}{c:Ce}(H:Hs X) (f:Wf X P) (Z8:Ok X.S P) (j:n∈P.ks) (v:c∈P.dom n):c∈X.uw:=by
 let(r,g,p,hs):=f.row H j;let(k,_,u):=(Z8.full n j c).mp v r g p hs;show H.uwm u
def C4 (J:DEnv) (P:Pt) (i:Int) (c:Ce):Bool:=match aC [.loc (U "Search") 0,aE P,KQ (.bk i),KQ c] J with|some (.bl t,_)=>!t|_=>V
theorem oM (H:Hs X) (h:Hst X J w) (hs:Cst J jc ju dR c) (f:Wf X c.part) (Z8:Ok X.S c.part) (K:c.num∈c.part.ks) (R:∀x∈c.untried,x∈c.part.dom c.num) (T:∀x,c.cell=U x->x∈c.part.dom c.num) (hd:∀x,c.cell=U x->rG X.S c.part c.num x) (F:c.untried.length<=8):
  ∃keep q J',aN [.loc (U "Search") 0,.loc (U "Choice") jc] J=U (.non,Y,J')/\Cst J' jc q dR (wU c (c.untried.filter keep))/\(∀x∈c.untried,keep x=Y->rG X.S c.part c.num x)/\(∀i,i<J.length->i≠jc->J'[i]?=J[i]?)/\J.length<=J'.length/\(q=ju\/J.length<=q):=by
 letI N (W:G (D×Bool)):DEnv:=[U (.loc (U "Search") 0,Y),U (.loc (U "Choice") jc,Y),W,B]
 let same:(∀O,jM (a7 (o7 (rY 2 O))) (KP (Lm (rY 2 O) (U (.int 0))) (U (.str "blank")))=U Y\/True)->jM (a7 (o7 (U (Ju c.cell)))) (KP (Lm (U (Ju c.cell)) (U (.int 0))) (U (.str "blank")))=U Y->∃keep q J',aN [.loc (U "Search") 0,.loc (U "Choice") jc] J=U (.non,Y,J')/\Cst J' jc q dR (wU c (c.untried.filter keep))/\(∀x∈c.untried,keep x=Y->rG X.S c.part c.num x)/\(∀i,i<J.length->i≠jc->J'[i]?=J[i]?)/\J.length<=J'.length/\(q=ju\/J.length<=q):=λ_ e=>by
  let A:c.untried.filter (λ_=>V)=c.untried:=O3.mpr λ_ _=>rfl
  show⟨λ_=>V,ju,J,?_,by rw[A];assumption,(λ_ _ z=>nomatch z),λ_ _ _=>rfl,Mj _,.inl rfl⟩
  show(bh rfl).trans ((p_ (eV 4 J) ?_).trans (sV (ns:=N (U (Ju c.cell,Y))) rfl rfl))
  show JI (d:=Ju c.cell) (hs.ce (ns:=N B) rfl rfl) (J6 e rfl)
 cases g:c.cell with
 |none=>show same (λ_=>.inr trivial) (by rw[g];rfl)
 |some x=>
  cases x with
  |nm v=>show same (λ_=>.inr trivial) (by
    rw[g];rfl)
  |bk i=>
   letI keep:=C4 J c.part i
   let hi:(Ce.bk i)∈X.uw:=BJ H f Z8 K (T _ g);let s:∀y∈c.untried,aC [.loc (U "Search") 0,aE c.part,KQ (.bk i),KQ y] J=U (.bl (!keep y),Y)/\(keep y=Y->Twin X.S c.part i y):=λy r=>by
    let(t,e,C):=p7 H h f Z8 hi (BJ H f Z8 K (R y r));have:keep y=!t:=by change C4 J c.part i y=_;ext C4;rw[e]
    rw[this];show⟨by rw[e];simp,λz=>C ()⟩
   letI E:=N (U (KQ (.bk i),Y))
   let a:=(L9.mp hs.o).1
   let I:=(L9.mp hs.u).1
   letI us:=c.untried.filter keep
   let b:us.length<=8:=ME (MS ..) F;let L:au (ac (xr 4 (E++J) (af 4 "Choice" "untried" (E++J) (rY 1 (E++J)))) (bS Y [V,V,V,Y] (ae 3) (λO=>a7 (Ln (b7 4 "Search" "are_twins" aC (λO=>rY 0 O) (λO=>aa (af 4 "Choice" "part" O (rY 1 O)) (aa (rY 2 O) (aa (rY 3 O) (U [])))) O))) bw (E++J)))=U (.lst (us.map KQ)):=by
    let Q:xr 4 (E++J) (af 4 "Choice" "untried" (E++J) (rY 1 (E++J)))=U (c.untried.map KQ):=by
     ext xr;rw[show af 4 "Choice" "untried" (E++J) (rY 1 (E++J))=_ from hs.un (ns:=E) rfl rfl,gF (n:=4) (ns:=E) rfl hs.u rfl];rfl
    show jk (ds:=c.untried.map KQ) Q ⋯ rfl (bU (p:=keep) λy r=>?_) (by simp;show ME b ⟨⟩)
    letI M:DEnv:=[U (.loc (U "Search") 0,Y),U (.loc (U "Choice") jc,Y),U (KQ (.bk i),Y),U (KQ y,Y)]
    show IX (ε':=M++J) rfl ?_ λ_=>rfl
    let P:b7 4 "Search" "are_twins" aC (λO=>rY 0 O) (λO=>aa (af 4 "Choice" "part" O (rY 1 O)) (aa (rY 2 O) (aa (rY 3 O) (U [])))) (M++J)=U (.bl (!keep y)):=by
     show kW (ns:=M) (ds:=[aE c.part,KQ (.bk i),KQ y]) rfl rfl (h.at0 H) ∅ ?_ (s y r).1
     show(p_ (λz=>aa z (aa (U (KQ (.bk i))) (aa (U (KQ y)) (U [])))) (hs.pa (ns:=M) rfl rfl)).trans rfl
    show(p_ (λz=>a7 (Ln z)) P).trans ?_
    change U (!(!keep y))=_;rw[Bool.not_not]
   let ex:=Jd (ns:=E) (n:=4) (c:="Choice") (name:="untried") (fa:=λO=>rY 1 O) (O:=E++J) (d:=.loc B J.length) (J':=J++[U (D.lst (us.map KQ),V)]) (ks':=nsChoice) (vs':=IQ (wU c us) J.length dR) (vs:=IQ c ju dR) (j:=jc) (ga:=bu 4 λO=>au (ac (xr 4 O (af 4 "Choice" "untried" O (rY 1 O))) (bS Y [V,V,V,Y] (ae 3) (λO=>a7 (Ln (b7 4 "Search" "are_twins" aC (λO=>rY 0 O) (λO=>aa (af 4 "Choice" "part" O (rY 1 O)) (aa (rY 2 O) (aa (rY 3 O) (U [])))) O))) bw O))) rfl (lW rfl L) rfl (by rw[Me a];show hs.o) Jc.1 (Jm ..).1 ∅
   letI τ:DEnv:=(J++[U (D.lst (us.map KQ),V)]).set jc (U (D.ob "Choice" nsChoice (IQ (wU c us) J.length dR),V))
   show⟨keep,J.length,τ,?_,⟨Mz ⋯,?_⟩,λy r l=>((s y r).2 l).dead Z8 (hd _ g),λk l m=>?_,by simp[τ],.inr (Mj _)⟩
   .show(bh rfl).trans ((p_ (eV 4 J) (?_:_=U (.next (E++τ)))).trans ?_)
    .show JI (d:=KQ (.bk i)) ((hs.ce (ns:=N B) rfl rfl).trans (by rw[g];rfl)) (JU ?_ ex)
     rfl
    .show tW (ns:=E) rfl (oN hs.o (Mz ⋯) (λz=>by
      simp[IQ]at z;rfl') (by simp[lbE,L2.lb,L2.KO,IQ]))
   .rw[Mh ()];simp
    rfl
   .change((J++_).set _ _)[k]?=_
    rw[Mh (λz=>m z.symm),Me l]
end
end K21
namespace K21
open PySem L2 JP
structure Cf where
 c:Ch
 jc:Nat
 ju:Nat
 dR:D
def Sim (f g:Cf):Prop:=f.c.above=g.c.above/\f.c.part=g.c.part/\f.c.num=g.c.num/\f.c.todo=g.c.todo/\f.jc=g.jc
def Sim.rfl' (f:Cf):Sim f f:=⟨rfl,rfl,rfl,rfl,rfl⟩
def wv (tr:Z Ch):Nat:=(tr.zipIdx.map λq=>q.1.untried.length*10 ^ (4 - q.2)).sum
def xk (t:Z Ch) (c:Ch):wv (t++[c])=wv t+c.untried.length*10 ^ (4 - t.length):=by
 ext wv;rw[k_,Mu,l_];simp
def FX (t u:Z Ch):wv t<=wv (t++u):=by
 ext wv;rw[k_,Mu,l_];rfl'
def Ej (t:Z Ch) (k:Nat):wv (t.take k)<=wv t:=by
 have:=FX (t.take k) (t.drop k)
 simp_all
def vv (tr:Z Ch):Nat:=wv tr+(10 ^ (5 - tr.length) - 1)
def mu (tr:Z Ch):Nat:=(tr.map λc=>c.untried.length+1).sum
def uz (t u:Z Ch):mu (t++u)=mu t+mu u:=by ext mu;simp
def CO (t:Z Ch) (k:Nat):mu (t.take k)+mu (t.drop k)=mu t:=by rw[<-uz,Ti]
def BA (h:t≠[]):0<mu t:=by
 cases t with
 |nil=>show absurd rfl h
 |cons c t=>ext mu;simp;lia
section
variable{S:Sd}{first:Pt}{t tr:Z Ch}{c c':Ch}{i:Nat}
def Cg.same (h:Cg S first tr i c) (e:k.take i=tr.take i):Cg S first k i c:=⟨h.num,h.ok,by rw[e];show h.fro,by rw[e];show h.todo,h.unt,h.dead⟩
def Tr.setLast (T:Tr S first (t++[c])) (g:Cg S first (t++[c]) t.length c'):Tr S first (t++[c']):=by
 let tk:∀i,i<=t.length->(t++[c']).take i=(t++[c]).take i:=λi hi=>by
  grind
 show⟨T.ok,λi d h=>?_,λi d h hi=>?_⟩
 .by_cases z:i<t.length
  .rw[Me z]at h
   show(T.at' i d (by rw[Me z];show h)).same (tk i (OD z))
  .have:=(L9.mp h).1
   let e:i=t.length:=by simp at this;lia
   subst e;simp at h;subst h;show g.same (tk _ (Mj _))
 .let hi':i<t.length:=by simp at hi;rfl'
  rw[Me hi']at h
  show T.cr i d (by rw[Me hi'];show h) (by simp at hi⊢;rfl')
def Tr.last (T:Tr S first (t++[c])):Cg S first (t++[c]) t.length c:=T.at' _ _ (by simp)
end
variable[Md]
structure Own (X:Sx) (J:DEnv) (f:Cf) (hi:Nat):Prop where
 cs:Cst J f.jc f.ju f.dR f.c
 lo:X.base.length<f.jc
 ju:f.jc<f.ju/\f.ju<hi
 lr:lb hi f.dR=V
structure SetF (X:Sx) (J:DEnv) (f:Cf) (hi:Nat):Prop where
 own:Own X J f hi
 res:∃Z7 a b,f.dR=.loc (U "Part") Z7/\Pl X J Z7 a b f.c.result/\(f.jc<Z7/\f.jc<a/\f.jc<b)/\(Z7<hi/\a<hi/\b<hi)
 wf:Wf X f.c.result
 ks:f.c.result.ks=f.c.part.ks
 one:∀y,y∈f.c.result.dom f.c.num->f.c.cell=U y
def JA (p:Z Cf) (hi i:Nat):Nat:=match p[i+1]? with|some g=>g.jc|none=>hi
def PreS (X:Sx) (J:DEnv) (p:Z Cf) (hi:Nat):Prop:=∀i f,p[i]?=U f->SetF X J f (JA p hi i)/\JA p hi i<=hi
section
variable{X:Sx}{J J':DEnv}{f g:Cf}{p:Z Cf}{hi hi':Nat}
def Own.off (h:Own X J f hi) (e:∀i,i<hi->i≠X.base.length->J'[i]?=J[i]?):Own X J' f hi:=
 ⟨h.cs.off λi k=>by
  let g:=h.lo;let j:=h.ju
  rcases k with rfl|rfl
  .show e _ () ()
  .show e _ ⟨⟩ (),h.lo,h.ju,h.lr⟩
def SetF.off (h:SetF X J f hi) (e:∀i,i<hi->i≠X.base.length->J'[i]?=J[i]?):SetF X J' f hi:=by
 show⟨h.own.off e,?_,h.wf,h.ks,h.one⟩
 let(Z7,a,b,v,u,g,j):=h.res;let y:=h.own.lo;show⟨Z7,a,b,v,u.off λi k=>?_,g,j⟩
 rcases k with rfl|rfl|rfl
 .show e _ ⟨⟩ ()
 .show e _ ⟨⟩ ()
 .show e _ ⟨⟩ ()
mutual
theorem py (h:k<=l):∀d:D,lb k d=V->lb l d=V
 |.non,_=>rfl
 |.bl _,_=>rfl
 |.int _,_=>rfl
 |.str _,_=>rfl
 |.ptr _,z=>z
 |.tup ds,z=>by show fq h ds z
 |.lst ds,z=>by show fq h ds z
 |.dK ks ds,z=>by show fq h ds z
 |.dD ks ds,z=>by simp![L2.lb,Mo]at*;show⟨fq h ks z.1,fq h ds z.2⟩
 |.ob c ks ds,z=>by show fq h ds z
 |.loc c j,z=>by simp![L2.lb,decide_eq_true_eq]at*;lia
theorem fq (h:k<=l):∀ds:Z D,KO k ds=V->KO l ds=V
 |[],_=>rfl
 |d::ds,z=>by simp![L2.KO,Mo]at*;show⟨py h d z.1,fq h ds z.2⟩
end
def Own.mono (h:Own X J f hi) (k:hi<=hi'):Own X J f hi':=⟨h.cs,h.lo,by have:=h.ju;lia,py k _ h.lr⟩
def SetF.mono (h:SetF X J f hi) (k:hi<=hi'):SetF X J f hi':=by
 let(Z7,a,b,u,g,j,v):=h.res;show⟨h.own.mono k,⟨Z7,a,b,u,g,j,()⟩,h.wf,h.ks,h.one⟩
def PreS.off (h:PreS X J p hi) (e:∀i,i<hi->i≠X.base.length->J'[i]?=J[i]?):PreS X J' p hi:=λi f j=>by
 let(u,g):=h i f j;show⟨u.off λk v=>e k (),g⟩
def PreS.nil:PreS X J [] hi:=λi f h=>by simp at h
def PreS.cut (h:PreS X J p hi) (hk:p[k]?=U g):PreS X J (p.take k) g.jc/\SetF X J g hi/\g.jc<hi:=by
 show⟨λi f hf=>?_,(h k g hk).1.mono (h k g hk).2,?_⟩
 .let hi':i<k:=by have:=(L9.mp hf).1;simp at this;lia
  rw[MP hi']at hf
  let(h1,h2):=h i f hf
  by_cases z:i+1<k
  .let e:JA (p.take k) g.jc i=JA p hi i:=by
    ext JA;rw[MP z]
    let hl:=(L9.mp hk).1
    rw[Mq (show i+1<p.length by lia)]
   rw[e];show⟨h1,?_⟩
   let mono:∀m,∀j f',i+1+m=j->j<=k->p[j]?=U f'->JA p hi i<=f'.jc:=λm=>by
    induction m with
    |zero=>
     intro j f' hj _ hf';subst hj;ext JA;rw[show i+1=i+1+0 from rfl,hf'];show Mj _
    |succ m ih=>
     intro j f' hj hjk hf';let hlt:=(L9.mp hf').1
     let e':=Mq (show i+1+m<p.length by lia)
     let h3:=ih (i+1+m) _ rfl () e'
     let(h4,_):=h (i+1+m) _ e';let h5:=h4.own.ju;let h6:JA p hi (i+1+m)=f'.jc:=by
      ext JA;rw[show i+1+m+1=j by lia,hf']
     lia
   show mono (k - (i+1)) k g () (Mj _) hk
  .let e:i+1=k:=()
   let e1:JA (p.take k) g.jc i=g.jc:=by
    ext JA;rw[ON ⋯]
   let e2:JA p hi i=g.jc:=by ext JA;rw[e,hk]
   rw[e1];rw[e2]at h1;show⟨h1,Mj _⟩
 .let h1:=(h k g hk).1.own.ju
  let h2:=(h k g hk).2;lia
def PreS.push (h:PreS X J p f.jc) (k:SetF X J f hi) (u:f.jc<hi):PreS X J (p++[f]) hi:=λi g hg=>by
 by_cases z:i<p.length
 .rw[Me z]at hg
  let(j,v):=h i g hg;let e:JA (p++[f]) hi i=JA p f.jc i:=by
   ext JA
   by_cases w:i+1<p.length
   .simp_all
   .simp_all
  rw[e];show⟨j,()⟩
 .have:=(L9.mp hg).1
  let e:i=p.length:=by simp at this;lia
  subst e;simp at hg;subst hg;let e:JA (p++[f]) hi p.length=hi:=by ext JA;rw[ON (by simp)]
  rw[e];show⟨k,Mj _⟩
end
end K21
namespace K21
open PySem L2 JP
variable[Md]
def K7 (f:Cf):D:=.loc (U "Choice") f.jc
def rW (c:Ch) (us:Z Ce) (x:Ce) (R:Pt):Ch:=⟨c.above,c.part,c.num,c.todo,us,U x,R⟩
structure Wn (X:Sx) (first:Pt) (lo:Nat) (tr0:Z Cf) (l:Nat) (f:Cf) (jt:Nat) (J:DEnv) (w:Int->Int):Prop where
 hst:Hst X J w
 list:J[jt]?=U (U (.lst ((tr0.take l++[f]).map K7),V))
 pre:PreS X J (tr0.take l) f.jc
 own:Own X J f J.length
 sim:∃g,tr0[l]?=U g/\Sim f g
 T:Tr X.S first ((tr0.take l++[f]).map (·.c))
 dead:∀x,f.c.cell=U x->rG X.S f.c.part f.c.num x
 ft:∀g∈tr0.take l++[f],Wf X g.c.part/\g.c.untried.length<=8
 cell:∀x,f.c.cell=U x->x∈f.c.part.dom f.c.num
 ju:∀g∈tr0.take l++[f],g.ju≠jt
 lo:∀g∈tr0.take l++[f],lo<=g.jc
 jb:X.base.length<jt
def Wn.cg {lo:Nat}(W:Wn X k lo j l f g J w):Cg X.S k ((j.take l).map (·.c)++[f.c]) ((j.take l).map (·.c)).length f.c:=by
 let T:=W.T;rw[Mu]at T;show T.last
def Fx {lo:Nat}{us:Z Ce}(H:Hs X) (h5:X.ns.length<=5) (W:Wn X h lo tr0 l f P J w) (hu:f.c.untried=us++[x]) (hlo:lo<=f.jc):
  ∃(R:Pt) (dR:D) (J':DEnv) (w':Int->Int),
   aq (bT 3 "Choice" "cell" (λO=>rY 2 O) (uK 3 (λO=>af 3 "Choice" "untried" O (rY 2 O))) ([U (.loc (U "Search") 0,Y),U (.loc B P,Y),U (K7 f,Y)]++J)) (λO=>bT 3 "Choice" "result" (λO=>rY 2 O) (dy 3 "Search" "tried" aO (λO=>rY 0 O) (bX (λO=>aa (af 3 "Choice" "part" O (rY 2 O)) (aa (af 3 "Choice" "number" O (rY 2 O)) (aa (af 3 "Choice" "cell" O (rY 2 O)) (U [])))))) O)=U (.next ([U (.loc (U "Search") 0,Y),U (.loc B P,Y),U (K7 f,Y)]++J'))/\
   Hst X J' w'/\Grw 4 w w'/\J.length<=J'.length/\(∀i,i<J.length->i≠X.base.length->i≠f.jc->i≠f.ju->J'[i]?=J[i]?)/\
   Cst J' f.jc f.ju dR (rW f.c us x R)/\
   ((dR=.non/\rG X.S f.c.part f.c.num x)\/(SetF X J' ⟨rW f.c us x R,f.jc,f.ju,dR⟩ J'.length/\Cr X.S (rW f.c us x R) x/\∃Z7,dR=.loc (U "Part") Z7/\J.length<=Z7)):=by
 let g:=W.cg;let wf:=(W.ft f (by simp)).1
 let o:=W.own;let hjc:=(L9.mp o.cs.o).1
 let hju:=(L9.mp o.cs.u).1
 let r:=o.cs.ne;let ul:=(W.ft f (by simp)).2
 rw[hu]at ul;simp at ul;let hx:x∈f.c.part.dom f.c.num:=g.unt x (by rw[hu];simp)
 letI E:DEnv:=[U (.loc (U "Search") 0,Y),U (.loc B P,Y),U (K7 f,Y)]
 letI σ1:=J.set f.ju (U (.lst (us.map KQ),V))
 let o1:σ1[f.jc]?=U (U (.ob "Choice" nsChoice (IQ f.c f.ju f.dR),V)):=by change(J.set _ _)[f.jc]?=_;rw[Mh (λz=>r z.symm)];show o.cs.o
 let e1:uK 3 (λO=>af 3 "Choice" "untried" O (rY 2 O)) (E++J)=U (KQ x,E++σ1):=HQ (ns:=E) (d:=KQ x) (ds:=us.map KQ) rfl (o.cs.un (ns:=E) rfl rfl) (by rw[o.cs.u,hu,Mu];rfl) ⋯
 letI c2:=rW f.c us x f.c.result
 letI k:=σ1.set f.jc (U (.ob "Choice" nsChoice (IQ c2 f.ju f.dR),V))
 let e2:bT 3 "Choice" "cell" (λO=>rY 2 O) (uK 3 (λO=>af 3 "Choice" "untried" O (rY 2 O))) (E++J)=U (.next (E++k)):=Jd (ns:=E) rfl e1 rfl o1 Jc.2.1 (Jm ..).2.1 ∅
 let l2:k.length=J.length:=by simp[k,σ1]
 let s:Cst k f.jc f.ju f.dR c2:=by
  show⟨Mz (by simp[σ1];show hjc),?_⟩
  change(σ1.set _ _)[f.ju]?=_;rw[Mh r]
  show Mz hju
 let off2:∀i,i≠f.jc->i≠f.ju->k[i]?=J[i]?:=λi h1 m=>by
  change((J.set _ _).set _ _)[i]?=_;rw[Mh (λz=>h1 z.symm),Mh (λz=>m z.symm)]
 let hlo':=o.lo;let F:=o.ju;let m:Hst X k w:=W.hst.off λi hi=>off2 i () ()
 let(res,q,L,et,I,g3,l3,o3,C):=AV (d:=aE f.c.part) (c:=x) H h5 m (λτ _=>i7 f.c.part) wf g.ok g.num hx
 let s3:q[f.jc]?=U (U (.ob "Choice" nsChoice (IQ c2 f.ju f.dR),V)):=by rw[o3 _ ⟨⟩ ()];show s.o
 let e3:dy 3 "Search" "tried" aO (λO=>rY 0 O) (bX (λO=>aa (af 3 "Choice" "part" O (rY 2 O)) (aa (af 3 "Choice" "number" O (rY 2 O)) (aa (af 3 "Choice" "cell" O (rY 2 O)) (U []))))) (E++k)=U (res,E++q):=by
  show lU (ns:=E) (ds:=[aE f.c.part,.int f.c.num,KQ x]) rfl rfl (m.at0 H) ∅ (fL ?_) et
  let a1:=s.pa (ns:=E) (n:=3) (x:=rY 2 (E++k)) rfl rfl;let a2:=s.nu (ns:=E) (n:=3) (x:=rY 2 (E++k)) rfl rfl;let a3:=s.ce (ns:=E) (n:=3) (x:=rY 2 (E++k)) rfl rfl;show(congr (p_ aa a1) (congr (p_ aa a2) (p_ (λz=>aa z (U [])) a3))).trans rfl
 letI j (R:Pt):=q.set f.jc (U (.ob "Choice" nsChoice (IQ (rW f.c us x R) f.ju res),V))
 let e4:∀R,bT 3 "Choice" "result" (λO=>rY 2 O) (dy 3 "Search" "tried" aO (λO=>rY 0 O) (bX (λO=>aa (af 3 "Choice" "part" O (rY 2 O)) (aa (af 3 "Choice" "number" O (rY 2 O)) (aa (af 3 "Choice" "cell" O (rY 2 O)) (U [])))))) (E++k)=U (.next (E++j R)):=λR=>Jd (ns:=E) rfl e3 rfl s3 Jc.2.2 (Jm ..).2.2 ∅
 let v:∀R i,i≠f.jc->(j R)[i]?=q[i]?:=λR i hi=>by change(q.set _ _)[i]?=_;rw[Mh (λz=>hi z.symm)]
 let l4:∀R,(j R).length=q.length:=λR=>by simp[j]
 let Q:∀R,Hst X (j R) L:=λR=>I.off λi hi=>v R i ()
 let s4:∀R,Cst (j R) f.jc f.ju res (rW f.c us x R):=λR=>⟨Mz (),by rw[v R _ (λz=>r z.symm),o3 _ ⟨⟩ ()];show s.u⟩
 let p:∀R i,i<J.length->i≠X.base.length->i≠f.jc->i≠f.ju->(j R)[i]?=J[i]?:=λR i h1 m I Q=>by rw[v R i I,o3 i ⟨⟩ m,off2 i I Q]
 rcases C with⟨rfl,t⟩|⟨Z7,a,b,A,rfl,K,M,O',T,hks,hrs,N,hJ⟩
 .show⟨f.c.result,.non,j f.c.result,L,LJ e2 (e4 _),Q _,g3,by simp_all,p _,s4 _,.inl ⟨rfl,t⟩⟩
 .show⟨A,_,j A,L,LJ e2 (e4 _),Q _,g3,by simp_all,p _,s4 _,.inr ⟨⟨⟨s4 A,o.lo,⟨F.1,by rw[l4];change f.ju<_;lia⟩,?_⟩,?_,M,hks,λy hy=>?_⟩,⟨rfl,hx,O',T⟩,Z7,rfl,⟨⟩⟩⟩
  .let hJ3:=(L9.mp K.o).1
   simp![L2.lb,decide_eq_true_eq];rw[l4];show hJ3
  .let h1:=(L9.mp K.o).1
   let m:=(L9.mp K.sa).1
   let I:=(L9.mp K.sb).1
   show⟨Z7,a,b,rfl,K.off λi hi=>v A i ?_,?_,by simp_all⟩
   .rcases hi with rfl|rfl|rfl<;>lia
   .change f.jc<Z7/\f.jc<a/\f.jc<b;lia
  .have:=N f.c.num y hy
   let e:(BI f.c.part f.c.num x).dom f.c.num=[x]:=n_ rfl;rw[e]at this;rw[My.mp this];rfl
section
variable{X:Sx}{first:Pt}{lo:Nat}{tr0:Z Cf}{l:Nat}{f:Cf}{jt:Nat}{J:DEnv}{w:Int->Int}
def Wn.ne (W:Wn X first lo tr0 l f jt J w):jt≠f.jc:=λz=>by
 let k:=W.list;rw[z,W.own.cs.o]at k;ext k
def wz (H:Hs X) (W:Wn X first lo tr0 l f jt J w):∃v k,aN [.loc (U "Search") 0,K7 f] J=U (.non,Y,k)/\Wn X first lo tr0 l v jt k w/\Sim v f/\v.c.untried.length<=f.c.untried.length/\J.length<=k.length/\v.jc=f.jc/\∀i,i<J.length->i≠f.jc->k[i]?=J[i]?:=by
 let g:=W.cg;let r:=W.ft f (by simp)
 let o:=W.own;let(keep,y,k,e,b,x,o1,d,p):=oM H W.hst o.cs r.1 g.ok g.num g.unt W.cell W.dead r.2;let m:X.base.length<J.length:=(L9.mp W.hst.w).1
 let n:=o.lo;let h:=o.ju;let t:=(L9.mp W.list).1
 let a:=(L9.mp o.cs.o).1
 let q:=(L9.mp b.u).1
 letI v:Cf:=⟨wU f.c (f.c.untried.filter keep),f.jc,y,f.dR⟩
 let j:∀g∈tr0.take l++[v],g∈tr0.take l\/g=v:=λg hg=>(Mw.mp hg).imp id My.mp
 show⟨v,k,e,⟨W.hst.off λi hi=>o1 i () (),?_,W.pre.off λi hi _=>o1 i () (),⟨b,o.lo,?_,py d _ o.lr⟩,W.sim,?_,W.dead,λg hg=>?_,W.cell,λg hg=>?_,λg hg=>?_,W.jb⟩,⟨rfl,rfl,rfl,rfl,rfl⟩,MS ..,d,rfl,o1⟩
 .rw[o1 jt t W.ne,W.list]
  simp[K7,v]
 .show⟨?_,q⟩
  change f.jc<y
  rcases p with rfl|z<;>rfl'
 .rw[Mu]
  let T:=W.T;rw[Mu]at T;show T.setLast (g.drop keep x)
 .rcases j g hg with z|rfl
  .show W.ft g (MI _ z)
  .show⟨r.1,ME (MS ..) r.2⟩
 .rcases j g hg with z|rfl
  .show W.ju g (MI _ z)
  .change y≠jt
   rcases p with rfl|z
   .show W.ju f (by simp)
   .lia
 .rcases j g hg with z|rfl
  .show W.lo g (MI _ z)
  .show W.lo f (by simp)
def om {ds:Z D}{k:Nat}:pE ds B (U (k:Int))=ds.take k:=by
 unfold pE LR;left;rw[o_ ⟨⟩]
 simp
def It (h:aq x u=U (.next O)) (k:g O=r):aq x (λO=>aq (u O) g)=r:=by
 cases x with
 |none=>ext h
 |some o=>
  cases o with
  |next j=>
   simp_all
  |ret d b j=>ext h
  |brk j=>ext h
  |cont j=>ext h
inductive Pas (X:Sx) (first:Pt) (lo:Nat) (tr0:Z Cf) (l:Nat) (f:Cf) (jt:Nat) (J:DEnv) (w:Int->Int) (y2:G (D×Bool)):Prop where
 |got (J':DEnv) (w':Int->Int) (f':Cf) (y:G (D×Bool)) (e:aw ([U (.loc (U "Search") 0,Y),U (.loc B jt,Y),y2]++J)=U (.ret (.loc B jt) Y ([U (.loc (U "Search") 0,Y),U (.loc B jt,Y),y]++J'))) (h:Hst X J' w') (g:Grw 4 w w') (s:Sim f' f) (set:SetF X J' f' J'.length) (pre:PreS X J' (tr0.take l) f'.jc) (lst:J'[jt]?=U (U (.lst ((tr0.take l++[f']).map K7),V))) (T:Tr X.S first ((tr0.take l++[f']).map (·.c))) (cr:∃x,Cr X.S f'.c x) (un:f'.c.untried.length<f.c.untried.length) (ft:∀g∈tr0.take l++[f'],Wf X g.c.part/\g.c.untried.length<=8) (ju:∀g∈tr0.take l++[f'],g.ju≠jt) (Z7:Nat) (hJ:f'.dR=.loc (U "Part") Z7/\J.length<=Z7) (len:J.length<=J'.length) (off:∀i,i<lo->i≠X.base.length->J'[i]?=J[i]?)
 |fail (J':DEnv) (w':Int->Int) (f':Cf) (y:G (D×Bool)) (e:aw ([U (.loc (U "Search") 0,Y),U (.loc B jt,Y),y2]++J)=U (.next ([U (.loc (U "Search") 0,Y),U (.loc B jt,Y),y]++J'))) (g:Grw 4 w w') (W:Wn X first lo tr0 l f' jt J' w') (un:f'.c.untried.length<f.c.untried.length) (len:J.length<=J'.length) (off:∀i,i<lo->i≠X.base.length->J'[i]?=J[i]?)
 |none (J':DEnv) (jt':Nat) (y:G (D×Bool)) (e:aw ([U (.loc (U "Search") 0,Y),U (.loc B jt,Y),y2]++J)=U (.next ([U (.loc (U "Search") 0,Y),U (.loc B jt',Y),y]++J'))) (lst:J'[jt']?=U (U (.lst [],V))) (nv:jZ X.S first)
 |up (J':DEnv) (jt' j:Nat) (g:Cf) (y:G (D×Bool)) (e:aw ([U (.loc (U "Search") 0,Y),U (.loc B jt,Y),y2]++J)=U (.next ([U (.loc (U "Search") 0,Y),U (.loc B jt',Y),y]++J'))) (hj:j<l) (hg:tr0[j]?=U g) (W:Wn X first lo tr0 j g jt' J' w) (len:J.length<=J'.length) (off:∀i,i<lo->i≠X.base.length->J'[i]?=J[i]?)
def zx {ns:DEnv}(h:Cst J jc ju dR c) (k:ns.length=3) (j:x=U (.loc (U "Choice") jc)):jD (L1 3 (ns++J) (af 3 "Choice" "untried" (ns++J) x))=U (!c.untried.isEmpty):=by
 rw[h.un k j,cY k h.u rfl];change U (!(c.untried.map KQ).isEmpty)=_;simp
def xt (H:Hs X) (h5:X.ns.length<=5) (hl5:tr0.length<=5) (W:Wn X first lo tr0 l f jt J w) (y2:G (D×Bool)):Pas X first lo tr0 l f jt J w y2:=by
 letI E (jt:Nat) (y2:G (D×Bool)):DEnv:=[U (.loc (U "Search") 0,Y),U (.loc B jt,Y),y2]
 let(f1,σ1,ed,W1,s1,u1,l1,jc1,o1):=wz H W;let hlw:X.base.length<J.length:=(L9.mp W.hst.w).1
 let hlo:lo<=f.jc:=W.lo f (by simp)
 let hjcl:=(L9.mp W.own.cs.o).1
 let cf1:K7 f1=K7 f:=by ext K7;rw[jc1]
 let ex:Ew 3 (E jt y2++J) (rY 1 (E jt y2++J)) (yQ (U (.int 1)))=U (K7 f):=by
  change Lm (Jr 3 (E jt y2++J) (U (.loc B jt))) (U (.int (-1)))=_;rw[gF (ns:=E jt y2) (n:=3) rfl W.list rfl,Mu];show LG rfl rfl (sC _ _ ?_)
  rw[Ms,Nu];lia
 let ebase:∀{r},(JZ (jD (L1 3 (E jt (U (K7 f,Y))++σ1) (af 3 "Choice" "untried" (E jt (U (K7 f,Y))++σ1) (rY 2 (E jt (U (K7 f,Y))++σ1))))) (aq (bT 3 "Choice" "cell" (λO=>rY 2 O) (uK 3 (λO=>af 3 "Choice" "untried" O (rY 2 O))) (E jt (U (K7 f,Y))++σ1)) (λO=>aq (bT 3 "Choice" "result" (λO=>rY 2 O) (dy 3 "Search" "tried" aO (λO=>rY 0 O) (bX (λO=>aa (af 3 "Choice" "part" O (rY 2 O)) (aa (af 3 "Choice" "number" O (rY 2 O)) (aa (af 3 "Choice" "cell" O (rY 2 O)) (U [])))))) O) (λO=>JZ (a7 (o7 (af 3 "Choice" "result" O (rY 2 O)))) (bN (rY 1 O) O) (aU O)))) (fB 1 (bu 3 (λO=>AG 3 O (rY 1 O) (U B) (bA (gX (af 3 "Choice" "above" O (rY 2 O)) (U (.int 1))))) (E jt (U (K7 f,Y))++σ1))))=r->aw (E jt y2++J)=r:=λk=>
  JI (d:=K7 f) ex (LJ (Im (lU (ns:=E jt (U (K7 f,Y))) rfl rfl (W.hst.at0 H) ∅ (fL rfl) ed)) k)
 let et:=zx (ns:=E jt (U (K7 f,Y))) (x:=U (K7 f)) W1.own.cs rfl (by rw[<-cf1];rfl)
 rcases PN f1.c.untried with hu|⟨us,x,hu⟩
 .-- all of its cells have failed
  rw[hu]at et;let T1:=W1.T;let hlast:((tr0.take l++[f1]).map (·.c))[(tr0.take l).length]?=U f1.c:=by rw[Mu];simp
  let eab:=W1.own.cs.ab (n:=3) (ns:=E jt (U (K7 f,Y))) (x:=U (K7 f)) rfl (by rw[<-cf1];rfl)
  let el:Jr 3 (E jt (U (K7 f,Y))++σ1) (U (.loc B jt))=U (.lst ((tr0.take l++[f1]).map K7)):=gF (ns:=E jt (U (K7 f,Y))) (n:=3) rfl W1.list rfl;let cut:∀k:Nat,gX (U (Jk f1.c.above)) (U (.int 1))=U (.int (k:Int))->fB 1 (bu 3 (λO=>AG 3 O (rY 1 O) (U B) (bA (gX (af 3 "Choice" "above" O (rY 2 O)) (U (.int 1))))) (E jt (U (K7 f,Y))++σ1))=U (.next (E σ1.length (U (K7 f,Y))++(σ1++[U (.lst (((tr0.take l++[f1]).map K7).take k),V)]))):=λk hk=>by
   show gM (ns:=E jt (U (K7 f,Y))) (lW (ns:=E jt (U (K7 f,Y))) rfl ?_)
   change cR (Jr 3 (E jt (U (K7 f,Y))++σ1) (U (.loc B jt))) (U B) (bA (gX (af 3 "Choice" "above" (E jt (U (K7 f,Y))++σ1) (U (K7 f))) (U (.int 1))))=_;simp[el,eab,hk,om]
  rcases IA T1 hlast hu W1.dead with⟨ha,nv⟩|⟨j,c',ha,hj,hc',hd⟩
  .show .none _ σ1.length (U (K7 f,Y)) (ebase (J6 et (cut 0 (by rw[ha];rfl)))) (by simp) nv
  .let hjl:j<(tr0.take l).length:=hj
   let hl:(tr0.take l).length=l:=by
    let(g,hg,_):=W.sim;have:=(L9.mp hg).1
    rw[Nu];lia
   obtain⟨g,hg,hgc⟩:∃g,(tr0.take l)[j]?=U g/\g.c=c':=by
    rw[Mu,Me (by simpa using hjl),MO]at hc'
    show O4.mp hc'
   let hg0:tr0[j]?=U g:=by rw[MP ⟨⟩]at hg;show hg
   let(pj,sj,lj):=W1.pre.cut hg;let tk:(tr0.take l++[f1]).take (j+1)=tr0.take j++[g]:=by
    rw[NR (),Qj,Pf (),RM,hg0];rfl
   let tk2:(tr0.take l).take j=tr0.take j:=by rw[Qj,Pf ()]
   rw[tk2]at pj;let sub:∀g'∈tr0.take j++[g],g'∈tr0.take l++[f1]:=λg' hg'=>by rw[<-tk]at hg';show OT hg'
   letI σ2:DEnv:=σ1++[U (.lst (((tr0.take l++[f1]).map K7).take (j+1)),V)]
   let off2:∀i,i<σ1.length->σ2[i]?=σ1[i]?:=λi hi=>Me hi
   let hsj:=(L9.mp W1.own.cs.o).1
   let(x,crx):=T1.cr j c' hc' (by simp_all)
   show .up σ2 σ1.length j g (U (K7 f,Y)) (ebase (J6 et (cut (j+1) (by rw[ha];rfl)))) ⟨⟩ hg0 ⟨W1.hst.off λi hi=>off2 i (),?_,pj.off λi hi _=>off2 i (),(sj.own.mono (OD hsj)).off (λi hi _=>off2 i hi) |>.mono (by simp[σ2]),⟨g,hg0,Sim.rfl' g⟩,?_,?_,λg' hg'=>W1.ft g' (sub g' hg'),?_,λg' hg' z=>?_,λg' hg'=>W1.lo g' (sub g' hg'),()⟩ (by simp[σ2];lia) λi hi hb=>?_
   .rw[MK (Mj _),Q3,<-tk,OE];rfl
   .rw[<-tk,OE];show T1.cut (j+1)
   .rw[hgc];show hd
   .rw[hgc];intro y hy
    rw[crx.cell]at hy;ext hy;show crx.dom
   .have:g'.ju<σ1.length:=by
     rcases Mw.mp hg' with v|v
     .let(i,hi):=MV.mp v
      let h2:=(pj i g' hi).1.own.ju;let h3:=(pj i g' hi).2;lia
     .rw[My.mp v]
      have:=sj.own.ju;lia
    rfl'
   .rw[off2 i ()];show o1 i () ()
 .-- the next one is tried
  rw[PP]at hu;rw[hu]at et;let et':jD (L1 3 (E jt (U (K7 f,Y))++σ1) (af 3 "Choice" "untried" (E jt (U (K7 f,Y))++σ1) (U (K7 f))))=U V:=et.trans (by simp)
  let(R,dR,σ2,w2,e2,h2,g2,l2,o2,c2,hres):=Fx H h5 W1 hu (by rw[jc1];show hlo)
  rw[cf1]at e2;let hju:=W1.own.ju;let hun:us.length<f.c.untried.length:=by rw[hu]at u1;simp at u1;lia
  let jtl:=(L9.mp W1.list).1
  let jtw:jt≠X.base.length:=λz=>by
   have:=W1.list;rw[z,W1.hst.w]at this;ext this
  let jtj:jt≠f1.ju:=λz=>W1.ju f1 (by simp) z.symm
  let off:∀i,i<lo->i≠X.base.length->σ2[i]?=J[i]?:=λi hi hb=>by
   rw[o2 i () hb () ()];show o1 i () ()
  letI f2:Cf:=⟨rW f1.c us x R,f1.jc,f1.ju,dR⟩
  let mem2:∀g∈tr0.take l++[f2],g∈tr0.take l\/g=f2:=λg hg=>(Mw.mp hg).imp id My.mp
  let lst2:σ2[jt]?=U (U (.lst ((tr0.take l++[f2]).map K7),V)):=by
   rw[o2 jt jtl jtw W1.ne jtj,W1.list];simp[K7,f2]
  let pre2:PreS X σ2 (tr0.take l) f2.jc:=W1.pre.off λi hi hb=>o2 i (by have:=(L9.mp W1.own.cs.o).1;lia) hb () ()
  let T2:Tr X.S first ((tr0.take l++[f2]).map (·.c)):=by
   rw[Mu];let T:=W1.T;rw[Mu]at T;show T.setLast (W1.cg.take R hu W1.dead)
  let ft2:∀g∈tr0.take l++[f2],Wf X g.c.part/\g.c.untried.length<=8:=λg hg=>by
   rcases mem2 g hg with z|rfl
   .show W1.ft g (MI _ z)
   .let h:=W1.ft f1 (by simp)
    show⟨h.1,?_⟩
    have:=h.2;rw[hu]at this;simp at this;change us.length<=8;lia
  let ju2:∀g∈tr0.take l++[f2],g.ju≠jt:=λg hg=>by
   rcases mem2 g hg with z|rfl
   .show W1.ju g (MI _ z)
   .show λz=>jtj z.symm
  let ere:=c2.re (ns:=E jt (U (K7 f,Y))) (n:=3) (x:=U (K7 f)) rfl (by rw[<-cf1];rfl)
  rcases hres with⟨rfl,hdead⟩|⟨set2,cr2,Z7,hJ,hJl⟩
  .show .fail σ2 w2 f2 (U (K7 f,Y)) (ebase (JU et' (It e2 (J6 ((p_ (λz=>a7 (o7 z)) ere).trans rfl) rfl)))) g2 ⟨h2,lst2,pre2,⟨c2,W1.own.lo,⟨hju.1,by change f1.ju<_;lia⟩,rfl⟩,?_,T2,λy hy=>?_,ft2,λy hy=>?_,ju2,λg hg=>?_,W1.jb⟩ hun () off
   .let(g,hg,hs):=W1.sim
    show⟨g,hg,hs⟩
   .ext hy;show hdead
   .ext hy;show W1.cg.unt x (by rw[hu];simp)
   .rcases mem2 g hg with z|rfl
    .show W1.lo g (MI _ z)
    .show W1.lo f1 (by simp)
  .show .got σ2 w2 f2 (U (K7 f,Y)) (ebase (JU et' (It e2 (JU ((p_ (λz=>a7 (o7 z)) ere).trans (by rw[hJ];rfl)) rfl)))) h2 g2 s1 set2 pre2 lst2 T2 ⟨x,cr2⟩ hun ft2 ju2 Z7 ⟨hJ,()⟩ () off
end
def Grw.trans (h:Grw a w j) (g:Grw b j k):Grw (a+b) w k:=λn=>by
 let v:=h n;let u:=g n;lia
def Grw.le (h:Grw a w k) (j:a<=b):Grw b w k:=λn=>by have g:=h n;lia
def wg {ns J τ:DEnv}{fr:Bool}(k:ns.length=n) (j:JL J.length J τ=Y):eV n J (U (.ret d fr (ns++τ)))=U (d,fr,τ):=by
 unfold eV pF
 simp_all
def AX {ns J τ:DEnv}{fr:Bool}(g:ns.length=n):∃k,eV n J (U (.ret (.loc B j) fr (ns++τ)))=U (.loc B j,fr,k)/\k[j]?=τ[j]?:=by
 unfold eV pF;left;rw[sN g];split
 .simp_all [L2.lb,Mo,decide_eq_true_eq]
 .show⟨_,rfl,rfl⟩
def Hv (h:∀c∈t,c.untried.length<=Tx):mu t<=(Tx+1)*t.length:=by
 ext mu
 induction t with
 |nil=>simp
 |cons c t ih=>
  let h1:=h c (MB ..);let h2:=ih λd hd=>h d (MA _ hd)
  rw[Mx,RD,MX,RV];lia
inductive Nxt (X:Sx) (first:Pt) (lo:Nat) (tr0:Z Cf) (jt:Nat) (J:DEnv) (w:Int->Int):Prop where
 |none (jt':Nat) (J':DEnv) (e:aB [.loc (U "Search") 0,.loc B jt] J=U (.loc B jt',Y,J')) (lst:J'[jt']?=U (U (.lst [],V))) (nv:jZ X.S first)
 |got (jt':Nat) (J':DEnv) (w':Int->Int) (l:Nat) (g f:Cf) (e:aB [.loc (U "Search") 0,.loc B jt] J=U (.loc B jt',Y,J')) (hl:tr0[l]?=U g) (s:Sim f g) (lst:J'[jt']?=U (U (.lst ((tr0.take l++[f]).map K7),V))) (h:Hst X J' w') (g:Grw 200 w w') (set:SetF X J' f J'.length) (pre:PreS X J' (tr0.take l) f.jc) (T:Tr X.S first ((tr0.take l++[f]).map (·.c))) (cr:∃x,Cr X.S f.c x) (vl:vv ((tr0.take l++[f]).map (·.c))<wv (tr0.map (·.c))) (ft:∀g∈tr0.take l++[f],Wf X g.c.part/\g.c.untried.length<=8) (ju:∀g∈tr0.take l++[f],g.ju≠jt') (jb:X.base.length<jt') (len:J.length<=J'.length) (off:∀i,i<lo->i≠X.base.length->J'[i]?=J[i]?)
def se {lo:Nat}{f0:Cf}(H:Hs X) (h5:X.ns.length<=5) (hl5:(Q++[f0]).length<=5) (W:Wn X k lo (Q++[f0]) Q.length f0 v J w):Nxt X k lo (Q++[f0]) v J w:=by
 generalize htr:Q++[f0]=tr0 at*;let F:tr0.take Q.length++[f0]=tr0:=by rw[<-htr];simp
 letI E (v:Nat) (a:G (D×Bool)):DEnv:=[U (.loc (U "Search") 0,Y),U (.loc B v,Y),a]
 letI M:=mu (tr0.map (·.c))
 let hM:M<=45:=by
  let r:=Hv (t:=tr0.map (·.c)) (Tx:=8) λc hc=>by
   let(g,hg,rfl):=MC.mp hc;rw[<-F]at hg;show(W.ft g hg).2
  rw[Ms]at r;change mu _<=45;lia
 let own0:∀g∈tr0,Own X J g J.length:=λg hg=>by
  rw[<-F]at hg;let hfl:=(L9.mp W.own.cs.o).1
  rcases Mw.mp hg with z|z
  .let(i,hi):=MV.mp z
   let(r,K):=W.pre i g hi;show r.own.mono ()
  .rw[My.mp z];show W.own
 let run:=eC (t:=a6) (b:=aw)
  (λm O=>(∃l f v J' P a,O=E v a++J'/\Wn X k lo tr0 l f v J' P/\m=mu ((tr0.take l++[f]).map (·.c))/\m<=M/\Grw (4*(M - m)) w P/\J.length<=J'.length/\(∀i,i<lo->i≠X.base.length->J'[i]?=J[i]?)/\wv ((tr0.take l++[f]).map (·.c))<=wv (tr0.map (·.c)))\/(m=0/\∃v J' a,O=E v a++J'/\J'[v]?=U (U (.lst [],V))/\jZ X.S k))
  (λO=>∃v J' a,O=E v a++J'/\J'[v]?=U (U (.lst [],V))/\jZ X.S k)
  (λd fr O=>∃N J' y P l g f Z7,d=.loc B N/\fr=Y/\O=E N y++J'/\tr0[l]?=U g/\Sim f g/\J'[N]?=U (U (.lst ((tr0.take l++[f]).map K7),V))/\Hst X J' P/\Grw 200 w P/\SetF X J' f J'.length/\PreS X J' (tr0.take l) f.jc/\Tr X.S k ((tr0.take l++[f]).map (·.c))/\(∃x,Cr X.S f.c x)/\vv ((tr0.take l++[f]).map (·.c))<wv (tr0.map (·.c))/\(∀g∈tr0.take l++[f],Wf X g.c.part/\g.c.untried.length<=8)/\(∀g∈tr0.take l++[f],g.ju≠N)/\X.base.length<N/\J.length<=J'.length/\(∀i,i<lo->i≠X.base.length->J'[i]?=J[i]?)/\f.dR=.loc (U "Part") Z7/\J.length<=Z7)
  (λm O hI=>by
   rcases hI with⟨l,f,v,J',P,a,rfl,W',hm,hmM,gw,hlen,C,hwv⟩|⟨hm,v,J',a,rfl,I,nv⟩
   .let et:a6 (E v a++J')=U V:=(p_ jD (cY (ns:=E v a) (n:=3) rfl W'.list rfl)).trans (by simp[jD])
    let hmp:0<m:=by rw[hm];show BA (by simp)
    let hll:l<tr0.length:=by let(g,hg,_):=W'.sim;show(L9.mp hg).1
    let tkl:(tr0.take l).length=l:=by rw[Nu];lia
    let p10:0<10 ^ (4 - l):=Nat.pos_of_ne_zero (by simp)
    let A:∀p:Cf,p.c.untried.length<f.c.untried.length->wv ((tr0.take l++[p]).map (·.c))+10 ^ (4 - l)<=wv ((tr0.take l++[f]).map (·.c)):=λp hf=>by
     rw[Mu,Mu,Mx,Mx,RN,xk,xk,Ms,tkl];have:(p.c.untried.length+1)*10 ^ (4 - l)<=f.c.untried.length*10 ^ (4 - l):=Nat.mul_le_mul_right _ hf;rw[Nat.succ_mul]at this;lia
    let mlt:∀p:Cf,p.c.untried.length<f.c.untried.length->mu ((tr0.take l++[p]).map (·.c))<m:=λp hf=>by
     rw[hm,Mu,Mu,uz,uz];simp[mu];rfl'
    cases xt H h5 hl5 W' a with
    |got u L p y e h g s set pre lst T cr un ft ju Z7 hJ len off=>
     let(g0,hg0,R):=W'.sim;let r:=A p un;show .inr (.inr ⟨et,_,_,_,e,v,u,y,L,l,g0,p,Z7,rfl,rfl,rfl,hg0,⟨s.1.trans R.1,s.2.1.trans R.2.1,s.2.2.1.trans R.2.2.1,s.2.2.2.1.trans R.2.2.2.1,s.2.2.2.2.trans R.2.2.2.2⟩,lst,h,(gw.trans g).le (),set,pre,T,cr,?_,ft,ju,W'.jb,(),λi r K=>by rw[off i r K];show C i r K,hJ.1,()⟩)
     ext vv;have:((tr0.take l++[p]).map (·.c)).length=l+1:=by rw[Ms,MF,tkl];rfl
     rw[this,show 5 - (l+1)=4 - l by rfl']
     lia
    |fail u L p y e g W2 un len off=>
     let r:=A p un;let K:=mlt p un;show .inr (.inl ⟨et,_,mu ((tr0.take l++[p]).map (·.c)),e,K,.inl ⟨l,p,v,u,L,y,rfl,W2,rfl,(),(gw.trans g).le (),(),λi r K=>by rw[off i r K];show C i r K,()⟩⟩)
    |none u q y e lst nv=>show .inr (.inl ⟨et,_,0,e,hmp,.inr ⟨rfl,q,u,y,rfl,lst,nv⟩⟩)
    |up u q j g y e hj hg W2 len off=>
     let tk:tr0.take j++[g]=tr0.take (j+1):=by rw[RM,hg];rfl
     let tk2:tr0.take (j+1)=(tr0.take l).take (j+1):=by rw[Qj,Pf ()]
     let r:mu ((tr0.take j++[g]).map (·.c))<m:=by
      rw[tk,tk2,OE,hm,Mu,uz];have:=CO ((tr0.take l).map (·.c)) (j+1)
      have:0<mu ([f].map (·.c)):=BA (by simp)
      lia
     let K:wv ((tr0.take j++[g]).map (·.c))<=wv ((tr0.take l++[f]).map (·.c)):=by
      rw[tk,tk2,OE,Mu];show ME (Ej _ _) (FX _ _)
     show .inr (.inl ⟨et,_,mu ((tr0.take j++[g]).map (·.c)),e,r,.inl ⟨j,g,q,u,P,y,rfl,W2,rfl,(),gw.le (),(),λi r K=>by rw[off i r K];show C i r K,()⟩⟩)
   .show .inl ⟨(p_ jD (cY (ns:=E v a) (n:=3) rfl I rfl)).trans rfl,v,J',a,rfl,I,nv⟩)
  1048576 M (E v B++J) (.inl ⟨Q.length,f0,v,J,w,B,rfl,W,by rw[F],Mj _,λn=>⟨⟩,Mj _,λ_ _ _=>rfl,by rw[F];show Mj _⟩) ()
 let base:aB [.loc (U "Search") 0,.loc B v] J=eV 3 J (bt (E v B++J)):=bh rfl
 rcases run with⟨δ',e,q,u,y,rfl,lst,nv⟩|⟨d,fr,δ',e,q,u,y,L,l,g,f,Z7,rfl,rfl,rfl,hg,hs,lst,K,g2,set,pre,T,cr,vl,ft,ju,jb,len,off,hJ,hJl⟩
 .let(τ,eτ,hτ):=AX (n:=3) (ns:=E q y) (J:=J) (τ:=u) (j:=q) (fr:=Y) rfl
  show .none q τ (base.trans ((p_ (eV 3 J) (LJ e rfl)).trans eτ)) (by rw[hτ];show lst) nv
 .let hgo:=own0 g (Mr hg)
  let hc:JL J.length J u=Y:=by
   let o1:=hgo.cs.o;let o2:=set.own.cs.o;rw[hs.2.2.2.2]at o2;show oN o1 o2 (λz=>?_) (by rw[hJ];simp[lbE,L2.lb,L2.KO,IQ];rfl')
   let h3:=hgo.lr;simp[IQ]at z;rw[z.2.2.2.2.2.2,hJ]at h3;simp![L2.lb,decide_eq_true_eq]at h3;lia
  show .got q u L l g f (base.trans ((p_ (eV 3 J) (LI e)).trans (wg (ns:=E q y) rfl hc))) hg hs lst K g2 set pre T cr vl ft ju jb len off
theorem rj {fk:D->G D}:∀{cs:Z Int},(∀c∈cs,fk (f c)=U (.int (g c)))->lT fk (cs.map f)=U (cs.map g)
 |[],_=>rfl
 |c::cs,h=>by rw[Mx];ext lT;rw[h c (MB ..),rj λd hd=>h d (MA _ hd)];rfl
theorem lp (j:Nat->Nat->Bool):∀k,argBest j k<=k
 |0=>Mj _
 |k+1=>by
  unfold argBest;split
  .show Mj _
  .show Nat.le_succ_of_le (lp j k)
def Hd {fk:D->G D}{ds:Z D}{ks:Z Int}(k:x=U (.lst ds)) (j:lT fk ds=U ks) (h:0<ds.length) (e:ds[argBest (KB ks) (ds.length - 1)]?=U d):yE x fk=U d:=by
 subst k;ext yE;left;rw[j];left;rw[n_ h,e]
def pR (H:Hs X) (h:Hst X J w) (f:Wf X P) (j:∀n∈X.ns,0<w n/\w n<1073741824) (ne:∃n,n∈P.ks):∃n∈P.ks,aH [.loc (U "Search") 0,aE P] J=U (.int n,Y):=by
 letI N (y:G (D×Bool)):DEnv:=[U (.loc (U "Search") 0,Y),U (aE P,Y),y]
 let p:lT (BQ 2 [V,V,Y] bG (N B++J)) (P.ks.map D.int)=U (P.ks.map λn=>((P.dom n).length:Int)*1000 / w n):=rj λn k=>by
  letI M:=N (U (.int n,Y))
  change ac (U (M++J)) bG=_;let t:cS (h8 3 (M++J) (af 3 "Part" "domains" (M++J) (U (aE P))) (U (.int n)))=U (.int (P.dom n).length):=DU ((i7 P).dom (ns:=M) rfl rfl rfl k);let r:h8 3 (M++J) (af 3 "Search" "weights" (M++J) (U (.loc (U "Search") 0))) (U (.int n))=U (.int (w n)):=by
   ext h8;rw[show af 3 "Search" "weights" (M++J) (U (.loc (U "Search") 0))=_ from h.we H (ns:=M) rfl rfl,gF (n:=3) (ns:=M) rfl h.w (kI.cn _ _)]
   show kI.dix (us:=X.ns) (g:=λn=>.int (w n)) rfl rfl (f.kx n k)
  show By ((p_ (λz=>vQ z (U (.int 1000))) t).trans (mulI_s _ 1000 (.inr ∅))) r (j n (f.kx n k))
 let(c,v):=ne;let u:0<P.ks.length:=List.length_pos_of_mem v
 letI i:=argBest (KB (P.ks.map λn=>((P.dom n).length:Int)*1000 / w n)) ((P.ks.map D.int).length - 1)
 let hi:i<P.ks.length:=by
  have:=lp (KB (P.ks.map λn=>((P.dom n).length:Int)*1000 / w n)) ((P.ks.map D.int).length - 1)
  rw[Ms]at this;change argBest _ ((P.ks.map D.int).length - 1)<_;rw[Ms];lia
 show⟨P.ks[i],OH hi,Dw rfl (rO ?_)⟩
 let q:pN 3 (N B++J) (af 3 "Part" "domains" (N B++J) (U (aE P)))=U (.lst (P.ks.map D.int)):=kI.listK ((i7 P) (N B) 3 rfl).1.1;show Hd q p (by rw[Ms];show u) (by change(P.ks.map D.int)[i]?=_;rw[MO,Mq hi];rfl)
def IK:aJ ("above":MJ) ([]:Z MJ)=(["above"]:Z MJ)/\aJ ("part":MJ) (["above"]:Z MJ)=(["above","part"]:Z MJ)/\aJ ("number":MJ) (["above","part"]:Z MJ)=(["above","part","number"]:Z MJ)/\aJ ("todo":MJ) (["above","part","number"]:Z MJ)=(["above","part","number","todo"]:Z MJ)/\aJ ("untried":MJ) (["above","part","number","todo"]:Z MJ)=(["above","part","number","todo","untried"]:Z MJ)/\aJ ("cell":MJ) (["above","part","number","todo","untried"]:Z MJ)=(["above","part","number","todo","untried","cell"]:Z MJ)/\aJ ("result":MJ) (["above","part","number","todo","untried","cell"]:Z MJ)=nsChoice:=by
 trivial
def xY {X:Sx}{ns:DEnv}{td:Z (G Nat×Pt)}{j5:Nat}{fs:DEnv->G (Z D)}(v:ns.length=9) (hs:fs (ns++J)=U [Jk a,aE P,.int n,.loc B j5]) (z:J[j5]?=U (U (.lst (td.map Jg),V))) (p:n∈P.ks):
  rE 9 "Choice" ba (bX fs) (ns++J)=U (.loc (U "Choice") J.length,ns++(J++[U (.ob "Choice" nsChoice (IQ ⟨a,P,n,td,(P.dom n).reverse,B,P⟩ (J.length+1) (aE P)),V),U (.lst ((P.dom n).reverse.map KQ),V)])):=by
 letI N:DEnv:=[U (.loc (U "Choice") J.length,Y),U (Jk a,Y),U (aE P,Y),U (.int n,Y),U (.loc B j5,Y)]
 letI Z8 (ks:Z MJ) (vs:Z D):G (D×Bool):=U (.ob "Choice" ks vs,V)
 letI S (ks:Z MJ) (vs:Z D):DEnv:=J++[Z8 ks vs]
 letI R (ks:Z MJ) (vs:Z D):DEnv:=J++[Z8 ks vs,U (.lst ((P.dom n).reverse.map KQ),V)]
 let y:=(L9.mp z).1
 let j:∀ks vs ks' vs',(S ks vs).set J.length (Z8 ks' vs')=S ks' vs':=λks vs ks' vs'=>by simp[S]
 let u:∀ks vs ks' vs',(R ks vs).set J.length (Z8 ks' vs')=R ks' vs':=λks vs ks' vs'=>by simp[R]
 let k:∀ks vs,(S ks vs)[J.length]?=U (Z8 ks vs):=λks vs=>by simp[S]
 let g:∀ks vs,(R ks vs)[J.length]?=U (Z8 ks vs):=λks vs=>by simp[R]
 let K:=IK;let w:ba [.loc (U "Choice") J.length,Jk a,aE P,.int n,.loc B j5] (S [] [])=U (.non,Y,R nsChoice (IQ ⟨a,P,n,td,(P.dom n).reverse,B,P⟩ (J.length+1) (aE P))):=by
  show(bh rfl).trans ((p_ (eV 5 (S [] [])) (?_:fj (N++S [] [])=U (.next (N++R nsChoice (IQ ⟨a,P,n,td,(P.dom n).reverse,B,P⟩ (J.length+1) (aE P)))))).trans (tW (ns:=N) rfl (oN (k [] []) (g _ _) (by simp[Z8,IQ]) (by simp[Z8,lbE,L2.lb,L2.KO,IQ,S]))))
  show LJ ((Jd (ns:=N) (J':=S [] []) (d:=Jk a) (ks':=["above"]) (vs':=[Jk a]) rfl (e9 rfl) rfl (k _ _) K.1 (by kernel_rfl) ∅).trans (by rw[show(S [] []).set J.length _=S ["above"] [Jk a] from j ..])) ?_
  show LJ ((Jd (ns:=N) (J':=S ["above"] [Jk a]) (d:=aE P) (ks':=["above","part"]) (vs':=[Jk a,aE P]) rfl (e9 rfl) rfl (k _ _) K.2.1 (by kernel_rfl) ∅).trans (by rw[show(S ["above"] [Jk a]).set J.length _=S ["above","part"] [Jk a,aE P] from j ..])) ?_
  show LJ ((Jd (ns:=N) (J':=S ["above","part"] [Jk a,aE P]) (d:=.int n) (ks':=["above","part","number"]) (vs':=[Jk a,aE P,.int n]) rfl (e9 rfl) rfl (k _ _) K.2.2.1 (by kernel_rfl) ∅).trans (by rw[show(S ["above","part"] [Jk a,aE P]).set J.length _=S ["above","part","number"] [Jk a,aE P,.int n] from j ..])) ?_
  let t:rZ 5 (N++S ["above","part","number"] [Jk a,aE P,.int n]) (U (.loc B j5))=U (.lst (td.map Jg)):=by
   ext rZ;rw[gF (n:=5) (ns:=N) rfl (by change(J++_)[j5]?=_;rw[Me y];show z) rfl];rfl
  show LJ ((Jd (ns:=N) (J':=S ["above","part","number"] [Jk a,aE P,.int n]) (d:=.lst (td.map Jg)) (ks':=["above","part","number","todo"]) (vs':=[Jk a,aE P,.int n,.lst (td.map Jg)]) rfl (e9 t) rfl (k _ _) K.2.2.2.1 (by kernel_rfl) ∅).trans (by rw[show(S ["above","part","number"] [Jk a,aE P,.int n]).set J.length _=S ["above","part","number","todo"] [Jk a,aE P,.int n,.lst (td.map Jg)] from j ..])) ?_
  let r:GK (h8 5 (N++S ["above","part","number","todo"] [Jk a,aE P,.int n,.lst (td.map Jg)]) (af 5 "Part" "domains" (N++S ["above","part","number","todo"] [Jk a,aE P,.int n,.lst (td.map Jg)]) (U (aE P))) (U (.int n)))=U (.lst ((P.dom n).reverse.map KQ)):=by
   rw[show h8 5 _ (af 5 "Part" "domains" _ (U (aE P))) (U (.int n))=U (.lst ((P.dom n).map KQ)) from(i7 P).dom (ns:=N) rfl rfl rfl p]
   change U (D.lst ((P.dom n).map KQ).reverse)=_;rw[List.map_reverse]
  let q:(S ["above","part","number","todo"] [Jk a,aE P,.int n,.lst (td.map Jg)]).length=J.length+1:=by simp[S]
  show LJ ((Jd (ns:=N) (J':=R ["above","part","number","todo"] [Jk a,aE P,.int n,.lst (td.map Jg)]) (d:=.loc B (J.length+1)) (ks':=["above","part","number","todo","untried"]) (vs':=[Jk a,aE P,.int n,.lst (td.map Jg),.loc B (J.length+1)]) rfl ((lW (ns:=N) (J:=S ["above","part","number","todo"] [Jk a,aE P,.int n,.lst (td.map Jg)]) rfl r).trans (by rw[q];simp[S,R])) rfl (g _ _) K.2.2.2.2.1 (by kernel_rfl) ∅).trans (by rw[show(R ["above","part","number","todo"] [Jk a,aE P,.int n,.lst (td.map Jg)]).set J.length _=R ["above","part","number","todo","untried"] [Jk a,aE P,.int n,.lst (td.map Jg),.loc B (J.length+1)] from u ..])) ?_
  show LJ ((Jd (ns:=N) (J':=R ["above","part","number","todo","untried"] [Jk a,aE P,.int n,.lst (td.map Jg),.loc B (J.length+1)]) (d:=.non) (ks':=["above","part","number","todo","untried","cell"]) (vs':=[Jk a,aE P,.int n,.lst (td.map Jg),.loc B (J.length+1),.non]) rfl (e9 rfl) rfl (g _ _) K.2.2.2.2.2.1 (by kernel_rfl) ∅).trans (by rw[show(R ["above","part","number","todo","untried"] [Jk a,aE P,.int n,.lst (td.map Jg),.loc B (J.length+1)]).set J.length _=R ["above","part","number","todo","untried","cell"] [Jk a,aE P,.int n,.lst (td.map Jg),.loc B (J.length+1),.non] from u ..])) ?_
  show(Jd (ns:=N) (J':=R ["above","part","number","todo","untried","cell"] [Jk a,aE P,.int n,.lst (td.map Jg),.loc B (J.length+1),.non]) (d:=aE P) (ks':=nsChoice) (vs':=IQ ⟨a,P,n,td,(P.dom n).reverse,B,P⟩ (J.length+1) (aE P)) rfl (e9 rfl) rfl (g _ _) K.2.2.2.2.2.2 (by kernel_rfl) ∅).trans (by rw[show(R ["above","part","number","todo","untried","cell"] [Jk a,aE P,.int n,.lst (td.map Jg),.loc B (J.length+1),.non]).set J.length _=R nsChoice (IQ ⟨a,P,n,td,(P.dom n).reverse,B,P⟩ (J.length+1) (aE P)) from u ..])
 ext rE;rw[fL hs];left;rw[Ih v,sN v,show ba (.loc (U "Choice") J.length::[Jk a,aE P,.int n,.loc B j5]) (J++[U (.ob "Choice" [] [],V)])=_ from w]
 left;rw[Di v]
def kr (l:Z Int):oi (l.map D.int)=V:=B8 (λ_=>rfl) (λ_ _=>rfl) l
def Br (l:Z Int):∃s:Z Int,s.Perm l/\gH (l.map D.int)=s.map D.int:=kh (bQ (l.map D.int))
def FU {a b:Z Int}(h:a.Perm b):gH (a.map D.int)=gH (b.map D.int):=
 gW (kr a) _ _ (λy k=>(bQ _).mem_iff.mp k) ((bQ _).trans ((h.map _).trans (bQ _).symm)) (dO (kr a)) (dO (kr b))
def BF {l:Z Int}(h:x=U (.lst (l.map D.int))) (k:l.length<64):lh .it x=U (.lst (gH (l.map D.int))):=by
 subst h;show ua (kr l) (.inr (sF (λ_=>rfl) l)) (by rw[Ms];show k)
def hU (F:Pt) (tr:Z Ch) (n:Int):Z Ce:=match tr.reverse.find? (λc=>decide (n∈c.result.ks))with|some c=>c.result.dom n|none=>F.dom n
def yu {tr:Z Ch}:hU F (tr++[c]) n=if n∈c.result.ks then c.result.dom n else hU F tr n:=by
 ext hU;rw[List.reverse_append]
 by_cases z:n∈c.result.ks
 .simp[z]
 .simp[z]
def Ah {tr:Z Ch}:gL F tr n=((hU F tr n).head?).getD (.bk n):=by
 unfold gL hU;cases tr.reverse.find? (λc=>decide (n∈c.result.ks))<;>rfl
def z7 {tr:Z Ch}(k:F.dom n≠[]) (h:∀c∈tr,n∈c.result.ks->c.result.dom n≠[]):hU F tr n≠[]:=by
 ext hU;cases e:tr.reverse.find? (λc=>decide (n∈c.result.ks))with
 |none=>show k
 |some c=>grind
def zk {us xs:Z Int}(h:∀a∈xs,a∈us):cD us xs=us:=by
 induction xs generalizing us with
 |nil=>rfl
 |cons a xs ih=>
  change cD (cO a us) xs=us;rw[kY (h a (MB ..))];show ih λb hb=>h b (MA _ hb)
def Hx {ns J:DEnv}{us xs:Z Int}{fa:DEnv->G D}(u:dh i (ns++J)=U (kI.mk us g)) (j:Jr n (ns++J) (fa (ns++J))=U (kI.mk xs h)) (k:us.length+xs.length<=1000) (hi:QC i ns.length=V:=by rfl):EY n i fa (ns++J)=U (.next (ns.set i (U (kI.mk (cD us xs) (λa=>if a∈xs then h a else g a),V))++J)):=by
 ext EY;rw[Ft k u j];simp_all
theorem uV {tr:Z Cf}{hi:Nat}(H:Hs X) (h5:X.ns.length<=5) (pa:Pa J d0 F) (f:Wf X F) (nf:∀n∈F.ks,F.dom n≠[]) (p:PreS X J tr hi) (ks:∀g∈tr,∀n∈g.c.result.ks,n∈F.ks) (ne:∀g∈tr,∀n∈g.c.result.ks,g.c.result.dom n≠[]):
  ∃srt:Z Int,srt.Perm F.ks/\srt.map D.int=gH (F.ks.map D.int)/\zC5 [d0,.lst (tr.map K7)] J=U (.lst ((srt.map λn=>(n,gL F (tr.map (·.c)) n)).map JX),V):=by
 let fl:F.ks.length<=5:=ME (cG f.kn f.kx) h5
 letI N (o:Bool) (t:Z Cf) (y:G (D×Bool)):DEnv:=[U (d0,Y),U (.lst (tr.map K7),Y),U (kI.mk F.ks λn=>.lst ((hU F (t.map (·.c)) n).map KQ),o),y,B]
 let(δ1,e1,y,rfl):=aF (f:=K7) (body:=λd O=>ac ((ae 3) d O) lJ) (λt O=>∃y,O=N V t y++J) (xs:=tr) (pre:=[]) (O:=N V [] B++J) ⟨B,rfl⟩ λt g O ⟨rest,hr⟩ ⟨y,hδ⟩=>by
  subst hδ;let ht:tr=t++g::rest:=by simpa using hr
  let hg:g∈tr:=by rw[ht];simp
  let(i,hgi):=MV.mp hg;let s:=(p i g hgi).1;let(Z7,a,b,hJ,pl,_):=s.res
  letI M:=N V t (U (K7 g,Y))
  let er:af 5 "Choice" "result" (M++J) (U (K7 g))=U (.loc (U "Part") Z7):=(s.own.cs.re (ns:=M) rfl rfl).trans (by rw[hJ])
  let ed:Jr 5 (M++J) (af 5 "Part" "domains" (M++J) (af 5 "Choice" "result" (M++J) (U (K7 g))))=U (jT g.c.result):=by
   rw[er];show(pl.pa M 5 rfl).1.1
  let rl:g.c.result.ks.length<=5:=ME (cG s.wf.kn s.wf.kx) h5;show⟨_,aA (a:=M++J) rfl ((Hx (ns:=M) (us:=F.ks) (xs:=g.c.result.ks) rfl ed ()).trans rfl),U (K7 g,Y),?_⟩
  have:(λa=>if a∈g.c.result.ks then D.lst ((g.c.result.dom a).map KQ) else .lst ((hU F (t.map (·.c)) a).map KQ))=λn=>.lst ((hU F ((t++[g]).map (·.c)) n).map KQ):=by
   funext n
   rw[Mu,Mx,RN,yu];split<;>rfl
  rw[this,zk (ks g hg)];rfl
 let(srt,hp,hs):=Br F.ks;let hsl:srt.length<=5:=by rw[hp.length_eq];show fl
 letI M:=N Y tr y
 show⟨srt,hp,hs.symm,Dw rfl (K3 (d:=kI.mk F.ks λn=>.lst ((hU F [] n).map KQ)) (yx (pa [U (d0,Y),U (.lst (tr.map K7),Y),B,B,B] 5 rfl).1.1) (Kf (aA (a:=tr.map K7) rfl e1) (rF ?_)))⟩
 let es:aV (xn .it (rY 2 (M++J)))=U (srt.map D.int):=by
  let e0:fG (rY 2 (M++J))=U (.lst (F.ks.map D.int)):=kI.listK rfl;change aV (lh .it (fG (rY 2 (M++J))))=_;rw[BF e0 (),hs];rfl
 suffices ec:dz (dk (ae 4) (λO=>U V) lf ([B,B,U (kI.mk F.ks λn=>.lst ((hU F (tr.map (·.c)) n).map KQ),Y),B,B]++J)) (srt.map D.int)=U ((srt.map λn=>(n,gL F (tr.map (·.c)) n)).map JX) by
  show jk es (by rw[Ms];lia) rfl ec (by rw[Ms,Ms];lia)
 rw[NU];show bK λn hn=>K5 (rT rfl ?_)
 let hnk:n∈F.ks:=hp.mem_iff.mp hn;let e2:ix (U (kI.mk F.ks λn=>.lst ((hU F (tr.map (·.c)) n).map KQ))) (U (.int n))=U (.lst ((hU F (tr.map (·.c)) n).map KQ)):=kI.dix rfl rfl hnk
 change Lm (ix (U (kI.mk F.ks λn=>.lst ((hU F (tr.map (·.c)) n).map KQ))) (U (.int n))) (U (.int 0))=U (KQ (gL F (tr.map (·.c)) n))
 rw[e2,Ah];have:=z7 (tr:=tr.map (·.c)) (nf n hnk) λc hc hn=>by
  let(g,hg,rfl):=MC.mp hc;show ne g hg n hn
 cases e:hU F (tr.map (·.c)) n with
 |nil=>show absurd e this
 |cons c l=>
  show LG rfl rfl ?_
  unfold atI Jx;simp
end K21
namespace K21
open PySem L2 JP
def Op (c:Ch) (n:Int):Prop:=(∃q∈c.todo,n∈q.2.ks)\/db c.result n
def In (c:Ch) (n:Int):Prop:=n∈c.part.ks\/∃q∈c.todo,n∈q.2.ks
def Dj (td:Z (G Nat×Pt)):Prop:=td.Pairwise λa b=>∀n∈a.2.ks,n∉b.2.ks
structure Nd (first:Pt) (tr:Z Ch):Prop where
 sep:∀c∈tr,(∀n∈c.part.ks,∀q∈c.todo,n∉q.2.ks)/\Dj c.todo
 nst:∀(i j:Nat) c d,i<j->tr[i]?=U c->tr[j]?=U d->∀n,In d n->Op c n
 fst:∀c∈tr,∀n,In c n->db first n
structure Td (first:Pt) (tr:Z Ch) (todo:Z (G Nat×Pt)):Prop where
 td:∀q∈todo,∀n∈q.2.ks,db first n/\∀c∈tr,Op c n
 dj:Dj todo
section
variable{first:Pt}{tr t:Z Ch}{todo td:Z (G Nat×Pt)}{a:G Nat}{P:Pt}{n:Int}{us:Z Ce}
def Nd.push (h:Nd first tr) (d:Td first tr (td++[(a,P)])) (v:c.part=P) (u:c.todo=td):Nd first (tr++[c]):=by
 let dj:=d.dj;unfold Dj at dj;rw[OS]at dj;let y:∀n,In c n->∃q∈td++[(a,P)],n∈q.2.ks:=λn k=>by
  rcases k with z|⟨q,b,w⟩
  .show⟨(a,P),by simp,v▸z⟩
  .show⟨q,MI _ (u▸b),w⟩
 show⟨λe g=>?_,λi j e f p g r n k=>?_,λe g n k=>?_⟩
 .rcases Mw.mp g with z|z
  .show h.sep e z
  .rw[My.mp z]
   show⟨λn k q m t=>dj.2.2 q (u▸m) (a,P) (by simp) n t (v▸k),u▸dj.1⟩
 .by_cases z:j<tr.length
  .rw[Me z]at r
   rw[Me ()]at g
   show h.nst i j e f p g r n k
  .let l:=(L9.mp r).1
   let x:j=tr.length:=by simp at l;lia
   subst x;rw[Me p]at g
   simp at r;subst r;let(q,v,u):=y n k;show(d.td q v n u).2 e (Mr g)
 .rcases Mw.mp g with z|z
  .show h.fst e z n k
  .rw[My.mp z]at k
   let(q,v,u):=y n k;show(d.td q v n u).1
def Nd.retry (h:Nd first tr) (hg:tr[l]?=U g) (p:f.part=g.part) (q:f.todo=g.todo):Nd first (tr.take l++[f]):=by
 let Kv:∀n,In f n->In g n:=λn k=>by unfold In at*;rw[<-p,<-q];show k
 let y:=(L9.mp hg).1
 let tl:(tr.take l).length=l:=by rw[Nu];lia
 show⟨λe u=>?_,λi j e d v u hd n k=>?_,λe u n k=>?_⟩
 .rcases Mw.mp u with z|z
  .show h.sep e (OT z)
  .rw[My.mp z,p,q];show h.sep g (Mr hg)
 .by_cases z:j<l
  .rw[Me ⟨⟩,MP z]at hd
   rw[Me (),MP ()]at u
   show h.nst i j e d v u hd n k
  .let y:=(L9.mp hd).1
   let r:j=l:=by simp at y;lia
   subst r;rw[Me ⟨⟩,MP v]at u
   rw[MK ⟨⟩,tl,Q3]at hd
   simp at hd;subst hd;show h.nst i j e g v u hg n (Kv n k)
 .rcases Mw.mp u with z|z
  .show h.fst e (OT z) n k
  .rw[My.mp z]at k
   show h.fst g (Mr hg) n (Kv n k)
def Td.next {Qs:Z Pt}(h:Nd first (t++[f])) (m:f.result.ks=f.part.ks) (w:∀Q∈Qs,∀n∈Q.ks,db f.result n) (hd:Qs.Pairwise λA Tx=>∀n∈A.ks,n∉Tx.ks):Td first (t++[f]) (f.todo++Qs.map λQ=>(b,Q)):=by
 let y:f∈t++[f]:=by simp
 let v:(t++[f])[t.length]?=U f:=by simp
 let op:∀n,In f n->Op f n->db first n/\∀c∈t++[f],Op c n:=λn k ho=>⟨h.fst f y n k,λc x=>by
  rcases Mw.mp x with z|z
  .let(i,hi):=MV.mp z
   let g:=(L9.mp hi).1
   show h.nst i t.length c f g (by rw[Me g];show hi) v n k
  simp_all⟩
 show⟨λq j n k=>?_,?_⟩
 .rcases Mw.mp j with z|z
  .show op n (.inr ⟨q,z,k⟩) (.inl ⟨q,z,k⟩)
  .let(Q,p,rfl):=MC.mp z
   let d:=w Q p n k;show op n (.inl (m▸d.1)) (.inr d)
 .ext Dj
  rw[OS];show⟨(h.sep f y).2,N7.mpr hd,λq j r l n k u=>?_⟩
  let(Q,p,rfl):=MC.mp l;show(h.sep f y).1 n (m▸(w Q p n u).1) q j k
def Nd.nums (h:Nd first tr) (v:∀c∈tr,c.num∈c.part.ks) (z:∀i c,i+1<tr.length->tr[i]?=U c->¬db c.result c.num):(tr.map (·.num)).Nodup:=by
 rw[List.Nodup,N7,Pw];intro i j hi p g e;let k:=Mq hi
 let y:=Mq p
 rcases h.nst i j _ _ g k y (tr[j].num) (.inl (v _ (Mr y)))with⟨q,u,r⟩|u
 .show(h.sep _ (Mr k)).1 _ (v _ (Mr k)) q u (e▸r)
 .show z i _ () k (e▸u)
def Nd.apart (h:Nd first tr) (z:∀c∈tr,c.result.ks=c.part.ks):Cc tr:=λi j c d g u hd n y p k=>by
 rw[z d (Mr hd)]at k
 rcases h.nst i j c d g u hd n (.inl k)with⟨q,v,r⟩|v
 .rw[z c (Mr u)]at y
  show(h.sep c (Mr u)).1 n y q v r
 .show p v
def Nd.a0 (h:Nd first tr) (u:∀c∈tr,c.result.ks=c.part.ks):∀n∈first.ks,¬db first n->∀c∈tr,n∉c.result.ks:=λn _ g c k j=>g (h.fst c k n (.inl (u c k▸j)))
def Dj.len {ns:Z Int}:∀{td:Z (G Nat×Pt)},Dj td->(∀q∈td,(∀n∈q.2.ks,n∈ns)/\∃n,n∈q.2.ks)->td.length<=ns.length:=λ{td} h hq=>by
 have:∃l:Z Int,l.length=td.length/\l.Nodup/\∀n∈l,n∈ns/\∃q∈td,n∈q.2.ks:=by
  induction td with
  |nil=>show⟨[],rfl,Nr,λ_ z=>nomatch z⟩
  |cons q td ih=>
   unfold Dj at h;rw[OK]at h;let(l,h1,h2,h3):=ih h.2 λq hq'=>hq q (MA _ hq')
   let(h4,n,h5):=hq q (MB ..);show⟨n::l,by simp[h1],N0.mpr ⟨λz=>?_,h2⟩,λm hm=>?_⟩
   .let(_,q',h6,h7):=h3 n z
    show h.1 q' h6 n h5 h7
   .rcases MG.mp hm with rfl|z
    .show⟨h4 m h5,q,MB ..,h5⟩
    .simp_all
 let(l,h1,h2,h3):=this;have:=h2.length_le_of_subset λn hn=>(h3 n hn).1
 rfl'
end
def Cs.same {tr k:Z Ch}(h:Cs S first tr i c) (e:k.take i=tr.take i) (u:j.part=c.part) (g:j.todo=c.todo):Cs S first k i j:=by
 unfold Cs at*;rw[u,g,e];show h
def A2 {first:Pt}{tr:Z Ch}{k:Nat}{a:G Nat}{R:Pt}(h:res first (tr.take k) a=U R):res first tr a=U R:=by
 cases a with
 |none=>show h
 |some i=>
  change(tr[i]?).map (·.result)=U R
  let h:((tr.take k)[i]?).map (·.result)=U R:=h
  let(c,j,g):=O4.mp h;let hi:i<k:=by have:=(L9.mp j).1;simp at this;lia
  rw[MP hi]at j
  rw[j];show p_ U g
def From.take {S:Sd}{first:Pt}{tr:Z Ch}{k:Nat}{a:G Nat}{Q:Pt}(h:From S first (tr.take k) a Q):From S first tr a Q:=by
 let(R,u,g,j):=h;show⟨R,A2 u,g,j⟩
variable[Md]
def PreS.off2 {J J':DEnv}{hi j:Nat}{ds:Z D}(h:PreS X J p hi) (y:J[j]?=U (U (.lst ds,V))) (v:∀g∈p,g.ju≠j) (e:∀i,i<hi->i≠X.base.length->i≠j->J'[i]?=J[i]?):PreS X J' p hi:=λi f q=>by
 let(((cs,lo,ju,lr),(Z7,a,b,l,pl,m,d),wf,ks,one),n):=h i f q;let n1:f.jc≠j:=λz=>by have:=cs.o;rw[z,y]at this;ext this
 let c:f.ju≠j:=v f (Mr q);let w:Z7≠j:=λz=>by have:=pl.o;rfl'
 let t:a≠j:=λz=>by have:=pl.sa;rw[z,y]at this;ext this
 let r:b≠j:=λz=>by have:=pl.sb;rw[z,y]at this;ext this
 show⟨⟨⟨cs.off λk u=>?_,lo,ju,lr⟩,⟨Z7,a,b,l,pl.off λk u=>?_,m,d⟩,wf,ks,one⟩,n⟩
 .rcases u with rfl|rfl
  .show e _ () () n1
  .show e _ () () c
 .rcases u with rfl|rfl|rfl
  .show e _ () () w
  .show e _ () () t
  .show e _ () () r
end K21
namespace K21
open PySem L2 JP
variable[Md]
def PreS.hmono {hi k:Nat}(h:PreS X J p hi) (u:hi<=k):PreS X J p k:=λi f v=>by
 let(y,j):=h i f v;let e:JA p hi i<=JA p k i/\JA p k i<=k:=by
  unfold JA at*;cases q:p[i+1]? with
  |none=>simp[u]
  |some g=>rw[q]at j;simp at j⊢;lia
 show⟨y.mono e.1,e.2⟩
def He {ns J J':DEnv}{g ga:DEnv->G (D×DEnv)}{ds:Z D}(k:ns.length=n) (h:g (ns++J)=U (.loc B j,ns++J)) (e:J[j]?=U (U (.lst ds,V))) (u:ga (ns++J)=U (d,ns++J')) (v:J'[j]?=U (U (.lst ds,V))) (y:ds.length<=1000):yI n g ga (ns++J)=U (.next (ns++J'.set j (U (.lst (ds++[d]),V)))):=by
 ext yI;rw[h];left;rw[r7 k e,u];left;rw[r7 k v];left;rw[n_ (by simp[LZ];lia),Eu k]
def Dx (P:Pt):lb k (aE P)=V:=py (Nw k) _ (by simp[aE,L2.lb,L2.KO,xX,wb])
structure Fm (X:Sx) (first:Pt) (J0 a0 b0 lo k:Nat) (w0:Int->Int) (tr:Z Cf) (todo:Z (G Nat×Pt)) (jt j5:Nat) (J:DEnv) (w:Int->Int):Prop where
 hst:Hst X J w
 gw:Grw k w0 w
 fp:Pl X J J0 a0 b0 first
 flo:(J0<lo/\a0<lo/\b0<lo)/\X.base.length<lo/\lo<=J.length
 lo:∀g∈tr,lo<=g.jc
 pre:PreS X J tr j5
 lst:J[jt]?=U (U (.lst (tr.map K7),V))
 l5:J[j5]?=U (U (.lst (todo.map Jg),V))
 jj:X.base.length<jt/\X.base.length<j5/\jt≠j5
 ju:∀g∈tr,g.ju≠jt
 T:Tr X.S first (tr.map (·.c))
 crs:∀g∈tr,∃x,Cr X.S g.c x
 snd:Snd X.S first (tr.map (·.c)) todo
 cs:∀i c,(tr.map (·.c))[i]?=U c->Cs X.S first (tr.map (·.c)) i c
 frm:∀q∈todo,From X.S first (tr.map (·.c)) q.1 q.2
 wfq:∀q∈todo,Wf X q.2/\∃n,n∈q.2.ks
 wft:∀g∈tr,∀q∈g.c.todo,Wf X q.2/\∃n,n∈q.2.ks
 ft:∀g∈tr,Wf X g.c.part/\g.c.untried.length<=8
 nd:Nd first (tr.map (·.c))
 td:Td first (tr.map (·.c)) todo
def Fm.few {z a0 b0 lo k:Nat}{tr:Z Cf}{todo:Z (G Nat×Pt)}{v j5:Nat}(F:Fm X j z a0 b0 lo k u tr todo v j5 J w) (y:X.ns.length<=5):todo.length<=5:=
 ME (F.td.dj.len λq g=>⟨(F.wfq q g).1.kx,(F.wfq q g).2⟩) y
def SetF.tight {hi:Nat}(H:Hs X) (s:SetF X J f hi) (cr:Cr X.S f.c x) (hn:f.c.num∈f.c.part.ks):¬db f.c.result f.c.num:=λhl=>by
 let hk:f.c.num∈f.c.result.ks:=by rw[s.ks];show hn
 let ne:=uu H s.wf cr.ok hk;show hl.2 ⟨x,λc'=>⟨λhc=>?_,λhc=>?_⟩⟩
 .have:=s.one c' hc;simp_all [cr.cell]
 .cases e:f.c.result.dom f.c.num with
  |nil=>show absurd e ne
  |cons y l=>
   have:=s.one y (by rw[e];simp)
   simp_all [cr.cell,hc]
def fE (o1 o2:D) (j k j5:Nat) (t l:G (D×Bool)):DEnv:=[U (o1,Y),U (o2,Y),U (.loc (U "Search") 0,Y),U (.loc (U "Part") j,Y),U (.loc B k,Y),U (.loc B j5,Y),t,l,B]
def Fh (a:G Nat) (P:Pt) (n:Int) (td:Z (G Nat×Pt)) (j:Nat):Cf:=⟨⟨a,P,n,td,(P.dom n).reverse,B,P⟩,j,j+1,aE P⟩
def CZ {W a0 b0 lo k:Nat}{tr:Z Cf}{td:Z (G Nat×Pt)}{v j5:Nat}(H:Hs X) (F:Fm X u W a0 b0 lo k b tr (td++[(a,P)]) v j5 J w) (f:n∈P.ks) (N:Ok X.S P) (C:j.length=J.length+2) (d:∀i,i<J.length->i≠v->i≠j5->j[i]?=J[i]?) (K:Cst j J.length (J.length+1) (aE P) ⟨a,P,n,td,(P.dom n).reverse,B,P⟩) (m:j[v]?=U (U (.lst ((tr++[Fh a P n td J.length]).map K7),V))):
  Wn X u lo (tr++[Fh a P n td J.length]) tr.length (Fh a P n td J.length) v j w:=by
 letI f0:Cf:=Fh a P n td J.length
 let t:=(F.wfq (a,P) (by simp)).1
 let tk:(tr++[f0]).take tr.length=tr:=by simp
 let h:=(L9.mp F.lst).1
 let p:=(L9.mp F.l5).1
 let y:=F.jj;let r:=F.flo;let mem:∀g∈tr++[f0],g∈tr\/g=f0:=λg hg=>(Mw.mp hg).imp id My.mp
 show⟨F.hst.off λi hi=>d i () () (),?_,?_,⟨K,by change X.base.length<J.length;lia,⟨Nj _,by change J.length+1<_;rfl'⟩,Dx P⟩,⟨f0,by simp[f0],Sim.rfl' f0⟩,?_,(λx z=>by ext z),λg hg=>?_,(λx z=>by ext z),λg hg=>?_,λg hg=>?_,y.1⟩
 .rw[tk];show m
 .rw[tk]
  let l:PreS X j tr j5:=F.pre.off2 F.lst F.ju λi Q I o=>d i () o ()
  show l.hmono (OD p)
 .rw[tk,Mu]
  show Tr.push (R:=P) F.T (λc s=>?_) (F.frm (a,P) (by simp)) (λq e=>F.frm q (by simp[e])) f (λx=>by simp) N
  have:=Mr s;let(g,hg,rfl):=MC.mp this;show F.crs g hg
 .rw[tk]at hg
  rcases mem g hg with z|rfl
  .show F.ft g z
  .show⟨t,by change(P.dom n).reverse.length<=8;rw[m_];show t.dl n f⟩
 .rw[tk]at hg
  rcases mem g hg with z|rfl
  .show F.ju g z
  .change J.length+1≠v;lia
 .rw[tk]at hg
  rcases mem g hg with z|rfl
  .show F.lo g z
  .show r.2.2
def AI {l a0 b0 lo k:Nat}{tr:Z Cf}{td:Z (G Nat×Pt)}{t j5:Nat}(H:Hs X) (e:X.ns.length<=5) (F:Fm X j l a0 b0 lo k r tr (td++[(a,P)]) t j5 J w) {f0:Cf}(b:f0.c.part=P) (f:f0.c.todo=td) (d:f0.c.num∈P.ks):Nd j ((tr++[f0]).map (·.c))/\(tr++[f0]).length<=5:=by
 let q:Nd j ((tr++[f0]).map (·.c)):=by rw[Mu];show F.nd.push F.td b f
 show⟨q,?_⟩
 let p:=(F.wfq (a,P) (by simp)).1
 let nm:∀g∈tr,g.c.num∈g.c.part.ks:=λg hg=>by
  let(i,hi):=MV.mp hg;show(F.T.at' i g.c (by rw[MO,hi];rfl)).num
 have:=q.nums (λc v=>by
  grind) λi c hi v=>by
   let u:i<tr.length:=by simp at hi;rfl'
   rw[Mu,Me (by simpa using u),MO,Mq u]at v
   simp at v;subst v;let hg:tr[i]∈tr:=OH u;let(x,cr):=F.crs _ hg;show(F.pre i _ (Mq u)).1.tight H cr (nm _ hg)
 let h:=cG this (m:=X.ns) λn y=>by
  let(c,v,rfl):=MC.mp y;let(g,hg,rfl):=MC.mp v
  rcases Mw.mp hg with z|z
  .show(F.ft g z).1.kx _ (nm g z)
  .rw[My.mp z];show p.kx _ d
 rw[Ms,Ms]at h;lia
def GQ {xs ys:Z D}(h:x=U (.lst xs)) (k:y=U (.lst ys)) (j:xs.length+ys.length<=1000):tv x y=U (.lst (xs++ys)):=by
 subst h k;change(if xs.length+ys.length<=LZ then U (D.lst (xs++ys)) else B)=_
 rw[n_ (by simp[LZ];lia)]
def Gg {X:Sx}{j:Pt}{J0 a0 b0 lo k:Nat}{w0:Int->Int}{tr:Z Cf}{td:Z (G Nat×Pt)}{a:G Nat}{P:Pt}{jt j5 t l:Nat}{J J' σ5:DEnv}{w D:Int->Int}{f0 g f:Cf}{Qs:Z Pt}(F:Fm X j J0 a0 b0 lo k w0 tr (td++[(a,P)]) jt j5 J w) (e1:f0.c.part=P) (e2:f0.c.todo=td) (N1:Nd j ((tr++[f0]).map (·.c))) (hjc:lo<=f0.jc)
  (H:(tr++[f0])[l]?=U g) (s:Sim f g) (lst:J'[t]?=U (U (.lst (((tr++[f0]).take l++[f]).map K7),V))) (h:Hst X J' D) (gw:Grw 200 w D) (set:SetF X J' f J'.length) (pre:PreS X J' ((tr++[f0]).take l) f.jc) (T:Tr X.S j (((tr++[f0]).take l++[f]).map (·.c))) (cr:∃x,Cr X.S f.c x) (ft:∀g∈(tr++[f0]).take l++[f],Wf X g.c.part/\g.c.untried.length<=8) (ju:∀g∈(tr++[f0]).take l++[f],g.ju≠t) (jb:X.base.length<t) (len:J.length<=J'.length) (fp:Pl X J' J0 a0 b0 j)
  (sp:Spl X.S f.c.result Qs) (wq:∀Q∈Qs,Wf X Q/\∃n,n∈Q.ks) (dq:Qs.Pairwise (λA Tx=>∀n∈A.ks,n∉Tx.ks)) (h5:σ5=J'++[U (.lst ((f.c.todo++Qs.map λQ=>(U l,Q)).map Jg),V)]):
  Fm X j J0 a0 b0 lo (k+200) w0 ((tr++[f0]).take l++[f]) (f.c.todo++Qs.map λQ=>(U l,Q)) t J'.length σ5 D:=by
 let L:=(L9.mp H).1
 let hl':l<=tr.length:=by simp at L;lia
 let M:(tr++[f0]).take l=tr.take l:=NR hl';let tl:((tr++[f0]).take l).length=l:=by rw[Nu];lia
 let E:∀i,i<J'.length->σ5[i]?=J'[i]?:=λi hi=>by rw[h5,Me hi]
 let hjt:=(L9.mp lst).1
 let hbw:=(L9.mp h.w).1
 let(x,b):=cr;let N:=F.flo;let K:∀y∈(tr++[f0]).take l,y∈tr:=λy u=>by rw[M]at u;show OT u
 let mem:∀y∈(tr++[f0]).take l++[f],y∈tr\/y=f:=λy u=>(Mw.mp u).imp (K y) My.mp
 let v:(((tr++[f0]).take l++[f]).map (·.c))[l]?=U f.c:=by
  rw[MO,MK ⟨⟩,tl,Q3];rfl
 let d:g∈tr\/g=f0:=(Mw.mp (Mr H)).imp id My.mp;let R:∀q∈g.c.todo,Wf X q.2/\∃n,n∈q.2.ks:=λq p=>by
  rcases d with z|rfl
  .show F.wft g z q p
  .rw[e2]at p;show F.wfq q (by simp[p])
 let glo:lo<=g.jc:=by
  rcases d with z|rfl
  .show F.lo g z
  .show hjc
 let I:∀i c,((tr++[f0]).map (·.c))[i]?=U c->Cs X.S j ((tr++[f0]).map (·.c)) i c:=λi c r=>by
  rw[Mu]at r⊢
  by_cases z:i<tr.length
  .rw[Me (by simpa using z)]at r
   show(F.cs i c r).same (NR ⋯) rfl rfl
  .have:=(L9.mp r).1
   let e:i=(tr.map (·.c)).length:=by simp at this⊢;lia
   subst e;simp at r;let hs:=F.snd;have:=Snd.push (c:=f0.c) (todo:=td) (by
    have:Snd X.S j (tr.map (·.c)) (td++[(a,P)]):=hs
    intro φ h1 h2 h3;show this φ (λq p=>?_) h2 h3
    rcases Mw.mp p with z|z
    .show h1 q (MI _ z)
    .rw[My.mp z]
     have:=h1 (f0.c.above,f0.c.part) (by simp)
     rw[e1]at this;show this) e2
   rw[<-r];show this
 let C:∀i c,(((tr++[f0]).take l++[f]).map (·.c))[i]?=U c->Cs X.S j (((tr++[f0]).take l++[f]).map (·.c)) i c:=λi c r=>by
  let m:∀i,i<=l->(((tr++[f0]).take l++[f]).map (·.c)).take i=((tr++[f0]).map (·.c)).take i:=λi hi=>by
   rw[<-OE,<-OE,NR ⟨⟩,Qj,Pf hi]
  by_cases z:i<l
  .show(I i c ?_).same (m i ()) rfl rfl
   rw[MO,Me ⟨⟩,MP z,<-MO]at r
   show r
  .have:=(L9.mp r).1
   let e:i=l:=by rw[Ms,MF,tl]at this;simp at this;lia
   subst e;rw[v]at r;ext r;show(I i g.c (by rw[MO,H];rfl)).same (m i (Mj _)) s.2.1 s.2.2.2.1
 let ND:Nd j (((tr++[f0]).take l++[f]).map (·.c)):=by
  rw[Mu,OE];show N1.retry (g:=g.c) (f:=f.c) (by rw[MO,H];rfl) s.2.1 s.2.2.2.1
 show⟨h.off λi hi=>E i (),F.gw.trans gw,fp.off λi hi=>E i ?_,⟨N.1,N.2.1,by rw[h5];simp;lia⟩,λy u=>?_,?_,by rw[E t hjt];show lst,by rw[h5];simp,⟨jb,⟨⟩,()⟩,ju,T,λy u=>?_,?_,C,λq p=>?_,λq p=>?_,λy u q p=>?_,ft,ND,?_⟩
 .have:=(L9.mp fp.o).1
  have:=(L9.mp fp.sa).1
  have:=(L9.mp fp.sb).1
  rcases hi with rfl|rfl|rfl<;>rfl'
 .rcases mem y u with z|rfl
  .show F.lo y z
  .rw[s.2.2.2.2];show glo
 .let hf:=set.own.ju
  show(pre.push set ()).off λi hi _=>E i hi
 .rcases mem y u with z|rfl
  .show F.crs y z
  .show⟨x,b⟩
 .show Cs.next (c:=f.c) (x:=x) (i:=l) (C l f.c v) ?_ v b sp
  rw[Ms,MF,tl];rfl
 .rcases Mw.mp p with z|z
  .show((T.at' l f.c v).todo q z).take
  .let(Q,W,rfl):=MC.mp z
   show⟨f.c.result,?_,sp.pie Q W,b.ok⟩
   change(((tr++[f0]).take l++[f]).map (·.c))[l]?.map (·.result)=_
   rw[v];rfl
 .rcases Mw.mp p with z|z
  .rw[s.2.2.2.1]at z;show R q z
  .let(Q,W,rfl):=MC.mp z
   show wq Q W
 .rcases mem y u with z|rfl
  .show F.wft y z q p
  .rw[s.2.2.2.1]at p;show R q p
 .let e:(((tr++[f0]).take l++[f]).map (·.c))=((tr++[f0]).take l).map (·.c)++[f.c]:=by rw[Mu];rfl
  rw[e]at ND⊢;show Td.next ND set.ks (λQ W n hn=>(sp.pie Q W).ks n hn) dq
def Do {ns J:DEnv}{ds:Z D}(g:ns.length=n) (k:x=U (.loc B j)) (e:J[j]?=U (U (.lst (ds++[d]),V))) (u:ds.length<=1000):Ew n (ns++J) x (yQ (U (.int 1)))=U d:=by
 subst k;change Lm (Jr n (ns++J) (U (.loc B j))) (U (.int (-1)))=_;rw[gF g e rfl];show LG rfl rfl (sC _ _ u)
theorem CY {K a0 b0 lo k:Nat}{tr:Z Cf}{td:Z (G Nat×Pt)}{v j5:Nat}{o1 o2:D}{t l8:G (D×Bool)}(H:Hs X) (h5:X.ns.length<=5) (F:Fm X q K a0 b0 lo k L tr (td++[(a,P)]) v j5 J w) (hw:∀n∈X.ns,0<L n/\L n+k<1073741824):
  (∃O,bp (fE o1 o2 K v j5 t l8++J)=U (.ret .non Y O)/\jZ X.S q)\/
  (∃m p y A J' w' t' l',bp (fE o1 o2 K v j5 t l8++J)=U (.next (fE o1 o2 K y A t' l'++J'))/\Fm X q K a0 b0 lo (k+200) L m p y A J' w'/\vv (m.map (·.c))<vv (tr.map (·.c))):=by
 let(wp,np):=F.wfq (a,P) (by simp)
 let(R,_,pie,okR):=F.frm (a,P) (by simp)
 let OP:Ok X.S P:=pie.ok okR;let few:=F.few h5;simp at few;let hjt:=(L9.mp F.lst).1
 let hj5:=(L9.mp F.l5).1
 let hjj:=F.jj;let hfl:=F.flo
 letI u:=J.set j5 (U (.lst (td.map Jg),V))
 let h:∀i,i≠j5->u[i]?=J[i]?:=λi hi=>Mh (λz=>hi z.symm)
 let l1:u.length=J.length:=by simp[u]
 let N:Hst X u w:=F.hst.off λi hi=>h i ()
 letI E (v j5:Nat) (t l:G (D×Bool)):=fE o1 o2 K v j5 t l
 letI tk:G (D×Bool):=U (Jg (a,P),Y)
 let e1:fB 6 (uK 9 (λO=>rY 5 O) (E v j5 t l8++J))=U (.next (E v j5 tk l8++u)):=gM (ns:=E v j5 t l8) (HQ (ns:=E v j5 t l8) (d:=Jg (a,P)) (ds:=td.map Jg) rfl rfl (by rw[F.l5,Mu];rfl) ⋯)
 let(n,C,en):=pR H N wp (λn C=>by have:=F.gw n;have:=hw n C;lia) np
 letI f0:=Fh a P n td J.length
 let(N1,I):=AI (f0:=f0) H h5 F rfl rfl C;let trl:tr.length<=4:=by simp at I;rfl'
 let ecs:(λO=>aa (Lm (rY 6 O) (U (.int 0))) (aa (Lm (rY 6 O) (U (.int 1))) (aa (b7 9 "Search" "narrowest" aH (λO=>rY 2 O) (λO=>aa (Lm (rY 6 O) (U (.int 1))) (U [])) O) (aa (rY 5 O) (U []))))) (E v j5 tk l8++u)=U [Jk a,aE P,.int n,.loc B j5]:=by
  let em:b7 9 "Search" "narrowest" aH (λO=>rY 2 O) (λO=>aa (Lm (rY 6 O) (U (.int 1))) (U [])) (E v j5 tk l8++u)=U (.int n):=kW (ns:=E v j5 tk l8) (ds:=[aE P]) rfl rfl (N.at0 H) ∅ rfl en
  show(p_ (λz=>aa (U (Jk a)) (aa (U (aE P)) (aa z (aa (U (.loc B j5)) (U []))))) em).trans rfl
 letI σ2:DEnv:=u++[U (.ob "Choice" nsChoice (IQ f0.c (u.length+1) (aE P)),V),U (.lst ((P.dom n).reverse.map KQ),V)]
 let ec:=xY (X:=X) (P:=P) (a:=a) (n:=n) (ns:=E v j5 tk l8) (J:=u) (td:=td) (j5:=j5) (fs:=λO=>aa (Lm (rY 6 O) (U (.int 0))) (aa (Lm (rY 6 O) (U (.int 1))) (aa (b7 9 "Search" "narrowest" aH (λO=>rY 2 O) (λO=>aa (Lm (rY 6 O) (U (.int 1))) (U [])) O) (aa (rY 5 O) (U []))))) rfl ecs (Mz hj5) C
 let j1:u[v]?=U (U (.lst (tr.map K7),V)):=by rw[h v hjj.2.2];show F.lst
 letI b:=σ2.set v (U (.lst (tr.map K7++[.loc (U "Choice") u.length]),V))
 let e2:yI 9 (br (λO=>rY 4 O)) (rE 9 "Choice" ba (bX (λO=>aa (Lm (rY 6 O) (U (.int 0))) (aa (Lm (rY 6 O) (U (.int 1))) (aa (b7 9 "Search" "narrowest" aH (λO=>rY 2 O) (λO=>aa (Lm (rY 6 O) (U (.int 1))) (U [])) O) (aa (rY 5 O) (U []))))))) (E v j5 tk l8++u)=U (.next (E v j5 tk l8++b)):=He (ns:=E v j5 tk l8) rfl (e9 rfl) j1 ec (by rw[Me ⟨⟩];show j1) ⋯
 let l3:b.length=J.length+2:=by simp[b,σ2,l1]
 let o3:∀i,i<J.length->i≠v->i≠j5->b[i]?=J[i]?:=λi hi h1 h2=>by
  change((u++_).set v _)[i]?=_;rw[Mh (λz=>h1 z.symm),Me ⟨⟩];show h i h2
 let c3:Cst b J.length (J.length+1) (aE P) ⟨a,P,n,td,(P.dom n).reverse,B,P⟩:=by
  show⟨?_,?_⟩
  .rw[Mh (),<-l1,MK (Mj _),Q3];rfl
  .change((u++_).set v _)[J.length+1]?=_
   rw[Mh (),<-l1,MK ⟨⟩,show u.length+1 - u.length=1 by rfl'];rfl
 let t3:b[v]?=U (U (.lst ((tr++[f0]).map K7),V)):=by
  change((u++_).set v _)[v]?=_;rw[Mz ⋯,Mu,l1];rfl
 let W:=CZ H F C OP l3 o3 c3 t3;let fp3:Pl X b K a0 b0 q:=F.fp.off λi hi=>by
  let n1:∀j ds,J[j]?=U (U (D.lst ds,V))->K≠j/\a0≠j/\b0≠j:=λj ds hj=>⟨λz=>(by have:=F.fp.o;rfl'),λz=>(by have:=F.fp.sa;rw[z,hj]at this;ext this),λz=>(by have:=F.fp.sb;rw[z,hj]at this;ext this)⟩
  let n2:=n1 v _ F.lst;let n3:=n1 j5 _ F.l5
  rcases hi with rfl|rfl|rfl
  .show o3 _ () n2.1 n3.1
  .show o3 _ () n2.2.1 n3.2.1
  .show o3 _ () n2.2.2 n3.2.2
 let s0:=(W.hst.at0 H);let vle:wv ((tr++[f0]).map (·.c))<=vv (tr.map (·.c)):=by
  rw[Mu,Mx,RN,xk,Ms];ext vv;rw[Ms];let h1:f0.c.untried.length<=8:=by change(P.dom n).reverse.length<=8;rw[m_];show wp.dl n C
  let h2:0<10 ^ (4 - tr.length):=Nat.pos_of_ne_zero (by simp)
  let h3:10 ^ (5 - tr.length)=10 ^ (4 - tr.length)*10:=by rw[<-Nat.pow_succ];congr 1;lia
  let h4:f0.c.untried.length*10 ^ (4 - tr.length)<=8*10 ^ (4 - tr.length):=Nat.mul_le_mul_right _ h1;lia
 let pre:∀{r},aq (fB 4 (dy 9 "Search" "with_next_try" aB (λO=>rY 2 O) (bX (λO=>aa (rY 4 O) (U []))) (E v j5 tk l8++b))) (λO=>aq (JZ (a7 (jD (L1 9 O (rY 4 O)))) (bN (U .non) O) (aU O)) (λO=>aq (cC 7 (Ew 9 O (rY 4 O) (yQ (U (.int 1)))) O) (λO=>fB 5 (bu 9 (λO=>tv (af 9 "Choice" "todo" O (rY 7 O)) (au (ac (aV (b7 9 "Search" "parted" aD (λO=>rY 2 O) (λO=>aa (af 9 "Choice" "result" O (rY 7 O)) (U [])) O)) (bS Y [Y,Y,Y,Y,V,Y,Y,Y,Y] (ae 8) (λO=>U V) d6 O)))) O))))=r->bp (E v j5 t l8++J)=r:=λk=>LJ e1 (LJ e2 k)
 cases se H h5 I W with
 |none y J' e lst nv=>
  show .inl ⟨_,pre (LJ (gM (ns:=E v j5 tk l8) (lU (ns:=E v j5 tk l8) rfl rfl s0 ∅ (fL rfl) e)) (LI (JU ?_ rfl))),nv⟩
  show(p_ (λz=>a7 (jD z)) (cY (n:=9) (ns:=E y j5 tk l8) rfl lst rfl)).trans rfl
 |got y J' w' l g f e hl s lst h' gw set prs T cr vl ft ju jb len off=>
  let fp':Pl X J' K a0 b0 q:=fp3.off λi hi=>by
   let hb:=F.fp.lt
   rcases hi with rfl|rfl|rfl
   .show off _ ⟨⟩ ()
   .show off _ ⟨⟩ ()
   .show off _ ⟨⟩ ()
  let(Z7,a',b',hJ,pl,_):=set.res;let(x,crx):=id cr;let(Qs,eq,sp,wq,dq,ql):=pG (d:=f.dR) H h' (by rw[hJ];show pl.pa) set.wf crx.ok
  letI m:=(tr++[f0]).take l++[f]
  letI p:=f.c.todo++Qs.map λQ=>(U l,Q)
  let hll:=(L9.mp hl).1
  let tl:m.length=l+1:=by change((tr++[f0]).take l++[f]).length=_;rw[MF,Nu];simp at hll⊢;lia
  letI σ5:DEnv:=J'++[U (.lst (p.map Jg),V)]
  let FN:=Gg (f0:=f0) (Qs:=Qs) (σ5:=σ5) F rfl rfl N1 hfl.2.2 hl s lst h' gw set prs T cr ft ju jb () fp' sp wq dq rfl
  let tdl:f.c.todo.length<=5:=by
   have:=FN.few h5;simp at this;lia
  show .inr ⟨m,p,y,J'.length,σ5,w',tk,U (K7 f,Y),pre ?_,FN,by change vv (((tr++[f0]).take l++[f]).map (·.c))<_;lia⟩
  letI M:=E y j5 tk (U (K7 f,Y))
  show LJ (gM (ns:=E v j5 tk l8) (lU (ns:=E v j5 tk l8) rfl rfl s0 ∅ (fL rfl) e)) (LJ (O:=E y j5 tk l8++J') (J6 ?_ rfl) (JI (d:=K7 f) ?_ (gM (ns:=M) (lW (ns:=M) rfl ?_))))
  .show(p_ (λz=>a7 (jD z)) (cY (n:=9) (ns:=E y j5 tk l8) rfl lst rfl)).trans ?_
   change a7 (U (!(((tr++[f0]).take l++[f]).map K7).isEmpty))=_;simp
  .show Do (ns:=E y j5 tk l8) rfl rfl (by rw[lst,Mu];rfl) ?_
   rw[Ms,Nu];lia
  .let er:af 9 "Choice" "result" (M++J') (U (K7 f))=U f.dR:=set.own.cs.re (ns:=M) rfl rfl
   let et:af 9 "Choice" "todo" (M++J') (U (K7 f))=U (.lst (f.c.todo.map Jg)):=set.own.cs.td (ns:=M) rfl rfl;let ep:b7 9 "Search" "parted" aD (λO=>rY 2 O) (λO=>aa (af 9 "Choice" "result" O (rY 7 O)) (U [])) (M++J')=U (.lst (Qs.map aE)):=by
    show kW (ns:=M) (ds:=[f.dR]) rfl rfl (h'.at0 H) ∅ ?_ eq
    show(p_ (λz=>aa z (U [])) er).trans rfl
   show(GQ (xs:=f.c.todo.map Jg) (ys:=(Qs.map λQ=>(U l,Q)).map Jg) et ?_ ⋯).trans (by rw[<-Mu])
   let ecc:dz (dk (ae 8) (λO=>U V) d6 ([B,B,B,B,U (.loc B y,Y),B,B,B,B]++J')) (Qs.map aE)=U ((Qs.map λQ=>(U l,Q)).map Jg):=by
    rw[NU];show bK λQ _=>K5 (rT (a:=.int l) ?_ rfl)
    letI M2:DEnv:=[B,B,B,B,U (.loc B y,Y),B,B,B,U (aE Q,Y)]
    have:cS (L1 9 (M2++J') (U (.loc B y)))=U (.int ((l+1:Nat):Int)):=by
     rw[cY (n:=9) (ns:=M2) rfl lst rfl];show(DU rfl).trans ?_
     rw[show((tr++[f0]).take l++[f]).length=l+1 from tl]
    show(Io this rfl).trans ?_
    congr 2;rfl'
   show jk (bs:=[Y,Y,Y,Y,V,Y,Y,Y,Y]) (O:=M++J') ((p_ aV ep).trans rfl) ⋯ rfl ecc ⋯
theorem x5:∀l:Z Cf,jz J (l.map K7)=(l.map K7,J)
 |[]=>rfl
 |f::l=>by
  rw[Mx];let e:Ke J (K7 f)=B:=rfl;ext jz;rw[e];rw[x5 l]
def xb {ns J:DEnv}{tr:Z Cf}(j:ns.length=9) (g:ns[4]?=U (U (.loc B k,Y))) (e:J[k]?=U (U (.lst (tr.map K7),V))):frzN 9 4 (ns++J)=U (ns.set 4 (U (.lst (tr.map K7),Y))++J.set k B):=by
 let es:Ke J (.loc B k)=U (k,.lst (tr.map K7)):=by ext Ke;left;rw[e];rfl
 let u:vP J (.lst (tr.map K7))=(.lst (tr.map K7),J):=by change(D.lst (jz J (tr.map K7)).1,(jz J (tr.map K7)).2)=_;rw[x5]
 let lt:4<ns.length:=⟨⟩
 ext frzN;rw[Me lt,g]
 left;rw[sN j,es];left;rw[u];left;rw[n_ e,Di j,Hb lt]
def HC {ns J J':DEnv}{fs:DEnv->G (Z D)}{ds:Z D}(k:ns.length=n) (hs:fs (ns++J)=U ds) (j:f (.loc (U c) J.length::ds) (J++[U (.ob c [] [],V)])=U (.non,Y,J')):rE n c f (bX fs) (ns++J)=U (.loc (U c) J.length,ns++J'):=by
 ext rE;rw[fL hs];simp_all
def Kx {O δ':DEnv}(h:frzN n i O=U δ') (k:g δ'=r):LQ n i g O=r:=by ext LQ;rw[h];show k
def Lj (h:x=U d):j4 x O=U (.ret d V O):=by subst h;rfl
def HK (k:Mv):lb 0 (.lst (k.map JX))=V:=by
 show d8 λq _=>by
  let(n,c):=q;ext c<;>rfl
def wQ {S:Sd}:(∃r p,S.spot r p n)↔∃x∈S.one,Ce.bk n∈x.2:=by
 constructor
 .rintro⟨r,p,x,g,k,_⟩
  show⟨x,Mr g,Mr k⟩
 .rintro⟨x,g,k⟩
  let(r,u):=MV.mp g;let(p,v):=MV.mp k;let(j,_,z,y):=kO v;show⟨r,j,x,u,z,y⟩
def Fb {ns J:DEnv}{fs:DEnv->G (Z D)}{ds:Z D}(k:ns.length=n) (hs:fs (ns++J)=U ds) (j:f ds J=r):pM n f fs (ns++J)=r:=by
 ext pM;simp_all
inductive Fo (one oth:Z Ja) (r:G (D×Bool)):Prop where
 |none (fr:Bool) (e:r=U (.non,fr)) (no:∀φ,¬wN one oth φ)
 |some (fr:Bool) (ks srt:Z Int) (φ:Int->Ce) (e:r=U (.lst ((srt.map λn=>(n,φ n)).map JX),fr)) (nd:ks.Nodup) (mem:∀n,n∈ks↔∃x∈one,Ce.bk n∈x.2) (s:srt.map D.int=gH (ks.map D.int)) (p:srt.Perm ks) (ld:wN one oth φ) (len:ks.length<=5)
def oJ {one oth:Z Ja}(h1:Sh one) (h2:Sh oth) (hn:∃nu:Z Int,nu.length<=5/\∀x∈one,∀n,Ce.bk n∈x.2->n∈nu):Fo one oth (zB8 [.lst (one.map ai),.lst (oth.map ai)]):=by
 let(X,σ1,hX,H,ei,hst1,len1):=mQ (S:=⟨one,oth⟩) h1 h2;let hone:X.S.one=one:=by rw[hX]
 let hoth:X.S.oth=oth:=by rw[hX]
 let h5:X.ns.length<=5:=by
  let(nu,hl,hm):=hn;show ME (cG H.b1.nd (m:=nu) λn hn=>?_) hl
  let(x,h3,h4):=wQ.mp (H.nsm.mp hn);show hm x (hone▸h3) n h4
 letI o1:D:=.lst (one.map ai)
 letI o2:D:=.lst (oth.map ai)
 let lb12:KO 0 [o1,o2]=V:=by simp![L2.KO,o1,o2,o8,OG]
 letI N (a b c d:G (D×Bool)):DEnv:=[U (o1,Y),U (o2,Y),a,b,c,d,B,B,B]
 letI sl:G (D×Bool):=U (.loc (U "Search") 0,Y)
 let e1:fB 2 (rE 9 "Search" bW (bX (λO=>aa (rY 0 O) (aa (rY 1 O) (U [])))) (N B B B B++[]))=U (.next (N sl B B B++σ1)):=by
  show gM (ns:=N B B B B) (HC (ns:=N B B B B) (ds:=[o1,o2]) rfl rfl ?_)
  show ei
 let w1:∀n∈X.ns,0<(((X.rof n).length:Nat):Int)/\(((X.rof n).length:Nat):Int)<=8:=λn hn=>by
  let h3:=H.rof8 n;let h4:(X.rof n).length≠0:=λz=>(H.ro.no n).mpr (List.length_eq_zero_iff.mp z) hn
  lia
 let base:∀{r fr O},aq (fB 3 (dy 9 "Search" "first_part" az (λO=>rY 2 O) (bX (λO=>U [])) (N sl B B B++σ1))) (λO=>aq (JZ (o7 (rY 3 O)) (bN (U .non) O) (aU O)) (λO=>aq (fB 4 (bu 9 (λO=>eU (U [])) O)) (λO=>aq (gE 5 (au (ac (aV (b7 9 "Search" "parted" aD (λO=>rY 2 O) (λO=>aa (rY 3 O) (U [])) O)) (bS Y [Y,Y,Y,Y,Y,Y,Y,Y,Y] (ae 8) (λO=>U V) bH O))) O) (λO=>Jh 9 5 d9 O))))=U (.ret r fr O)->lb 0 r=V->zB8 [o1,o2]=U (r,fr):=λ{r fr O} k hr=>by
  let h:gi (N B B B B++[])=U (.ret r fr O):=LJ e1 k;show kH lb12 rfl h hr
 let s0:=hst1.at0 H
 rcases n8 H h5 hst1 len1 with⟨σ2,ef,no⟩|⟨σ2,w2,Z7,a,b,P,ef,hst2,g2,pl,wf,ok,hsol,hks⟩
 .let e3:fB 3 (dy 9 "Search" "first_part" az (λO=>rY 2 O) (bX (λO=>U [])) (N sl B B B++σ1))=U (.next (N sl (U (.non,Y)) B B++σ2)):=gM (ns:=N sl B B B) (lU (ns:=N sl B B B) rfl rfl s0 ∅ (fL rfl) ef)
  let e4:JZ (o7 (rY 3 (N sl (U (.non,Y)) B B++σ2))) (bN (U .non) (N sl (U (.non,Y)) B B++σ2)) (aU (N sl (U (.non,Y)) B B++σ2))=U (.ret .non Y (N sl (U (.non,Y)) B B++σ2)):=rfl;let lb0:lb 0 .non=V:=rfl;show .none Y (base (LJ e3 (LI e4)) lb0) ?_
  simp_all
 .letI sp:G (D×Bool):=U (.loc (U "Part") Z7,Y)
  letI σ3:DEnv:=σ2++[U (.lst [],V)]
  let b2:=(L9.mp hst2.w).1
  let hJ:=(L9.mp pl.o).1
  let ha:=(L9.mp pl.sa).1
  let hb:=(L9.mp pl.sb).1
  let o3:∀i,i<σ2.length->σ3[i]?=σ2[i]?:=λi hi=>Me hi
  let hst3:Hst X σ3 w2:=hst2.off λi hi=>o3 i ()
  let pl3:Pl X σ3 Z7 a b P:=pl.off λi hi=>o3 i (by rcases hi with rfl|rfl|rfl<;>rfl')
  let(Qs,eq,spl',wq,dq,ql):=pG H hst3 pl3.pa wf ok
  letI td0:Z (G Nat×Pt):=Qs.map λQ=>(B,Q)
  letI jt:=σ2.length
  letI M (d:G (D×Bool)):DEnv:=N sl sp (U (.loc B jt,Y)) d
  let et:au (ac (aV (b7 9 "Search" "parted" aD (λO=>rY 2 O) (λO=>aa (rY 3 O) (U [])) (M B++σ3))) (bS Y [Y,Y,Y,Y,Y,Y,Y,Y,Y] (ae 8) (λO=>U V) bH (M B++σ3)))=U (.lst (td0.map Jg)):=by
   let ep:b7 9 "Search" "parted" aD (λO=>rY 2 O) (λO=>aa (rY 3 O) (U [])) (M B++σ3)=U (.lst (Qs.map aE)):=kW (ns:=M B) (ds:=[.loc (U "Part") Z7]) rfl rfl (hst3.at0 H) ∅ rfl eq
   let ecc:dz (dk (ae 8) (λO=>U V) bH ([B,B,B,B,B,B,B,B,B]++σ3)) (Qs.map aE)=U (td0.map Jg):=by
    rw[NU];show bK λQ _=>K5 (rT (a:=.int (-1)) rfl rfl)
   show jk (bs:=[Y,Y,Y,Y,Y,Y,Y,Y,Y]) (O:=M B++σ3) ((p_ aV ep).trans rfl) ⋯ rfl ecc (by simp[td0];lia)
  letI σ4:DEnv:=σ3++[U (.lst (td0.map Jg),V)]
  let l3:σ3.length=σ2.length+1:=by simp[σ3]
  let o4:∀i,i<σ3.length->σ4[i]?=σ3[i]?:=λi hi=>Me hi
  let hst4:Hst X σ4 w2:=hst3.off λi hi=>o4 i ()
  let pl4:Pl X σ4 Z7 a b P:=pl3.off λi hi=>o4 i (by rcases hi with rfl|rfl|rfl<;>lia)
  let dtd:Dj td0:=N7.mpr dq;let F0:Fm X P Z7 a b σ3.length 4 (λn=>((X.rof n).length:Nat)) [] td0 jt σ3.length σ4 w2:=by
   show⟨hst4,g2,pl4,⟨(),(),by simp[σ4]⟩,(λ_ z=>nomatch z),PreS.nil,by rw[o4 jt ()];simp[σ3,jt],by simp[σ4],⟨(),(),()⟩,(λ_ z=>nomatch z),⟨ok,λi c h=>by simp at h,λi c h=>by simp at h⟩,(λ_ z=>nomatch z),Snd.start ok spl',λi c h=>by simp at h,λq hq=>?_,λq hq=>?_,(λ_ z=>nomatch z),(λ_ z=>nomatch z),⟨(λ_ z=>nomatch z),λi j c d _ h=>by simp at h,λ_ z=>nomatch z⟩,⟨λq hq n hn=>?_,dtd⟩⟩
   .let(Q,hQ,rfl):=MC.mp hq
    show⟨P,rfl,spl'.pie Q hQ,ok⟩
   .let(Q,hQ,rfl):=MC.mp hq
    show wq Q hQ
   .let(Q,hQ,rfl):=MC.mp hq
    show⟨(spl'.pie Q hQ).ks n hn,λ_ z=>nomatch z⟩
  let run:=eC (t:=bJ) (b:=bp)
   (λm O=>∃k tr todo jt j5 J w t l,O=fE o1 o2 Z7 jt j5 t l++J/\Fm X P Z7 a b σ3.length k (λn=>((X.rof n).length:Nat)) tr todo jt j5 J w/\m=vv (tr.map (·.c))/\k+200*m<=20000000)
   (λO=>∃k tr jt j5 J w t l,O=fE o1 o2 Z7 jt j5 t l++J/\Fm X P Z7 a b σ3.length k (λn=>((X.rof n).length:Nat)) tr [] jt j5 J w)
   (λd fr O=>d=.non/\fr=Y/\jZ X.S P)
   (λm O ⟨k,tr,todo,jt,j5,J,w,t,l,hδ,F,hm,hk⟩=>by
    subst hδ;let et:bJ (fE o1 o2 Z7 jt j5 t l++J)=U (!todo.isEmpty):=(p_ jD (cY (n:=9) (ns:=fE o1 o2 Z7 jt j5 t l) rfl F.l5 rfl)).trans (by ext todo<;>rfl)
    rcases PN todo with rfl|⟨td,q,rfl⟩
    .show .inl ⟨et,k,tr,jt,j5,J,w,t,l,rfl,F⟩
    .rw[PP]at*
     let et':bJ (fE o1 o2 Z7 jt j5 t l++J)=U V:=et.trans (by simp)
     rcases CY (o1:=o1) (o2:=o2) (t:=t) (l8:=l) H h5 F (λn hn=>by have:=w1 n hn;lia)with⟨δ',e,nv⟩|⟨tr',todo',jt',j5',J',w',t',l',e,F',hv⟩
     .show .inr (.inr ⟨et',_,_,_,e,rfl,rfl,nv⟩)
     .show .inr (.inl ⟨et',_,vv (tr'.map (·.c)),e,⟨⟩,k+200,tr',todo',jt',j5',J',w',t',l',rfl,F',rfl,()⟩))
   1048576 (vv ([]:Z Ch)) (fE o1 o2 Z7 jt σ3.length B B++σ4) ⟨4,[],td0,jt,σ3.length,σ4,w2,B,B,rfl,F0,rfl,by trivial⟩ (by trivial)
  let pre:∀{r},aq (cA bJ bp 1048576 (fE o1 o2 Z7 jt σ3.length B B++σ4)) (λO=>LQ 9 4 hV O)=r->aq (fB 3 (dy 9 "Search" "first_part" az (λO=>rY 2 O) (bX (λO=>U [])) (N sl B B B++σ1))) (λO=>aq (JZ (o7 (rY 3 O)) (bN (U .non) O) (aU O)) (λO=>aq (fB 4 (bu 9 (λO=>eU (U [])) O)) (λO=>aq (gE 5 (au (ac (aV (b7 9 "Search" "parted" aD (λO=>rY 2 O) (λO=>aa (rY 3 O) (U [])) O)) (bS Y [Y,Y,Y,Y,Y,Y,Y,Y,Y] (ae 8) (λO=>U V) bH O))) O) (λO=>Jh 9 5 d9 O))))=r:=λk=>by
   show LJ (gM (ns:=N sl B B B) (lU (ns:=N sl B B B) rfl rfl s0 ∅ (fL rfl) ef)) (LJ (O:=N sl sp B B++σ2) (J6 rfl rfl) (LJ (gM (ns:=N sl sp B B) (lW (ns:=N sl sp B B) (d:=.lst []) rfl rfl)) (Ka (d:=.lst (td0.map Jg)) et ?_)))
   assumption
  rcases run with⟨δ',e,k,tr,jt',j5,J,w,t,l,rfl,F⟩|⟨d,fr,δ',e,rfl,rfl,nv⟩
  .let efz:=xb (ns:=fE o1 o2 Z7 jt' j5 t l) rfl rfl F.lst
   letI σ6:=J.set jt' B
   let o6:∀i,i≠jt'->σ6[i]?=J[i]?:=λi hi=>Mh (λz=>hi z.symm)
   let pl6:Pl X σ6 Z7 a b P:=F.fp.off λi hi=>o6 i (λz=>by
    let h:=F.lst
    rcases hi with rfl|rfl|rfl
    .have:=F.fp.o;rw[z,h]at this;ext this
    .have:=F.fp.sa;rw[z,h]at this;ext this
    .have:=F.fp.sb;rw[z,h]at this;ext this)
   let pre6:PreS X σ6 tr j5:=F.pre.off2 F.lst F.ju λi _ _ h3=>o6 i h3
   let rk:∀c∈tr.map (·.c),c.result.ks=c.part.ks:=λc hc=>by
    let(g,hg,rfl):=MC.mp hc;let(i,hi):=MV.mp hg;show(F.pre i g hi).1.ks
   let(srt,hp,hs,es):=uV H h5 pl6.pa wf (λn hn=>uu H wf ok hn) pre6 (λg hg n hn=>by
    rw[rk g.c (No hg)]at hn;show(F.nd.fst g.c (No hg) n (.inl hn)).1) (λg hg n hn=>by
    let(i,hi):=MV.mp hg;let(x,cr):=F.crs g hg;show uu H (F.pre i g hi).1.wf cr.ok hn)
   let sol:=done F.snd (F.nd.apart rk) (F.nd.a0 rk);let ld:=(hsol _).mp sol;rw[hone,hoth]at ld;show .some V P.ks srt (gL P (tr.map (·.c))) (base (pre (LJ e (Kx efz (Lj (LX (Fb (ns:=(fE o1 o2 Z7 jt' j5 t l).set 4 (U (.lst (tr.map K7),Y))) rfl rfl es)))))) (HK _)) wf.kn (λn=>by rw[hks n,wQ,hone]) hs hp ld (ME (cG wf.kn wf.kx) h5)
  .show .none Y (base (pre (LI e)) rfl) λφ L=>?_
   rw[<-hone,<-hoth]at L;show nv φ ((hsol φ).mpr L)
def ID (h:x=U d) (hi:QC i O.length=V:=by rfl):cC i x O=U (.next (O.set i (U (d,Y)))):=IV h hi
theorem Fj (a0 a1 a2 a3 a4 a5:G (D×Bool)) (c:Ce):∀(mv:Mv) (t:Ce) (x8 x9:G (D×Bool)),∃y8 y9,av (λd O=>ac ((aW (ah (ae 8) (ah (ae 9) (aY)))) d O) dT) (mv.map JX) [a0,a1,a2,a3,a4,a5,U (KQ c,Y),U (KQ t,Y),x8,x9]=U (.next [a0,a1,a2,a3,a4,a5,U (KQ c,Y),U (KQ (Jo c mv t),Y),y8,y9])
 |[],t,x8,x9=>⟨x8,x9,by rfl⟩
 |q::mv,t,x8,x9=>by
  let(y8,y9,e):=Fj a0 a1 a2 a3 a4 a5 c mv (if c=.bk q.1 then q.2 else t) (U (.int q.1,Y)) (U (KQ q.2,Y))
  show⟨y8,y9,?_⟩
  rw[Mx];ext av;let h:ac ((aW (ah (ae 8) (ah (ae 9) (aY)))) (JX q) [a0,a1,a2,a3,a4,a5,U (KQ c,Y),U (KQ t,Y),x8,x9]) dT=JZ (U (decide (c=.bk q.1))) (cC 7 (U (KQ q.2)) [a0,a1,a2,a3,a4,a5,U (KQ c,Y),U (KQ t,Y),U (.int q.1,Y),U (KQ q.2,Y)]) (aU [a0,a1,a2,a3,a4,a5,U (KQ c,Y),U (KQ t,Y),U (.int q.1,Y),U (KQ q.2,Y)]):=by
   change JZ (KP (U (KQ c)) (fS (aa (U (.str "blank")) (aa (U (.int q.1)) (U []))))) _ _=_;rw[rT rfl rfl,show D.tup [.str "blank",.int q.1]=KQ (.bk q.1) from rfl,yq]
   rfl
  rw[h,show Jo c (q::mv) t=Jo c mv (if c=.bk q.1 then q.2 else t) from rfl]
  by_cases hc:c=.bk q.1
  .rw[decide_eq_true hc];rw[n_ hc]at e⊢;show e
  .rw[decide_eq_false hc];rw[o_ hc]at e⊢;show e
def JG (k:Mv) (q:Ja):Ja:=(q.1,q.2.map λc=>Jo c k c)
def oZ {rs:Z Ja}(b:rs.length<=60) (n:∀q∈rs,q.2.length<=4) (k:Mv):∃fs:Z Ja,Cn fs/\(∀r,r∈fs↔∃q∈rs,r=JG k q)/\fs.length<=rs.length/\zA2 [.lst (rs.map ai),.lst (k.map JX)]=U (.lst (fs.map ai),V):=by
 let(fs,f0,i,o,l):=Bo (x:=U (.lst ((rs.map (JG k)).map ai))) rfl (by simpa using b)
 show⟨fs,f0,λr=>?_,by simp_all,?_⟩
 .rw[i,MC]
  show⟨λ⟨q,j,e⟩=>⟨q,j,e.symm⟩,λ⟨q,j,e⟩=>⟨q,j,e.symm⟩⟩
 let((x3,w,t,x6,p,u,g),e):=kj (γ:=G (D×Bool)×G (D×Bool)×G (D×Bool)×G (D×Bool)×G (D×Bool)×G (D×Bool)×G (D×Bool)) (f:=ai) (h:=JG k) (xs:=rs) (acc:=[]) (y:=(B,B,B,B,B,B,B))
  (body:=λd O=>ac ((aW (ah (ae 3) (ah (ae 4) (aY)))) d O) io)
  (E:=λacc y=>[U (.lst (rs.map ai),Y),U (.lst (k.map JX),Y),U (.lst (acc.map ai),V),y.1,y.2.1,y.2.2.1,y.2.2.2.1,y.2.2.2.2.1,y.2.2.2.2.2.1,y.2.2.2.2.2.2]) ⋯ λq j acc ⟨x3,w,t,x6,p,u,g⟩ s=>by
   let((y6,y7,y8,v),e):=kj (γ:=G (D×Bool)×G (D×Bool)×G (D×Bool)×G (D×Bool)) (f:=KQ) (h:=λc=>Jo c k c) (xs:=q.2) (acc:=[]) (y:=(x6,p,u,g))
    (body:=λd O=>ac ((ae 6) d O) iu)
    (E:=λcs y=>[U (.lst (rs.map ai),Y),U (.lst (k.map JX),Y),U (.lst (acc.map ai),V),U (.str q.1,Y),U (.tup (q.2.map KQ),Y),U (.lst (cs.map KQ),V),y.1,y.2.1,y.2.2.1,y.2.2.2]) (by have:=n q j;simp;lia) λc a cs ⟨x6,p,u,g⟩ m=>by
     let(y8,v,e):=Fj (U (.lst (rs.map ai),Y)) (U (.lst (k.map JX),Y)) (U (.lst (acc.map ai),V)) (U (.str q.1,Y)) (U (.tup (q.2.map KQ),Y)) (U (.lst (cs.map KQ),V)) c k c u g;show⟨(U (KQ c,Y),U (KQ (Jo c k c),Y),y8,v),?_⟩
     change aq (av _ _ _) _=_;show(p_ (λz=>aq z _) e).trans ?_
     rw[seqO_n];change rH 5 (U (KQ (Jo c k c))) _=_;rw[tB (ds:=cs.map KQ) _ rfl ⋯,Mu];rfl
   rw[Np]at e;show⟨(U (.str q.1,Y),U (.tup (q.2.map KQ),Y),U (.lst ((q.2.map λc=>Jo c k c).map KQ),Y),y6,y7,y8,v),?_⟩
   change aq (av _ _ _) _=_;show(p_ (λz=>aq z _) e).trans ?_
   rw[seqO_n];change rH 2 (fS (aa (U (.str q.1)) (aa (U (.tup ((q.2.map λc=>Jo c k c).map KQ))) (U [])))) _=_
   rw[rT rfl rfl,tB (ds:=acc.map ai) _ rfl ⋯,Mu];rfl
 show K3 (d:=.lst []) (lstO_s _ (by simp)) (Kf e (rF l))
theorem xV (w:MJ):∀(k:Mv) (t:Ce),Jo (.nm w) k t=t
 |[],t=>rfl
 |q::k,t=>by
  show xV w k t
def Ly (k:Mv) (n:Int):Ce:=Jo (.bk n) k (.bk n)
def Bd (k:Mv) (q:Ja):JG k q=Ld (Ly k) q:=by
 show QM rfl (NJ λc _=>?_)
 cases c with
 |nm w=>show xV w k _
 |bk n=>rfl
theorem Bs {φ:Int->Ce}:∀(us:Z Int) (t:Ce),Jo (.bk n) (us.map λk=>(k,φ k)) t=if n∈us then φ n else t
 |[],t=>rfl
 |k::us,t=>by
  change Jo (.bk n) (us.map λk=>(k,φ k)) (if Ce.bk n=.bk k then φ k else t)=_
  rw[Bs us];simp;lia
nonrec theorem tU:∀{cs:Z Ce}{T:Z Int},T.Nodup->(cs.foldl tL T).Nodup
 |[],_,h=>h
 |c::cs,T,h=>by
  rw[O9];show tU ?_
  cases c with
  |nm w=>show h
  |bk k=>
   ext tL;left;split
   .show h
   .rename_i z;show NQ.mpr ⟨h,by simp,λa g b j e=>by simp_all⟩
def m9 {rs:Z Ja}(hrs:rs.length<=8) (h4:∀q∈rs,q.2.length<=4):∃T:Z Int,T.Nodup/\(∀n,n∈T↔∃q∈rs,Ce.bk n∈q.2)/\zA3 [.lst (rs.map ai)]=U (.lst (gH (T.map D.int)),V):=by
 let(hlen,(y2,y3,y4),e):=go (γ:=G (D×Bool)×G (D×Bool)×G (D×Bool)) (f:=ai) (F:=λ(T:Z Int) (q:Ja)=>q.2.foldl tL T) (m:=NS) (k:=4) (Tx:=500) (xs:=rs) (s:=[]) (y:=(B,B,B)) (body:=λd O=>ac ((aW (ah (ae 2) (ah (ae 3) (aY)))) d O) gu)
  (E:=λT y=>[U (.lst (rs.map ai),Y),U (.lst (T.map D.int),V),y.1,y.2.1,y.2.2]) ⋯ λq hq T ⟨y2,y3,y4⟩ hT=>by
   let hq4:=h4 q hq;let(hl,z4,e):=go (γ:=G (D×Bool)) (f:=KQ) (F:=tL) (m:=NS) (k:=1) (Tx:=600) (xs:=q.2) (s:=T) (y:=y4) (body:=λd O=>ac ((ae 4) d O) f5)
    (E:=λT y=>[U (.lst (rs.map ai),Y),U (.lst (T.map D.int),V),U (.str q.1,Y),U (.tup (q.2.map KQ),Y),y]) () λc hc T y hT=>by
     show⟨AU T c,U (KQ c,Y),aA rfl ?_⟩
     cases c with
     |nm w=>
      rfl
     |bk n=>
      let c1:=pf "blank";let c2:eQ (U (.int n)) (U (.lst (T.map D.int)))=U (!decide (n∈T)):=ut (λ_ _=>D.int.inj) (λ_=>rfl) n T
      ext tL;left
      by_cases h:n∈T
      .rw[decide_eq_true h]at c2;rw[n_ h];show J6 (Ir c1 c2) rfl
      .rw[decide_eq_false h]at c2;rw[o_ h,Mu]
       show JU (Ir c1 c2) (GI (ds:=T.map D.int) (d:=.int n) rfl rfl ⋯)
   show⟨(),(U (.str q.1,Y),U (.tup (q.2.map KQ),Y),z4),aA rfl e⟩
 let hm:∀(xs:Z Ja) (T:Z Int) (n:Int),n∈xs.foldl (λT q=>q.2.foldl tL T) T↔n∈T\/∃q∈xs,Ce.bk n∈q.2:=by
  intro xs
  induction xs with
  |nil=>intro T n;simp
  |cons q xs ih=>simp[O9,ih,qp,or_assoc]
 let nd:∀(xs:Z Ja) (T:Z Int),T.Nodup->(xs.foldl (λT q=>q.2.foldl tL T) T).Nodup:=by
  intro xs
  induction xs with
  |nil=>simp
  |cons q xs ih=>show λT h=>ih _ (tU h)
 show⟨rs.foldl (λT q=>q.2.foldl tL T) [],nd rs [] Nr,λn=>by rw[hm];simp,JO rfl (K3 (d:=.lst []) rfl (Kf e (rF (BF rfl ?_))))⟩
 simp at hlen;lia
structure Dv (tb:Z (MJ×Int)) (ns:Z MJ) (nu:Z Int):Prop where
 tn:tb≠[]
 ta:∀t∈tb,1<=t.2/\t.2<=3
 nl:ns≠[]
 un:nu≠[]
section
variable{tb:Z (MJ×Int)}{ns:Z MJ}{nu:Z Int}(Tw:Dv tb ns nu)
include Tw
theorem Bv (h:x=U (.int k)) (v:y=U (.lst (ns.map D.str))) (u:z=U (.lst (nu.map D.int))):∃e:Ce,(∀n,e=.bk n->n∈nu)/\JT (ac (aa x (aa y (aa z (U [])))) zA4)=U (KQ e):=by
 let(e,j,g):=A3 Tw.nl Tw.un k;show⟨e,j,by simp_all⟩
theorem Fq (c:Int):∃r:Ja,(r.2.length<=4/\∀n,Ce.bk n∈r.2->n∈nu)/\zA7 [.int c,.lst (tb.map JM),.lst (ns.map .str),.lst (nu.map .int)]=U (ai r,Y):=by
 let(t,ht,et):=CP (f:=JM) Tw.tn (mx c 1);let(t1,t2):=Tw.ta t ht;let l:=Qb.mpr Tw.tn;let e4:fP (JT (ac (aa (U (.int c)) (aa (U (.int 1)) (U []))) zA0)) (cS (U (.lst (tb.map JM))))=U (.int (mx c 1%(tb.length:Int))):=by
  have:=uf (B2 (x:=U (.int c)) (y:=U (.int 1)) rfl rfl ∅ ∅) (Ho (x:=U (.lst (tb.map JM))) rfl) (by rw[Ms];rfl')
  rw[Ms]at this;show this
 let e5:Lm (Lm (U (.lst (tb.map JM))) (U (.int (mx c 1%(tb.length:Int))))) (U (.int 1))=U (.int t.2):=(LO (LG (d:=JM t) rfl rfl et)).2;let e0:Lm (Lm (U (.lst (tb.map JM))) (U (.int (mx c 1%(tb.length:Int))))) (U (.int 0))=U (.str t.1):=(LO (LG (d:=JM t) rfl rfl et)).1;let last:∀m:Int,1<=m->m<=3->∃r:Ja,(r.2.length<=4/\∀n,Ce.bk n∈r.2->n∈nu)/\jr (aq (gE 6 (au (ac (rI (U (.int m))) (bS Y [V,Y,V,V,Y,Y,Y,Y] (ae 7) (λO=>U V) gy [U (.int c,Y),U (.lst (tb.map JM),Y),U (.lst (ns.map .str),Y),U (.lst (nu.map .int),Y),U (.int (mx c 1%(tb.length:Int)),Y),U (.int m,Y),B,B]))) [U (.int c,Y),U (.lst (tb.map JM),Y),U (.lst (ns.map .str),Y),U (.lst (nu.map .int),Y),U (.int (mx c 1%(tb.length:Int)),Y),U (.int m,Y),B,B]) (λO=>jI (mG 6 O)))=U (ai r,Y):=λm m1 m2=>by
  let(cs,h1,h2,h3):=kJ (n:=m.toNat) (g:=KQ) (P:=λe=>∀n,e=.bk n->n∈nu) (F:=dk (ae 7) (λO=>U V) gy [U (.int c,Y),B,U (.lst (ns.map .str),Y),U (.lst (nu.map .int),Y),B,B,B,B]) λk hk=>by
   let(e,h0,he):=Bv Tw (x:=JT (ac (aa (U (.int c)) (aa (gX (U (.int 2)) (U (.int (0+(k:Int))))) (U []))) zA0)) (B2 rfl (vO rfl rfl) () ()) rfl rfl
   show⟨e,h0,K5 he⟩
  show⟨(t.1,cs),⟨by change cs.length<=4;lia,λn hn=>h2 _ hn n rfl⟩,K3 (i:=6) (jk (ni m ()) (by rw[ja];lia) rfl h3 ⋯) (rO (rT (a:=.str t.1) e0 (tupleO_l _)))⟩
 let hc:KP (fP (JT (ac (aa (U (.int c)) (aa (U (.int 7)) (U []))) zA0)) (U (.int 3))) (U (.int 0))=U (decide (mx c 7%3=0)):=LM (uf (B2 rfl rfl ∅ ∅) rfl ∅) rfl
 by_cases h:mx c 7%3=0
 .rw[decide_eq_true h]at hc
  let hm:gX (U (.int 1)) (fP (JT (ac (aa (U (.int c)) (aa (U (.int 8)) (U []))) zA0)) (U (.int t.2)))=U (.int (1+mx c 8%t.2)):=vO rfl (uf (B2 rfl rfl ∅ ∅) rfl ())
  let y1:=PG (mx c 8) (b:=t.2) ()
  let y2:=Qr (mx c 8) (b:=t.2) ()
  let(r,hr,e):=last (1+mx c 8%t.2) () ()
  show⟨r,hr,JO rfl (Jp (i:=4) e4 (Jp (i:=5) e5 (Kf (JU hc (ID (i:=5) hm)) e)))⟩
 .rw[decide_eq_false h]at hc
  let(r,hr,e):=last t.2 t1 t2;show⟨r,hr,JO rfl (Jp (i:=4) e4 (Jp (i:=5) e5 (KN hc e)))⟩
end
def vZ (a b:Int):KZ (U (.int a)) (U (.int b))=U (!decide (a=b)):=(p_ a7 (eqO_int a b)).trans rfl
def Bp (h:a=U Y) (k:b=U Y):Ku a b=U Y:=by subst h k;rfl
def Ez (T:Z Ce) (c:Ce):Z Ce:=if c∈T then T else T++[c]
def Ae (T:Z Ce) (c:Ce):(Ez T c).length<=T.length+1:=by ext Ez;split<;>simp
def Az {rs:Z Ja}(z:rs.length<=8) (w:∀q∈rs,q.2.length<=4):∃cs:Z Ce,cs.length<=32/\zB7 [.lst (rs.map ai)]=U (.lst (cs.map KQ),V):=by
 let(j,(v,y3,y4),e):=go (γ:=G (D×Bool)×G (D×Bool)×G (D×Bool)) (f:=ai) (F:=λ(T:Z Ce) (q:Ja)=>q.2.foldl Ez T) (m:=NS) (k:=4) (Tx:=500) (xs:=rs) (s:=[]) (y:=(B,B,B)) (body:=λd O=>ac ((aW (ah (ae 2) (ah (ae 3) (aY)))) d O) im)
  (E:=λT y=>[U (.lst (rs.map ai),Y),U (.lst (T.map KQ),V),y.1,y.2.1,y.2.2]) ⋯ λq r T ⟨v,y3,y4⟩ t=>by
   let p:=w q r;let(b,u,e):=go (γ:=G (D×Bool)) (f:=KQ) (F:=Ez) (m:=NS) (k:=1) (Tx:=600) (xs:=q.2) (s:=T) (y:=y4) (body:=λd O=>ac ((ae 4) d O) ip)
    (E:=λT y=>[U (.lst (rs.map ai),Y),U (.lst (T.map KQ),V),U (.str q.1,Y),U (.tup (q.2.map KQ),Y),y]) () λc n T y t=>by
     show⟨Ae T c,U (KQ c,Y),aA rfl ?_⟩
     let g:eQ (U (KQ c)) (U (.lst (T.map KQ)))=U (!decide (c∈T)):=ut iR uN c T;ext Ez
     by_cases h:c∈T
     .rw[decide_eq_true h]at g;rw[n_ h];show J6 g rfl
     .rw[decide_eq_false h]at g;rw[o_ h,Mu]
      show JU g (GI (ds:=T.map KQ) (d:=KQ c) rfl rfl ⋯)
   show⟨(),(U (.str q.1,Y),U (.tup (q.2.map KQ),Y),u),aA rfl e⟩
 simp at j;show⟨rs.foldl (λT q=>q.2.foldl Ez T) [],(),JO rfl (K3 (d:=.lst []) rfl (Kf e (rF rfl)))⟩
theorem uk {g γ:Type}{f:g->D}{body:D->DEnv->G Out}{E:γ->DEnv}:∀{xs:Z g}{y:γ},(∀x∈xs,∀y,(∃k,body (f x) (E y)=U (.next (E k)))\/((∃O,body (f x) (E y)=U (.ret (.bl V) Y O))/\Q))->(∃k,av body (xs.map f) (E y)=U (.next (E k)))\/((∃O,av body (xs.map f) (E y)=U (.ret (.bl V) Y O))/\Q)
 |[],y,_=>.inl ⟨y,rfl⟩
 |x::xs,y,H=>by
  rcases H x (MB ..) y with⟨k,e⟩|⟨⟨O,e⟩,q⟩
  .rcases uk (xs:=xs) (y:=k) λz hz=>H z (MA _ hz)with⟨u,j⟩|⟨⟨O,j⟩,q⟩
   .show .inl ⟨u,by rw[Mx];ext av;rw[e];show j⟩
   .show .inr ⟨⟨O,by rw[Mx];ext av;rw[e];show j⟩,q⟩
  .show .inr ⟨⟨O,by rw[Mx];ext av;rw[e]⟩,q⟩
def A4 {l:Z Ja}:eQ (U (ai q)) (U (.lst (l.map ai)))=U (!decide (q∈l)):=ut (λ_ _=>gZ) (λr=>nH r 13) q l
def II {ds:Z D}:cR (U (.lst (d::ds))) (bA (U (.int 1))) (U B)=U (.lst ds):=by
 change U (D.lst (pE (d::ds) (U 1) B))=_;unfold pE LR;simp
theorem lG {one oth:Z Ja}(h1:Sh one) (h2:Sh oth):∀(n:Nat) (us:Z Int) (mv:Mv),us.length<n->mv.length+us.length<=100->∃t,aI n [.lst (one.map ai),.lst (oth.map ai),.lst (us.map D.int),.lst (mv.map JX)]=U (.bl t,Y)/\(t=V->∃φ,wN one oth φ)
 |0,us,mv,h,_=>absurd h (OC _)
 |n+1,us,mv,hn,hl=>by
  letI E (a b:G (D×Bool)):DEnv:=[U (.lst (one.map ai),Y),U (.lst (oth.map ai),Y),U (.lst (us.map D.int),Y),U (.lst (mv.map JX),Y),a,b]
  let hz:KP (cS (U (.lst (us.map D.int)))) (U (.int 0))=U (decide (us.length=0)):=(LM (a:=us.length) (b:=0) (DU rfl) rfl).trans (p_ U (decide_eq_decide.mpr ⟨⟩))
  by_cases hu:us.length=0
  .rw[decide_eq_true hu]at hz
   let(fs,cf,hf,fl,em):=oZ (rs:=one) (by have:=h1.1;lia) h1.2 mv
   let el:aV (Km (ac (aa (U (.lst (one.map ai))) (aa (U (.lst (mv.map JX))) (U []))) zA2))=U (fs.map ai):=(p_ aV (LX (jV rfl rfl em))).trans rfl
   rcases jf (f:=ai) (p:=λq=>decide (q∈oth)) (body:=λd O=>ac ((ae 4) d O) (eP (aI n))) (E:=λy=>E y B) (xs:=fs) (y:=B) (λq hq y=>by
    let c:=A4 (q:=q) (l:=oth);constructor
    .intro hp
     rw[hp]at c;show⟨U (ai q,Y),aA (a:=E (U (ai q,Y)) B) rfl (J6 c rfl)⟩
    .intro hp
     rw[hp]at c;show⟨_,aA (a:=E (U (ai q,Y)) B) rfl (JU c rfl)⟩)with⟨ha,y,e⟩|⟨ha,O,e⟩
   .show⟨V,JO rfl (K9 hz (LJ (aA el e) rfl)),λ_=>⟨Ly mv,λq hq=>?_⟩⟩
    rw[<-Bd];show of_decide_eq_true (MH.mp ha _ ((hf _).mpr ⟨q,hq,rfl⟩))
   .show⟨Y,JO rfl (K9 hz (LI (aA el e))),λz=>nomatch z⟩
  .cases us with
   |nil=>trivial
   |cons k us=>
    simp![MX]at hn hl;let(cs,cl,ecs):=Az h2.1 h2.2;let el:aV (Km (ac (aa (U (.lst (oth.map ai))) (U [])) zB7))=U (cs.map KQ):=(p_ aV (LX (sH rfl ecs))).trans rfl;let run:=uk (f:=KQ) (Q:=∃φ,wN one oth φ) (body:=λd O=>ac ((ae 5) d O) (eI (aI n))) (E:=λy=>E B y) (xs:=cs) (y:=B) λc _ y=>by
     let(t,et,ht):=lG h1 h2 n us (mv++[(k,c)]) ⟨⟩ ⋯
     let ec:JT (ac (aa (U (.lst (one.map ai))) (aa (U (.lst (oth.map ai))) (aa (cR (U (.lst ((k::us).map D.int))) (bA (U (.int 1))) (U B)) (aa (tv (U (.lst (mv.map JX))) (eU (aa (fS (aa (Lm (U (.lst ((k::us).map D.int))) (U (.int 0))) (aa (U (KQ c)) (U [])))) (U [])))) (U []))))) (aI n))=U (.bl t):=by
      let e1:cR (U (.lst ((k::us).map D.int))) (bA (U (.int 1))) (U B)=U (.lst (us.map D.int)):=II;let e2:tv (U (.lst (mv.map JX))) (eU (aa (fS (aa (Lm (U (.lst ((k::us).map D.int))) (U (.int 0))) (aa (U (KQ c)) (U [])))) (U [])))=U (.lst ((mv++[(k,c)]).map JX)):=by
       have:Lm (U (.lst ((k::us).map D.int))) (U (.int 0))=U (.int k):=LG (i:=0) rfl rfl (by unfold atI Jx;simp)
       rw[this,Mu];show GQ rfl rfl ⋯
      rw[e1,e2];show Jf et
     cases t with
     |true=>show .inr ⟨⟨_,aA (a:=E B (U (KQ c,Y))) rfl (JU ((p_ Ln ec).trans rfl) rfl)⟩,ht rfl⟩
     |false=>show .inl ⟨U (KQ c,Y),aA (a:=E B (U (KQ c,Y))) rfl (J6 ((p_ Ln ec).trans rfl) rfl)⟩
    rcases run with⟨y,e⟩|⟨⟨O,e⟩,q⟩
    .show⟨Y,JO rfl (KN hz (Kf (aA el e) (rO rfl))),λz=>nomatch z⟩
    .show⟨V,JO rfl (KN hz ?_),λ_=>q⟩
     show(p_ jr (LI (aA el e))).trans rfl
def uO (h:∀k,c=.bk k->0<=k):zB1 [KQ c]=U (.bl V,Y):=by
 cases c with
 |nm w=>
  rfl
 |bk k=>
  show JO rfl (KN (c:=Ku (a7 (Ln (fO "tuple" (U (.tup [.str "blank",.int k]))))) (Ku (KZ (cS (U (.tup [.str "blank",.int k]))) (U (.int 2))) (a7 (Ln (fO "str" (U (.str "blank"))))))) ?_ (KN (c:=KP (U (.str "blank")) (U (.str "name"))) ?_ (rO (x:=uA (L7 (KP (U (.str "blank")) (U (.str "blank")))) (uA (U (.bl V)) (U (.bl (decide (0<=k)))))) ?_)))
  .rfl
  .rfl
  .rw[pf,decide_eq_true (h k rfl)];rfl
theorem EO {φ:Int->Ce}:∀us:Z Int,mS ((us.map λn=>(n,φ n)).map JX) (us.map D.int)=us.map λn=>.tup [JX (n,φ n),.int n]
 |[]=>rfl
 |n::us=>by rw[Mx,Mx,Mx,Mx,<-EO us];rfl
def sM {φ:Int->Ce}{us:Z Int}(h:∀n∈us,∀k,φ n=.bk k->0<=k):zA9 [.lst ((us.map λn=>(n,φ n)).map JX),.lst (us.map D.int)]=U (.bl V,Y):=by
 letI E (y2 y3:G (D×Bool)):DEnv:=[U (.lst ((us.map λn=>(n,φ n)).map JX),Y),U (.lst (us.map D.int),Y),y2,y3]
 let(δ',e,y2,y3,rfl):=aF (f:=λn=>D.tup [JX (n,φ n),.int n]) (body:=λd O=>ac ((aW (ah (ae 2) (ah (ae 3) (aY)))) d O) eB) (λt O=>∃y2 y3,O=E y2 y3) (xs:=us) (pre:=[]) (O:=E B B) ⟨B,B,rfl⟩ λt n O ⟨rest,hr⟩ ⟨y2,y3,hδ⟩=>by
  subst hδ;let hn:n∈us:=by
    have:us=t++n::rest:=by simpa using hr
    rw[this];simp
  let e1:Ku (a7 (Ln (fO "tuple" (U (JX (n,φ n)))))) (Ku (KZ (cS (U (JX (n,φ n)))) (U (.int 2))) (Ku (a7 (Ln (JT (ac (aa (U (.int n)) (U [])) zB3)))) (KZ (U (.int n)) (U (.int n)))))=U Y:=by
   show Bp rfl (Bp ?_ (Bp rfl ?_))
   .rfl
   .rw[vZ];simp
  let e2:a7 (Ln (JT (ac (aa (U (KQ (φ n))) (U [])) zB1)))=U Y:=(p_ (λz=>a7 (Ln z)) (Jf (sH rfl (uO (h n hn))))).trans rfl
  show⟨_,aA (a:=E (U (JX (n,φ n),Y)) (U (.int n,Y))) rfl (KA e1 (J6 e2 rfl)),_,_,rfl⟩
 show JO rfl (KN (c:=Ku (a7 (Ln (fO "list" (U (.lst ((us.map λn=>(n,φ n)).map JX)))))) (KZ (cS (U (.lst ((us.map λn=>(n,φ n)).map JX)))) (cS (U (.lst (us.map D.int)))))) ?_ (Kf (aA (a:=us.map λn=>.tup [JX (n,φ n),.int n]) ?_ e) (rO rfl)))
 .show Bp rfl ?_
  simp[vZ]
 .change U (mS ((us.map λn=>(n,φ n)).map JX) (us.map D.int))=_
  rw[EO]
def wI (k:Mv):D:=.tup [.str "led",.lst (k.map JX)]
def Cq {one oth:Z Ja}(h1:Sh one) (h2:Sh oth) (h0:∀q∈oth,∀m,Ce.bk m∈q.2->0<=m) {ks srt:Z Int}(nd:ks.Nodup) (mem:∀n,n∈ks↔∃x∈one,Ce.bk n∈x.2) (s:srt.map D.int=gH (ks.map D.int)) (p:srt.Perm ks) (ld:wN one oth φ):zC1 [.lst (one.map ai),.lst (oth.map ai),wI (srt.map λn=>(n,φ n))]=U (.bl V,Y):=by
 letI mv:Mv:=srt.map λn=>(n,φ n)
 letI E (y:G (D×Bool)):DEnv:=[U (.lst (one.map ai),Y),U (.lst (oth.map ai),Y),U (wI mv,Y),y]
 let pos:∀n∈srt,∀k,φ n=.bk k->0<=k:=λn hn k hk=>by
  let(x,hx,hb):=(mem n).mp (p.mem_iff.mp hn);show h0 _ (ld x hx) k (by show MC.mpr ⟨_,hb,hk⟩)
 let(T,tn,tm,et):=m9 h1.1 h1.2;let eT:gH (T.map D.int)=srt.map D.int:=by
  rw[s];show FU ((SG tn nd).mpr λn=>by rw[tm,mem])
 let(fs,cf,hf,fl,em):=oZ (rs:=one) (by have:=h1.1;lia) h1.2 mv
 let e1:Ku (a7 (Ln (fO "tuple" (U (wI mv))))) (Ku (KZ (cS (U (wI mv))) (U (.int 2))) (Ku (a7 (Ln (fO "str" (Lm (U (wI mv)) (U (.int 0)))))) (KZ (Lm (U (wI mv)) (U (.int 0))) (U (.str "led")))))=U Y:=by
  show Bp rfl (Bp ((vZ 2 2).trans (by simp)) (Bp rfl ?_))
  show(p_ a7 (pf "led")).trans rfl
 let e2:a7 (Ln (JT (ac (aa (Lm (U (wI mv)) (U (.int 1))) (aa (Km (ac (aa (U (.lst (one.map ai))) (U [])) zA3)) (U []))) zA9)))=U Y:=by
  show(p_ (λz=>a7 (Ln z)) (Jf (jV (d:=.lst (mv.map JX)) (e:=.lst (srt.map D.int)) rfl ?_ (sM pos)))).trans rfl
  rw[<-eT];show LX (sH rfl et)
 let el:aV (Km (ac (aa (U (.lst (one.map ai))) (aa (Lm (U (wI mv)) (U (.int 1))) (U []))) zA2))=U (fs.map ai):=(p_ aV (LX (jV (e:=.lst (mv.map JX)) rfl rfl em))).trans rfl;let all:∀q∈fs,q∈oth:=λq hq=>by
  let(r,hr,rfl):=(hf q).mp hq;have:JG mv r=Ld φ r:=by
   show QM rfl (NJ λc hc=>?_)
   cases c with
   |nm w=>show xV w mv _
   |bk n=>
    change Jo (.bk n) mv (.bk n)=φ n;rw[Bs,n_ (p.mem_iff.mpr ((mem n).mpr ⟨r,hr,hc⟩))]
  rw[this];show ld r hr
 let(δ',e3,y,rfl):=aF (f:=ai) (body:=λd O=>ac ((ae 3) d O) jA) (λt O=>∃y,O=E y) (xs:=fs) (pre:=[]) (O:=E B) ⟨B,rfl⟩ λt q O ⟨rest,hr⟩ ⟨y,hδ⟩=>by
  subst hδ;let hq:q∈fs:=by
    have:fs=t++q::rest:=by simpa using hr
    rw[this];simp
  let c:=A4 (q:=q) (l:=oth);rw[decide_eq_true (all q hq)]at c;show⟨_,aA (a:=E (U (ai q,Y))) rfl (J6 c rfl),_,rfl⟩
 show JO rfl (KN e1 (KN e2 (Kf (aA el e3) (rO rfl))))
def v6 (a b:Z Ja):KZ (U (.lst [.lst (a.map ai),.lst (b.map ai)])) (U (.lst [.lst (a.map ai),.lst (b.map ai)]))=U Y:=by
 let h:KY 16 (.lst [.lst (a.map ai),.lst (b.map ai)])=V:=by
  simp![KY,Ni,Tf,OG,RP,Mo,MH];show⟨λr _=>nH r 11,λr _=>nH r 11⟩
 rw[Gh _ _ (by ext Le;rw[h];rfl)];simp
def DK {one oth:Z Ja}(h1:Sh one) (h2:Sh oth) (hn:∃nu:Z Int,nu.length<=5/\∀x∈one,∀n,Ce.bk n∈x.2->n∈nu) (h0:∀q∈oth,∀m,Ce.bk m∈q.2->0<=m) (made:Bool) (hm:made=V->∃φ,wN one oth φ):zB2 [.lst (one.map ai),.lst (oth.map ai),.bl made]=U (.bl V,Y):=by
 letI o1:D:=.lst (one.map ai)
 letI o2:D:=.lst (oth.map ai)
 let eh:∀i d,((i=0/\d=o1)\/(i=1/\d=o2))->Lm (U (.lst [o1,o2])) (U (.int i))=U d:=λi d h=>by
  rcases h with⟨rfl,rfl⟩|⟨rfl,rfl⟩<;>rfl
 let eled:∀d,zD0 [o1,o2]=U (d,Y)->JT (ac (aa (Lm (U (.lst [o1,o2])) (U (.int 0))) (aa (Lm (U (.lst [o1,o2])) (U (.int 1))) (U []))) zD0)=U d:=λd e=>Jf (jV (eh 0 _ (.inl ⟨rfl,rfl⟩)) (eh 1 _ (.inr ⟨rfl,rfl⟩)) e)
 cases oJ h1 h2 hn with
 |none fr e no=>
  let el:zD0 [o1,o2]=U (.tup [.str "never"],Y):=JO rfl (Jp (d:=.non) (Jf (jV rfl rfl e)) (rO rfl));let mf:made=Y:=by
   cases made with
   |false=>rfl
   |true=>simp_all
  let(T,tn,tm,et):=m9 h1.1 h1.2;let(srt,hp,hs):=Br T;let tl:T.length<=5:=by
   let(nu,hl,hx):=hn;show ME (cG tn λn hn=>by let(q,hq,hb):=(tm n).mp hn;show hx q hq n hb) hl
  rw[hs]at et;let sl:srt.length<=5:=by rw[hp.length_eq];show tl
  let(t,es,ht):=lG h1 h2 8 srt [] () ⋯
  let tf:t=Y:=by
   cases t with
   |false=>rfl
   |true=>simp_all
  let ew:JT (ac (aa (U o1) (aa (U o2) (aa (Km (ac (aa (U o1) (U [])) zA3)) (aa (eU (U [])) (U []))))) (aI 8))=U (.bl Y):=by
   rw[show Km (ac (aa (U o1) (U [])) zA3)=U (.lst (srt.map D.int)) from LX (sH rfl et)]
   rw[tf]at es;show Jf es
  show JO rfl (Jp (d:=.lst [o1,o2]) rfl (Jp (d:=.tup [.str "never"]) (eled _ el) (KN (v6 one oth) (Kc (c:=jM (U V) (jM (KP (U (.int 1)) (U (.int 1))) (jM (U V) (KP (U (.str "never")) (U (.str "never")))))) ?_ ?_))))
  .rfl
  .rw[mf]
   show(p_ (λz=>uA (U (.bl V)) (L7 (a7 (Ln z)))) ew).trans rfl
 |some fr ks srt φ e nd mem s p ld len=>
  letI mv:Mv:=srt.map λn=>(n,φ n)
  let el:zD0 [o1,o2]=U (wI mv,Y):=JO rfl (Jp (d:=.lst (mv.map JX)) (Jf (jV rfl rfl e)) (rO rfl));show JO rfl (Jp (d:=.lst [o1,o2]) rfl (Jp (d:=wI mv) (eled _ el) (KN (v6 one oth) (KN (c:=jM (U V) (jM (KP (U (.int 2)) (U (.int 1))) (jM (U V) (KP (U (.str "led")) (U (.str "never")))))) rfl (rO ?_)))))
  show Jf (show ac (aa (U o1) (aa (U o2) (aa (U (wI mv)) (U [])))) zC1=U (.bl V,Y) from Cq h1 h2 h0 nd mem s p ld)
def zn (h:x=U (.int i)):bA x=U (U i):=by subst h;rfl
def Il {ds:Z D}(h:x=U (.lst ds)) (j:l=U a) (k:u=U b):aV (cR x l u)=U (pE ds a b):=by subst h j k;rfl
def tC (cs:Z Int) {lo hi:Int}(j:0<=lo) (g:lo<=hi) (u:hi<=lo+k):∃xs:Z Int,xs.length<=k/\pE (cs.map D.int) (U lo) (U hi)=xs.map D.int:=by
 let(a,rfl):=PI j;let(b,rfl):=PI (Int.le_trans j g);show⟨(cs.drop (min a cs.length)).take (min b cs.length - min a cs.length),?_,?_⟩
 .simp;lia
 .ext pE
  simp[Dk,Ms,OE,List.map_drop]
structure Tv (nu:Z Int):Prop where
 l:nu.length=5
 p:∀n∈nu,0<=n
def eL (a0:G (D×Bool)) (cs:Z Int) (tb:Z (MJ×Int)) (ns:Z MJ) (nu:Z Int) (at':Int) (x6 z y v u g j k:G (D×Bool)):DEnv:=[a0,U (.lst (cs.map D.int),Y),U (.lst (tb.map JM),Y),U (.lst (ns.map D.str),Y),U (.lst (nu.map D.int),Y),U (.int at',Y),x6,z,y,v,u,g,j,k]
def Rn (nu:Z Int) (r:Ja):Prop:=r.2.length<=4/\∀n,Ce.bk n∈r.2->n∈nu
section
variable{tb:Z (MJ×Int)}{ns:Z MJ}{nu:Z Int}
def oD (Tw:Dv tb ns nu) (u:13<ε.length) (v:∀k:Int,e (ε.set 13 (U (.int k,Y)))=JT (zA7 [.int k,.lst (tb.map JM),.lst (ns.map .str),.lst (nu.map .int)])) (xs:Z Int):∃qs:Z Ja,qs.length=xs.length/\(∀r∈qs,Rn nu r)/\dz (dk (ae 13) (λO=>U V) e ε) (xs.map D.int)=U (qs.map ai):=
 sI (f:=D.int) (g:=ai) (P:=Rn nu) λk _=>by
  let(r,j,y):=Fq Tw k;show⟨r,j,K5 ((v k).trans (by rw[y];rfl)) (PV.mpr u)⟩
def ka {qs:Z Ja}(h:x=U (.lst (qs.map ai))) (g:∀r∈qs,Rn nu r) (v:qs.length<=8):∃rs:Z Ja,Sh rs/\(∀r∈rs,Rn nu r)/\rs.length<=qs.length/\(∀r,r∈rs↔r∈qs)/\Km (ac (aa x (U [])) zA1)=U (.lst (rs.map ai)):=by
 let(rs,cr,k,u,e):=Bo h ()
 show⟨rs,⟨(),λr j=>(g r ((k r).mp j)).1⟩,λr j=>g r ((k r).mp j),u,k,e⟩
def Ei {one oth:Z Ja}(c:Sh one) (w:Sh oth) (b1:∀r∈one,Rn nu r) (b2:∀r∈oth,Rn nu r) (p:nu.length<=5) (d:∀n∈nu,0<=n) (k:Bool) (t:k=V->∃φ,wN one oth φ) (j:x=U (.lst (one.map ai))) (u:y=U (.lst (oth.map ai))) (hz:z=U (.bl k)):a7 (Ln (JT (ac (aa x (aa y (aa z (U [])))) zB2)))=U Y:=by
 subst j u hz;let e:=DK c w ⟨nu,p,λx j n g=>(b1 x j).2 n g⟩ (λq v m g=>d m ((b2 q v).2 m g)) k t
 show(p_ (λz=>a7 (Ln z)) (Jf e)).trans rfl
def AK (Tw:Dv tb ns nu) (hv:Tv nu) (a0:G (D×Bool)) {cs:Z Int}{at':Int}(h0:0<=at') (h1:at'<cs.length) (x6 x7 x8 d v u j s:G (D×Bool)):∃(e:Int) (y6 y7 y8 y9 T K o y13:G (D×Bool)),at'<e/\sO (eL a0 cs tb ns nu at' x6 x7 x8 d v u j s)=U (.next (eL a0 cs tb ns nu e y6 y7 y8 y9 T K o y13)):=by
 let(c,_,ec):=wX (f:=D.int) h0 h1;let c7:0<=c%7/\c%7<7:=⟨PG _ ∅,Qr _ ∅⟩
 let d7:0<=c / 14%7/\c / 14%7<7:=⟨PG _ ∅,Qr _ ∅⟩
 letI m:=at'+1+c%7
 letI C:G (D×Bool):=U (.int c,Y)
 letI N:G (D×Bool):=U (.int m,Y)
 let e6:Lm (U (.lst (cs.map D.int))) (U (.int at'))=U (.int c):=LG rfl rfl ec;let e7:gX (gX (U (.int at')) (U (.int 1))) (fP (U (.int c)) (U (.int 7)))=U (.int m):=vO (vO rfl rfl) (uf rfl rfl ∅)
 let Q:fP (mA (U (.int c)) (U (.int 7))) (U (.int 2))=U (.int (c / 7%2)):=uf (By rfl rfl ∅) rfl ∅
 let cc:KP (fP (mA (U (.int c)) (U (.int 7))) (U (.int 2))) (U (.int 0))=U (decide (c / 7%2=0)):=LM Q rfl;obtain⟨w,w0,w7,w2,e8⟩:∃w:Int,0<=w/\w<7/\(c / 7%2=0->w=2)/\gX (U (.int m)) (Lm (eU (aa (U (.int 2)) (aa (fP (mA (U (.int c)) (U (.int 14))) (U (.int 7))) (U [])))) (fP (mA (U (.int c)) (U (.int 7))) (U (.int 2))))=U (.int (m+w)):=by
  let hd:fP (mA (U (.int c)) (U (.int 14))) (U (.int 7))=U (.int (c / 14%7)):=uf (By rfl rfl ∅) rfl ∅
  let hl:eU (aa (U (.int 2)) (aa (fP (mA (U (.int c)) (U (.int 14))) (U (.int 7))) (U [])))=U (.lst [.int 2,.int (c / 14%7)]):=by rw[hd];rfl
  by_cases z:c / 7%2=0
  .show⟨2,⟨⟩,⟨⟩,λ_=>rfl,vO rfl (LG hl Q ?_)⟩
   rw[z];rfl
  .let z1:c / 7%2=1:=()
   show⟨c / 14%7,d7.1,d7.2,λh=>absurd h z,vO rfl (LG hl Q ?_)⟩
   rw[z1];rfl
 letI L:G (D×Bool):=U (.int (m+w),Y)
 let(xs,xl,ex):=tC cs (lo:=at'+1) (hi:=m) (k:=6) () (by change at'+1<=at'+1+c%7;lia) (by change at'+1+c%7<=_;lia)
 let(ys,yl,ey):=tC cs (lo:=m) (hi:=m+w) (k:=w.toNat) (by change 0<=at'+1+c%7;lia) () ()
 let hen:at'<m+w:=by change at'<at'+1+c%7+w;lia
 letI E (d v u j:G (D×Bool)):=eL a0 cs tb ns nu at' C N L d v u j s
 let l1:∀d v u j,aV (cR (rY 1 (E d v u j)) (bA (gX (rY 5 (E d v u j)) (U (.int 1)))) (bA (rY 7 (E d v u j))))=U (xs.map D.int):=λ_ _ _ _=>(Il rfl (zn (vO rfl rfl)) (zn rfl)).trans (p_ U ex)
 let l2:∀d v u j,aV (cR (rY 1 (E d v u j)) (bA (rY 7 (E d v u j))) (bA (rY 8 (E d v u j))))=U (ys.map D.int):=λ_ _ _ _=>(Il rfl (zn rfl) (zn rfl)).trans (p_ U ey)
 letI mk:Z Bool:=[Y,Y,V,V,V,Y,Y,Y,Y,Y,Y,Y,Y,Y]
 letI ε:DEnv:=[B,B,U (.lst (tb.map JM),Y),U (.lst (ns.map D.str),Y),U (.lst (nu.map D.int),Y),B,B,B,B,B,B,B,B,B]
 let fin:∀{A:G Out}{y9 T K o:G (D×Bool)},A=U (.next (E y9 T K o))->aq A (λO=>cC 5 (rY 8 O) O)=U (.next (eL a0 cs tb ns nu (m+w) C N L y9 T K o s)):=λh=>LJ h rfl
 by_cases hz:c / 7%2=0
 .-- the second stand is made of the first
  rw[decide_eq_true hz]at cc;let(qs,q1,q2,eq):=oD Tw (e:=wh) (ε:=ε) (Nj 13) (λk=>rfl) xs
  let(rs,I,H,rl,rm,er):=ka (jk (bs:=mk) (O:=E d v u j) (l1 d v u j) ⋯ rfl eq ⋯) q2 ()
  letI R:G (D×Bool):=U (.lst (rs.map ai),Y)
  let(ps,p1,p2,ep):=oD Tw (e:=sJ) (ε:=ε) (Nj 13) (λk=>rfl) ys
  let yl2:ys.length<=2:=by have:=w2 hz;lia
  let ep':au (ac (aV (cR (rY 1 (E R v u j)) (bA (rY 7 (E R v u j))) (bA (rY 8 (E R v u j))))) (bS Y mk (ae 13) (λO=>U V) sJ (E R v u j)))=U (.lst (ps.map ai)):=jk (l2 R v u j) ⋯ rfl ep ⋯
  letI M:G (D×Bool):=U (.lst (ps.map ai),Y)
  let(mv,m1,m2,em):=kJ (n:=5) (g:=JX) (P:=λq:Int×Ce=>∀n,q.2=.bk n->n∈nu) (F:=dk (ae 13) (λO=>U V) rK [B,B,B,U (.lst (ns.map D.str),Y),U (.lst (nu.map D.int),Y),B,C,B,B,B,B,B,B,B]) λk hk=>by
   let(e,h0,he):=Bv Tw (x:=JT (ac (aa (U (.int c)) (aa (gX (U (.int 50)) (U (.int (0+(k:Int))))) (U []))) zA0)) (B2 rfl (vO rfl rfl) () ()) rfl rfl
   let(n,_,m):=wX (f:=D.int) (xs:=nu) (i:=0+(k:Int)) ⟨⟩ (by rw[hv.l];lia)
   show⟨(n,e),h0,K5 (rT (LG rfl rfl m) he)⟩
  let em':au (ac (rI (U (.int 5))) (bS Y [Y,Y,Y,V,V,Y,V,Y,Y,Y,Y,Y,Y,Y] (ae 13) (λO=>U V) rK (E R M u j)))=U (.lst (mv.map JX)):=jk (ni 5 ∅) (by trivial) rfl em (by simp[m1])
  letI W:G (D×Bool):=U (.lst (mv.map JX),Y)
  let(fs,cf,hf,fl,eM):=oZ (rs:=rs) (by have:=I.1;lia) I.2 mv
  let bf:∀r∈fs,Rn nu r:=λr hr=>by
   let(q,X,rfl):=(hf r).mp hr;show⟨by change(q.2.map _).length<=4;rw[Ms];show(H q X).1,λn a=>?_⟩
   let(b,hb,e):=MC.mp a;let key:∀(l:Mv) (t:Ce),(∀q∈l,∀n,q.2=.bk n->n∈nu)->(∀n,t=.bk n->n∈nu)->∀n,Jo b l t=.bk n->n∈nu:=λl=>by
    induction l with
    |nil=>intro t _ ht n a;show ht n a
    |cons q l ih=>
     intro t hl ht n a;show ih _ (λq X=>hl q (MA _ X)) (λn a=>?_) n a
     split at a
     .show hl q (MB ..) n a
     .show ht n a
   show key mv b m2 (λn a=>(H q X).2 n (a▸hb)) n e
  let ec':tv (Km (ac (aa (rY 9 (E R M W j)) (aa (rY 11 (E R M W j)) (U []))) zA2)) (rY 10 (E R M W j))=U (.lst ((fs++ps).map ai)):=by
   rw[Mu];show GQ (LX (jV rfl rfl eM)) rfl (by have:=I.1;simp;lia)
  let(gs,sg,bg,gl,gm,eg):=ka (nu:=nu) ec' (λr hr=>(Mw.mp hr).elim (bf r) (p2 r)) ⋯
  let tN:=Ei (nu:=nu) I sg H bg (by rw[hv.l];decide) hv.p V (λ_=>⟨Ly mv,λq X=>by
   rw[<-Bd];show(gm _).mpr (MI _ ((hf _).mpr ⟨q,X,rfl⟩))⟩) (x:=rY 9 (E R M W j)) rfl eg rfl
  show⟨m+w,C,N,L,R,M,W,j,s,hen,JI e6 (JI e7 (JI e8 (fin (JU cc (JI er (Ka ep' (Ka em' (J6 tN rfl))))))))⟩
 .rw[decide_eq_false hz]at cc
  letI n2:=nu.take 2
  let V2:Dv tb ns n2:=⟨Tw.tn,Tw.ta,Tw.nl,λz=>by have:=p_ NS z;simp[n2,hv.l]at this⟩
  let n2l:n2.length<=5:=by simp[n2];lia
  let n20:∀n∈n2,0<=n:=λn a=>hv.p n (OT a)
  let ct:cR (U (.lst (nu.map D.int))) (U B) (bA (U (.int 2)))=U (.lst (n2.map D.int)):=by
   change U (D.lst (pE (nu.map D.int) B (U ((2:Nat):Int))))=_;rw[om,OE]
  let S:∀k:Int,JT (ac (aa (U (.int k)) (aa (U (.lst (tb.map JM))) (aa (U (.lst (ns.map D.str))) (aa (cR (U (.lst (nu.map D.int))) (U B) (bA (U (.int 2)))) (U []))))) zA7)=JT (zA7 [.int k,.lst (tb.map JM),.lst (ns.map .str),.lst (n2.map .int)]):=λk=>by rw[ct];rfl
  let(qs,q1,q2,eq):=oD V2 (e:=xq) (ε:=ε) (Nj 13) S xs;let(rs,I,H,rl,rm,er):=ka (jk (bs:=mk) (O:=E d v u j) (l1 d v u j) ⋯ rfl eq ⋯) q2 ()
  letI R:G (D×Bool):=U (.lst (rs.map ai),Y)
  let(ps,p1,p2,ep):=oD V2 (e:=xP) (ε:=ε) (Nj 13) S ys;let(gs,sg,bg,gl,gm,eg):=ka (jk (bs:=mk) (O:=E R v u j) (l2 R v u j) ⋯ rfl ep ⋯) p2 ()
  letI Z_:G (D×Bool):=U (.lst (gs.map ai),Y)
  let t1:=Ei (nu:=n2) I sg H bg n2l n20 Y (λz=>nomatch z) (x:=rY 9 (E R v u Z_)) (y:=rY 12 (E R v u Z_)) (z:=U (.bl Y)) rfl rfl rfl
  let t2:=Ei (nu:=n2) sg I bg H n2l n20 Y (λz=>nomatch z) (x:=rY 12 (E R v u Z_)) (y:=rY 9 (E R v u Z_)) (z:=U (.bl Y)) rfl rfl rfl
  show⟨m+w,C,N,L,R,v,u,Z_,s,hen,JI e6 (JI e7 (JI e8 (fin (J6 cc (JI er (JI eg (J6 (Bp t1 t2) rfl)))))))⟩
end
def pure (ns:Z Int) (hn:ns.length<=63):f_law [.lst (ns.map D.int)]=U (.bl V,Y):=by
 obtain⟨cs,hcs⟩:∃cs:Z Int,cs=ns.take 33++[0,0]:=⟨_,rfl⟩;let hl:cs.length<=35:=by rw[hcs];simp;lia
 obtain⟨c,cr,hcr⟩:∃c cr,cs=c::cr:=by
  cases h:cs with
  |nil=>simp_all
  |cons c cr=>show⟨c,cr,rfl⟩
 let ec:Lm (U (.lst (cs.map D.int))) (U (.int 0))=U (.int c):=LG (i:=0) rfl rfl (by rw[hcr];unfold atI Jx;simp)
 let e1:tv (cR (U (.lst (ns.map D.int))) (U B) (bA (U (.int 33)))) (eU (aa (U (.int 0)) (aa (U (.int 0)) (U []))))=U (.lst (cs.map D.int)):=by
  have:cR (U (.lst (ns.map D.int))) (U B) (bA (U (.int 33)))=U (.lst ((ns.take 33).map D.int)):=by
   change U (D.lst (pE (ns.map D.int) B (U ((33:Nat):Int))))=_;rw[om,OE]
  rw[this,hcs,Mu];show GQ rfl rfl ⋯
 let(tb,t1,t2,et):=yb c;let(ws,n1,en):=yo (x:=mA (Lm (U (.lst (cs.map D.int))) (U (.int 0))) (U (.int 7))) (y:=U (.int 4)) (By ec rfl ∅) rfl ∅ ∅
 let(nu,ul,up,eu):=vM (c / 5);let Tw:Dv tb ws nu:=⟨t1,t2,λe=>by simp_all,λe=>by simp_all⟩
 let e2:Km (ac (aa (Lm (U (.lst (cs.map D.int))) (U (.int 0))) (aa (U (.int 3)) (U []))) zB5)=U (.lst (tb.map JM)):=LX (jV ec rfl et);let e4:Km (ac (aa (mA (Lm (U (.lst (cs.map D.int))) (U (.int 0))) (U (.int 5))) (aa (U (.int 5)) (U []))) zA8)=U (.lst (nu.map D.int)):=LX (jV (By ec rfl ∅) rfl eu)
 letI a0:G (D×Bool):=U (.lst (ns.map D.int),Y)
 let run:=eC (t:=sP) (b:=sO) (λm O=>∃at' x6 x7 x8 x9 x10 x11 x12 x13,O=eL a0 cs tb ws nu at' x6 x7 x8 x9 x10 x11 x12 x13/\0<=at'/\m=(cs.length - at').toNat) (λ_=>True) (λ_ _ _=>False) (λm O ⟨at',x6,x7,x8,x9,x10,x11,x12,x13,hδ,h0,hm⟩=>by
  subst hδ;let et:sP (eL a0 cs tb ws nu at' x6 x7 x8 x9 x10 x11 x12 x13)=U (decide (at'<cs.length)):=by
   change cI JJ (U (.int at')) (cS (U (.lst (cs.map D.int))))=_;rw[DU rfl];rfl
  by_cases h:at'<cs.length
  .let(e,y6,y7,y8,y9,y10,y11,y12,y13,he,eb):=AK Tw ⟨ul,up⟩ a0 h0 h x6 x7 x8 x9 x10 x11 x12 x13
   show .inr (.inl ⟨et.trans (p_ U (decide_eq_true h)),_,_,eb,(),e,y6,y7,y8,y9,y10,y11,y12,y13,rfl,(),rfl⟩)
  .show .inl ⟨et.trans (p_ U (decide_eq_false h)),trivial⟩) 1000 _ (eL a0 cs tb ws nu 1 B B B B B B B B) ⟨1,B,B,B,B,B,B,B,B,rfl,⟨⟩,rfl⟩ ()
 rcases run with⟨δ',ew,_⟩|⟨_,_,_,_,h⟩
 .show JO rfl (Jp (i:=1) e1 (Jp (i:=2) e2 (Jp (i:=3) en (Jp (i:=4) e4 (Jp (i:=5) (d:=.int 1) rfl (Kf ew (rO rfl)))))))
 .show h.elim
end K21
open PySem
set_option maxRecDepth 100000 in
set_option maxHeartbeats 0 in
theorem PySem.Challenge.cw_mustrows_k21_led_holds : PySem.Challenge.rw_mustrows_k21_led.Holds := by
 refine PySem.W.holds_law K21.hl1 λsaid=>?_
 refine PySem.W.holds_open (d:=PySem.DefRec.mk "law" (L2.lF K21.uH) (L2.bc K21.uH) (L2.ar K21.uH) K21.uH.pos) (kwd:=[]) (q:=SN PySem.Challenge.pw_mustrows_k21_led CX) (loose:=[]) (Xt:=λ_=>V) (XP:=λ_ _=>True) (Yf:=L2.KV K21.Lr K21.LW K21.Lb K21.vK K21.Kh K21.Lg) (Ya:=L2.KG K21.Lr K21.LW K21.Lb K21.vK K21.Kh K21.Lg) (YP:=L2.YH K21.Lr K21.LW K21.Lb K21.vK K21.Kh K21.Lg) (N:=8000) ?hl L2.G2 L2.zZ (λ_ _=>trivial) (λ_ _ _ _ _=>trivial) (by kernel_rfl) (by kernel_rfl) (by kernel_rfl) (λs _=>PySem.W.recFacts_of (by kernel_rfl)) (by kernel_rfl) said K21.hl7 ⟨rfl,rfl,rfl,rfl,rfl,by decide +kernel⟩ ?hw ?hc
 case hl=>exact K21.hl0
 case hw=>w_witness2
 case hc=>
  exact L2.Fd (l:=PySem.Challenge.rw_mustrows_k21_led) (n:=63) (k:=13) (f:=K21.f_law) rfl (by decide) rfl ⟨rfl,by decide,by decide⟩ rfl (λI ht _ S L X G=>K21.Fe S X G ht L) (λ_ ns hl=>K21.pure ns hl)
