import PyProof.Rows.All
import Wide.All
import OpenK.AllK
import Wide.FinOn
import Lean
import PyProof.EqAt
import PyProof.EqKinds
import PyProof.TupleCall
import PyProof.DictRoadsH
import PyProof.NeKinds
import KE.KLam
import KE.KNestM
import PyProof.ConsumeWalk
import PyProof.DictIter
import PyProof.DictWalks
import PyProof.ListStr
import PyProof.ZipIter
import PyProof.EnumStmt
import PyProof.ListRange
import PyProof.Rows.SortRuns
import KE.KSortTup
import PyProof.MinMaxWalk
import PyProof.WalkInts
import KE.KMinBuiltin
import KE.KSortKey
import PySem.Challenge.RW_mustrows_k41_full_step_by_step
set_option Elab.async false
set_option linter.all false
set_option maxRecDepth 100000
set_option maxHeartbeats 4000000
set_option compiler.extract_closed false
set_option tactic.hygienic false
local macro_rules|`(def $i:declId $s:optDeclSig $v:declVal)=>`(noncomputable def $i:declId $s:optDeclSig $v:declVal)
local macro_rules|`(abbrev $i:declId $s:optDeclSig $v:declVal)=>`(noncomputable abbrev $i:declId $s:optDeclSig $v:declVal)
local macro_rules|`(tactic|obtain $p:rcasesPatMed:=$e:term)=>do
  let n:=(p.raw.reprint.getD "").foldl (λn c=>if c==',' then n+1 else n) 0
  let q:=Lean.mkIdent `hzz
  if n<2 then `(tactic|rcases $e:term with $p:rcasesPatMed) else `(tactic|(refine Classical.byContradiction fun $q=>?_;rcases $e:term with $p:rcasesPatMed;refine $q ?_;clear $q))
local macro_rules|`(nonrec theorem $i:declId $s:declSig $v:declVal)=>`(set_option tactic.hygienic true in theorem $i:declId $s:declSig $v:declVal)
local macro_rules|`(tactic|let $x:ident$[:$t]?:=$e)=>`(tactic|have $x:ident$[:$t]?:=$e)
local macro_rules|`(Wq $x)=>`(Option $x)
local macro_rules|`(Ww $x)=>`(List $x)
local macro_rules|`(tactic|simp! [$xs,*] $[$l:location]?)=>`(tactic|simp only [$xs,*] $[$l:location]?)
local macro_rules|`(tactic|let $p:term:=$e:term)=>do
  let P:=`Lean.Parser.Tactic
  let N:=λn a=>Lean.mkNode (P++n) a
  let z:=λa=>Lean.mkNode Lean.nullKind a
  let r:=p.raw.rewriteBottomUp λs=>if s.isIdent then N `rcasesPat.one #[s] else if s.getKind==`Lean.Parser.Term.hole then N `rcasesPat.ignore #[s[0]] else if s.getKind==`Lean.Parser.Term.anonymousCtor then N `rcasesPat.tuple #[s[0],z (s[1].getArgs.mapIdx λi x=>if i%2==0 then N `rcasesPatLo #[N `rcasesPatMed #[z #[x]],z #[]] else x),s[2]] else s
  let q:Lean.TSyntax (P++`rcasesPatMed):=⟨N `rcasesPatMed #[z #[r]]⟩
  `(tactic|obtain $q:rcasesPatMed:=$e:term)
open List renaming mem_map→mt,mem_cons→on,mem_singleton→qaa,all_eq_true→qab,mem_append→qac,mem_filter→qad,mem_range→qae,nodup_cons→qaf,length_pos_iff→qag,mem_iff_getElem→qah,mem_reverse→qai,pairwise_cons→qaj,map_inj_left→qak,mem_filterMap→qal,length_eq_zero_iff→qam,perm_middle→qan,mem_flatMap→qao,nodup_append→qap,set→qaq,mem_take_iff_getElem→qar,pairwise_iff_getElem→qas,eq_nil_iff_forall_not_mem→qat,take_sublist→qau,reverse_append→qav,pairwise_append→qaw,pairwise_reverse→qax,isPerm_iff→qay,cons_append→qaz,take_length→qaA,filter_cons→qaB,nodup_range→qaC,pairwise_map→qaD,map_eq_nil_iff→qaE,length_zip→qaF,zip_of_prod→qaG
open PySem renaming wpAny_bind→JY,wpAny_pure→JZ,Value→J4,Shared→J5,Addr→Kp,Str→Kr,wpAny_holding→KB,Spec→KC,Around→KH,wpAny_passesOwn→KN,codeAny_builtin→KP,wpAny_truthy_bool→KR,SetTable→KS,wpAny_call_entry→KU,wpAny_execs_cons→K8,wpAny_seqItems→K9,wpAny_newObj_type→Le,wpAny_callSpecial?_slot→Lf,plainId_quiet→Lh,wpAny_execs_nil→Ll,Stmt→Lr,wpAny_updateSeq→Lu,Program→Lw,wpAny_Call_Name_kw→Lx,wpAny_rule→LA,Heap→LF,wpAny_setState_of→LN,mem_of_lookup→LQ,World→LY,wpAny_pyIter_list→L4,wpAny_mono→L5,wpAny_Name→Mh,wpAny_tryCatch→Mm,wpAny_setField→Mn,wpAny_letGo→Mo,wpAny_Assign_Name→Mq,wpAny_specialOf→Ms,wpAny_isInstance→MA,wpAny_forIn_list→MB,wpAny_setField_rec→MD,wpAny_notOrdered_dict→MF,Scope→MJ,wpAny_attempt→MO,wpAny_field→MZ,sizeLine_eq→M5,wpAny_typeOf→Nc,wpAny_isTrue_Compare1→Nk,NameKind→Nu,wpAny_setEntries_of→Nz,wpAny_loadPart'→NE,Builtin→NK,wpAny_Return_some→NQ,wpAny_typeNameOfWhole_keyiter→N3,wpAny_of_eq→N4,codeAny_forLoop_any→Oe,wpAny_fieldsOf→Om,isSubtype_stop→On,call_meets→Oo,IsPair→Ov,wpAny_storeSet_of→Oz,wpAny_dictEntries→OA,wpAny_assign_Name→OB,slot_dict_setitem→OC,wpAny_typeNameOf_keyiter→OG,wpAny_newList→OH,wpAny_Dict_empty→OU,Arguments→OZ,wpAny_load→O5,Result→O9,wpAny_runValue→Ps,wpAny_newTuple→Pt,wpAny_If→Pu,wpAny_Expr_any→Pw,list_append→Py,Pos→PA,Obj→PC,DictEntry→PJ,wpAny_standAt→PT,wpAny_handled→PU,wpAny_pyIter_tuple→PY,Sem→PZ,wpAny_sequenceKey→P9,wpAny_pyIter_slot→Qa,concat_meets→Qd,codeAny_mono→Qe,Walks→Qg,wpAny_pyIter_zip→Qr,wpAny_askSetting→Qs,noFill_tuple_add→Qt,wpAny_throw→Qz,wpAny_BinOp→QA,wpAny_newFunctionEnv_cells→QU,callType_codes→QV,FuncData→Q6
open PySem.Heap renaming get?_push_of_some→J0,get?_push_size→J7,lt_size→Kc,get?_update_other→Ki,get?_update_self→Ku,SameBut→Ln,size_push→Lz,get?_none_of_le→O2,ExtBut→O3,update→Ra
open List renaming length_map→J8,map_cons→Ka,mem_cons_of_mem→Kb,set_cons_zero→Kd,set_cons_succ→Ke,mem_cons_self→Kg,length_cons→Kl,map_append→Kn,mem_of_getElem?→Kv,all_eq_true→Kw,getElem?_map→Ky,getElem?_set_self→Kz,all_cons→KG,mem_cons→KI,getElem?_set_ne→KM,size_toArray→KO,drop_eq_getElem_cons→KW,length_append→K0,range→K1,not_mem_nil→K4,map_congr_left→K5,map_map→K6,getElem?_eq_getElem→K7,mem_append_left→Li,getD_eq_getElem?_getD→Lk,length_filter_le→Lm,append_nil→Ls,mem_append_right→Ly,getElem_mem→LC,idxOf_lt_length_of_mem→LI,append_assoc→LJ,length_nil→LO,mem_map_of_mem→LU,length→LW,nodup_nil→LX,length_filterMap_le→Me,pairwise_append→Mg,length_set→Mk,foldl_cons→Ml,perm_ext_iff_of_nodup→Mw,getElem?_toArray→Mx,getElem?_append_left→MC,zip_cons_cons→MS,take_of_length_le→MT,mem_singleton→MU,nil_append→MX,take_append_drop→Na,length_singleton→Nb,nodup_append→Nd,length_range→Nf,ext_getElem?→Ng,mem_of_mem_take→Nj,length_take→Nl,extract_eq_take_drop→Nq,filterMap_cons→Nt,mem_append→Nw,getElem?_cons_succ→NC,mem_map→NH,flatMap_cons→NI,all_nil→NJ,eraseIdx_eq_take_drop_succ→NP,nodup_cons→NZ,set_set→N2,getElem?_append_right→N9,map_id→Oh,drop_length→Ox,map_nil→OF,set_comm→Pi,map_take→Pj,map_drop→Pk,take_succ_eq_append_getElem→PD,reverse_perm→PE,pairwise_map→PF,getElem?_set→PG,all_map→PH,lookup_cons→PW,any_eq_true→PX,of_mem_zip→P5,idxOf_cons→P6,length_eraseIdx_of_lt→Qo,getElem?_take_of_lt→QF,pairwise_singleton→QL,pairwise_lt_range→QP,not_of_lt_findIdx→QQ,getElem?_eraseIdx→QR,drop_of_length_le→QS,modify_zero_cons→Q2,modify_succ_cons→Q3,getElem?_zipWith→Q4,length_eraseIdx→Q9
open Bool renaming and_eq_true→J9,false_eq_true→Ko,not_true→Mu,eq_iff_iff→ME,not_eq_true'→MG,and_true→MY,true_and→Nv,false_ne_true→Ny,not_false→NL,or_eq_true→OR,not_eq_false'→Pp,and_assoc→Qq,or_false→QG,and_self→QH
open Nat renaming le_trans→Kf,le_refl→Kh,zero_le→KA,ne_of_lt→KF,lt_irrefl→K3,strongRecOn→LB,lt_succ_self→LD,zero_add→MH,ne_of_gt→MV,lt_of_lt_of_le→MW,le_succ_of_le→Nh,mod_eq_of_lt→Np,le_succ→NX,not_lt_zero→N0,succ_pos→N5,lt_trichotomy→Oj,lt_succ_of_lt→Ol,reduceAdd→Ou,reduceLT→OL,mul_succ→OM,mod_lt→ON,le_of_lt→OO,pow_le_pow_right→Pb,pow_succ→PM,lt_or_ge→PN,blt→PP,mul_assoc→QJ,add_assoc→QK,succ_mul→Q0,lt_trans→Q1
open PyProof.Rows renaming Keyed→Kj,wpS_bind→Kk,wpS_pure→Km,SortSt→K2,callWith_builtin1→LL,wpS_forRange→LM,wpS_mono→MM,wpS_modify→MN,listUpdate_at→Ni,SortKind→ND,get?_update_seq→NF,callWith_type1→NO,listItems_at→NR,wpS_get→Oy,plain_sorted→O6,entry_sorted→O7,Subscript_→O8,wpS_lift→Pq,kind_sorted→Px,isTrue_plain→Qc,args_sorted1→Qf,seqEpoch_at→QB
open Ne renaming symm→Kt
open PySem.Obj renaming mapSeq→Kx,data_mapFields→Ld,isFreed_of_fields→Mz,cls_mapFields→NN,putSet→NT,mapFields→NW,data_mapDictKeys→Pa,isFreed_of_dict→Ph
open PySem.SetTable renaming below→KJ,turns→KQ,runEnd→KY,Probe→LK,bits→LR,grown→L9,insertAt→Nx,advance→NG,toList_insertAt→N7,insertAt_perm→Oi,leap→OV,sizeAbove→O1,fresh→PV,slot→P4,probeStart→QI,layClean→QX
open PySem.PassesOwn renaming never→KL
open PySem.Heap.SameBut renaming update→KT
open List.Nodup renaming length_le_of_subset→KV
open PySem.Calls renaming spliced_cons→KZ,spliced_nil→LH,call_function_entry→No,Name_function_global→Qj,callWith_builtin→QN,evalArgs_plain→Q8
open PyProof.Rows.SortSt renaming mk'→La
open PySem.Str renaming ofString→Lb,length_append→NM
open Array renaming toList_append→Lg,length_toList→Lo,getElem?_eq_getElem→Lq,getElem?_toList→LG,toList_push→LV,toList_extract→NU,getElem_toList→NV,getElem?_setIfInBounds→NY,forIn_toList→N6,toList_reverse→OY,size_extract→Po,size_push→P2,toList_setIfInBounds→Qk,getElem?_eq_none_iff→Ql,getD→Qm,getElem?_replicate→Qy,getElem?_eq_none→QO,toList_modify→Re
open Int renaming toNat_natCast→Lj,emod_nonneg→OT,toNat_of_nonneg→Pl,eq_ofNat_of_zero_le→QT
open Option.some renaming inj→Lv,injEq→Mc
open PySem.Value renaming type→LP,none→L6,bool→L7,ref→O0,builtin→Qu,notImplemented→QW
open PySem.Builtin.Tuple renaming tupleHashOf→LZ
open Classical renaming byContradiction→L0
open PySem.Builtin.List renaming listSameRef→L3,listExtendWith→MQ
open PySem.SetTable.layClean renaming free→L8
open ForInStep renaming yield→Mf
open PySem.SeqAt renaming EqAt→Mj
open PySem.SetTable.probe renaming go→Mr
open PySem.W renaming kia_one→My,cellsFrom_some→Op,kla_fn→OI,kitOne→OJ,CodeHd→OK,kitx_list→Pf,view→Qw,kitx_tuple→QZ
open List.Perm renaming refl→MI,swap→PQ,append_left→Qp
open PySem.F renaming plainAttrs_list→MK,plain_min_loop→NA,plain_max_loop→NB,plain_extend_loop→Oa,args_tuple_add_2→Ob,plainAttrs_dict→Of,entry_tuple_add→Og,slot_tuple_add→Oq,entry_min_loop→Os,entry_max_loop→Ot,slot_zip_next→O4,args_list_append_2→Pn,entry_list_append→Pz,type_dict_setdefault→PK,slot_dict_setdefault→PL,slot_list_append→PR,type_list_append→Qh,slot_list_remove→Qi,slot_dict_keyiterator_next→Qx,slot_dict_get→QE,slot_tuple_iterator_next→QM,args_dict_setdefault_3→Q7,entry_dict_setdefault→Rc
open Break.runK renaming match_1→ML
open List.cons renaming injEq→MP,inj→P0
open PySem.Builtin.Str renaming strSliceIndices→MR
open PySem.Shared renaming TypeIs→Nr
open PySem.SetTable.below renaming go→NS
open Option renaming toList_none→N1,getD_some→PB
open PySem.NameKind renaming free→N8
open PySem.MeetsSeq renaming plain_remove_loop→OD,entry_remove_loop→OE
open List.Pairwise renaming nil→OP,map→OQ
open PySem.Builtin.SmallTypes renaming nextOf→OW
open PySem.Builtin.Builtins renaming bindParams→OX
open PySem.Walks renaming list→Pe
open PySem.IsL renaming update→Pg
open False renaming elim→Pm
open PySem.Builtin.Dict renaming showsAll→P1
open PySem.AutoSeq1 renaming wpAny_loadPart'→P7,sub_tuple_tuple→P8
open PySem.pickOrder renaming go→Qb
open Nat.succ renaming inj→Qn
open PySem.Txt renaming join→Qv
open PySem.SeqAt.EqAt renaming str_str→QC,of_refs→QD,same→QY
open Function renaming comp_def→Q5
open PyProof.Rows.F renaming entry_set_update_loop→Rb
open Option renaming some→U,none→B
open Bool renaming false→Y,true→V
namespace L2
open PySem PySem.W
def defArgs (s:Lr):OZ:=match s with
 |.FunctionDef _ a _ _ _ _ _ _ _ _=>a
 |_=>{posonlyargs:=[],args:=[],vararg:=B,kwonlyargs:=[],kw_defaults:=[],kwarg:=B,defaults:=[]}
def defBody (s:Lr):Ww Lr:=match s with
 |.FunctionDef _ _ b _ _ _ _ _ _ _=>b
 |_=>[]
def defScope (s:Lr):MJ:=match s with
 |.FunctionDef _ _ _ _ _ _ sc _ _ _=>sc
 |_=>{kind:=.function,names:=[],isGenerator:=Y,isCoroutine:=Y}
def Ew (h:LF):Frag:=(K1 h.objs.size).filterMap λa=>(h.get? a).bind λo=>if(o.cls != .none||a==mainGlobals)&&o.cls != .type "list" then U (a,o) else B
abbrev FSig:=Kr×Kr×OZ×FuncBody×MJ×Kp×Ww (Kr×Kp)×J4×Kp
def HE (fd:Q6):FSig:=(fd.name,fd.qualname,fd.params,fd.body,fd.scope,fd.globals,fd.closure,fd.defaults,fd.builtins)
def Ig (K:Frag) (x:Kr):Wq FSig:=match nsIn K mainGlobals x with
 |some (U (.ref f))=>(match K.lookup f with
  |some ⟨_,_,.func fd,_⟩=>if codeIn K fd.code x then U (HE fd) else B
  |_=>B)
 |_=>B
def B4 (x:Kr) (st:Lr):FSig:=(x,x,defArgs st,.stmts (defBody st),defScope st,mainGlobals,[],.none,builtinsNs)
def u9 (K:Frag) (x:Kr):Wq J4:=match nsIn K mainGlobals x with
 |some (U (.ref f))=>(match K.lookup f with
  |some ⟨_,_,.func fd,_⟩=>U fd.code
  |_=>B)
 |_=>B
def Ic:PC:={cls:=.none,data:=.fields #[]}
abbrev Tb:=Ww (Kp×Kr)
def YfH (tb:Tb) (defs:Ww (Kr×Lr)) (bl:Ww Kr) (cs:Ww (Kr×Kp)) (s:J5):=
 (λ(h:LF) (K:Frag)=>(defs.map (λp=>Ig K p.1),bl.map (nsIn K mainGlobals),cs.map (λp=>u9 K p.1),tb.map (λq=>h.get? q.1),(tb.zip cs).map (λq=>codeHdIn K q.2.2 q.1.1),tb.map (λq=>K.lookup q.1))) s.heap (Ew s.heap)
def YaH (tb:Tb) (defs:Ww (Kr×Lr)) (bl:Ww Kr) (cs:Ww (Kr×Kp)) (_:LY):=
 (defs.map (λp=>U (B4 p.1 p.2)),bl.map (λ_=>U (B:Wq J4)),cs.map (λp=>U (O0 p.2)),tb.map (λ_=>U Ic),(tb.zip cs).map (λ_=>V),tb.map (λ_=>(B:Wq PC)))
end L2
namespace K41
open PySem L2
def top (i:Nat):Lr:=PySem.Challenge.pw_mustrows_k41_full_step_by_step.main.body.getD i (.Pass ⟨0,0,0,0⟩)
abbrev oh:Lr:=top 1
abbrev mu:Lr:=top 2
abbrev mC:Lr:=top 4
abbrev zE:Lr:=top 3
abbrev v9:Lr:=top 6
abbrev jQ:Lr:=top 7
abbrev jN:Lr:=top 14
abbrev n8:Lr:=top 13
abbrev lH:Lr:=top 12
abbrev gh:Lr:=top 11
abbrev kR:Lr:=top 17
abbrev r7:Lr:=top 15
abbrev vK:Lr:=top 18
abbrev m7:Lr:=top 16
abbrev ic:Lr:=top 10
abbrev vU:Lr:=top 8
abbrev nX:Lr:=top 9
abbrev Aa:Lr:=top 20
abbrev k9:Lr:=top 24
abbrev cR:Lr:=top 21
abbrev lR:Lr:=top 23
abbrev mH:Lr:=top 25
abbrev gf:Lr:=top 22
abbrev jE:Lr:=top 29
abbrev Hv:Lr:=top 30
abbrev i5:Lr:=top 28
abbrev nP:Lr:=top 31
abbrev jw:Lr:=top 33
abbrev hV:Lr:=top 32
abbrev Dm:Lr:=top 27
abbrev jX:Lr:=top 35
abbrev jI:Lr:=top 36
abbrev jt:Lr:=top 37
abbrev gy:Lr:=top 38
abbrev jz:Lr:=top 39
abbrev nF:Lr:=top 40
abbrev iK:Lr:=top 41
abbrev jG:Lr:=top 42
abbrev jT:Lr:=top 43
abbrev im:Lr:=top 44
abbrev lP:Lr:=top 45
abbrev fo:Lr:=top 46
abbrev gj:Lr:=top 47
abbrev kY:Lr:=top 48
abbrev hX:Lr:=top 49
abbrev lI:Lr:=top 50
abbrev gx:Lr:=top 51
abbrev d8:Lr:=top 52
abbrev hO:Lr:=top 53
abbrev jW:Lr:=top 54
abbrev jD:Lr:=top 55
abbrev iB:Lr:=top 56
abbrev nw:Lr:=top 57
abbrev lJ:Lr:=top 58
abbrev io:Lr:=top 59
abbrev kL:Lr:=top 60
abbrev mB:Lr:=top 61
abbrev lN:Lr:=top 62
abbrev s_law:Lr:=top 63
abbrev blK:Ww Kr:=["any","bool","dict","enumerate","int","isinstance","len","list","max","min","range","set","sorted","str","tuple","zip"]
def defsK:Ww (Kr×Lr):=([("stand_of",oh),("blanks_of",mu),("exchanged",mC),("moved",zE),("filled",v9),("letters_of",jQ),("binding_of",jN),("bindings",n8),("is_linked",lH),("search_order",gh),("places_of",kR),("grouped",r7),("picked",vK),("extended",m7),("joined_from",ic),("joined",vU),("fit_with",nX),("fresh",Aa),("two_terms",k9),("deciding_letters",cR),("is_unlike",lR),("two_cells",mH),("broken_cells",gf),("urgency_of",jE),("age",Hv),("next_broken",i5),("is_clash",nP),("same_moves",jw),("fresh_moves",hV)]:Ww (Kr×Lr))++([("full",Dm),("_law_whole",jX),("_law_mixed",jI),("_law_words",jt),("_law_numbers",gy),("_law_drawn",jz),("_law_row",nF),("_law_tables",iK),("_law_stand",jG),("_law_moved",jT),("_law_blanks",im),("_law_term",lP),("_law_patterns",fo),("_law_letters",gj),("_law_rule",kY),("_law_fitted",hX),("_law_fits",lI),("_law_cell_of",gx),("_law_is_broken",d8),("_law_broken",hO),("_law_clash",jW),("_law_keeps",jD),("_law_filled",iB),("_law_due",nw),("_law_step",lJ),("_law_walked",io),("_law_word",kL),("_law_copy",mB),("_law_made",lN),("law",s_law)]:Ww (Kr×Lr))
end K41
section
open PySem
def Ep:Ww Nat:=((PySem.Challenge.pw_mustrows_k41_full_step_by_step.main.body.zipIdx.filter λp=>match p.1 with|.FunctionDef .. =>V|_=>Y).map (·.2))
def tbK:L2.Tb:=[(67,"search_order.<locals>.<lambda>")]
def csK:Ww (Kr×Kp):=[("search_order",69)]
set_option maxHeartbeats 0 in
theorem K41.hl0:PySem.W.LeftO PySem.Challenge.rw_mustrows_k41_full_step_by_step.row.prog (Qw PySem.Challenge.pw_mustrows_k41_full_step_by_step Ep) [] (λ_=>V) (L2.YfH tbK K41.defsK K41.blK csK) (L2.YaH tbK K41.defsK K41.blK csK) 2000:=λw=>by kernel_rfl
set_option maxHeartbeats 0 in
theorem K41.hl1:PySem.Challenge.rw_mustrows_k41_full_step_by_step.wellSaid=V:=by kernel_rfl
set_option maxHeartbeats 0 in
theorem K41.hl7:(PySem.W.chainsOk (Qw PySem.Challenge.pw_mustrows_k41_full_step_by_step Ep)&&PySem.W.opensWell PySem.Challenge.rw_mustrows_k41_full_step_by_step.row.prog&&(PySem.W.frees PySem.Challenge.rw_mustrows_k41_full_step_by_step.row.toRowW&&PySem.Challenge.rw_mustrows_k41_full_step_by_step.row.within.isEmpty))=V:=by kernel_rfl
end
namespace L2
open PySem PySem.Spec PyProof.Rows
abbrev Key:=Sum Int Kr
inductive D where
 |non|bl (b:Bool)|int (i:Int)|str (x:Kr)|tup (ds:Ww D)|lst (ds:Ww D)|dK (ks:Ww Key) (vs:Ww D)
 |dD (ks vs:Ww D)|ptr (a:Kp)|any
noncomputable def D.same (a b:D):Decidable (a=b):=match a,b with
 |.str _,.str _=>decidable_of_iff _ ⟨congrArg _,D.str.inj⟩
 |.int _,.int _=>decidable_of_iff _ ⟨congrArg _,D.int.inj⟩
 |.bl _,.bl _=>decidable_of_iff _ ⟨congrArg _,D.bl.inj⟩
 |.non,.non=>isTrue rfl
 |_,_=>Classical.propDecidable _
noncomputable instance:DecidableEq D:=λa b=>if h:a.ctorIdx=b.ctorIdx then D.same a b else isFalse λe=>h (congrArg _ e)
abbrev DEnv:=Ww (Wq (D×Bool))
class Md where
 P:Lw
 w:LY
 K:PySem.W.Frag
 mg:Kr->Wq J4
 base:LF
 tb:Ww (Kp×Kr)
 os:OsState
 gens:Array GenState
open Md
variable[Md]
inductive Rl where|f|p|o (i:Nat)
abbrev Mp:=Kp->Wq (Rl×PC)
def upd (M:Mp) (a:Kp) (x:Wq (Rl×PC)):Mp:=λb=>if b=a then x else M b
omit [Md] in
theorem ao {M:Mp}:upd M a x a=x:=if_pos rfl
omit [Md] in
theorem ar {M:Mp}(h:b≠a):upd M a x b=M b:=if_neg h
def Rl.ok (m:Bool):Rl->Bool|.f=>V|.p=>Y|.o _=>m
def Rd (m:Bool) (M:Mp) (a:Kp) (o:PC):Prop:=∃k,M a=U (k,o)/\k.ok m=V
def Sub (m:Bool) (M:Mp) (m':Bool) (M':Mp):Prop:=∀a o,Rd m M a o->Rd m' M' a o
def Ext (M M':Mp):Prop:=∀a,M' a=M a\/(M a=B/\∃o,M' a=U (.f,o))
def Ext.refl:Ext M M:=λ_=>.inl rfl
def Ext.trans (h:Ext M N) (g:Ext N O):Ext M O:=λa=>by
 rcases h a with e|⟨e,o,e'⟩<;>rcases g a with q|⟨q,o',q'⟩<;>grind
def Ext.sub (h:Ext M M'):Sub m M m M':=λa o ⟨k,e,hk⟩=>⟨k,by rcases h a with z|z<;>grind,hk⟩
def dn:Nat->D->Bool
 |_,.int _=>V
 |_,.str _=>V
 |n+1,.tup ds=>ds.all (dn n)
 |_,_=>Y
mutual
noncomputable def dR (w:LY):D->Int
 |.int i=>hashInt i
 |.str x=>hashStr w x
 |.tup ds=>reduceHash (LZ (vH w ds))
 |_=>0
noncomputable def vH (w:LY):Ww D->Ww Int
 |[]=>[]
 |d::ds=>dR w d::vH w ds
end
def isTD:D->Bool|.tup _=>V|_=>Y
def LstO (o:PC) (vs:Ww J4):Prop:=vs.length<=sizeLine/\∃n,o={cls:=.type "list",data:=.seq vs.toArray n}
def TupO (o:PC) (vs:Ww J4):Prop:=vs.length<=sizeLine/\o.cls=.type "tuple"/\∃n,o.data=.seq vs.toArray n
def kD:Key->D
 |.inl i=>.int i
 |.inr x=>.str x
def kOk:Bool->D->Bool
 |b,.int _=>!b
 |b,.str _=>!b
 |b,.tup ds=>b&&dn 8 (.tup ds)
 |_,_=>Y
def DcO (b:Bool) (o:PC) (ks:Ww D) (us vs:Ww J4):Prop:=ks.length<=sizeLine/\o.ExactDict/\ks.Nodup/\ks.all (kOk b)=V/\∃es ep,o.data=.dict es ep/\
 es.toList.map (·.hash)=ks.map (dR w)/\es.toList.map (·.key)=us/\es.toList.map (·.val)=vs
def Ks:Ww Key->Ww J4->Prop
 |[],vs=>vs=[]
 |.inl i::ks,vs=>∃t r,vs=.int i t::r/\Ks ks r
 |.inr x::ks,vs=>∃t r,vs=.str x t::r/\Ks ks r
mutual
noncomputable def R (m:Bool) (M:Mp):D->J4->Prop
 |.non,v=>v=.none
 |.bl b,v=>v=.bool b
 |.int i,v=>∃t,v=.int i t
 |.str x,v=>∃t,v=.str x t
 |.tup ds,v=>∃a o vs,v=.ref a/\Rd m M a o/\TupO o vs/\Rs m M ds vs
 |.lst ds,v=>∃a o vs,v=.ref a/\Rd m M a o/\LstO o vs/\Rs m M ds vs
 |.dK ks ds,v=>∃a o us vs,v=.ref a/\Rd m M a o/\DcO Y o (ks.map kD) us vs/\Ks ks us/\Rs m M ds vs
 |.dD ks ds,v=>∃a o us vs,v=.ref a/\Rd m M a o/\DcO V o ks us vs/\Rs m M ks us/\Rs m M ds vs
 |.ptr a,v=>v=.ref a
 |.any,v=>∃a,v=.ref a
noncomputable def Rs (m:Bool) (M:Mp):Ww D->Ww J4->Prop
 |[],vs=>vs=[]
 |d::ds,vs=>∃v r,vs=v::r/\R m M d v/\Rs m M ds r
end
def Cm (m:Bool) (M:Mp):D->PC->Prop
 |.lst ds,o=>∃vs,LstO o vs/\Rs m M ds vs
 |.dK ks ds,o=>∃us vs,DcO Y o (ks.map kD) us vs/\Ks ks us/\Rs m M ds vs
 |.dD ks ds,o=>∃us vs,DcO V o ks us vs/\Rs m M ks us/\Rs m M ds vs
 |_,_=>False
abbrev C (M:Mp):D->PC->Prop:=Cm Y M
mutual
theorem R.to (h:Sub m M m' M'):∀{d v},R m M d v->R m' M' d v
 |.non,v,r=>by exact r
 |.bl b,v,r=>by exact r
 |.int i,v,r=>by exact r
 |.str x,v,r=>by exact r
 |.tup ds,v,r=>by let⟨a,o,vs,e,q,t,rs⟩:=r;exact⟨a,o,vs,e,h _ _ q,t,Rs.to h rs⟩
 |.lst ds,v,r=>by let⟨a,o,vs,e,q,t,rs⟩:=r;exact⟨a,o,vs,e,h _ _ q,t,Rs.to h rs⟩
 |.dK ks ds,v,r=>by let⟨a,o,us,vs,e,q,t,rk,rs⟩:=r;exact⟨a,o,us,vs,e,h _ _ q,t,rk,Rs.to h rs⟩
 |.dD ks ds,v,r=>by let⟨a,o,us,vs,e,q,t,rk,rs⟩:=r;exact⟨a,o,us,vs,e,h _ _ q,t,Rs.to h rk,Rs.to h rs⟩
 |.ptr a,v,r=>by exact r
 |.any,v,r=>by exact r
theorem Rs.to (h:Sub m M m' M'):∀{ds vs},Rs m M ds vs->Rs m' M' ds vs
 |[],vs,r=>r
 |d::ds,vs,r=>by let⟨v,r,e,h1,h2⟩:=r;exact⟨v,r,e,h1.to h,Rs.to h h2⟩
end
def Cm.to (c:Cm m M d o) (h:Sub m M m' M'):Cm m' M' d o:=by
 cases d with
 |lst ds=>let⟨vs,h1,h2⟩:=c;exact⟨vs,h1,h2.to h⟩
 |dK ks ds=>let⟨us,vs,h1,h2,h3⟩:=c;exact⟨us,vs,h1,h2,h3.to h⟩
 |dD ks ds=>let⟨us,vs,h1,h2,h3⟩:=c;exact⟨us,vs,h1,h2.to h,h3.to h⟩
 |_=>exact c
def Cm.rep (c:Cm m M d o) (h:Sub m M m' M') (q:Rd m' M' a o):R m' M' d (.ref a):=by
 cases d with
 |lst ds=>let⟨vs,h1,h2⟩:=c;exact⟨a,o,vs,rfl,q,h1,h2.to h⟩
 |dK ks ds=>let⟨us,vs,h1,h2,h3⟩:=c;exact⟨a,o,us,vs,rfl,q,h1,h2,h3.to h⟩
 |dD ks ds=>let⟨us,vs,h1,h2,h3⟩:=c;exact⟨a,o,us,vs,rfl,q,h1,h2.to h,h3.to h⟩
 |_=>exact Pm c
def Sub.weak:Sub Y M m M:=λa o ⟨k,e,h⟩=>⟨k,e,by cases k<;>simp_all [Rl.ok]⟩
def R.weak (r:R Y M d v):R m M d v:=r.to Sub.weak
def Rs.weak (r:Rs Y M d v):Rs m M d v:=r.to Sub.weak
def R.up (r:R m M d v) (h:Ext M M'):R m M' d v:=r.to h.sub
def Rs.up (r:Rs m M d v) (h:Ext M M'):Rs m M' d v:=r.to h.sub
theorem Rs.length:∀{ds vs},Rs m M ds vs->ds.length=vs.length
 |[],_,h=>by subst h;rfl
 |d::ds,_,⟨v,r,e,_,h⟩=>by subst e;simp[Rs.length h]
theorem Rs.get:∀{ds vs} {i:Nat}{d},Rs m M ds vs->ds[i]?=U d->∃v,vs[i]?=U v/\R m M d v
 |[],_,_,_,_,e=>by simp at e
 |x::ds,_,0,d,⟨v,r,rfl,h,_⟩,e=>by simp_all
 |x::ds,_,i+1,d,⟨v,r,rfl,_,h⟩,e=>by simpa using Rs.get (i:=i) h (by trivial)
theorem Rs.append:∀{ds vs es us},Rs m M ds vs->Rs m M es us->Rs m M (ds++es) (vs++us)
 |[],_,_,_,rfl,t=>t
 |d::ds,_,_,_,⟨v,r,rfl,h,h2⟩,t=>⟨v,_,rfl,h,Rs.append h2 t⟩
def Rs.one (h:R m M d v):Rs m M [d] [v]:=⟨v,[],rfl,h,rfl⟩
theorem Rs.drop:∀{ds vs} (n:Nat),Rs m M ds vs->Rs m M (ds.drop n) (vs.drop n)
 |_,_,0,h=>h
 |[],_,n+1,h=>by subst h;rfl
 |d::ds,_,n+1,⟨v,r,rfl,_,h⟩=>Rs.drop n h
theorem Rs.take:∀{ds vs} (n:Nat),Rs m M ds vs->Rs m M (ds.take n) (vs.take n)
 |_,_,0,_=>rfl
 |[],_,n+1,h=>by subst h;rfl
 |d::ds,_,n+1,⟨v,r,rfl,q,h⟩=>⟨v,_,rfl,q,Rs.take n h⟩
structure Cx where
 A:KH
 N:Ww Kr
 env:Env
 fn:Bool
def Vis (sc:MJ) (x:Kr):Prop:=sc.names.lookup x=U .local\/sc.names.lookup x=U .cell\/sc.names.lookup x=U .free
def Loc (sc:MJ) (x:Kr):Prop:=sc.names.lookup x=U .local\/sc.names.lookup x=U .cell
def Dj (env:Env) (h:LF) (m:Kr->Wq J4) (x:Kr) (u:J4):Prop:=
 (env.kindOf x=U .local/\m x=U u)\/((env.kindOf x=U .cell\/env.kindOf x=U .free)/\∃c,env.cells.lookup x=U c/\h.IsCell c (U u))
structure Mod:Prop where
 kin:K.In base
 glob:base.Ns mainGlobals mg
 blt:∃mb,base.Ns builtinsNs mb/\∀x:Kr,x≠"__name__"->mb x=bootBuiltins x
 nolimit:base.NoLimit
 bmain:∃bm ob,mg "__builtins__"=U (.ref bm)/\bm≠builtinsNs/\base.get? bm=U ob/\ob.cls=.type "module"/\ob.dict=U builtinsNs/\ob.data=.plain
structure Room (k:Nat) (A:KH):Prop where
 hd:A.handled=B
 dp:A.depth+3*k+5<recursionLimit
 un:A.units+16*k+200<cLine
structure Cx.Ok (X:Cx):Prop where
 mod:Mod
 kind:X.env.scope.kind=.function
 glob:X.env.globals=mainGlobals
 blt:X.env.builtins=builtinsNs
 inj:∀x y c,X.env.cells.lookup x=U c->X.env.cells.lookup y=U c->x=y
 has:∀x,(X.env.kindOf x=U .cell\/X.env.kindOf x=U .free)->∃c,X.env.cells.lookup x=U c
 room:Room 0 X.A
def TabOk (M:Mp) (h:LF):Prop:=∀q∈tb,M q.1=B/\∃ps,h.get? q.1=U {cls:=.none,data:=.fields ps}/\TriplesOk ps.toList/\
 ∀pos cv,codeAmong pos ps.toList=U cv->∃c oc vs t,cv=.ref c/\M c=U (.f,oc)/\oc.data=.fields vs/\vs[1]?=U (.str q.2 t)
structure Free (X:Cx) (M:Mp) (a:Kp):Prop where
 m:M a=B
 l:a≠X.env.locals
 c:∀x,X.env.cells.lookup x≠U a
 t:∀q∈tb,a≠q.1
 s:a≠sysModules
def sN:D->Bool|.lst _=>V|_=>Y
def Ti (M:Mp) (n i:Nat):Ww D->Ww J4->Prop
 |[],vs=>vs=[]
 |d::ds,vs=>∃v r,vs=v::r/\((sN d=Y/\R Y M d v)\/(sN d=V/\∃a o j,v=.ref a/\j%n=i/\M a=U (.o j,o)/\C M d o))/\Ti M n i ds r
def Tw (M:Mp) (n i:Nat) (d:D) (u:J4):Prop:=∃ds t o vs,d=.tup ds/\u=.ref t/\M t=U (.f,o)/\TupO o vs/\Ti M n i ds vs
def Va (M:Mp) (n i:Nat) (d:D) (u:J4):Bool->Prop
 |false=>R Y M d u
 |true=>(∃a o,u=.ref a/\M a=U (.o i,o)/\C M d o)\/Tw M n i d u
def Ow (o:PC):Prop:=o.cls≠.type "tuple"/\∀vs,o.data≠.fields vs
structure Inv (X:Cx) (M:Mp) (δ:DEnv) (s:J5):Prop where
 ok:X.Ok
 og:s.os=Md.os/\s.gens=gens
 heap:∀a k o,M a=U (k,o)->s.heap.get? a=U o
 base:∀a o,base.get? a=U o->M a=U (.p,o)
 loc:∃m,s.heap.Ns X.env.locals m/\∀i x d b,X.N[i]?=U x->δ[i]?=U (U (d,b))->Vis X.env.scope x->∃u,Dj X.env s.heap m x u/\Va M X.N.length i d u b
 free:M X.env.locals=B
 cell:∀x c,X.env.cells.lookup x=U c->(∃v,s.heap.IsCell c v)/\(M c=B\/(X.fn=Y/\∃o,M c=U (.p,o)))
 tabs:TabOk M s.heap
 own:∀a i o,M a=U (.o i,o)->Ow o
 uni:∀a b i o o',M a=U (.o i,o)->M b=U (.o i,o')->a=b
 len:δ.length=X.N.length
 sys:∀k o,M sysModules=U (k,o)->k=.p
abbrev WP (X:Cx) (t:PZ α) (Q:α->J5->Prop) (s:J5):Prop:=wpAny (model P w) X.A t Q (λ_ _=>False) s
end L2
namespace L2
open PySem PySem.Spec PyProof.Rows Md
variable[Md]
def rdf:Rd Y M a o↔M a=U (.f,o):=⟨λ⟨k,e,h⟩=>by cases k<;>simp_all [Rl.ok],λe=>⟨.f,e,rfl⟩⟩
theorem Ti.to {M M':Mp}(hs:Sub Y M Y M') (ho:∀a j o,j%n=i->M a=U (.o j,o)->M' a=U (.o j,o)):∀{ds vs},Ti M n i ds vs->Ti M' n i ds vs
 |[],_,h=>h
 |d::ds,_,⟨v,r,e,h,t⟩=>⟨v,r,e,h.imp (λz=>⟨z.1,z.2.to hs⟩) λ⟨z,a,o,j,e,k,q,c⟩=>⟨z,a,o,j,e,k,ho _ _ _ k q,c.to hs⟩,Ti.to hs ho t⟩
def Va.to {M M':Mp}(h:Va M n i d u b) (hs:Sub Y M Y M') (ho:∀a j o,j=i\/j%n=i->M a=U (.o j,o)->M' a=U (.o j,o)):Va M' n i d u b:=by
 cases b with
 |false=>exact R.to hs h
 |true=>
  rcases h with⟨a,o,e,q,c⟩|⟨ds,t,o,vs,h1,h2,h3,h4,h5⟩
  ·exact .inl ⟨a,o,e,ho _ _ _ (.inl rfl) q,c.to hs⟩
  ·exact .inr ⟨ds,t,o,vs,h1,h2,rdf.mp (hs _ _ (rdf.mpr h3)),h4,h5.to hs λa j o k=>ho a j o (.inr k)⟩
def Va.own (h:Va M n i d u V) (hd:∀ds,d≠.tup ds):∃a o,u=.ref a/\M a=U (.o i,o)/\C M d o:=h.elim id λ⟨ds,_,_,_,e,_⟩=>absurd e (hd ds)
def TabOk.to {M M':Mp}(h:TabOk M hp) (hs:Sub Y M Y M') (hn:∀q∈tb,M' q.1=B) (k:∀q∈tb,∀o,hp.get? q.1=U o->hp'.get? q.1=U o):TabOk M' hp':=λq hq=>by
 let⟨_,ps,e,t,r⟩:=h q hq;refine⟨hn q hq,ps,k q hq _ e,t,λpos cv z=>?_⟩
 let⟨c,oc,vs,t,e1,e2,e3⟩:=r pos cv z;exact⟨c,oc,vs,t,e1,rdf.mp (hs _ _ (rdf.mpr e2)),e3⟩
def pU {env:Env}{h h':LF}(l:Dj env h m x u) (k:∀c o,env.cells.lookup x=U c->h.get? c=U o->h'.get? c=U o):Dj env h' m x u:=by
 rcases l with l|⟨q,c,e,o,h1,h2⟩
 ·exact .inl l
 ·exact .inr ⟨q,c,e,o,k c o e h1,h2⟩
section
variable{X:Cx}{M M':Mp}{δ:DEnv}{s s':J5}
def Inv.wr (I:Inv X M δ s) (fp:Ww Kp) (hf:∀b∈fp,Free X M b) (k:∀b o,b∉fp->s.heap.get? b=U o->s'.heap.get? b=U o) (hg:s'.os=s.os/\s'.gens=s.gens:=by trivial):Inv X M δ s':=by
 let hc:∀x c o,X.env.cells.lookup x=U c->s.heap.get? c=U o->s'.heap.get? c=U o:=λx c o e=>k c o λz=>(hf c z).c x e
 refine⟨I.ok,⟨hg.1.trans I.og.1,hg.2.trans I.og.2⟩,λa r o e=>k a o (λz=>by have:=(hf a z).m;simp_all) (I.heap a r o e),I.base,?_,I.free,λx c e=>?_,I.tabs.to (λ_ _ h=>h) (λq h=>(I.tabs q h).1) λq hq o=>k _ o λz=>(hf _ z).t q hq rfl,I.own,I.uni,I.len,I.sys⟩
 ·let⟨m,⟨o,es,ep,h1,h2⟩,hl⟩:=I.loc
  refine⟨m,⟨o,es,ep,k _ o (λz=>(hf _ z).l rfl) h1,h2⟩,λi x d b e1 e2 e3=>?_⟩
  let⟨u,l,v⟩:=hl i x d b e1 e2 e3;exact⟨u,pU l λc o=>hc x c o,v⟩
 ·let⟨⟨v,o,h1,h2⟩,h3⟩:=I.cell x c e
  exact⟨⟨v,o,hc x c o e h1,h2⟩,h3⟩
def Inv.kp (I:Inv X M δ s) (k:∀b o,s.heap.get? b=U o->s'.heap.get? b=U o) (hg:s'.os=s.os/\s'.gens=s.gens:=by trivial):Inv X M δ s':=I.wr [] (λ_ h=>nomatch h) (λb o _=>k b o) hg
def Inv.tok (I:Inv X M δ s):Inv X M δ {s with toks:=t}:=I.kp λ_ _ h=>h
def Inv.push (I:Inv X M δ s):Inv X M δ {s with heap:=s.heap.push o,toks:=t}:=I.kp λ_ _ h=>J0 _ h
def Inv.re (I:Inv X M δ s) (hs:Sub Y M Y M') (ho:∀i a o,M a=U (.o i,o)->M' a=U (.o i,o)) (hp:∀a o,M a=U (.p,o)->(Md.base.get? a=U o\/∃x,X.env.cells.lookup x=U a)->M' a=U (.p,o))
  (hn:∀a k o,M' a=U (k,o)->M a=U (k,o)\/(s.heap.get? a=U o/\Free X M a/\∀i,k≠.o i)):Inv X M' δ s:=by
 let ow:∀{a i o},M' a=U (.o i,o)->M a=U (.o i,o):=λ{a i o} e=>(hn a _ o e).elim id λz=>absurd rfl (z.2.2 i)
 let nn:∀{a},M a=B->¬Free X M a->M' a=B:=λ{a} e hf=>by
  cases q:M' a with
  |none=>rfl
  |some p=>rcases hn a p.1 p.2 q with z|z;simp_all;exact absurd z.2.1 hf
 refine⟨I.ok,I.og,λa k o e=>?_,λa o e=>hp a o (I.base a o e) (.inl e),?_,nn I.free λz=>z.l rfl,λx c e=>⟨(I.cell x c e).1,(I.cell x c e).2.imp (λf=>nn f λz=>z.c x e) λ⟨f,o,q⟩=>⟨f,o,hp c o q (.inr ⟨x,e⟩)⟩⟩,I.tabs.to hs (λq h=>nn (I.tabs q h).1 λz=>z.t q h rfl) λ_ _ _ h=>h,λa i o e=>I.own a i o (ow e),λa b i o o' e e'=>I.uni a b i o o' (ow e) (ow e'),I.len,λk o e=>(hn _ k o e).elim (I.sys k o) λz=>absurd rfl z.2.1.s⟩
 ·rcases hn a k o e with z|z
  ·exact I.heap a k o z
  ·exact z.1
 ·let⟨m,h1,hl⟩:=I.loc
  refine⟨m,h1,λi x d b e1 e2 e3=>?_⟩
  let⟨u,l,v⟩:=hl i x d b e1 e2 e3;exact⟨u,l,v.to hs λa j o _=>ho j a o⟩
def dT (h:M a=B):Sub m M m (upd M a x):=λb o ⟨k,e,z⟩=>⟨k,by grind [ar],z⟩
def cb (h:M a=B):Ext M (upd M a (U (.f,o))):=λb=>by
 by_cases q:b=a
 ·subst q;exact .inr ⟨h,o,ao⟩
 ·exact .inl (ar q)
def Inv.put (I:Inv X M δ s) (hf:Free X M a) (e:s.heap.get? a=U o) (hk:∀i,k≠.o i:=by nofun):Inv X (upd M a (U (k,o))) δ s:=by
 let ne:∀{b x},M b=U x->b≠a:=λh q=>by simp_all [hf.m]
 refine I.re (dT hf.m) (λi b o h=>by rw[ar (ne h)];exact h) (λb o h _=>by rw[ar (ne h)];exact h) λb k' o' h=>?_
 by_cases q:b=a
 ·simp_all [ao]
 ·rw[ar q]at h;exact .inl h
def Inv.fresh (I:Inv X M δ s) (h:s.heap.objs.size<=a):Free X M a:=by
 let no:∀{b o},s.heap.get? b=U o->a≠b:=λe q=>by subst q;exact absurd (Kc e) (by exact Nat.not_lt.mpr h)
 refine⟨?_,?_,λx e=>?_,λq hq=>?_,λz=>?_⟩
 ·cases q:M a with
  |none=>rfl
  |some p=>exact absurd rfl (no (I.heap a p.1 p.2 q))
 ·let⟨m,⟨o,es,ep,h1,h2⟩,_⟩:=I.loc
  exact no h1
 ·let⟨⟨v,o,h1,h2⟩,_⟩:=I.cell x a e
  exact no h1 rfl
 ·let⟨_,ps,e,_⟩:=I.tabs q hq
  exact no e
 ·let⟨o,es,ep,h1,_⟩:=I.ok.mod.glob
  have:=Kc (I.heap _ _ _ (I.base _ _ h1));rw[z]at h;exact absurd (MW this h) (by decide)
def Inv.new (I:Inv X M δ s) (hf:o.isFreed=Y:=by rfl):Inv X (upd M s.heap.objs.size (U (.f,o))) δ {s with heap:=s.heap.push o,toks:=t}:=
 I.push.put (I.fresh (Kh _)) (J7 _ hf)
def Inv.kIn (I:Inv X M δ s):K.In s.heap:=I.ok.mod.kin.keeps λb o e=>I.heap _ _ _ (I.base b o e)
def Inv.bk (I:Inv X M δ s):∀b o,Md.base.get? b=U o->s.heap.get? b=U o:=λb o e=>I.heap _ _ _ (I.base b o e)
def AW {N:Ww Kr}(hN:N.Nodup) {i j:Nat}(a:N[i]?=U x) (b:N[j]?=U x):i=j:=by
 let⟨h1,e1⟩:=List.getElem?_eq_some_iff.mp a
 let⟨h2,e2⟩:=List.getElem?_eq_some_iff.mp b
 exact(List.getElem_inj hN).mp (e1.trans e2.symm)
structure Lc (X:Cx) (i:Nat) (x:Kr):Prop where
 n:X.N[i]?=U x
 nd:X.N.Nodup
 l:X.env.scope.names.lookup x=U .local\/(X.env.scope.names.lookup x=U .cell/\X.fn=V)
def Inv.cne (I:Inv X M δ s) (e:X.env.cells.lookup x=U c):c≠X.env.locals:=λz=>by
 let⟨⟨v,o,ho,hd⟩,_⟩:=I.cell x c e;let⟨m,⟨o',es,ep,ho',hd',_⟩,_⟩:=I.loc
 simp_all
def Inv.store {Q:Unit->J5->Prop}(I:Inv X M δ s) (hx:Lc X i x) (r:Va M X.N.length i d u b) (h:∀s' c,Inv X M (δ.set i (U (d,b))) s'->Ln c s.heap s'.heap->(c=X.env.locals\/X.env.cells.lookup x=U c)->Q () s'):WP X (storeName X.env x u) Q s:=by
 let⟨m,hn,hl⟩:=id I.loc;let hi:i<δ.length:=by rw[I.len];exact(List.getElem?_eq_some_iff.mp hx.n).1
 let go:∀{h':LF}{t:Nat}{m':Kr->Wq J4}{c},h'.Ns X.env.locals m'->Ln c s.heap h'->(c=X.env.locals\/(X.fn=V/\X.env.cells.lookup x=U c/\h'.IsCell c (U u)))->Dj X.env h' m' x u->(∀y v,y≠x->Dj X.env s.heap m y v->Dj X.env h' m' y v)->Q () {s with heap:=h',toks:=t}:=by
  intro h' t m' c hn' hs hc lx ly;let mc:M c=B:=by
   rcases hc with rfl|⟨f,e,_⟩
   ·exact I.free
   ·exact(I.cell x c e).2.elim id λz=>by simp_all
  let k:∀b o,b≠c->s.heap.get? b=U o->h'.get? b=U o:=λb o q e=>(hs.2 b q).trans e
  let ck:∀y d,X.env.cells.lookup y=U d->d≠c->∀v,s.heap.IsCell d v->h'.IsCell d v:=λy d e q v ⟨o,h1,h2⟩=>⟨o,k d o q h1,h2⟩
  refine h _ c ⟨I.ok,I.og,λa r o e=>k a o (λz=>by lia) (I.heap a r o e),I.base,⟨m',hn',λj y e b' e1 e2 e3=>?_⟩,I.free,λy d e=>⟨?_,(I.cell y d e).2⟩,I.tabs.to (λ_ _ h=>h) (λq h=>(I.tabs q h).1) λq hq o=>k _ o ?_,I.own,I.uni,by simpa using I.len,I.sys⟩ hs (hc.imp id λz=>z.2.1)
  ·by_cases hj:j=i
   ·subst hj
    rw[hx.n]at e1;cases e1;rw[Kz hi]at e2;cases e2
    exact⟨u,lx,r⟩
   ·rw[KM (Kt hj)]at e2
    let⟨v,l,q⟩:=hl j y e b' e1 e2 e3;exact⟨v,ly y v (λz=>hj (AW hx.nd e1 (z▸hx.n))) l,q⟩
  ·by_cases q:d=c
   ·subst q
    rcases hc with rfl|⟨_,_,z⟩
    ·exact absurd rfl (I.cne e)
    ·exact⟨_,z⟩
   ·let⟨⟨v,z⟩,_⟩:=I.cell y d e
    exact⟨v,ck y d e q v z⟩
  ·rintro rfl
   let⟨_,ps,e,_⟩:=I.tabs q hq
   rcases hc with z|⟨_,e',o,z⟩
   ·let⟨o,es,ep,h1,h2,_⟩:=hn;lia
   ·let⟨⟨v,o,h1,h2⟩,_⟩:=I.cell x _ e';lia
 rcases hx.l with hk|⟨hk,hf⟩
 ·refine wpAny_storeName_local hk hn (λh' hn' hs=>go hn' hs (.inl rfl) (.inl ⟨hk,by simp⟩) λy v hy l=>?_) (by rw[I.ok.kind];rfl)
  rcases l with l|⟨q,c,e,z⟩
  ·exact .inl ⟨l.1,by simp[hy,l.2]⟩
  ·exact .inr ⟨q,c,e,z.sameBut hs (I.cne e)⟩
 ·let⟨c,hc⟩:=I.ok.has x (.inl hk)
  let⟨⟨v₀,z⟩,_⟩:=I.cell x c hc;refine wpAny_storeName_cell I.ok.kind hk hc z λh' hc' hs=>go (t:=s.toks) (hn.sameBut hs (Kt (I.cne hc))) hs (.inr ⟨hf,hc,hc'⟩) (.inr ⟨.inl hk,c,hc,hc'⟩) λy v hy l=>?_
  rcases l with l|⟨q,d,e,z'⟩
  ·exact .inl l
  ·exact .inr ⟨q,d,e,z'.sameBut hs λq=>hy (I.ok.inj _ _ _ e (q▸hc))⟩
def Inv.chg (I:Inv X M δ s) (e:δ[i]?=U (U (d,V))) (hN:X.N[i]?=U x) (hv:Vis X.env.scope x) (nd:X.N.Nodup) (q:M a=U (.o i,o)) (k:∀b ob,b≠a->s.heap.get? b=U ob->s'.heap.get? b=U ob) (h1:s'.heap.get? a=U o') (h2:Ow o') (h3:C M d' o') (hd:∀ds,d≠.tup ds:=by nofun) (hg:s'.os=s.os/\s'.gens=s.gens:=by trivial):
  Inv X (upd M a (U (.o i,o'))) (δ.set i (U (d',V))) s'/\Sub Y M Y (upd M a (U (.o i,o')))/\∀b ob,M b=U (.p,ob)↔upd M a (U (.o i,o')) b=U (.p,ob):=by
 let⟨m,hn,hl⟩:=id I.loc;let⟨u,l,va⟩:=hl i x d V hN e hv;let⟨a',o₁,rfl,q',c⟩:=va.own hd;let hiN:i<X.N.length:=(List.getElem?_eq_some_iff.mp hN).1
 obtain rfl:=I.uni _ _ _ _ _ q q';let hi:i<δ.length:=(List.getElem?_eq_some_iff.mp e).1
 let hs:Sub Y M Y (upd M a (U (.o i,o'))):=λb ob r=>by
  rw[rdf]at r⊢;rw[ar (λz=>by lia)];exact r
 let kc:∀y c,X.env.cells.lookup y=U c->c≠a:=λy c e z=>by
  rcases(I.cell y c e).2 with z|⟨_,_,z⟩<;>simp_all
 let ne:∀{b},M b=B->upd M a (U (.o i,o')) b=B:=λ{b} h=>by
  rw[ar (λz=>by lia)];exact h
 let kp:∀b ob,M b=U (.p,ob)↔upd M a (U (.o i,o')) b=U (.p,ob):=λb ob=>by
  grind [ao,ar]
 let kl:∀{y v},Dj X.env s.heap m y v->Dj X.env s'.heap m y v:=λl=>pU l λc o e=>k c o (kc _ c e)
 let ow:∀{b j ob},upd M a (U (.o i,o')) b=U (.o j,ob)->∃ob',M b=U (.o j,ob'):=λ{b j ob} z=>by
  grind [ao,ar]
 refine⟨⟨I.ok,⟨hg.1.trans I.og.1,hg.2.trans I.og.2⟩,λb r ob z=>?_,λb ob z=>(kp b ob).mp (I.base b ob z),⟨m,?_,λj y e b' e1 e2 e3=>?_⟩,ne I.free,λy c z=>⟨?_,(I.cell y c z).2.imp ne λ⟨f,o,q⟩=>⟨f,o,(kp c o).mp q⟩⟩,I.tabs.to hs (λq h=>ne (I.tabs q h).1) λr hr o=>k _ o λz=>?_,λb j ob z=>?_,λb c j ob oc z z'=>?_,by simpa using I.len,λr ob z=>?_⟩,hs,kp⟩
 ·by_cases z2:b=a
  ·simp_all [ao]
  ·rw[ar z2]at z;exact k b ob z2 (I.heap b r ob z)
 ·let⟨oL,es,ep,z1,z2⟩:=hn
  exact⟨oL,es,ep,k _ _ (λz=>by have:=I.free;lia) z1,z2⟩
 ·by_cases hj:j=i
  ·subst hj
   rw[hN]at e1;cases e1;rw[Kz hi]at e2;cases e2
   exact⟨_,kl l,.inl ⟨a,o',rfl,ao,h3.to hs⟩⟩
  ·rw[KM (Kt hj)]at e2
   let⟨v,l,r⟩:=hl j y e b' e1 e2 e3;exact⟨v,kl l,r.to hs λb k ob hk z=>by rw[ar (λz2=>by subst z2;rw[q]at z;cases z;exact hk.elim (λw=>hj w.symm) λw=>hj (by rw[Np hiN]at w;exact w.symm))];exact z⟩
 ·let⟨⟨v,oc,z1,z2⟩,_⟩:=I.cell y c z
  exact⟨v,oc,k c oc (kc y c z) z1,z2⟩
 ·have:=(I.tabs r hr).1;simp_all
 ·by_cases z2:b=a
  ·simp_all [ao]
  ·rw[ar z2]at z;exact I.own b j ob z
 ·let⟨_,w1⟩:=ow z;let⟨_,w2⟩:=ow z';exact I.uni _ _ _ _ _ w1 w2
 ·rw[ar (λz2=>by rw[<-z2]at q;exact nomatch I.sys _ _ q)]at z;exact I.sys _ _ z
def dis (i:Nat) (M:Mp):Mp:=λa=>match M a with|some (.o j,o)=>if j=i then B else U (.o j,o)|x=>x
def wa (h:M a=U (k,o)) (hk:k≠.o i):dis i M a=U (k,o):=by unfold dis;rw[h];cases k<;>simp_all
theorem vc (h:dis i M a=U (k,o)):M a=U (k,o)/\k≠.o i:=by
 unfold dis at h;split at h
 ·lia
 ·simp_all
def Cr (h:M a=B):dis i M a=B:=by unfold dis;rw[h]
def IA:Sub Y M Y (dis i M):=λ_ _ q=>rdf.mpr (wa (rdf.mp q) λz=>nomatch z)
def Inv.setOwn (I:Inv X M δ s) (f:Free X M a) (e:s.heap.get? a=U o) (c:C M d o) (hx:Lc X i x) {Q:Unit->J5->Prop}
  (h:∀s' M' c,Inv X M' (δ.set i (U (d,V))) s'->Sub Y M Y M'->(∀b ob,M b=U (.p,ob)↔M' b=U (.p,ob))->Ln c s.heap s'.heap->(c=X.env.locals\/X.env.cells.lookup x=U c)->(∀b,M b=B->b≠a->M' b=B)->Q () s'):WP X (storeName X.env x (.ref a)) Q s:=by
 let ow:Ow o:=by
  cases d with
  |lst ds=>let⟨vs,⟨_,n,rfl⟩,_⟩:=c;exact⟨by simp,λ_ z=>nomatch z⟩
  |dK ks ds=>let⟨us,vs,⟨_,h1,_,_,es,ep,h2,_⟩,_⟩:=c;exact⟨by rw[h1.1];simp,λ_ z=>by lia⟩
  |dD ks ds=>let⟨us,vs,⟨_,h1,_,_,es,ep,h2,_⟩,_⟩:=c;exact⟨by rw[h1.1];simp,λ_ z=>by lia⟩
  |_=>exact Pm c
 let hs:Sub Y M Y (upd (dis i M) a (U (.o i,o))):=λb ob q=>by
  rw[rdf]at q⊢;rw[ar (λz=>by simp_all [f.m])];exact wa q λz=>nomatch z
 let hp:∀b ob,M b=U (.p,ob)↔upd (dis i M) a (U (.o i,o)) b=U (.p,ob):=λb ob=>by
  by_cases z:b=a
  ·simp_all [ao,f.m]
  ·rw[ar z];exact⟨λq=>wa q (λz=>nomatch z),λq=>(vc q).1⟩
 let nn:∀b,M b=B->b≠a->upd (dis i M) a (U (.o i,o)) b=B:=λb q z=>by rw[ar z];exact Cr q
 let ow':∀{b j ob},upd (dis i M) a (U (.o i,o)) b=U (.o j,ob)->(b=a/\j=i/\ob=o)\/(j≠i/\M b=U (.o j,ob)):=λ{b j ob} z=>by
  grind [ao,ar,vc]
 let J:Inv X (upd (dis i M) a (U (.o i,o))) (δ.set i B) s:=by
  refine⟨I.ok,I.og,λb r ob z=>?_,λb ob z=>(hp b ob).mp (I.base b ob z),?_,nn _ I.free (Kt f.l),λy c z=>⟨(I.cell y c z).1,(I.cell y c z).2.imp (λq=>nn _ q λw=>f.c y (w▸z)) λ⟨g,o,q⟩=>⟨g,o,(hp c o).mp q⟩⟩,I.tabs.to hs (λq h=>nn _ (I.tabs q h).1 (Kt (f.t q h))) λ_ _ _ h=>h,λb j ob z=>?_,λb c j ob oc z z'=>?_,by simpa using I.len,λr ob z=>by rw[ar (Kt f.s)]at z;exact I.sys _ _ (vc z).1⟩
  ·by_cases z2:b=a
   ·simp_all [ao]
   ·rw[ar z2]at z;exact I.heap b r ob (vc z).1
  ·let⟨m,hn,hl⟩:=id I.loc
   refine⟨m,hn,λj y e b' e1 e2 e3=>?_⟩
   let hj:j≠i:=λz=>by subst z;rw[PG]at e2;split at e2<;>simp_all
   rw[KM (Kt hj)]at e2
   let⟨v,l,r⟩:=hl j y e b' e1 e2 e3;exact⟨v,l,r.to hs λb k ob hk z=>by rw[ar (λz2=>by simp_all [f.m])];exact wa z λw=>by injection w with w;subst w;exact hk.elim (λw=>hj w.symm) λw=>hj (by rw[Np (List.getElem?_eq_some_iff.mp hx.n).1]at w;exact w.symm)⟩
  ·rcases ow' z with⟨_,_,rfl⟩|⟨_,z⟩
   ·exact ow
   ·exact I.own _ _ _ z
  ·rcases ow' z with⟨rfl,rfl,_⟩|⟨h1,z⟩<;>rcases ow' z' with⟨rfl,h2,_⟩|⟨h3,z'⟩
   ·rfl
   ·exact absurd rfl h3
   ·exact absurd h2 h1
   ·exact I.uni _ _ _ _ _ z z'
 refine J.store hx (d:=d) (b:=V) (.inl ⟨a,o,rfl,ao,c.to hs⟩) λs' c I' h1 h2=>h s' _ c ?_ hs hp h1 h2 nn
 simp_all
def Inv.frz (I:Inv X M δ s) (e:δ[i]?=U (U (d,V))) (hN:X.N[i]?=U x) (hv:Vis X.env.scope x) (nd:X.N.Nodup) (hd:∀ds,d≠.tup ds):∃M',Sub Y M Y M'/\(∀a o,M a=U (.p,o)↔M' a=U (.p,o))/\(∀a,M a=B↔M' a=B)/\Inv X M' (δ.set i (U (d,Y))) s:=by
 let⟨m,hn,hl⟩:=id I.loc;let⟨u,l,va⟩:=hl i x d V hN e hv;let⟨a,o,rfl,q,c⟩:=va.own hd;let hiN:i<X.N.length:=(List.getElem?_eq_some_iff.mp hN).1
 let hi:i<δ.length:=(List.getElem?_eq_some_iff.mp e).1
 let hs:Sub Y M Y (upd M a (U (.f,o))):=λb ob r=>by
  rw[rdf]at r⊢;rw[ar (λz=>by lia)];exact r
 let hp:∀b ob,M b=U (.p,ob)↔upd M a (U (.f,o)) b=U (.p,ob):=λb ob=>by
  by_cases z:b=a
  ·simp_all [ao]
  ·rw[ar z]
 let hn0:∀b,M b=B↔upd M a (U (.f,o)) b=B:=λb=>by
  by_cases z:b=a
  ·simp_all [ao]
  ·rw[ar z]
 let ow:∀{b j ob},upd M a (U (.f,o)) b=U (.o j,ob)->M b=U (.o j,ob):=λ{b j ob} z=>by
  grind [ao,ar]
 refine⟨_,hs,hp,hn0,I.ok,I.og,λb r ob z=>?_,λb ob z=>(hp b ob).mp (I.base b ob z),⟨m,hn,λj y e b' e1 e2 e3=>?_⟩,(hn0 _).mp I.free,λy c z=>⟨(I.cell y c z).1,(I.cell y c z).2.imp (hn0 c).mp λ⟨f,o,q⟩=>⟨f,o,(hp c o).mp q⟩⟩,I.tabs.to hs (λq h=>(hn0 _).mp (I.tabs q h).1) λ_ _ _ h=>h,λb j ob z=>I.own b j ob (ow z),λb c j ob oc z z'=>I.uni b c j ob oc (ow z) (ow z'),by simpa using I.len,λr ob z=>by rw[ar (λz2=>by rw[<-z2]at q;exact nomatch I.sys _ _ q)]at z;exact I.sys _ _ z⟩
 ·by_cases z2:b=a
  ·subst z2;rw[ao]at z;cases z;exact I.heap _ _ _ q
  ·rw[ar z2]at z;exact I.heap b r ob z
 ·by_cases hj:j=i
  ·subst hj
   rw[hN]at e1;cases e1;rw[Kz hi]at e2;cases e2
   exact⟨_,l,c.rep hs (rdf.mpr ao)⟩
  ·rw[KM (Kt hj)]at e2
   let⟨v,l,r⟩:=hl j y e b' e1 e2 e3;exact⟨v,l,r.to hs λb k ob hk z=>by rw[ar (λz2=>by subst z2;rw[q]at z;cases z;exact hk.elim (λw=>hj w.symm) λw=>hj (by rw[Np hiN]at w;exact w.symm))];exact z⟩
end
end L2
namespace L2
open PySem PySem.Spec PyProof.Rows Md
variable[Md]
structure Sx (M M':Mp):Prop where
 f:Sub Y M Y M'
 p:∀a o,M a=U (.p,o)->M' a=U (.p,o)
 n:∀a o,M' a=U (.p,o)->M a=U (.p,o)
def Sx.refl:Sx M M:=⟨λ_ _ h=>h,λ_ _ h=>h,λ_ _ h=>h⟩
def Sx.trans (a:Sx M N) (b:Sx N O):Sx M O:=⟨λ_ _ h=>b.f _ _ (a.f _ _ h),λ_ _ h=>b.p _ _ (a.p _ _ h),λ_ _ h=>a.n _ _ (b.n _ _ h)⟩
def Ext.sx (h:Ext M M'):Sx M M':=⟨h.sub,λa o e=>by rcases h a with z|z<;>grind,λa o e=>by rcases h a with z|z<;>grind⟩
section
variable{X X':Cx}{M M' M1:Mp}{δ δ1:DEnv}{s s1:J5}
open Classical in
noncomputable def pin (X:Cx) (M:Mp) (h:LF):Mp:=λa=>if Free X M a then(h.get? a).map λo=>(.p,o) else M a
open Classical in
noncomputable def unp (X:Cx) (M:Mp) (h:LF) (M1:Mp):Mp:=λa=>if Free X M a/\h.get? a≠B then B else M1 a
def vY (h:M a=U x):pin X M hp a=U x:=by unfold pin;rw[if_neg λf=>by rw[f.m]at h;cases h];exact h
def kT:Sub m M m (pin X M hp):=λa o ⟨k,e,h⟩=>⟨k,vY e,h⟩
nonrec theorem Inv.pin (I:Inv X M δ s):Inv X (pin X M s.heap) δ s:=I.re kT (λ_ _ _=>vY) (λ_ _ h _=>vY h) λa k o e=>by
 unfold L2.pin at e;split at e
 ·rename_i f
  cases q:s.heap.get? a with
  |none=>simp_all
  |some o'=>rw[q]at e;cases e;exact .inr ⟨rfl,f,λ_ h=>nomatch h⟩
 ·exact .inl e
def Inv.unp (I:Inv X M δ s) (J:Inv X M1 δ1 s1) (e:Sx (L2.pin X M s.heap) M1):Inv X (unp X M s.heap M1) δ1 s1/\Sx M (unp X M s.heap M1)/\Sub Y M1 Y (unp X M s.heap M1)/\(∀a,M1 a=B->unp X M s.heap M1 a=B)/\(∀a i o,M1 a=U (.o i,o)->unp X M s.heap M1 a=U (.o i,o))/\∀a o,Free X M a->s.heap.get? a=U o->s1.heap.get? a=U o/\Free X (unp X M s.heap M1) a:=by
 let key:∀{a o},Free X M a->s.heap.get? a=U o->M1 a=U (.p,o):=λ{a o} f q=>e.p a o (by unfold L2.pin;simp_all)
 let keep:∀{a k o},M1 a=U (k,o)->(k=.p->¬Free X M a)->L2.unp X M s.heap M1 a=U (k,o):=λ{a k o} q h=>by
  unfold L2.unp;rw[if_neg];exact q
  rintro⟨f,z⟩
  cases w:s.heap.get? a with
  |none=>exact z w
  |some o'=>simp_all
 refine⟨J.re (λa o q=>rdf.mpr (keep (rdf.mp q) λz=>nomatch z)) (λi a o q=>keep q λz=>nomatch z) (λa o q h=>keep q λ_ f=>?_) (λa k o q=>.inl ?_),⟨λa o q=>rdf.mpr (keep (rdf.mp (e.f _ _ (kT _ _ q))) λz=>nomatch z),λa o q=>keep (e.p a o (vY q)) λ_ f=>(by rw[f.m]at q;cases q),λa o q=>?_⟩,λa o q=>rdf.mpr (keep (rdf.mp q) (λz=>nomatch z)),λa q=>(by unfold L2.unp;split<;>first|rfl|exact q),λa i o q=>keep q (λz=>nomatch z),λa o f q=>⟨J.heap _ _ _ (key f q),?_,f.l,f.c,f.t,f.s⟩⟩
 ·rcases h with h|⟨x,h⟩
  ·have:=I.base _ _ h;simp_all [f.m]
  ·exact f.c x h
 ·unfold L2.unp at q;split at q;cases q;exact q
 ·unfold L2.unp at q;split at q
  ·cases q
  ·have:=e.n a o q
   unfold L2.pin at this;grind
 ·exact if_pos ⟨f,by simp[q]⟩
open Classical in
noncomputable def cal (m ko:Bool) (M:Mp) (h:LF) (ex:Ww Kp):Mp:=λa=>match M a with
 |some (.o i,o)=>U (if m then .f else if ko then .o i else .p,o)
 |some x=>U x
 |none=>if a∈ex\/(∃q∈tb,a=q.1) then B else(h.get? a).map λo=>(.p,o)
open Classical in
noncomputable def bak (M:Mp) (h:LF) (M1:Mp):Mp:=λa=>match M a with
 |some x=>U x
 |none=>if h.get? a≠B then B else match M1 a with|some (.f,o)=>U (.f,o)|_=>B
def oW:Sub m M Y (cal m ko M hp ex):=λa o ⟨k,e,h⟩=>by
 refine rdf.mpr ?_;unfold cal;cases k<;>simp_all [Rl.ok]
theorem sQ:Ext M (bak M hp M1):=λa=>by
 unfold bak;cases e:M a with
 |some x=>exact .inl rfl
 |none=>
  dsimp only;split
  ·exact .inl rfl
  ·cases q:M1 a with
   |none=>exact .inl rfl
   |some x=>let⟨k,o⟩:=x;cases k<;>first|exact .inl rfl|exact .inr ⟨rfl,_,rfl⟩
nonrec theorem Inv.ret (I:Inv X M δ s) (J:Inv X' M1 δ1 s1) (hf:∀b∈ex,Free X M b) (hx:∀b∈ex,M1 b=B) (e:Sx (cal m ko M s.heap ex) M1) (eo:∀a i o,cal m ko M s.heap ex a=U (.o i,o)->M1 a=U (.o i,o)):Inv X (bak M s.heap M1) δ s1/\Sub Y M1 m (bak M s.heap M1):=by
 let c1:∀{a k o},M a=U (k,o)->∃k',cal m ko M s.heap ex a=U (k',o)/\(k'=.f->k.ok m=V)/\(k=.f->k'=.f):=λ{a k o} h=>by
  unfold cal;rw[h];cases k<;>cases m<;>cases ko<;>simp_all [Rl.ok]
 let c2:∀{a o},M a=B->s.heap.get? a=U o->a∉ex->(∀q∈tb,a≠q.1)->cal m ko M s.heap ex a=U (.p,o):=λ{a o} h q h1 h2=>by
  unfold cal;rw[h];dsimp only;rw[if_neg (by rintro(z|⟨q,z1,z2⟩);exact h1 z;exact h2 q z1 z2),q];rfl
 let k1:∀{a k o},cal m ko M s.heap ex a=U (k,o)->M1 a=U (k,o):=λ{a k o} h=>by
  cases k with
  |f=>exact rdf.mp (e.f _ _ (rdf.mpr h))
  |p=>exact e.p _ _ h
  |o i=>exact eo _ _ _ h
 let k2:∀{a o},M a=B->s.heap.get? a=U o->a∉ex->(∀q∈tb,a≠q.1)->s1.heap.get? a=U o:=λh q h1 h2=>J.heap _ _ _ (k1 (c2 h q h1 h2))
 let k3:∀{a k o},M a=U (k,o)->s1.heap.get? a=U o:=λh=>by let⟨k',h1,_⟩:=c1 h;exact J.heap _ _ _ (k1 h1)
 let nl:∀q∈tb,X.env.locals≠q.1:=λq hq z=>by
  let⟨_,ps,h,_⟩:=I.tabs q hq;let⟨_,⟨o,es,ep,h1,h2,_⟩,_⟩:=I.loc;lia
 let nc:∀x c,X.env.cells.lookup x=U c->∀q∈tb,c≠q.1:=λx c z q hq w=>by
  let⟨_,ps,h,_⟩:=I.tabs q hq;let⟨⟨v,o,h1,h2⟩,_⟩:=I.cell x c z;lia
 let sub:Sub Y M1 m (bak M s.heap M1):=λa o q=>by
  rw[rdf]at q;unfold Rd bak;cases h:M a with
  |some x=>
   grind
  |none=>
   rw[if_neg,q];exact⟨.f,rfl,rfl⟩;intro z;cases w:s.heap.get? a with
   |none=>exact z w
   |some o'=>have:=k1 (c2 h w (λz=>by simp_all) λr hr z=>by have:=(J.tabs r hr).1;lia);lia
 let of:∀{a x},M a=U x->bak M s.heap M1 a=U x:=λh=>by unfold bak;rw[h]
 let no:∀{a o},M a=B->s.heap.get? a=U o->bak M s.heap M1 a=B:=λh q=>by unfold bak;rw[h];dsimp only;rw[if_pos (by simp[q])]
 let ow:∀{a i o},bak M s.heap M1 a=U (.o i,o)->M a=U (.o i,o):=λ{a i o} q=>by
  unfold bak at q;cases h:M a with
  |some x=>rw[h]at q;exact q
  |none=>rw[h]at q;dsimp only at q;split at q;cases q;split at q<;>cases q
 let sf:Sub Y M Y (bak M s.heap M1):=λa o q=>rdf.mpr (of (rdf.mp q))
 let⟨m0,⟨oL,es,ep,hL,hL2⟩,hl⟩:=id I.loc;let xl:X.env.locals∉ex:=λz=>(hf _ z).l rfl
 let xc:∀x c,X.env.cells.lookup x=U c->c∉ex:=λx c e z=>(hf _ z).c x e
 let kc:∀x c o,X.env.cells.lookup x=U c->s.heap.get? c=U o->s1.heap.get? c=U o:=λx c o z q=>by
  cases h:M c with
  |none=>exact k2 h q (xc x c z) (nc x c z)
  |some y=>have:=I.heap _ _ _ h;rw[q]at this;cases this;exact k3 h
 refine⟨⟨I.ok,J.og,λa k o q=>?_,λa o q=>of (I.base a o q),⟨m0,⟨oL,es,ep,k2 I.free hL xl nl,hL2⟩,λi x d b e1 e2 e3=>?_⟩,no I.free hL,λx c z=>?_,λq hq=>?_,λa i o q=>I.own _ _ _ (ow q),λa b i o o' q q'=>I.uni _ _ _ _ _ (ow q) (ow q'),I.len,λk o q=>?_⟩,sub⟩
 ·unfold bak at q
  cases h:M a with
  |some x=>rw[h]at q;cases q;exact k3 h
  |none=>
   rw[h]at q;dsimp only at q;split at q
   ·cases q
   ·split at q
    ·cases q;exact J.heap _ _ _ (by assumption)
    ·cases q
 ·let⟨u,l,v⟩:=hl i x d b e1 e2 e3
  exact⟨u,pU l λc o=>kc x c o,v.to sf λa j o _=>of⟩
 ·let⟨⟨v,o,h1,h2⟩,h3⟩:=I.cell x c z
  exact⟨⟨v,o,kc x c o z h1,h2⟩,h3.imp (λq=>no q h1) λ⟨f,o,q⟩=>⟨f,o,of q⟩⟩
 ·let⟨hn,ps,h1,h2,h3⟩:=J.tabs q hq
  let⟨hn0,ps0,h0,_⟩:=I.tabs q hq;refine⟨no hn0 h0,ps,h1,h2,λpos cv z=>?_⟩
  let⟨c,oc,vs,t,e1,e2,e3,e4⟩:=h3 pos cv z;refine⟨c,oc,vs,t,e1,?_,e3,e4⟩
  let⟨k,w,_⟩:=sub c oc (rdf.mpr e2);cases k with
  |f=>exact w
  |p=>trivial
  |o i=>
   unfold bak at w;cases h:M c with
   |some x=>rw[h]at w;cases w;exact absurd e3 ((I.own _ _ _ h).2 vs)
   |none=>rw[h]at w;dsimp only at w;split at w;cases w;split at w<;>cases w
 ·unfold bak at q
  cases h:M sysModules with
  |some x=>rw[h]at q;cases q;exact I.sys _ _ h
  |none=>
   rw[h]at q;dsimp only at q;split at q
   ·cases q
   ·split at q
    ·rename_i w;exact nomatch J.sys _ _ w
    ·cases q
end
end L2
namespace L2
open PySem
def ae {α β:Type}(x:Wq α) (f:α->Wq β):Wq β:=match x with|some a=>f a|none=>B
def ai {α β:Type}{x:Wq α}{f:α->Wq β}{b:β}(h:ae x f=U b):∃a,x=U a/\f a=U b:=by
 cases x with
 |none=>cases h
 |some a=>exact⟨a,rfl,h⟩
def b2 {α:Type}(g:D->D->Wq α) (x y:Wq D):Wq α:=ae x λa=>ae y (g a)
def jg {α:Type}{g:D->D->Wq α}{x y:Wq D}{d:α}(h:b2 g x y=U d):∃a b,x=U a/\y=U b/\g a b=U d:=by
 let⟨a,h1,h2⟩:=ai h;let⟨b,h2,h3⟩:=ai h2;exact⟨a,b,h1,h2,h3⟩
def gd {α:Type}(c:Bool) (x:α):Wq α:=if c=V then U x else B
def eN {α:Type}{c:Bool}{x y:α}(h:gd c x=U y):c=V/\y=x:=by unfold gd at h;split at h<;>simp_all
def lim:Nat:=1000000
def ax {n:Nat}(h:n<=lim):n<=sizeLine:=Kf h (by decide)
def rd (m:Bool) (i:Nat) (δ:DEnv):Wq D:=match δ[i]? with|some (U (d,o))=>if(o&&!m)=V then B else U d|_=>B
def bI (C:Int->Int->Bool) (g:Int->Int->D) (x y:D):Wq D:=match x,y with|.int i,.int j=>gd (C i j) (g i j)|_,_=>B
def JI:Int->Int->Bool:=λi j=>decide ((-(2 ^ 64)<i/\i<2 ^ 64)\/(-(2 ^ 64)<j/\j<2 ^ 64))
def JB:Int->Int->Bool:=λ_ j=>decide (0<j/\j<1073741824)
def JE:Int->Int->Bool:=λ_ j=>decide (0<j)
def cw:Wq D->Wq D->Wq D:=b2 (bI (λ_ _=>V) λi j=>.int (i+j))
def wc:Wq D->Wq D->Wq D:=b2 (bI JI λi j=>.int (i*j))
def gz:Wq D->Wq D->Wq D:=b2 (bI JB λi j=>.int (i / j))
def cq:Wq D->Wq D->Wq D:=b2 (bI JE λi j=>.int (i%j))
def cI (g:Int->Int->Bool):Wq D->Wq D->Wq Bool:=b2 λx y=>match x,y with|.int i,.int j=>U (g i j)|_,_=>B
abbrev gLt:Int->Int->Bool:=λi j=>decide (i<j)
abbrev gGt:Int->Int->Bool:=λi j=>decide (j<i)
abbrev gGe:Int->Int->Bool:=λi j=>decide (j<=i)
def tyB (x:Wq D):Wq Bool:=match x with|some (.bl b)=>U b|_=>B
def ofB (x:Wq Bool):Wq D:=match x with|some b=>U (.bl b)|none=>B
def jC (x y:Wq Bool):Wq Bool:=match x with|some V=>y|some Y=>U Y|none=>B
def orO (x y:Wq Bool):Wq Bool:=match x with|some V=>U V|some Y=>y|none=>B
def eD (x:Wq Bool):Wq Bool:=match x with|some c=>U (!c)|none=>B
def B8 (x y:Wq D):Wq D:=match tyB x with|some V=>y|some Y=>U (.bl Y)|none=>B
def ifV {α:Type}(c:Wq Bool) (x y:Wq α):Wq α:=match c with|some V=>x|some Y=>y|none=>B
def aa (x:Wq D) (y:Wq (Ww D)):Wq (Ww D):=match x,y with|some d,U ds=>U (d::ds)|_,_=>B
def bw (x:Wq (Ww D)):Wq D:=ae x λds=>gd (decide (ds.length<=lim)) (.tup ds)
def bR (x:Wq (Ww D)):Wq D:=ae x λds=>gd (decide (ds.length<=lim)) (.lst ds)
def okD:Nat->D->Bool
 |_,.non=>V
 |_,.int _=>V
 |_,.str _=>V
 |n+1,.tup ds=>ds.all (okD n)
 |n+1,.lst ds=>ds.all (okD n)
 |_,_=>Y
def ok2 (x y:D):Bool:=okD 16 x&&okD 16 y
def eqO:Wq D->Wq D->Wq Bool:=b2 λd e=>gd (ok2 d e) (decide (d=e))
def neO (x y:Wq D):Wq Bool:=eD (eqO x y)
def cQ:D->Wq (Ww D)
 |.lst ds=>U ds
 |.tup ds=>U ds
 |_=>B
def inO:Wq D->Wq D->Wq Bool:=b2 λd e=>ae (cQ e) λes=>gd (okD 16 d&&es.all (okD 16)) (decide (d∈es))
def be (x y:Wq D):Wq Bool:=eD (inO x y)
mutual
noncomputable def D.flat:D->Bool
 |.non=>V|.bl _=>V|.int _=>V|.str _=>V
 |.tup ds=>D.flats ds
 |.lst _=>Y|.dK _ _=>Y|.dD _ _=>Y|.ptr _=>Y|.any=>Y
noncomputable def D.flats:Ww D->Bool
 |[]=>V
 |d::ds=>d.flat&&D.flats ds
end
theorem D.flats_all:∀ds:Ww D,D.flats ds=ds.all D.flat
 |[]=>rfl
 |d::ds=>by simp![D.flats,KG,D.flats_all ds]
def ixN (n:Nat) (i:Int):Wq Nat:=if 0<=i then(if i<n then U i.toNat else B) else if -(n:Int)<=i then U (i+n).toNat else B
def atI {α:Type}(xs:Ww α) (i:Int):Wq α:=(ixN xs.length i).bind λj=>xs[j]?
def ixO:Wq D->Wq D->Wq D:=b2 λd e=>match e with|.int i=>ae (cQ d) λds=>atI ds i|_=>B
def Co:Wq D->Wq D->Wq D:=b2 λd e=>match d,e with|.str z,.int i=>if z.length<=lim then ae (atI z.cps.toList i) λc=>U (.str ⟨#[c]⟩) else B|_,_=>B
def cK (x:Wq D):Wq D:=ae x λd=>ae (cQ d) λds=>U (.int ds.length)
def FV (x:Wq D):Wq D:=ae x λd=>match d with|.str z=>if z.length<=lim then U (.int z.length) else B|_=>B
def iS (x:Wq D):Wq D:=ae x λd=>ae (cQ d) λds=>U (.lst ds)
def cL (x:Wq D):Wq D:=ae x λd=>ae (cQ d) λds=>U (.tup ds)
def sIx (n d:Nat):Wq Int->Nat
 |none=>d
 |some v=>if v<0 then(v+(n:Int)).toNat else min v.toNat n
def sP {α:Type}(ds:Ww α) (lo hi:Wq Int):Ww α:=(ds.drop (sIx ds.length 0 lo)).take (sIx ds.length ds.length hi - sIx ds.length 0 lo)
def rp (x:Kr) (lo hi:Wq Int):Kr:=if((MR lo hi 1 x.length).length==x.length)=V then x else⟨((MR lo hi 1 x.length).filterMap (x.cps[·]?)).toArray⟩
def bQ (x:Wq D):Wq (Wq Int):=match x with|some (.int i)=>U (U i)|_=>B
def b3 {α:Type}(g:D->Wq Int->Wq Int->Wq α) (x:Wq D) (l u:Wq (Wq Int)):Wq α:=ae x λx=>ae l λl=>ae u λu=>g x l u
def iw:Wq D->Wq (Wq Int)->Wq (Wq Int)->Wq D:=b3 λd l u=>match d with|.lst ds=>U (.lst (sP ds l u))|_=>B
def mA:Wq D->Wq (Wq Int)->Wq (Wq Int)->Wq D:=b3 λd l u=>match d with|.str z=>if z.length<=lim then U (.str (rp z l u)) else B|_=>B
def Hi:Wq D->Wq D->Wq D:=b2 λx y=>match x,y with|.str i,.str j=>if i.length+j.length<=lim then U (.str (i++j)) else B|_,_=>B
def BW:Wq D->Wq D->Wq D:=b2 λx y=>match x,y with|.tup i,.tup j=>if i.length+j.length<=lim then U (.tup (i++j)) else B|_,_=>B
def mn:Wq D->Wq D->Wq D:=b2 λx y=>match x,y with|.lst i,.lst j=>if i.length+j.length<=lim then U (.lst (i++j)) else B|_,_=>B
def my:Wq D->Wq D->Wq D:=b2 λx y=>match x,y with|.lst i,.lst j=>if(decide (i.length+j.length<=lim)&&(D.flats i&&D.flats j))=V then U (.lst (i++j)) else B|_,_=>B
def Aq (x:Wq D):Wq D:=match x with|some (.int i)=>U (.int (-i))|_=>B
def tyD:D->Wq String
 |.tup _=>U "tuple"|.lst _=>U "list"|_=>B
def IZ (t c:String):Bool:=t==c
def FX (c:String) (x:Wq D):Wq D:=ae x λd=>ae (tyD d) λt=>U (.bl (IZ t c))
def wx:Ww D->Wq (Ww Kr)
 |[]=>U []
 |.str i::ds=>(match wx ds with|some l=>U (i::l)|none=>B)
 |_=>B
def xj:Ww D->Wq (Ww Bool)
 |[]=>U []
 |.bl b::ds=>(match xj ds with|some bs=>U (b::bs)|none=>B)
 |_=>B
def A7:Wq D->Wq D->Wq D:=b2 λx y=>match x,y with|.str z,.lst ds=>ae (wx ds) λys=>if(ys.map (·.length)).sum+ys.length*z.length<=16777216 then U (.str (Qv z ys)) else B|_,_=>B
def H7 (x:Wq D):Wq D:=match x with|some (.lst ds)=>ae (xj ds) λbs=>U (.bl (bs.any id))|_=>B
def H9:Wq D->Wq D->Wq D:=b2 λx d=>match x with
 |.lst ds=>if okD 16 d=V/\ds.all (okD 16)=V/\ds.idxOf d<ds.length/\ds.length<=lim then U (.int (ds.idxOf d)) else B
 |_=>B
def wX (x:Wq D):Wq Bool:=match x with|some d=>U (decide (d=.non))|none=>B
def AB (x:Wq D):Wq Bool:=match x with
 |some .non=>U Y
 |some (.bl b)=>U b
 |some (.int i)=>U (i != 0)
 |some (.str y)=>if y.length<=lim then U ((y.length:Int) != 0) else B
 |some (.lst ds)=>U (!ds.isEmpty)
 |some (.tup ds)=>U (!ds.isEmpty)
 |_=>B
inductive Out where
 |next (δ:DEnv)|ret (d:D) (fr:Bool)|brk (δ:DEnv)|cont (δ:DEnv)
def nextO (δ:DEnv):Wq Out:=U (.next δ)
def ak (x:Wq Out) (k:DEnv->Wq Out):Wq Out:=match x with|some (.next δ)=>k δ|o=>o
def ifO (c:Wq Bool) (x y:Wq Out):Wq Out:=match c with|some V=>x|some Y=>y|none=>B
def aE (i:Nat) (x:Wq D) (δ:DEnv):Wq Out:=match x with|some d=>if i<δ.length then U (.next (δ.set i (U (d,Y)))) else B|none=>B
def dF (i:Nat) (x:Wq D) (δ:DEnv):Wq Out:=match x with|some d=>if i<δ.length then U (.next (δ.set i (U (d,V)))) else B|none=>B
def bp (x:Wq D):Wq Out:=match x with|some d=>U (.ret d Y)|none=>B
def bH (x:Wq D):Wq Out:=match x with|some d=>U (.ret d V)|none=>B
def aN (i:Nat) (δ:DEnv):Wq D:=match δ[i]? with|some (U (.tup _,V))=>B|some (U (d,V))=>U d|_=>B
def jP (i:Nat) (δ:DEnv):DEnv:=match δ[i]? with|some (U (.tup _,V))=>δ|some (U (d,V))=>δ.set i (U (d,Y))|_=>δ
def jb (i:Nat) (x:Wq D) (δ:DEnv):Wq Out:=match aN i δ,x with|some (.lst ds),U d=>if ds.length<lim then U (.next (δ.set i (U (.lst (ds++[d]),V)))) else B|_,_=>B
def DB (i:Nat) (x:Wq D) (δ:DEnv):Wq Out:=match aN i δ,x with|some (.lst ds),U (.lst es)=>if ds.length+es.length<=lim then U (.next (δ.set i (U (.lst (ds++es),V)))) else B|_,_=>B
def Ib (x:Wq D) (τ:D->DEnv->Wq DEnv) (δ:DEnv):Wq Out:=match x with|some d=>(match τ d δ with|some δ'=>U (.next δ')|none=>B)|none=>B
def af (i:Nat) (d:D) (δ:DEnv):Wq DEnv:=if i<δ.length then U (δ.set i (U (d,Y))) else B
def toNil (ds:Ww D) (δ:DEnv):Wq DEnv:=match ds with|[]=>U δ|_=>B
def ah (τ:D->DEnv->Wq DEnv) (υ:Ww D->DEnv->Wq DEnv) (ds:Ww D) (δ:DEnv):Wq DEnv:=match ds with|d::r=>ae (τ d δ) (υ r)|[]=>B
def aB (υ:Ww D->DEnv->Wq DEnv) (d:D) (δ:DEnv):Wq DEnv:=match d with|.tup ds=>υ ds δ|_=>B
def bi (x:Wq D):Wq (Ww D):=match x with|some (.lst ds)=>U ds|_=>B
def wd (x:Wq D):Wq (Ww D):=match x with|some (.tup ds)=>U ds|_=>B
def kg (lo:Int) (n:Nat):Ww D:=(K1 n).map λ(i:Nat)=>.int (lo+(i:Int))
def rG (x:Wq D):Wq (Ww D):=match x with|some (.int j)=>if(decide (-(2 ^ 62)<=j/\j<2 ^ 62))=V then U (kg 0 j.toNat) else B|_=>B
def am (body:D->DEnv->Wq Out):Ww D->DEnv->Wq Out
 |[],δ=>U (.next δ)
 |d::ds,δ=>match body d δ with
  |some (.next δ')=>am body ds δ'
  |some (.cont δ')=>am body ds δ'
  |some (.brk δ')=>U (.next δ')
  |some (.ret e fr)=>U (.ret e fr)
  |none=>B
def aV (t:DEnv->Wq Bool) (b:DEnv->Wq Out):Nat->DEnv->Wq Out
 |0,_=>B
 |n+1,δ=>match t δ with
  |none=>B
  |some Y=>U (.next δ)
  |some V=>match b δ with
   |some (.next δ')=>aV t b n δ'
   |some (.cont δ')=>aV t b n δ'
   |some (.brk δ')=>U (.next δ')
   |some (.ret e fr)=>U (.ret e fr)
   |none=>B
def shO (x:Wq (D×Bool)):Wq D:=match x with|some (d,_)=>U d|none=>B
def frO (x:Wq (D×Bool)):Wq D:=match x with|some (.tup _,V)=>B|some (d,V)=>U d|_=>B
def flO (x:Wq (D×Bool)):Wq D:=match x with|some (.lst ds,V)=>if D.flats ds=V then U (.lst ds) else B|_=>B
def cH (n:Nat) (ds:Ww D):DEnv:=ds.map (λd=>U (d,Y))++List.replicate (n - ds.length) B
def j3 (x:Wq Out):Wq (D×Bool):=match x with|some (.ret d fr)=>U (d,fr)|some (.next _)=>U (.non,Y)|_=>B
def bh (n np:Nat) (g:DEnv->Wq Out) (ds:Ww D):Wq (D×Bool):=if ds.length=np then j3 (g (cH n ds)) else B
def aO (h:D->Wq (Wq D)):Ww D->Wq (Ww D)
 |[]=>U []
 |d::ds=>match h d with
  |none=>B
  |some B=>aO h ds
  |some (U y)=>match aO h ds with
   |some l=>U (y::l)
   |none=>B
def aF (bo:Bool) (bs:Ww Bool) (δ:DEnv):DEnv:=List.zipWith (λ(b:Bool) (o:Wq (D×Bool))=>if b=V then(match o with|some (d,ow)=>if(ow&&!bo)=V then B else U (d,Y)|none=>B) else B) bs δ
def aC (τ:D->DEnv->Wq DEnv) (ft:DEnv->Wq Bool) (fe:DEnv->Wq D) (δ:DEnv) (d:D):Wq (Wq D):=ae (τ d δ) λδ'=>match ft δ' with|some V=>(match fe δ' with|some y=>U (U y)|none=>B)|some Y=>U B|none=>B
def bJ (bo:Bool) (bs:Ww Bool) (τ:D->DEnv->Wq DEnv) (ft:DEnv->Wq Bool) (fe:DEnv->Wq D) (δ:DEnv) (ds:Ww D):Wq (Ww D):=if ds.length<=lim then aO (aC τ ft fe (aF bo bs δ)) ds else B
def aq (x:Wq (Ww D)):Wq D:=match x with|some ds=>U (.lst ds)|none=>B
def nQ (x:Wq (Ww D)):Wq (Ww D):=match x with|some ds=>if D.flats ds=V then U ds else B|none=>B
def sH:D->Wq Key
 |.int i=>U (.inl i)
 |.str x=>U (.inr x)
 |_=>B
def bP {κ β:Type}[DecidableEq κ] (k:κ):Ww κ->Ww β->Wq β
 |x::ks,d::ds=>if x=k then U d else bP k ks ds
 |_,_=>B
def eY {κ β:Type}[DecidableEq κ] (k:κ) (v:β):Ww κ->Ww β->Ww β
 |x::ks,d::ds=>(if x=k then v else d)::eY k v ks ds
 |_,_=>[]
def kK {κ β:Type}[DecidableEq κ] (k:κ) (v:β) (ks:Ww κ) (ds:Ww β):Ww β:=if k∈ks then eY k v ks ds else ds++[v]
def bK {κ:Type}[DecidableEq κ] (k:κ) (ks:Ww κ):Ww κ:=if k∈ks then ks else ks++[k]
def jo (x k:Wq D):Wq (Wq D):=match x,k with
 |some (.dK ks vs),U d=>(match sH d with|some kk=>U (bP kk ks vs)|none=>B)
 |some (.dD ks vs),U d=>if(dn 8 d&&isTD d)=V then U (bP d ks vs) else B
 |_,_=>B
def F2 (x k:Wq D):Wq D:=match jo x k with|some (U d)=>U d|_=>B
def Gk (k x:Wq D):Wq Bool:=match jo x k with|some o=>U o.isSome|none=>B
def rJ (x:D) (k v:D):Wq D:=match x with
 |.dK ks vs=>(match sH k with|some kk=>if ks.length<lim then U (.dK (bK kk ks) (kK kk v ks vs)) else B|none=>B)
 |.dD ks vs=>if(dn 8 k&&isTD k&&decide (ks.length<lim))=V then U (.dD (bK k ks) (kK k v ks vs)) else B
 |_=>B
def AK (i:Nat) (k v:Wq D) (δ:DEnv):Wq Out:=match aN i δ,k,v with
 |some x,U k,U v=>(match rJ x k v with|some y=>U (.next (δ.set i (U (y,V))))|none=>B)
 |_,_,_=>B
def sdO (i:Nat) (k v:Wq D) (δ:DEnv):Wq (D×DEnv):=match aN i δ,k,v with
 |some x,U kd,U vd=>(match jo (U x) (U kd)with
  |some (U d)=>U (d,δ)
  |some B=>(match rJ x kd vd with|some y=>U (vd,δ.set i (U (y,V)))|none=>B)
  |none=>B)
 |_,_,_=>B
def ifX (t:Wq (Bool×DEnv)) (g1 g2:DEnv->Wq Out):Wq Out:=match t with
 |some (V,δ)=>g1 δ
 |some (Y,δ)=>g2 δ
 |none=>B
def As (x:Wq D):Wq (Ww D):=match x with|some (.dD ks vs)=>U ks|_=>B
def cS (x k y:Wq D):Wq D:=match jo x k,y with|some o,U z=>U (o.getD z)|_,_=>B
def yX (x:Wq D):Wq D:=match x with|some (.dD ks vs)=>U (.lst ks)|_=>B
def vL:D->Wq (D×D)
 |.tup [k,v]=>if(dn 8 k&&isTD k)=V then U (k,v) else B
 |_=>B
def je:Ww D->Wq (Ww (D×D))
 |[]=>U []
 |d::ds=>match vL d,je ds with|some p,U ps=>U (p::ps)|_,_=>B
def qg:Ww D->Ww D->Ww (D×D)->Ww D×Ww D
 |ks,vs,[]=>(ks,vs)
 |ks,vs,p::ps=>qg (bK p.1 ks) (kK p.1 p.2 ks vs) ps
def mh (x:Wq D):Wq D:=match x with|some (.lst ds)=>(match je ds with|some ps=>if ds.length<lim then U (.dD (qg [] [] ps).1 (qg [] [] ps).2) else B|none=>B)|_=>B
end L2
namespace L2
open PySem PySem.Spec PyProof.Rows Md
variable[Md]
def plE:Expr->Bool|.Starred .. =>Y|.Slice .. =>Y|.Set .. =>Y|.Call (.Name ..) [] [] _=>Y|_=>V
def aU (h:plE e=V):starEach (e::es) v=(Y,eval e v)::starEach es v:=by cases e<;>first|rfl|cases h
def sd (h:plE e=V):subscripted e Y o i=operate [o,i] (getItem o i):=by cases e<;>first|rfl|cases h
def oE (h:plE e=V):behindInMarks op e=Y:=by cases e<;>first|rfl|cases h
def i8 (h:plE e=V):foldedSetIterable e v x=pure x:=by cases e<;>first|rfl|cases h
def Ax (h:plE e=V):attributeBase e n v t=t:=by
 cases e with
 |Call f as ks p=>cases f<;>first|rfl|(cases as<;>first|rfl|(cases ks<;>first|rfl|cases h))
 |_=>rfl
abbrev Post (X:Cx) (M:Mp) (δ:DEnv) (m:Bool) (d:D) (Q:J4->J5->Prop):Prop:=∀v s' M',Ext M M'->Inv X M' δ s'->R m M' d v->Q v s'
structure DE (X:Cx) (m:Bool) (e:Expr) (f:DEnv->Wq D):Prop where
 pl:plE e=V
 ev:∀{M δ s d} {Q:J4->J5->Prop},Inv X M δ s->f δ=U d->Post X M δ m d Q->WP X (eval e X.env) Q s
abbrev PostF (X:Cx) (M:Mp) (δ:DEnv) (d:D) (Q:J4->J5->Prop):Prop:=∀a o s' M',Ext M M'->Inv X M' δ s'->Free X M' a->s'.heap.get? a=U o->C M' d o->Q (.ref a) s'
structure DF (X:Cx) (e:Expr) (f:DEnv->Wq D):Prop where
 pl:plE e=V
 ev:∀{M δ s d} {Q:J4->J5->Prop},Inv X M δ s->f δ=U d->PostF X M δ d Q->WP X (eval e X.env) Q s
def DT (X:Cx) (e:Expr) (f:DEnv->Wq Bool):Prop:=∀{M δ s c} {Q:Bool->J5->Prop},Inv X M δ s->f δ=U c->(∀s' M',Ext M M'->Inv X M' δ s'->Q c s')->WP X (isTrue e X.env (eval e X.env)) Q s
def DW (X:Cx) (op:BoolOp) (es:Ww Expr) (f:DEnv->Wq Bool):Prop:=∀{M δ s c} {Q:Bool->J5->Prop},Inv X M δ s->f δ=U c->(∀s' M',Ext M M'->Inv X M' δ s'->Q c s')->WP X (allTrue op es X.env) Q s
structure DA (X:Cx) (m:Bool) (es:Ww Expr) (f:DEnv->Wq (Ww D)):Prop where
 pl:es.all plE=V
 ev:∀{M δ s ds} {Q:Ww J4->J5->Prop},Inv X M δ s->f δ=U ds->(∀vs s' M',Ext M M'->Inv X M' δ s'->Rs m M' ds vs->Q vs s')->∀pos,WP X (spliced (backTo pos (starEach es X.env))) Q s
def thn {α:Type}{t:PZ α}{Q Q':α->J5->Prop}{M:Model}{A:KH}{E:J4->J5->Prop}{s:J5}(h:wpAny M A t Q E s) (hQ:∀a s,Q a s->Q' a s):wpAny M A t Q' E s:=L5 h hQ λ_ _ x=>x
section
variable{X:Cx}{M M':Mp}{δ:DEnv}{s:J5}{Q:J4->J5->Prop}{a b:Expr}{fa fb:DEnv->Wq D}{m m' mm:Bool}{pos:PA}
def Post.to (k:Post X M δ m d Q) (h:Ext M M'):Post X M' δ m d Q:=λv s' M'' e=>k v s' M'' (h.trans e)
def PostF.to (k:PostF X M δ d Q) (h:Ext M M'):PostF X M' δ d Q:=λa o s' M'' e=>k a o s' M'' (h.trans e)
def DF.share (h:DF X a fa):DE X m a fa:=⟨h.pl,λI e k=>h.ev I e λb o s' M' x I' f q c=>k _ s' _ (x.trans (cb f.m)) (I'.put f q) (c.rep (λ_ _ q=>Sub.weak _ _ (dT f.m _ _ q)) ⟨.f,ao,rfl⟩)⟩
structure Nm (X:Cx) (i:Nat) (x:Kr):Prop where
 n:X.N[i]?=U x
 v:Vis X.env.scope x
 d:(x==("__debug__":Kr))=Y
 c:(x==("__classdict__":Kr))=Y
def Inv.load {E:J4->J5->Prop}(I:Inv X M δ s) (h:Nm X i x) (e:δ[i]?=U (U (d,o))) (k:∀v,Va M X.N.length i d v o->Q v s):wpAny (model P w) X.A (loadName X.env x) Q E s:=by
 let⟨m,hn,hl⟩:=I.loc;let⟨u,l,r⟩:=hl i x d o h.n e h.v
 rcases l with⟨hk,hm⟩|⟨hk|hk,c,hc,hcell⟩
 ·exact wpAny_loadName_local I.ok.kind hk hn hm (k u r)
 ·exact wpAny_loadName_cell I.ok.kind hk hc hcell (k u r)
 ·exact wpAny_loadName_free I.ok.kind hk hc hcell (k u r) h.c
def Ti.rep (h:Ti M n i ds vs):Rs V M ds vs:=by
 induction ds generalizing vs with
 |nil=>exact h
 |cons d ds ih=>
  let⟨v,r,rfl,h,t⟩:=h;refine⟨v,r,rfl,?_,ih t⟩
  rcases h with⟨_,h⟩|⟨_,a,o,j,rfl,_,q,c⟩
  ·exact R.weak h
  ·exact c.rep Sub.weak ⟨_,q,rfl⟩
def Va.rep {o:Bool}(h:Va M n i d v o) (hb:o=V->m=V):R m M d v:=by
 cases o with
 |false=>exact R.weak h
 |true=>
  obtain rfl:=hb rfl
  rcases h with⟨a,o,rfl,q,c⟩|⟨ds,t,o,vs,rfl,rfl,h3,h4,h5⟩
  ·exact c.rep Sub.weak ⟨_,q,rfl⟩
  ·exact⟨t,o,vs,rfl,⟨_,h3,rfl⟩,h4,h5.rep⟩
def yi (h:rd m i δ=U d):∃b,δ[i]?=U (U (d,b))/\(b=V->m=V):=by
 unfold rd at h;split at h
 ·simp_all
 ·cases h
def nv (m:Bool) (h:Nm X i x):DE X m (.Name x pos) (rd m i):=⟨rfl,λI e k=>by
 let⟨b,e,hb⟩:=yi e;exact Mh (I.load h e λv r=>k v _ _ Ext.refl I (r.rep hb)) h.d⟩
def DJ:DE X m (.Constant (.int i) j pos) (λ_=>U (.int i)):=⟨rfl,λI e k=>by cases e;exact wpAny_Constant_int (k _ _ _ Ext.refl I.tok ⟨_,rfl⟩)⟩
def HN:DE X m (.Constant (.str x) j pos) (λ_=>U (.str x)):=⟨rfl,λI e k=>by cases e;exact Calls.Constant_str (k _ _ _ Ext.refl I.tok ⟨_,rfl⟩)⟩
def Je:DE X m (.Constant (.bool x) j pos) (λ_=>U (.bl x)):=⟨rfl,λI e k=>by cases e;exact Constant_bool (k _ _ _ Ext.refl I rfl)⟩
def Dc:DE X m (.Constant .none j pos) (λ_=>U .non):=⟨rfl,λI e k=>by cases e;exact Constant_none (k _ _ _ Ext.refl I rfl)⟩
def R.tt (h:R m M d v):R V M d v:=h.to λa o ⟨k,e,q⟩=>⟨k,e,by cases k<;>simp_all [Rl.ok]⟩
def OpS (X:Cx) (f:J4->J4->PZ J4) (g:D->D->Wq D):Prop:=∀{M δ s x y v u d mm} {Q:J4->J5->Prop},Inv X M δ s->R V M x v->R V M y u->g x y=U d->Post X M δ mm d Q->WP X (f v u) Q s
def two {α β:Type}{g:D->D->Wq α}{d:α}{f:J4->J4->PZ β}{Q:β->J5->Prop}(ha:DE X m a fa) (hb:DE X m' b fb) (I:Inv X M δ s) (e:b2 g (fa δ) (fb δ)=U d) (k:∀x y v u s' M',Ext M M'->Inv X M' δ s'->R m M' x v->R m' M' y u->g x y=U d->WP X (f v u) Q s'):
  WP X (eval a X.env) (λv s₁=>WP X (eval b X.env) (λu s₂=>WP X (f v u) Q s₂) s₁) s:=by
 let⟨x,y,e1,e2,e3⟩:=jg e;exact ha.ev I e1 λv s1 M1 x1 I1 r1=>hb.ev I1 e2 λu s2 M2 x2 I2 r2=>k x y v u s2 M2 (x1.trans x2) I2 (r1.up x2) r2 e3
def yM {g:D->D->Wq D}(ho:OpS X (binaryOp op) g) (ha:DE X m a fa) (hb:DE X m' b fb):DE X mm (.BinOp a op b pos) (λδ=>b2 g (fa δ) (fb δ)):=
 ⟨rfl,λI e k=>QA (two ha hb I e λx y v u s2 M2 x2 I2 r1 r2 e3=>ho I2 r1.tt r2.tt e3 (Post.to k x2))⟩
def opI {f:J4->J4->PZ J4}{C:Int->Int->Bool}{g:Int->Int->Int}
  (rule:∀(i j:Int) (t u:Tok) (s:J5) (Q:J4->J5->Prop),C i j=V->Q (.int (g i j) s.toks) {s with toks:=s.toks+1}->WP X (f (.int i t) (.int j u)) Q s):
  OpS X f (bI C λi j=>.int (g i j)):=λ{M δ s x y v u d mm Q} I r1 r2 e k=>by
 cases x<;>try cases e
 cases y<;>try cases e
 let⟨hc,rfl⟩:=eN e;let⟨t,rfl⟩:=r1;let⟨t',rfl⟩:=r2;exact rule _ _ _ _ _ _ hc (k _ _ _ Ext.refl I.tok ⟨_,rfl⟩)
def GJ (ha:DE X m a fa) (hb:DE X m' b fb):DE X mm (.BinOp a .Add b pos) (λδ=>cw (fa δ) (fb δ)):=yM (opI λ_ _ _ _ _ _ _ q=>add_int q) ha hb
def Gn (ha:DE X m a fa) (hb:DE X m' b fb):DE X mm (.BinOp a .Mult b pos) (λδ=>wc (fa δ) (fb δ)):=yM (opI λi j _ _ _ _ c q=>mul_int q (by
 rcases of_decide_eq_true c with⟨h1,h2⟩|⟨h1,h2⟩
 ·exact .of_left (intBits_le_64 h1 h2)
 ·exact .of_right (intBits_le_64 h1 h2))) ha hb
def F6 (ha:DE X m a fa) (hb:DE X m' b fb):DE X mm (.BinOp a .FloorDiv b pos) (λδ=>gz (fa δ) (fb δ)):=yM (opI λi j _ _ _ _ c q=>by
 let c:=of_decide_eq_true c;exact floordiv_int (by lia) (by rw[Int.fdiv_eq_ediv_of_nonneg i (by lia)];exact q) (.inl (PyProof.noPylong_small (by lia)))) ha hb
def GS (ha:DE X m a fa) (hb:DE X m' b fb):DE X mm (.BinOp a .Mod b pos) (λδ=>cq (fa δ) (fb δ)):=yM (opI λi j _ _ _ _ c q=>by
 let c:=of_decide_eq_true c;exact mod_int' (by lia) (by rw[Int.fmod_eq_emod_of_nonneg i (by lia)];exact q)) ha hb
def CmS (X:Cx) (op:CmpOp) (g:D->D->Wq Bool):Prop:=∀{M δ s x y v u c} {Q:J4->J5->Prop},Inv X M δ s->R V M x v->R V M y u->g x y=U c->(∀s',Inv X M δ s'->Q (.bool c) s')->WP X (compareOp op v u) Q s
def pV (h:ofB x=U d):∃c,x=U c/\d=.bl c:=by
 cases x with
 |none=>cases h
 |some c=>cases h;exact⟨c,rfl,rfl⟩
def EB {g:D->D->Wq Bool}(ho:CmS X op g) (ha:DE X m a fa) (hb:DE X m' b fb):DE X mm (.Compare a [op] [b] pos) (λδ=>ofB (b2 g (fa δ) (fb δ))):=
 ⟨rfl,λI e k=>by
  let⟨c,e',rfl⟩:=pV e;exact wpAny_Compare1 (two (f:=compareOp op) ha hb I e' λx y v u s2 M2 x2 I2 r1 r2 e3=>ho I2 r1.tt r2.tt e3 λs3 I3=>k _ s3 M2 x2 I3 rfl) (oE hb.pl)⟩
def zw {g:D->D->Wq Bool}(ho:CmS X op g) (ha:DE X m a fa) (hb:DE X m' b fb):DT X (.Compare a [op] [b] pos) (λδ=>b2 g (fa δ) (fb δ)):=λI e k=>
 Nk (two (f:=compareOp op) ha hb I e λx y v u s2 M2 x2 I2 r1 r2 e3=>ho I2 r1.tt r2.tt e3 λs3 I3=>KR (k s3 M2 x2 I3)) (oE hb.pl)
def cmI {g:Int->Int->Bool}(rule:∀(i j:Int) (t u:Tok) (s:J5) (Q:J4->J5->Prop),Q (.bool (g i j)) s->WP X (compareOp op (.int i t) (.int j u)) Q s):CmS X op (λx y=>match x,y with|.int i,.int j=>U (g i j)|_,_=>B):=
 λ{M δ s x y v u c Q} I r1 r2 e k=>by
 cases x<;>try cases e
 cases y<;>try cases e
 let⟨t,rfl⟩:=r1;let⟨t',rfl⟩:=r2
 simp_all
def Iw:CmS X .Lt (λx y=>match x,y with|.int i,.int j=>U (gLt i j)|_,_=>B):=cmI λ_ _ _ _ _ _ q=>lt_int q
def Jk:CmS X .Gt (λx y=>match x,y with|.int i,.int j=>U (gGt i j)|_,_=>B):=cmI λ_ _ _ _ _ _ q=>gt_int q
def Jd:CmS X .GtE (λx y=>match x,y with|.int i,.int j=>U (gGe i j)|_,_=>B):=cmI λ_ _ _ _ _ _ q=>ge_int q
def HX {g:Int->Int->Bool}(ho:CmS X op (λx y=>match x,y with|.int i,.int j=>U (g i j)|_,_=>B)) (ha:DE X m a fa) (hb:DE X m' b fb):DT X (.Compare a [op] [b] pos) (λδ=>cI g (fa δ) (fb δ)):=zw ho ha hb
def oz (h:tyB x=U c):x=U (.bl c):=by unfold tyB at h;split at h<;>simp_all
def plT:Expr->Bool|.UnaryOp .Not .. =>Y|.BoolOp .. =>Y|.IfExp .. =>Y|.Compare .. =>Y|_=>V
def pW (h:plT e=V):isTrue e v t=(do let v <-t;standAt e.pos;holding [v] (truthy v)):=by
 cases e with
 |UnaryOp op x p=>cases op<;>first|rfl|cases h
 |_=>first|rfl|cases h
def GY (h:plT a=V) (ha:DE X m a fa):DT X a (λδ=>tyB (fa δ)):=λI e k=>
 Qc (ha.ev I (oz e) λv s1 M1 x1 I1 r1=>by cases r1;exact KR (k _ _ x1 I1)) (pW h)
variable{ga gb:DEnv->Wq Bool}{es:Ww Expr}{fs:DEnv->Wq (Ww D)}
def Hl (ha:DT X a ga):DW X op [a] ga:=λ{M δ s c Q} I e k=>by
 cases op
 ·exact JY (ha I e λs1 M1 x1 I1=>by cases c<;>exact JZ (k _ _ x1 I1))
 ·exact JY (ha I e λs1 M1 x1 I1=>by cases c<;>exact JZ (k _ _ x1 I1))
theorem G8 (ha:DT X a ga) (hb:DW X .And (b::es) gb):DW X .And (a::b::es) (λδ=>jC (ga δ) (gb δ)):=λ{M δ s c Q} I e k=>by
 cases q:ga δ with
 |none=>simp[jC,q]at e
 |some g=>
  simp![jC,q]at e;refine JY (ha I q λs1 M1 x1 I1=>?_)
  cases g
  ·cases e;exact JZ (k _ _ x1 I1)
  ·exact hb I1 e λs2 M2 x2=>k _ _ (x1.trans x2)
theorem Ij (ha:DT X a ga) (hb:DW X .Or (b::es) gb):DW X .Or (a::b::es) (λδ=>orO (ga δ) (gb δ)):=λ{M δ s c Q} I e k=>by
 cases q:ga δ with
 |none=>simp[orO,q]at e
 |some g=>
  simp![orO,q]at e;refine JY (ha I q λs1 M1 x1 I1=>?_)
  cases g
  ·exact hb I1 e λs2 M2 x2=>k _ _ (x1.trans x2)
  ·cases e;exact JZ (k _ _ x1 I1)
def Fk (h:DW X op es ga):DT X (.BoolOp op es pos) ga:=λI e k=>h I e k
theorem HU (ha:DT X a ga):DT X (.UnaryOp .Not a pos) (λδ=>eD (ga δ)):=λ{M δ s c Q} I e k=>by
 cases q:ga δ with
 |none=>simp[eD,q]at e
 |some g=>
  simp![eD,q]at e;cases e;exact isTrue_not (ha I q k)
def Fq {op:BoolOp}(ha:DE X mm a fa):DE X mm (.BoolOp op [a] pos) fa:=⟨rfl,λI e k=>BoolOp_one (ha.ev I e k)⟩
theorem E7 (ha:DE X m a fa) (hb:DE X mm (.BoolOp .And (b::es) pos) fb):DE X mm (.BoolOp .And (a::b::es) pos) (λδ=>B8 (fa δ) (fb δ)):=⟨rfl,λ{M δ s d Q} I e k=>by
 cases q:tyB (fa δ)with
 |none=>simp[B8,q]at e
 |some g=>
  simp![B8,q]at e;refine BoolOp_and (ha.ev I (oz q) λv s1 M1 x1 I1 r1=>?_)
  cases r1;refine KR ?_
  cases g
  ·cases e;exact k _ _ _ x1 I1 rfl
  ·exact hb.ev I1 e (Post.to k x1)⟩
theorem Ge {c:Expr}{fc:DEnv->Wq Bool}(hc:DT X c fc) (ha:DE X mm a fa) (hb:DE X mm b fb):DE X mm (.IfExp c a b pos) (λδ=>ifV (fc δ) (fa δ) (fb δ)):=⟨rfl,λ{M δ s d Q} I e k=>by
 cases q:fc δ with
 |none=>simp[ifV,q]at e
 |some g=>
  simp![ifV,q]at e;refine wpAny_IfExp (hc I q λs1 M1 x1 I1=>?_)
  cases g
  ·exact hb.ev I1 e (Post.to k x1)
  ·exact ha.ev I1 e (Post.to k x1)⟩
def fW (h:aa x y=U l):∃d ds,x=U d/\y=U ds/\l=d::ds:=by unfold aa at h;split at h<;>simp_all
def cW:DA X m [] (λ_=>U []):=⟨rfl,λI e k pos=>by cases e;exact LH (k [] _ _ Ext.refl I rfl)⟩
def aX (ha:DE X m a fa) (hr:DA X m es fs):DA X m (a::es) (λδ=>aa (fa δ) (fs δ)):=⟨by simp[ha.pl,hr.pl],λI e k pos=>by
 let⟨d,ds,e1,e2,rfl⟩:=fW e;rw[aU ha.pl];exact KZ (ha.ev I e1 λv s1 M1 x1 I1 r1=>hr.ev I1 e2 (λvs s2 M2 x2 I2 r2=>k (v::vs) _ _ (x1.trans x2) I2 ⟨v,vs,rfl,r1.up x2,r2⟩) pos)⟩
def Inv.newT (I:Inv X M δ s) (r:Rs m M ds vs) (h:ds.length<=lim) (k:Post X M δ m (.tup ds) Q):Q (.ref s.heap.objs.size) {s with heap:=s.heap.push {cls:=.type "tuple",data:=.seq vs.toArray},toks:=t}:=by
 let f:=I.fresh (Kh _);exact k _ _ _ (cb f.m) I.new ⟨_,_,vs,rfl,⟨.f,ao,rfl⟩,⟨by rw[<-r.length];exact ax h,rfl,_,rfl⟩,r.to (dT f.m)⟩
def Inv.newL (I:Inv X M δ s) (r:Rs Y M ds vs) (h:ds.length<=lim) (k:PostF X M δ (.lst ds) Q):Q (.ref s.heap.objs.size) {s with heap:=s.heap.push {cls:=.type "list",data:=.seq vs.toArray},toks:=t}:=
 k _ _ _ _ Ext.refl I.push (I.fresh (Kh _)) (J7 _ rfl) ⟨vs,⟨by rw[<-r.length];exact ax h,_,rfl⟩,r⟩
def GL {x1:Nat}(h:DA X m es fs):DE X m (.Tuple es x1 pos) (λδ=>bw (fs δ)):=⟨rfl,λI e k=>by
 let⟨ds,e1,e2⟩:=ai e;let⟨hl,rfl⟩:=eN e2;exact wpAny_Tuple_spliced (h.ev I e1 (λvs s1 M1 x1 I1 r1=>⟨by rw[<-r1.length];exact ax (of_decide_eq_true hl),I1.newT r1 (of_decide_eq_true hl) (Post.to k x1)⟩) pos)⟩
def HM (h:DA X Y es fs):DF X (.List es pos) (λδ=>bR (fs δ)):=⟨rfl,λI e k=>by
 let⟨ds,e1,e2⟩:=ai e;let⟨hl,rfl⟩:=eN e2;exact wpAny_List_spliced (h.ev I e1 (λvs s1 M1 x1 I1 r1=>⟨by rw[<-r1.length];exact ax (of_decide_eq_true hl),I1.newL r1 (of_decide_eq_true hl) (PostF.to k x1)⟩) pos)⟩
end
end L2
namespace L2
open PySem PySem.Spec PyProof.Rows Md
variable[Md]
def EN (h:okD n (.tup ds)=V):∃k,n=k+1/\ds.all (okD k)=V:=by cases n with|zero=>cases h|succ k=>exact⟨k,rfl,h⟩
def Fz (h:okD n (.lst ds)=V):∃k,n=k+1/\ds.all (okD k)=V:=by cases n with|zero=>cases h|succ k=>exact⟨k,rfl,h⟩
theorem shp (hd:okD n d=V) (r:R m M d u):(d=.non/\u=.none)\/(∃i t,d=.int i/\u=.int i t)\/(∃i t,d=.str i/\u=.str i t)\/
  (∃ds a o vs k,d=.tup ds/\u=.ref a/\n=k+1/\ds.all (okD k)=V/\Rd m M a o/\TupO o vs/\Rs m M ds vs)\/∃ds a o vs k,d=.lst ds/\u=.ref a/\n=k+1/\ds.all (okD k)=V/\Rd m M a o/\LstO o vs/\Rs m M ds vs:=by
 cases d with
 |non=>exact .inl ⟨rfl,r⟩
 |int i=>let⟨t,rfl⟩:=r;exact .inr (.inl ⟨_,_,rfl,rfl⟩)
 |str i=>let⟨t,rfl⟩:=r;exact .inr (.inr (.inl ⟨_,_,rfl,rfl⟩))
 |tup ds=>let⟨a,o,vs,rfl,r1,r2,r3⟩:=r;let⟨k,rfl,h⟩:=EN hd;exact .inr (.inr (.inr (.inl ⟨_,a,o,vs,k,rfl,rfl,rfl,h,r1,r2,r3⟩)))
 |lst ds=>let⟨a,o,vs,rfl,r1,r2,r3⟩:=r;let⟨k,rfl,h⟩:=Fz hd;exact .inr (.inr (.inr (.inr ⟨_,a,o,vs,k,rfl,rfl,rfl,h,r1,r2,r3⟩)))
 |_=>simp[okD]at hd
def Rd.eq (h:Rd m M a o) (h':Rd m' M a o'):o=o':=by let⟨_,e,_⟩:=h;let⟨_,e',_⟩:=h';lia
def TupO.inj (h:TupO o us) (h':TupO o vs):us=vs:=by let⟨_,_,n,e⟩:=h;let⟨_,_,n',e'⟩:=h';lia
def LstO.inj (h:LstO o us) (h':LstO o vs):us=vs:=by let⟨_,n,rfl⟩:=h;let⟨_,n',e'⟩:=h';lia
theorem Rs.inj' {n n':Nat}(f:∀{d e v},okD n d=V->okD n' e=V->R m M d v->R m' M e v->d=e):∀{ds es vs},ds.all (okD n)=V->es.all (okD n')=V->Rs m M ds vs->Rs m' M es vs->ds=es
 |[],es,_,_,_,r,r'=>by subst r;cases es with|nil=>rfl|cons e es=>let⟨_,_,z,_⟩:=r';cases z
 |d::ds,es,_,hd,he,r,r'=>by
  let⟨x,t,rfl,r1,r2⟩:=r;cases es with
  |nil=>cases r'
  |cons e es=>
   let⟨_,_,z,q1,q2⟩:=r';cases z;rw[KG,J9]at hd he;rw[f hd.1 he.1 r1 q1,Rs.inj' f hd.2 he.2 r2 q2]
def R.inj:∀{n n' d e v},okD n d=V->okD n' e=V->R m M d v->R m' M e v->d=e:=by
 intro n
 induction n using LB with
 |ind n ih=>
 intro n' d e v hd he r r'
 rcases shp hd r with⟨rfl,rfl⟩|⟨i,t,rfl,rfl⟩|⟨i,t,rfl,rfl⟩|⟨ds,a,o,vs,k,rfl,rfl,rfl,h1,q1,t1,r1⟩|⟨ds,a,o,vs,k,rfl,rfl,rfl,h1,q1,t1,r1⟩<;>rcases shp he r' with⟨rfl,z⟩|⟨j,t',rfl,z⟩|⟨j,t',rfl,z⟩|⟨es,b,o',us,k',rfl,z,_,h2,q2,t2,r2⟩|⟨es,b,o',us,k',rfl,z,_,h2,q2,t2,r2⟩<;>cases z<;>try rfl
 ·obtain rfl:=q1.eq q2;obtain rfl:=t1.inj t2;rw[Rs.inj' (ih k (LD k)) h1 h2 r1 r2]
 ·obtain rfl:=q1.eq q2;let⟨_,_,rfl⟩:=t2;exact absurd t1.2.1 (by simp)
 ·obtain rfl:=q1.eq q2;let⟨_,_,rfl⟩:=t1;exact absurd t2.2.1 (by simp)
 ·obtain rfl:=q1.eq q2;obtain rfl:=t1.inj t2;rw[Rs.inj' (ih k (LD k)) h1 h2 r1 r2]
abbrev Hm (M:Mp) (h:LF):Prop:=∀a k o,M a=U (k,o)->h.get? a=U o
def TupO.is (h:TupO o vs) (H:Hm M hp) (q:Rd m M a o):IsTup hp a vs.toArray:=by let⟨k,e,_⟩:=q;exact⟨o,H a k o e,h.2⟩
def LstO.is (h:LstO o vs) (H:Hm M hp) (q:Rd m M a o):hp.IsList a vs.toArray:=by let⟨k,e,_⟩:=q;let⟨_,n,rfl⟩:=h;exact⟨_,H a k _ e,rfl,n,rfl⟩
def LstO.pl (h:LstO o vs) (H:Hm M hp) (q:Rd m M a o):PlainL hp a vs.toArray:=by let⟨k,e,_⟩:=q;let⟨_,n,rfl⟩:=h;exact⟨_,n,H a k _ e,rfl,rfl,rfl⟩
def Dy:∀(ds es:Ww D),ds.length=es.length->((K1 ds.length).all λj=>decide (ds[j]?=es[j]?))=decide (ds=es):=by
 intro ds es hl;rw[ME,Kw,decide_eq_true_iff];constructor
 ·intro h
  refine Ng λj=>?_
  by_cases hj:j<ds.length
  ·exact of_decide_eq_true (h j (qae.mpr hj))
  ·simp_all
 lia
def DR (ds es:Ww D):(((K1 (min ds.length es.length)).all λj=>decide (ds[j]?=es[j]?))&&ds.length==es.length)=decide (ds=es):=by
 by_cases hl:ds.length=es.length
 ·rw[hl,Nat.min_self,beq_self_eq_true,MY,<-hl,Dy ds es hl]
 lia
open SeqAt in
theorem Ha {s:J5}{A:KH}{k:Nat}(ih:∀{d e u w},okD k d=V->okD k e=V->R m M d u->R m' M e w->EqAt A s u w (decide (d=e)))
  (hd:ds.all (okD k)=V) (he:es.all (okD k)=V) (r1:Rs m M ds us) (r2:Rs m' M es vs):∀j (h1:j<us.toArray.size) (h2:j<vs.toArray.size),EqAt A s us.toArray[j] vs.toArray[j] (decide (ds[j]?=es[j]?)):=λj h1 h2=>by
 let l1:=r1.length;let l2:=r2.length;simp![KO]at h1 h2;obtain⟨d,e1⟩:∃d,ds[j]?=U d:=⟨ds[j]'(by lia),by simp⟩
 obtain⟨e,e2⟩:∃e,es[j]?=U e:=⟨es[j]'(by lia),by simp⟩
 let⟨u,hu,ru⟩:=r1.get e1;let⟨v,hv,rv⟩:=r2.get e2;let q:=ih ((qab.mp hd) _ (Kv e1)) ((qab.mp he) _ (Kv e2)) ru rv
 simp_all
open SeqAt in
theorem CF {s:J5}(H:Hm M s.heap):∀(n:Nat) {d e u w} (A:KH),okD n d=V->okD n e=V->A.units+n+1<cLine->R m M d u->R m' M e w->
  RcAt A s u w (decide (d=e))/\EqAt A s u w (decide (d=e))/\RcNeAt A s u w (!decide (d=e)):=by
 intro n
 induction n using LB with
 |ind n ih=>
 intro d e u w A hd he hA rd re;let hu:A.units<cLine:=by lia
 rcases shp hd rd with⟨rfl,rfl⟩|⟨i,t',rfl,rfl⟩|⟨i,t',rfl,rfl⟩|⟨ds,a,o,vs,k,rfl,rfl,rfl,hd',q1,t1,hr⟩|⟨ds,a,o,vs,k,rfl,rfl,rfl,hd',q1,t1,hr⟩<;>rcases shp he re with⟨rfl,rfl⟩|⟨j,t,rfl,rfl⟩|⟨j,t,rfl,rfl⟩|⟨es,b,o2,us,k',rfl,rfl,z,he',q2,t2,hr2⟩|⟨es,b,o2,us,k',rfl,rfl,z,he',q2,t2,hr2⟩<;>(try have hta:=t1.is H q1)<;>try have htb:=t2.is H q2
 ·exact⟨RcAt.none_none,EqAt.same _,RcNeAt.none_none⟩
 ·exact⟨RcAt.none_int j t,EqAt.none_int j t,RcNeAt.none_int j t⟩
 ·exact⟨RcAt.none_str j t,EqAt.none_str j t,RcNeAt.none_str j t⟩
 ·exact⟨RcAt.none_tuple htb hu,EqAt.none_tuple htb hu,RcNeAt.none_tuple htb hu⟩
 ·exact⟨RcAt.none_list htb hu,EqAt.none_list htb hu,RcNeAt.none_list htb hu⟩
 ·exact⟨RcAt.int_none i t',EqAt.int_none i t',RcNeAt.int_none i t'⟩
 ·let q:decide (D.int i=D.int j)=(i==j):=by rw[ME,decide_eq_true_iff,beq_iff_eq,D.int.injEq]
  rw[q];exact⟨RcAt.int_int i t' j t,EqAt.int_int i t' j t,RcNeAt.int_int i t' j t⟩
 ·exact⟨RcAt.int_str i t' j t,EqAt.int_str i t' j t,RcNeAt.int_str i t' j t⟩
 ·exact⟨RcAt.int_tuple i t' htb hu,EqAt.int_tuple i t' htb hu,RcNeAt.int_tuple i t' htb hu⟩
 ·exact⟨RcAt.int_list i t' htb hu,EqAt.int_list i t' htb hu,RcNeAt.int_list i t' htb hu⟩
 ·exact⟨RcAt.str_none i t',EqAt.str_none i t',RcNeAt.str_none i t'⟩
 ·exact⟨RcAt.str_int i t' j t,EqAt.str_int i t' j t,RcNeAt.str_int i t' j t⟩
 ·let q:decide (D.str i=D.str j)=(i==j):=by rw[ME,decide_eq_true_iff,beq_iff_eq,D.str.injEq]
  rw[q];exact⟨RcAt.str_str i t' j t,EqAt.str_str i t' j t,RcNeAt.str_str i t' j t⟩
 ·exact⟨RcAt.str_tuple i t' htb hu,EqAt.str_tuple i t' htb hu,RcNeAt.str_tuple i t' htb hu⟩
 ·exact⟨RcAt.str_list i t' htb hu,EqAt.str_list i t' htb hu,RcNeAt.str_list i t' htb hu⟩
 ·exact⟨RcAt.tuple_none hta hu,EqAt.tuple_none hta hu,RcNeAt.tuple_none hta hu⟩
 ·exact⟨RcAt.tuple_int j t hta hu,EqAt.tuple_int j t hta hu,RcNeAt.tuple_int j t hta hu⟩
 ·exact⟨RcAt.tuple_str j t hta hu,EqAt.tuple_str j t hta hu,RcNeAt.tuple_str j t hta hu⟩
 ·cases z
  let el:=Ha (A:=A.in1) (λh1 h2 h3 h4=>(ih k (LD k) A.in1 h1 h2 (by show A.units+1+k+1<cLine;lia) h3 h4).2.1) hd' he' hr hr2
  let key:((K1 (min vs.toArray.size us.toArray.size)).all (λj=>decide (ds[j]?=es[j]?))&&vs.toArray.size==us.toArray.size)=decide (D.tup ds=D.tup es):=by
   rw[KO,KO,<-hr.length,<-hr2.length,DR];simp![D.tup.injEq]
  let rc:=RcAt.tuples hta htb hu el;let rn:=RcNeAt.tuples hta htb hu el;rw[key]at rc rn;refine⟨rc,?_,rn⟩
  by_cases hab:a=b
  ·subst hab;rw[decide_eq_true (R.inj hd he rd re)];exact EqAt.same _
  ·exact EqAt.of_refs hab rc
 ·exact⟨RcAt.tuple_list hta htb hu,EqAt.tuple_list hta htb hu,RcNeAt.tuple_list hta htb hu⟩
 ·exact⟨RcAt.list_none hta hu,EqAt.list_none hta hu,RcNeAt.list_none hta hu⟩
 ·exact⟨RcAt.list_int j t hta hu,EqAt.list_int j t hta hu,RcNeAt.list_int j t hta hu⟩
 ·exact⟨RcAt.list_str j t hta hu,EqAt.list_str j t hta hu,RcNeAt.list_str j t hta hu⟩
 ·exact⟨RcAt.list_tuple hta htb hu,EqAt.list_tuple hta htb hu,RcNeAt.list_tuple hta htb hu⟩
 ·cases z
  let el:=Ha (A:=A.in1) (λh1 h2 h3 h4=>(ih k (LD k) A.in1 h1 h2 (by show A.units+1+k+1<cLine;lia) h3 h4).2.1) hd' he' hr hr2
  let l1:=hr.length;let l3:=hr2.length;let hab:a=b->decide (D.lst ds=D.lst es)=V:=λq=>by subst q;exact decide_eq_true (R.inj hd he rd re)
  let fin:∀{c},RcAt A s (.ref a) (.ref b) c->(a=b->c=V)->EqAt A s (.ref a) (.ref b) c:=λrc h=>by
   by_cases q:a=b
   ·rw[h q];subst q;exact EqAt.same _
   ·exact EqAt.of_refs q rc
  by_cases hsz:vs.toArray.size=us.toArray.size
  ·let key:((K1 vs.toArray.size).all (λj=>decide (ds[j]?=es[j]?)))=decide (D.lst ds=D.lst es):=by
    rw[KO,<-l1,Dy _ _ (by simp_all)]
    simp![D.lst.injEq]
   let rc:=RcAt.lists hta htb hsz hu el;let rn:=RcNeAt.lists hta htb hsz hu el;rw[key]at rc rn;exact⟨rc,fin rc hab,rn⟩
  ·let hne:¬D.lst ds=D.lst es:=λz=>hsz (by simp;lia)
   let hb:(vs.toArray.size != us.toArray.size)=V:=by simpa using hsz
   rw[decide_eq_false hne]at hab⊢;let rc:=RcAt.lists_lengths hta htb hb hu;exact⟨rc,fin rc hab,RcNeAt.lists_lengths hta htb hb hu⟩
section
variable{X:Cx}{M:Mp}{δ:DEnv}{s:J5}{a b:Expr}{fa fb:DEnv->Wq D}{m m' mm:Bool}{pos:PA}
def Inv.un (I:Inv X M δ s):X.A.units+64<cLine:=by have:=I.ok.room.un;lia
def Ga:CmS X .Eq (λd e=>gd (ok2 d e) (decide (d=e))):=λI r1 r2 e k=>by
 let⟨h,rfl⟩:=eN e;rw[ok2,J9]at h;have:=I.un;exact(CF I.heap 16 X.A h.1 h.2 (by lia) r1 r2).1 P w _ _ (k _ I)
def ky (h:eD (b2 g x y)=U c):b2 (λd e=>eD (g d e)) x y=U c:=by
 cases x<;>cases y<;>first|cases h|exact h
theorem Ea:CmS X .NotEq (λd e=>eD (gd (ok2 d e) (decide (d=e)))):=λ{M δ s x y v u c Q} I r1 r2 e k=>by
 cases q:gd (ok2 x y) (decide (x=y))with
 |none=>simp[eD,q]at e
 |some g=>
  simp![eD,q]at e;cases e;let⟨h,rfl⟩:=eN q;rw[ok2,J9]at h;have:=I.un;exact(CF I.heap 16 X.A h.1 h.2 (by lia) r1 r2).2.2 P w _ _ (k _ I)
def IR (ha:DE X m a fa) (hb:DE X m' b fb):DE X mm (.Compare a [.Eq] [b] pos) (λδ=>ofB (eqO (fa δ) (fb δ))):=EB Ga ha hb
def IB (ha:DE X m a fa) (hb:DE X m' b fb):DT X (.Compare a [.Eq] [b] pos) (λδ=>eqO (fa δ) (fb δ)):=zw Ga ha hb
def Ix (ha:DE X m a fa) (hb:DE X m' b fb):DT X (.Compare a [.NotEq] [b] pos) (λδ=>neO (fa δ) (fb δ)):=λI e=>zw Ea ha hb I (ky e)
def Iy (ha:DE X m a fa) (hb:DE X m' b fb):DE X mm (.Compare a [.NotEq] [b] pos) (λδ=>ofB (neO (fa δ) (fb δ))):=⟨rfl,λI e=>by
 let⟨c,e1,rfl⟩:=pV e;exact(EB Ea ha hb).ev I (by rw[ky e1];rfl)⟩
def R.items (r:R m M e v) (h:cQ e=U es):∃a o vs,v=.ref a/\Rd m M a o/\(LstO o vs\/TupO o vs)/\Rs m M es vs:=by
 cases e with
 |lst ds=>cases h;let⟨a,o,vs,h1,h2,h3,h4⟩:=r;exact⟨a,o,vs,h1,h2,.inl h3,h4⟩
 |tup ds=>cases h;let⟨a,o,vs,h1,h2,h3,h4⟩:=r;exact⟨a,o,vs,h1,h2,.inr h3,h4⟩
 |_=>cases h
theorem Rs.mem:∀{ds vs},Rs m M ds vs->v∈vs->∃d∈ds,R m M d v
 |[],_,rfl,h=>nomatch h
 |d::ds,_,⟨x,r,rfl,h1,h2⟩,h=>by
  rcases on.mp h with rfl|h
  ·exact⟨d,.head _,h1⟩
  ·let⟨e,h3,h4⟩:=Rs.mem h2 h;exact⟨e,.tail _ h3,h4⟩
theorem Rs.mem':∀{ds vs},Rs m M ds vs->d∈ds->∃v∈vs,R m M d v
 |d::ds,_,⟨x,r,rfl,h1,h2⟩,h=>by
  rcases on.mp h with rfl|h
  ·exact⟨x,.head _,h1⟩
  ·let⟨e,h3,h4⟩:=Rs.mem' h2 h;exact⟨e,.tail _ h3,h4⟩
open Classical in
theorem HO {A:KH}(hu:A.units+64<cLine) (H:Hm M s.heap) (hd:okD 16 d=V) (he:es.all (okD 16)=V) (r1:R m M d v) (r2:Rs m' M es vs):∃g:J4->Bool,(∀y,y∈vs.toArray->Mj A.in1 s y v (g y))/\vs.toArray.any g=decide (d∈es):=by
 refine⟨λu=>decide (∃e,okD 16 e=V/\R m' M e u/\e=d),λu hu'=>?_,?_⟩
 ·let⟨e,h1,h2⟩:=r2.mem (show u∈vs by simp_all)
  let o:=(qab.mp he) e h1;let q:=(CF H 16 A.in1 o hd (by show A.units+1+16+1<cLine;lia) h2 r1).2.1
  dsimp only;rw[show decide (∃e,okD 16 e=V/\R m' M e u/\e=d)=decide (e=d) from decide_eq_decide.mpr ⟨λ⟨e',o',h',z⟩=>by rw[<-z];exact R.inj o o' h2 h',λz=>⟨e,o,h2,z⟩⟩]
  exact q
 ·rw[ME,decide_eq_true_iff,Array.any_eq_true']
  constructor
  ·rintro⟨u,hu',h⟩
   let⟨e,o,h2,rfl⟩:=of_decide_eq_true h;let⟨e',h3,h4⟩:=r2.mem (show u∈vs by simp_all)
   rw[R.inj o ((qab.mp he) e' h3) h2 h4];exact h3
  ·intro h
   let⟨u,h1,h2⟩:=r2.mem' h;exact⟨u,by simpa using h1,decide_eq_true ⟨d,hd,h2,rfl⟩⟩
def F8:CmS X .In (λd e=>ae (cQ e) λes=>gd (okD 16 d&&es.all (okD 16)) (decide (d∈es))):=λI r1 r2 e k=>by
 let⟨es,h1,h2⟩:=ai e;let⟨h,rfl⟩:=eN h2;rw[J9]at h;let⟨a,o,vs,rfl,q,t,rs⟩:=r2.items h1;let⟨g,g1,g2⟩:=HO I.un I.heap h.1 h.2 r1 rs
 rcases t with t|t
 ·exact SeqAt.in_listAt g (t.is I.heap q) g1 (by rw[g2];exact k _ I)
 ·exact SeqAt.in_tupleAt g (t.is I.heap q) g1 (by rw[g2];exact k _ I)
theorem CI:CmS X .NotIn (λd e=>eD (ae (cQ e) λes=>gd (okD 16 d&&es.all (okD 16)) (decide (d∈es)))):=λ{M δ s x y v u c Q} I r1 r2 e k=>by
 cases q:(ae (cQ y) λes=>gd (okD 16 x&&es.all (okD 16)) (decide (x∈es)))with
 |none=>simp[eD,q]at e
 |some g=>
  simp![eD,q]at e;cases e;let⟨es,h1,h2⟩:=ai q;let⟨h,rfl⟩:=eN h2;rw[J9]at h;let⟨a,o,vs,rfl,q,t,rs⟩:=r2.items h1;let⟨g,g1,g2⟩:=HO I.un I.heap h.1 h.2 r1 rs
  rcases t with t|t
  ·exact SeqAt.notIn_listAt g (t.is I.heap q) g1 (by rw[g2];exact k _ I)
  ·exact SeqAt.notIn_tupleAt g (t.is I.heap q) g1 (by rw[g2];exact k _ I)
def IW (ha:DE X m a fa) (hb:DE X m' b fb):DT X (.Compare a [.In] [b] pos) (λδ=>inO (fa δ) (fb δ)):=zw F8 ha hb
def Iz (ha:DE X m a fa) (hb:DE X m' b fb):DE X mm (.Compare a [.In] [b] pos) (λδ=>ofB (inO (fa δ) (fb δ))):=EB F8 ha hb
def BR (ha:DE X m a fa) (hb:DE X m' b fb):DT X (.Compare a [.NotIn] [b] pos) (λδ=>be (fa δ) (fb δ)):=λI e=>zw CI ha hb I (ky e)
end
end L2
namespace L2
open PySem PySem.Spec PyProof.Rows Md
variable[Md]
section
variable{X:Cx}{M M':Mp}{δ:DEnv}{s:J5}{Q:J4->J5->Prop}{a b:Expr}{es:Ww Expr}{fa fb:DEnv->Wq D}{fs:DEnv->Wq (Ww D)}{m m' mm:Bool}{p p2 pos apos cpos:PA}
structure Gb (X:Cx) (x:Kr):Prop where
 g:X.env.kindOf x=U .globalImplicit
 d:(x==("__debug__":Kr))=Y
structure Bn (X:Cx) (x:Kr):Prop where
 b:Gb X x
 m:mg x=B
 n:x≠"__name__"
def Inv.bltn {E:J4->J5->Prop}(I:Inv X M δ s) (g:Bn X x) (hv:bootBuiltins x=U u) (k:Q u s):wpAny (model P w) X.A (eval (.Name x p) X.env) Q E s:=by
 let⟨mb,h1,h2⟩:=I.ok.mod.blt;exact Qj I.ok.kind g.b.g (Calls.loadGlobal_builtin (by rw[I.ok.glob];exact I.ok.mod.glob.keeps I.bk) g.m (by rw[I.ok.blt];exact h1.keeps I.bk) ((h2 x g.n).trans hv) k) g.b.d
theorem lE:∀{es:Ww Expr},es.all plE=V->(backTo pos (starEach es v)).any (·.1)=Y
 |[],_=>rfl
 |e::es,h=>by
  rw[KG,J9]at h;rw[aU h.1];show(Y||(backTo pos (starEach es v)).any (·.1))=Y
  rw[lE h.2];rfl
theorem Dh:∀{es:Ww Expr},es.all plE=V->(backTo pos (starEach es v)).all (λx=>!x.1)=V
 |[],_=>rfl
 |e::es,h=>by
  rw[KG,J9]at h;rw[aU h.1];show(V&&(backTo pos (starEach es v)).all _)=V;rw[Dh h.2];rfl
def F7 {id:String}(g:Bn X x) (hv:bootBuiltins x=U (.builtin id)) (ha:DA X m (a::es) fs) (I:Inv X M δ s) (e:fs δ=U ds) (k:∀vs s' M',Ext M M'->Inv X M' δ s'->Rs m M' ds vs->WP X (call (.builtin id) vs) Q s'):WP X (eval (.Call (.Name x p) (a::es) [] pos) X.env) Q s:=by
 let h:=ha.pl;rw[KG,J9]at h;exact Lx (I.bltn g hv (LL (ha.ev I e k pos) (aU h.1) (lE h.2)))
def Dg {T:String}(g:Bn X x) (hv:bootBuiltins x=U (.type T)) (ha:DA X m (a::es) fs) (I:Inv X M δ s) (e:fs δ=U ds) (k:∀vs s' M',Ext M M'->Inv X M' δ s'->Rs m M' ds vs->WP X (call (.type T) vs) Q s'):WP X (eval (.Call (.Name x p) (a::es) [] pos) X.env) Q s:=by
 let h:=ha.pl;rw[KG,J9]at h;exact Lx (I.bltn g hv (NO (ha.ev I e k pos) (aU h.1) (lE h.2)))
def Rs.is1 (h:Rs m M [d] vs):∃v,vs=[v]/\R m M d v:=by let⟨v,r,rfl,h1,rfl⟩:=h;exact⟨v,rfl,h1⟩
def Rs.is2 (h:Rs m M [d,e] vs):∃v u,vs=[v,u]/\R m M d v/\R m M e u:=by let⟨v,r,rfl,h1,h2⟩:=h;let⟨u,rfl,h3⟩:=h2.is1;exact⟨v,u,rfl,h1,h3⟩
def gN {id:String}(g:Bn X x) (hv:bootBuiltins x=U (.builtin id)) (ha:DE X m a fa) (I:Inv X M δ s) (e:fa δ=U d) (k:∀v s' M',Ext M M'->Inv X M' δ s'->R m M' d v->WP X (call (.builtin id) [v]) Q s'):WP X (eval (.Call (.Name x p) [a] [] pos) X.env) Q s:=
 F7 g hv (aX ha cW) I (ds:=[d]) (by rw[e];rfl) λvs s1 M1 x1 I1 r=>by let⟨v,rfl,q⟩:=r.is1;exact k v s1 M1 x1 I1 q
def fH {T:String}(g:Bn X x) (hv:bootBuiltins x=U (.type T)) (ha:DE X m a fa) (I:Inv X M δ s) (e:fa δ=U d) (k:∀v s' M',Ext M M'->Inv X M' δ s'->R m M' d v->WP X (call (.type T) [v]) Q s'):WP X (eval (.Call (.Name x p) [a] [] pos) X.env) Q s:=
 Dg g hv (aX ha cW) I (ds:=[d]) (by rw[e];rfl) λvs s1 M1 x1 I1 r=>by let⟨v,rfl,q⟩:=r.is1;exact k v s1 M1 x1 I1 q
def zQ {id T:String}{name:Kr}{Z:Mp->J4->Prop}(pa:PlainAttrs T) (slot:Slot T name id) (hty:typeOf (.builtin id)=pure (.type "method_descriptor")) (l:(apos.endLine==cpos.line)=V) (pl:plE a=V) (hb:DA X m' (b::es) fs) (hn:es.length<20) (e2:fs δ=U ds)
  (ev:∀{Q':J4->J5->Prop},(∀v s1 M1,Ext M M1->Inv X M1 δ s1->Z M1 v->Q' v s1)->WP X (eval a X.env) Q' s)
  (ht:∀{M:Mp}{s:J5}{v},Hm M s.heap->Z M v->s.TypeIs v T/\∀a,v=.ref a->∃ob,s.heap.get? a=U ob/\ob.dict=B) (zx:∀{M M' v},Ext M M'->Z M v->Z M' v)
  (k:∀v vs s' M',Ext M M'->Inv X M' δ s'->Z M' v->Rs m' M' ds vs->WP X (call (.builtin id) (v::vs)) Q s'):WP X (eval (.Call (.Attribute a name apos) (b::es) [] cpos) X.env) Q s:=by
 let h:=hb.pl;let h':=h;rw[KG,J9]at h';refine wpAny_Call_method_late (Ax pl) (by rw[Dh h];show decide (es.length+1+0+0<30)=V;exact decide_eq_true (by lia)) l rfl (ev λv s1 M1 x1 I1 r1=>?_)
 let⟨h1,h2⟩:=ht I1.heap r1;refine⟨T,id,pa,slot,hty,h1,h2,?_⟩
 let hA:=hb.ev I1 e2 (λvs s2 M2 x2 I2 r2=>k v vs s2 M2 (x1.trans x2) I2 (zx x2 r1) r2) cpos
 rw[aU h'.1]at hA⊢;exact QN (by show(Y||(backTo cpos (starEach es X.env)).any (·.1))=Y;rw[lE h'.2];rfl) (Q8 hA)
def yj {id T:String}{name:Kr}(pa:PlainAttrs T) (slot:Slot T name id) (hty:typeOf (.builtin id)=pure (.type "method_descriptor")) (l:(apos.endLine==cpos.line)=V) (ha:DE X m a fa) (hb:DA X m' (b::es) fs) (hn:es.length<20) (I:Inv X M δ s) (e:fa δ=U d) (e2:fs δ=U ds)
  (ht:∀{M:Mp}{s:J5}{v},Hm M s.heap->R m M d v->s.TypeIs v T/\∀a,v=.ref a->∃ob,s.heap.get? a=U ob/\ob.dict=B)
  (k:∀v vs s' M',Ext M M'->Inv X M' δ s'->R m M' d v->Rs m' M' ds vs->WP X (call (.builtin id) (v::vs)) Q s'):WP X (eval (.Call (.Attribute a name apos) (b::es) [] cpos) X.env) Q s:=
 zQ pa slot hty l ha.pl hb hn e2 (ha.ev I e) ht (λx r=>r.up x) k
def qk:(sizeLine:Nat)<2 ^ 63:=by decide +kernel
def Hm.len {E:J4->J5->Prop}{A:KH}(H:Hm M s.heap) (q:Rd m M c o) (t:LstO o vs\/TupO o vs) (k:∀t t',Q (.int vs.length t) {s with toks:=t'}):wpAny (model P w) A (call (.builtin "len") [.ref c]) Q E s:=by
 let hn:=qk
 rcases t with t|t
 ·let z:=t.1;exact Calls.call_len_list (t.is H q) (by simp![KO];lia) (by simp_all)
 ·let z:=t.1;exact len_tuple (t.is H q) (by simp![KO];lia) (by simp_all)
def Fw (g:Bn X "len") (ha:DE X m a fa):DE X mm (.Call (.Name "len" p) [a] [] pos) (λδ=>cK (fa δ)):=⟨rfl,λI e k=>by
 let⟨d,e1,e2⟩:=ai e;let⟨ds,e3,e4⟩:=ai e2;cases e4;refine gN g PySem.boot_len ha I e1 λv s1 M1 x1 I1 r=>?_
 let⟨c,o,vs,rfl,q,t,rs⟩:=r.items e3;exact Hm.len I1.heap q t λ_ _=>k _ _ _ x1 I1.tok ⟨_,by rw[rs.length]⟩⟩
nonrec theorem EM (g:Bn X "len") (ha:DE X m a fa):DE X mm (.Call (.Name "len" p) [a] [] pos) (λδ=>FV (fa δ)):=⟨rfl,λI e k=>by
 let⟨d,e1,e2⟩:=ai e;split at e2<;>try cases e2
 split at e2<;>cases e2
 rename_i z hz;refine gN g PySem.boot_len ha I e1 λv s1 M1 x1 I1 r=>?_
 let⟨t,rfl⟩:=r;let hn:=qk;have:=ax hz;exact len_str (by lia) (k _ _ _ x1 I1.tok ⟨_,rfl⟩)⟩
def Es {n:Nat}(h:ixN n i=U j):seqIndex? i n=U j/\j<n/\ -(n:Int)<=i/\i<n:=by
 unfold ixN at h;split at h<;>split at h<;>cases h
 ·exact⟨by rw[seqIndex_of (by assumption) (by assumption)],by lia,by lia,by assumption⟩
 ·exact⟨by rw[seqIndex_neg (by lia) (by assumption)],by lia,by assumption,by lia⟩
def zW {α:Type}{xs:Ww α}{v:α}(h:atI xs i=U v):∃j,seqIndex? i xs.length=U j/\xs[j]?=U v/\j<xs.length/\ -(xs.length:Int)<=i/\i<xs.length:=by
 let⟨j,e,h⟩:=Option.bind_eq_some_iff.mp h;let⟨h1,h2,h3,h4⟩:=Es e;exact⟨j,h1,h,h2,h3,h4⟩
def uw {α:Type}{xs:Ww α}{j:Nat}{v:α}(h:xs[j]?=U v):atI xs (j:Int)=U v:=by
 let hj:=(List.getElem?_eq_some_iff.mp h).1
 unfold atI ixN;simp_all
def Hm.item {E:J4->J5->Prop}{A:KH}{va sl:Expr}(H:Hm M s.heap) (q:Rd m M c o) (t:LstO o vs\/TupO o vs) (h:atI vs i=U x) (hs:subscripted sl Y (.ref c) (.int i tk)=operate [.ref c,.int i tk] (getItem (.ref c) (.int i tk))) (k:Q x s):wpAny (model P w) A (subscriptTail va sl (.ref c) (.int i tk)) Q E s:=by
 let⟨j,h1,h2,h3,h4,h5⟩:=zW h;let hn:=qk
 rcases t with t|t
 ·let z:=t.1;let pl:=t.is H q
  by_cases h0:0<=i
  ·rw[seqIndex_of h0 h5]at h1;cases h1
   exact item_listR pl h0 (by lia) (by simpa using h2) k hs
  ·rw[seqIndex_neg (by lia) h4]at h1;cases h1
   exact subscriptTail_builtinR (x:=x) pl.typeIs slot_list_getitem.lookup (wpAny_getItem_list_neg (Q:=λr s'=>r=x/\Q r s') pl (by lia) (by simp;lia) (by lia) (by simpa using h2) ⟨rfl,k⟩) hs
 ·let z:=t.1;let pl:=t.is H q
  exact subscriptTail_builtinR (x:=x) pl.typeIs slot_tuple_getitem.lookup (getItem_tuple (j:=j) (Q:=λr s'=>r=x/\Q r s') pl (by lia) (by lia) (by trivial) (by simpa using h2) ⟨rfl,k⟩) hs
def Rs.atI (r:Rs m M ds vs) (h:atI ds i=U d):∃v,L2.atI vs i=U v/\R m M d v:=by
 let⟨j,e,h⟩:=Option.bind_eq_some_iff.mp h;let⟨v,h1,h2⟩:=r.get h;exact⟨v,by unfold L2.atI;rw[<-r.length,e];exact h1,h2⟩
def Jc (ha:DE X m a fa) (hb:DE X m' b fb):DE X m (.Subscript a b pos) (λδ=>ixO (fa δ) (fb δ)):=⟨rfl,λI e k=>O8 (two (f:=subscriptTail a b) ha hb I e λx y v u s2 M2 x2 I2 r1 r2 e3=>by
 split at e3<;>try cases e3
 let⟨ds,e4,e5⟩:=ai e3;let⟨c,o,vs,rfl,q,t,rs⟩:=r1.items e4;let⟨tk,rfl⟩:=r2;let⟨v,h1,h2⟩:=rs.atI e5;exact Hm.item I2.heap q t h1 (sd hb.pl) (k _ _ _ x2 I2 h2))⟩
nonrec theorem Hq (ha:DE X m a fa) (hb:DE X m' b fb):DE X mm (.Subscript a b pos) (λδ=>Co (fa δ) (fb δ)):=⟨rfl,λI e k=>O8 (two (f:=subscriptTail a b) ha hb I e λx y v u s2 M2 x2 I2 r1 r2 e3=>by
 split at e3<;>try cases e3
 split at e3<;>try cases e3
 rename_i z i hz;let⟨c,e4,e5⟩:=ai e3;cases e5;let⟨t,rfl⟩:=r1;let⟨t',rfl⟩:=r2;let⟨j,h1,h2,h3,h4,h5⟩:=zW e4;let hl:z.cps.toList.length=z.length:=by simp[Str.length]
 rw[hl]at h1 h4 h5;let hn:=qk;have:=ax hz;exact tail_any (typeIs_str s2 z t) slot_str_getitem.lookup (getItem_str (c:=c) (by lia) (by rw[h1];simpa using h2) (k _ _ _ x2 I2.tok ⟨_,rfl⟩)) (sd hb.pl))⟩
def DO (X:Cx) (e:Wq Expr) (f:DEnv->Wq (Wq Int)):Prop:=∀{M δ s o} {Q:J4->J5->Prop},Inv X M δ s->f δ=U o->(∀v s' M',Ext M M'->Inv X M' δ s'->IsPart v o->Q v s')->WP X (evalPart e X.env) Q s
def FC:DO X B (λ_=>U B):=λI e k=>by cases e;exact JZ (k _ _ _ Ext.refl I .none)
def Fl (h:DE X m a fa):DO X (U a) (λδ=>bQ (fa δ)):=λ{M δ s o Q} I e k=>by
 unfold bQ at e;dsimp only at e;split at e<;>cases e
 exact h.ev I (by assumption) λv s1 M1 x1 I1 r=>by let⟨t,rfl⟩:=r;exact k _ _ _ x1 I1 (.int _ t)
variable{lo hi:Wq Expr}{fl fh:DEnv->Wq (Wq Int)}
def v3 {g:D->Wq Int->Wq Int->Wq D}(ha:DE X m a fa) (hl:DO X lo fl) (hh:DO X hi fh) (I:Inv X M δ s) (e:b3 g (fa δ) (fl δ) (fh δ)=U d)
  (k:∀x l u v vl vu c s' M',Ext M M'->Inv X M' δ s'->R m M' x v->s'.heap.IsSliceOf c vl vu .none->IsPart vl l->IsPart vu u->g x l u=U d->∃T id,typeLookup (.type T) "__getitem__"=pure (U (.builtin id))/\s'.TypeIs v T/\WP X (getItem v (.ref c)) Q s'):
  WP X (eval (.Subscript a (.Slice lo hi B p2) pos) X.env) Q s:=by
 let⟨x,e1,e2⟩:=ai e;let⟨l,e2,e3⟩:=ai e2;let⟨u,e3,e4⟩:=ai e3;refine O8 (ha.ev I e1 λv s1 M1 x1 I1 r1=>wpAny_Slice (hl I1 e2 λvl s2 M2 x2 I2 p1=>hh I2 e3 λvu s3 M3 x3 I3 p2=>JZ ?_))
 let⟨T,id,h1,h2,h3⟩:=k x l u v vl vu s3.heap.objs.size _ _ ((x1.trans x2).trans x3) I3.push (r1.up (x2.trans x3)) (Heap.IsSliceOf.new ..) p1 p2 e4;exact tail_any (ops:=[.ref s3.heap.objs.size,v]) h2 h1 h3 (by rfl)
def ou (x:Kr) (lo hi:Wq Int):(rp x lo hi).length<=x.length:=by
 unfold rp;split
 ·exact Kh _
 ·exact Kf (Me _ _) (sliceIndices_le lo hi x.length)
def Ab (h:IsPart v o):∃l:Wq (Int×Tok),v=partValue l/\l.map (·.1)=o:=by
 cases h with
 |none=>exact⟨B,rfl,rfl⟩
 |int i t=>exact⟨U (i,t),rfl,rfl⟩
nonrec theorem E8 (ha:DE X m a fa) (hl:DO X lo fl) (hh:DO X hi fh):DE X mm (.Subscript a (.Slice lo hi B p2) pos) (λδ=>mA (fa δ) (fl δ) (fh δ)):=⟨rfl,λI e k=>v3 ha hl hh I e λx l u v vl vu c s' M' x1 I1 r hs p1 p2 e4=>by
 split at e4<;>try cases e4
 split at e4<;>cases e4
 rename_i z hz;let⟨t,rfl⟩:=r;let⟨l,rfl,rfl⟩:=Ab p1;let⟨u,rfl,rfl⟩:=Ab p2;refine⟨"str",_,F.slot_str_getitem.lookup,typeIs_str _ z t,wpAny_getItem_str_slice (l:=l) (u:=u) (st:=B) hs rfl ?_⟩
 rw[show(sliceMade z t l u B)=if((MR (l.map (·.1)) (u.map (·.1)) 1 z.length).length==z.length)=V then Made.val (.str z t) else Made.str ⟨((MR (l.map (·.1)) (u.map (·.1)) 1 z.length).filterMap (z.cps[·]?)).toArray⟩ by
  rfl]
 refine post_val_or_made (λhc=>?_) λt' tk=>k _ _ _ x1 I1.tok ⟨t',rfl⟩
 let hle:=ou z (l.map (·.1)) (u.map (·.1))
 unfold rp at hle;rw[if_neg hc]at hle;exact Kf hle (ax hz)⟩
def rX (lo hi:Wq Int) (n:Nat):(sliceBounds lo hi B n).1=((sIx n 0 lo:Nat):Int)/\(sliceBounds lo hi B n).2.1=((sIx n n hi:Nat):Int)/\(sliceBounds lo hi B n).2.2=1:=by
 refine⟨?_,?_,rfl⟩
 ·cases lo with
  |none=>rfl
  |some i=>simp![sliceBounds,sIx,Option.getD_none,show(1:Int)>0 by decide,if_true];by_cases h:i<0<;>simp![h,if_true,if_false]<;>lia
 ·cases hi with
  |none=>rfl
  |some i=>simp![sliceBounds,sIx,Option.getD_none,show(1:Int)>0 by decide,if_true];by_cases h:i<0<;>simp![h,if_true,if_false]<;>lia
def pH (its:Ww J4) (lo hi:Wq Int):slicePick its.toArray lo hi B=(sP its lo hi).toArray:=by
 let⟨h1,h2,h3⟩:=rX lo hi its.toArray.size;unfold slicePick sP;rw[h1,h2,h3];simp![sliceRange_one,pick_run,KO]<;>rfl
def BE {α:Type}(xs:Ww α):(sP xs l u).length<=xs.length:=by unfold sP;simp;lia
def Rs.cut (r:Rs m M ds vs):Rs m M (sP ds l u) (sP vs l u):=by unfold sP;rw[r.length];exact(r.drop _).take _
def EW (ha:DE X Y a fa) (hl:DO X lo fl) (hh:DO X hi fh):DF X (.Subscript a (.Slice lo hi B p2) pos) (λδ=>iw (fa δ) (fl δ) (fh δ)):=⟨rfl,λI e k=>v3 ha hl hh I e λx l u v vl vu c s' M' x1 I1 r hs p1 p2 e4=>by
 split at e4<;>cases e4
 let⟨c',o,vs,rfl,q,t,rs⟩:=r;let z:=t.1;refine⟨"list",_,slot_list_getitem.lookup,(t.is I1.heap q).typeIs,wpAny_getItem_list_slice (t.is I1.heap q) hs p1 p2 .none (by simp) ?_ (by simp;lia)⟩
 rw[pH];exact k _ _ _ _ x1 (I1.push (t:=s'.toks)) (I1.fresh (Kh _)) (J7 _ rfl) ⟨_,⟨Kf (BE _) z,_,rfl⟩,rs.cut⟩⟩
end
end L2
namespace L2
open PySem PySem.Spec PyProof.Rows PySem.W Md
variable[Md]
section
variable{X:Cx}{M M':Mp}{δ:DEnv}{s:J5}{Q:J4->J5->Prop}{a b:Expr}{es:Ww Expr}{fa fb:DEnv->Wq D}{fs:DEnv->Wq (Ww D)}{m m' mm:Bool}{p p2 pos apos cpos:PA}
def Eu (g:Bn X "list") (ha:DE X Y a fa):DF X (.Call (.Name "list" p) [a] [] pos) (λδ=>iS (fa δ)):=⟨rfl,λI e k=>by
 let⟨d,e1,e2⟩:=ai e;let⟨ds,e3,e4⟩:=ai e2;cases e4;refine fH g (by rfl:bootBuiltins "list"=U (.type "list")) ha I e1 λv s1 M1 x1 I1 r=>?_
 let⟨c,o,vs,rfl,q,t,rs⟩:=r.items e3;let fin:vs.length<=sizeLine->∀(h':LF) (n:Nat),(∀b o',s1.heap.get? b=U o'->h'.get? b=U o')->h'.get? s1.heap.objs.size=U {cls:=.type "list",dict:=B,data:=.seq vs.toArray n,slots:=#[]}->_:=λz h' n kp e=>
  k s1.heap.objs.size _ {s1 with heap:=h'} M1 x1 (I1.kp kp) (I1.fresh (Kh _)) e ⟨vs,⟨z,n,rfl⟩,rs⟩
 rcases t with t|t
 ·let z:=t.1;let⟨o,ho,hc,n,hd⟩:=t.is I1.heap q
  exact call_list_seq c (.inl rfl) ho hc hd (fin z) (by simp;lia)
 ·let z:=t.1;let⟨o,ho,hc,n,hd⟩:=t.is I1.heap q
  exact call_list_seq c (.inr rfl) ho hc hd (fin z) (by simp;lia)⟩
def Inv.newT' (I:Inv X M δ s) (r:Rs m M ds vs) (z:vs.length<=sizeLine) (k:Post X M δ m (.tup ds) Q) {s':J5}(hk:∀b o,s.heap.get? b=U o->s'.heap.get? b=U o) (hg:s'.os=s.os/\s'.gens=s.gens) (e:s'.heap.get? c=U o) (hc:s.heap.objs.size<=c) (t:TupO o vs):Q (.ref c) s':=by
 let f:=I.fresh hc;exact k _ _ _ (cb f.m) ((I.kp hk hg).put f e) ⟨_,_,vs,rfl,⟨.f,ao,rfl⟩,t,r.to (dT f.m)⟩
def BA (g:Bn X "tuple") (ha:DE X m a fa):DE X m (.Call (.Name "tuple" p) [a] [] pos) (λδ=>cL (fa δ)):=⟨rfl,λI e k=>by
 let⟨d,e1,e2⟩:=ai e;let⟨ds,e3,e4⟩:=ai e2;cases e4;refine fH g (by rfl:bootBuiltins "tuple"=U (.type "tuple")) ha I e1 λv s1 M1 x1 I1 r=>?_
 let⟨c,o,vs,rfl,q,t,rs⟩:=r.items e3
 rcases t with t|t
 ·let z:=t.1
  refine call_tuple_list (t.is I1.heap q) (λh' kp=>?_) (by simp;lia)
  exact(I1.kp (s':={s1 with heap:=h'}) kp).newT' rs z (Post.to k x1) (λb o e=>J0 _ e) ⟨rfl,rfl⟩ (J7 _ rfl) (Kh _) ⟨z,rfl,_,rfl⟩
 ·exact call_tuple_same (t.is I1.heap q) (k _ _ _ x1 I1 ⟨c,o,vs,rfl,q,t,rs⟩)⟩
def E1 (ha:DE X m a fa) (hb:DE X m' b fb):DE X mm (.BinOp a .Add b pos) (λδ=>Hi (fa δ) (fb δ)):=yM (λI r1 r2 e k=>by
 split at e<;>try cases e
 split at e<;>cases e
 let⟨t,rfl⟩:=r1;let⟨t',rfl⟩:=r2;exact add_str (λt' tk=>k _ _ _ Ext.refl I.tok ⟨_,rfl⟩) (ax (by assumption))) ha hb
def TupO.obj (t:TupO o vs) (H:Hm M s.heap) (q:Rd m M c o):∃dd n sl,s.heap.get? c=U ⟨.type "tuple",dd,.seq vs.toArray n,sl⟩:=by
 let⟨k,e,_⟩:=q;let⟨_,h1,n,h2⟩:=t;let⟨c,dd,data,sl⟩:=o;cases h1;cases h2;exact⟨dd,n,sl,H _ _ _ e⟩
nonrec theorem Cz (ha:DE X m a fa) (hb:DE X m b fb):DE X m (.BinOp a .Add b pos) (λδ=>BW (fa δ) (fb δ)):=⟨rfl,λI e k=>QA (two ha hb I e λx y v u s2 M2 x2 I2 r1 r2 e3=>by
 split at e3<;>try cases e3
 split at e3<;>cases e3
 rename_i ds es hz;let r1':=r1;let r2':=r2;let⟨c,o,vs,rfl,q,t,rs⟩:=r1;let⟨c',o',vs',rfl,q',t',rs'⟩:=r2;let⟨dd,n,sl,ho⟩:=t.obj I2.heap q;let⟨dd',n',sl',ho'⟩:=t'.obj I2.heap q';let l1:=rs.length;let l2:=rs'.length
 by_cases hv:vs=[]
 ·obtain rfl:ds=[]:=by simp_all
  exact Qd ⟨_,ho,rfl⟩ ⟨_,ho',rfl⟩ Qt seq_tuple_add Oq Og (Ob _ _) (tuple_addW0 c c' vs.toArray vs'.toArray n n' dd dd' sl sl' (by simp[hv])) ⟨ho,ho',k _ _ _ x2 I2 r2'⟩
 ·by_cases hw:vs'=[]
  ·obtain rfl:es=[]:=by simp_all
   exact Qd ⟨_,ho,rfl⟩ ⟨_,ho',rfl⟩ Qt seq_tuple_add Oq Og (Ob _ _) (tuple_addW1 c c' vs.toArray vs'.toArray n n' dd dd' sl sl' (by simpa using hv) (by simp[hw])) ⟨ho,ho',k _ _ _ x2 I2 (by rw[Ls];exact r1')⟩
  ·refine Qd ⟨_,ho,rfl⟩ ⟨_,ho',rfl⟩ Qt seq_tuple_add Oq Og (Ob _ _) (tuple_addW2 c c' vs.toArray vs'.toArray n n' dd dd' sl sl' (by simpa using hv) (by simpa using hw) (by simp_all [ax])) ⟨ho,ho',?_⟩
   rw[show vs.toArray++vs'.toArray=(vs++vs').toArray by simp]
   exact I2.newT (rs.append rs') (by simpa using hz) (Post.to k x2))⟩
def zU (l:Kp) (items:Array J4) (n:Nat) (b:Kp) (items2:Array J4) (n2:Nat) (s1 s2:Array (Wq J4)) (hc0:items.size+items2.size<=sizeLine):
  Meets (NK.«list.__add__» ⟨[.ref l,.ref b],[]⟩) (λ_ R s=>s.heap.get? l=U ⟨.type "list",B,.seq items n,s1⟩/\s.heap.get? b=U ⟨.type "list",B,.seq items2 n2,s2⟩/\R (.ok (.ret (O0 s.heap.objs.size))) {s with heap:=s.heap.push {cls:=LP "list",data:=Data.seq (items++items2)}}):=
 .of_wp λprog w A R s h=>by
  let⟨hl,hb,h⟩:=h;let f3:=AutoSeq1.sub_list_list;wp_walk using P7 hl,P7 hb;exact⟨_,rfl,h⟩
def LstO.obj (t:LstO o vs) (H:Hm M s.heap) (q:Rd m M c o):∃n,s.heap.get? c=U {cls:=.type "list",data:=.seq vs.toArray n}:=by
 let⟨k,e,_⟩:=q;let⟨_,n,rfl⟩:=t;exact⟨n,H _ _ _ e⟩
def Da {ds ls:Ww D}(I:Inv X M δ s) (r1:R m M (.lst ds) v) (r2:R m' M (.lst ls) u) (hz:ds.length+ls.length<=lim) (k:∀vs vs',Rs m M ds vs->Rs m' M ls vs'->Q (.ref s.heap.objs.size) {s with heap:=s.heap.push {cls:=.type "list",data:=.seq (vs++vs').toArray}}):WP X (binaryOp .Add v u) Q s:=by
 let⟨c,o,vs,rfl,q,t,rs⟩:=r1;let⟨c',o',vs',rfl,q',t',rs'⟩:=r2;let⟨n,ho⟩:=t.obj I.heap q;let⟨n',ho'⟩:=t'.obj I.heap q';let l1:=rs.length;let l2:=rs'.length;refine Qd ⟨_,ho,rfl⟩ ⟨_,ho',rfl⟩ noFill_list_add seq_list_add F.slot_list_add F.entry_list_add (F.args_list_add_2 _ _) (zU c vs.toArray n c' vs'.toArray n' #[] #[] (by simp_all [ax])) ⟨ho,ho',?_⟩
 simp_all
nonrec theorem HH (ha:DE X Y a fa) (hb:DE X Y b fb):DF X (.BinOp a .Add b pos) (λδ=>mn (fa δ) (fb δ)):=⟨rfl,λI e k=>QA (two ha hb I e λx y v u s2 M2 x2 I2 r1 r2 e3=>by
 split at e3<;>try cases e3
 split at e3<;>cases e3
 rename_i hz;exact Da I2 r1 r2 hz λvs vs' h1 h2=>I2.newL (h1.append h2) (by simpa using hz) (PostF.to k x2))⟩
mutual
theorem R.flat (ho:∀a i o,M a=U (.o i,o)->Ow o):∀{d v},d.flat=V->R m M d v->R Y M d v
 |.non,v,_,h=>by exact h
 |.bl b,v,_,h=>by exact h
 |.int i,v,_,h=>by exact h
 |.str x,v,_,h=>by exact h
 |.tup ds,v,f,h=>by
  let⟨a,o,vs,e,⟨k,q,hk⟩,t,rs⟩:=h;refine⟨a,o,vs,e,rdf.mpr ?_,t,Rs.flat ho f rs⟩
  cases k with
  |f=>exact q
  |p=>cases hk
  |o i=>exact absurd t.2.1 (ho _ _ _ q).1
 |.lst ds,v,f,_=>by cases f
 |.dK _ _,v,f,_=>by cases f
 |.dD _ _,v,f,_=>by cases f
 |.ptr _,v,f,_=>by cases f
 |.any,v,f,_=>by cases f
theorem Rs.flat (ho:∀a i o,M a=U (.o i,o)->Ow o):∀{ds vs},D.flats ds=V->Rs m M ds vs->Rs Y M ds vs
 |[],vs,_,h=>by exact h
 |d::ds,vs,f,h=>by
  simp![D.flats,J9]at f;let⟨x,r,hx,h1,h2⟩:=h;exact⟨x,r,hx,R.flat ho f.1 h1,Rs.flat ho f.2 h2⟩
end
nonrec theorem Eh (ha:DE X m a fa) (hb:DE X m' b fb):DF X (.BinOp a .Add b pos) (λδ=>my (fa δ) (fb δ)):=⟨rfl,λI e k=>QA (two ha hb I e λx y v u s2 M2 x2 I2 r1 r2 e3=>by
 split at e3<;>try cases e3
 split at e3<;>cases e3
 rename_i hz;rw[J9,J9,decide_eq_true_eq]at hz;exact Da I2 r1 r2 hz.1 λvs vs' h1 h2=>I2.newL ((Rs.flat I2.own hz.2.1 h1).append (Rs.flat I2.own hz.2.2 h2)) (by simpa using hz.1) (PostF.to k x2))⟩
def GV (ha:DE X m a fa):DE X mm (.UnaryOp .USub a pos) (λδ=>Aq (fa δ)):=⟨rfl,λ{M δ s d Q} I e k=>by
 unfold Aq at e;split at e<;>cases e
 exact UnaryOp_ (ha.ev I (by assumption) λv s1 M1 x1 I1 r=>by let⟨t,rfl⟩:=r;exact neg_int (k _ _ _ x1 I1.tok ⟨_,rfl⟩))⟩
theorem F5 {c:Kr}{cs:String}{pc:PA}(hc:cs="list"\/cs="tuple") (g:Bn X "isinstance") (gc:Bn X c) (hv:bootBuiltins c=U (.type cs)) (ha:DE X m a fa):DE X mm (.Call (.Name "isinstance" p) [a,.Name c pc] [] pos) (λδ=>FX cs (fa δ)):=⟨rfl,λI e k=>by
 let⟨d,e1,e2⟩:=ai e;let⟨t,e3,e4⟩:=ai e2;cases e4;refine Lx (I.bltn g (by rfl:bootBuiltins "isinstance"=U (.builtin "isinstance")) (LL ?_ (aU ha.pl) rfl))
 rw[aU ha.pl];refine KZ (ha.ev I e1 λv s1 M1 x1 I1 r=>KZ (I1.bltn gc hv (LH ?_)))
 let kit:∀(T:String),(T="list"\/T="tuple")->OJ K (.type T) (.type cs)=U (IZ T cs):=λT hT=>by
  rcases hc with rfl|rfl<;>rcases hT with rfl|rfl<;>rfl
 let fin:∀tk,_:=λtk=>k (.bool (IZ t cs)) {s1 with toks:=tk} M1 x1 I1.tok rfl
 cases d with
 |tup ds=>
  cases e3;let⟨a,o,vs,rfl,q,t,_⟩:=r;let⟨o,h1,h2,_⟩:=t.is I1.heap q;exact My QZ I1.kIn ⟨o,h1,h2⟩ (kit _ (by simp)) (λz=>nomatch z) fin
 |lst ds=>
  cases e3;let⟨a,o,vs,rfl,q,t,_⟩:=r;let⟨o,h1,h2,_⟩:=t.is I1.heap q;exact My Pf I1.kIn ⟨o,h1,h2⟩ (kit _ (by simp)) (λz=>nomatch z) fin
 |_=>cases e3⟩
nonrec theorem nZ:∀{ds} {ns:Ww Kr},wx ds=U ns->ds=ns.map D.str
 |[],ns,h=>by cases h;rfl
 |d::ds,ns,h=>by
  cases d<;>simp![wx]at h<;>try cases h
  split at h<;>cases h
  rename_i q;rw[nZ q];rfl
nonrec theorem nh:∀{ds} {bs:Ww Bool},xj ds=U bs->ds=bs.map D.bl
 |[],bs,h=>by cases h;rfl
 |d::ds,bs,h=>by
  cases d<;>simp![xj]at h<;>try cases h
  split at h<;>cases h
  rename_i q;rw[nh q];rfl
theorem Rs.strs:∀{ns:Ww Kr}{vs},Rs m M (ns.map D.str) vs->StrsAre vs ns
 |[],_,h=>by subst h;exact .nil
 |n::ns,_,h=>by let⟨x,r,rfl,⟨t,rfl⟩,h2⟩:=h;exact .cons n t (Rs.strs h2)
theorem Rs.bols:∀{bs:Ww Bool}{vs},Rs m M (bs.map D.bl) vs->vs=bs.map L7
 |[],_,h=>h
 |n::ns,_,h=>by let⟨x,r,rfl,h1,h2⟩:=h;rw[h1,Rs.bols h2];rfl
def He {v:J4}(H:Hm M s.heap) (r:R m M (.lst ds) v):s.TypeIs v "list"/\∀a,v=.ref a->∃ob,s.heap.get? a=U ob/\ob.dict=B:=by
 let⟨a,o,vs,rfl,q,t,_⟩:=r;let⟨n,ho⟩:=t.obj H q;exact⟨(t.is H q).typeIs,λb e=>by cases e;exact⟨_,ho,rfl⟩⟩
nonrec theorem EU (ha:DE X m a fa) (hb:DE X m' b fb) (l:(apos.endLine==cpos.line)=V):DE X mm (.Call (.Attribute a "join" apos) [b] [] cpos) (λδ=>A7 (fa δ) (fb δ)):=⟨rfl,λI e k=>by
 let⟨x,y,e1,e2,e3⟩:=jg e;split at e3<;>try cases e3
 let⟨ys,e4,e5⟩:=ai e3;split at e5<;>cases e5
 rename_i z ds hl;obtain rfl:=nZ e4;refine yj PySem.F.plainAttrs_str PySem.F.slot_str_join PySem.F.type_str_join l ha (aX hb cW) (by decide) I e1 (ds:=[_]) (by rw[e2];rfl) (λ_ r=>?_) λv vs s1 M1 x1 I1 r1 r2=>?_
 ·let⟨t,rfl⟩:=r;exact⟨typeIs_str _ z t,λ_ e=>nomatch e⟩
 ·let⟨t,rfl⟩:=r1
  let⟨u,rfl,r3⟩:=r2.is1;let⟨c,o,vs,rfl,q,t,rs⟩:=r3;exact join_list (t.is I1.heap q) (by simpa using rs.strs) hl λt' tk=>k _ _ _ x1 I1.tok ⟨t',rfl⟩⟩
nonrec theorem A4 (ha:DE X m a fa) (hb:DE X m' b fb) (l:(apos.endLine==cpos.line)=V):DE X mm (.Call (.Attribute a "index" apos) [b] [] cpos) (λδ=>H9 (fa δ) (fb δ)):=⟨rfl,λI e k=>by
 let⟨x,y,e1,e2,e3⟩:=jg e;split at e3<;>try cases e3
 split at e3<;>cases e3
 rename_i ds hc;let⟨o1,o2,hj,hz⟩:=hc;refine yj MK PySem.F.slot_list_index PySem.F.type_list_index l ha (aX hb cW) (by decide) I e1 (ds:=[_]) (by rw[e2];rfl) He λv us s1 M1 x1 I1 r1 r2=>?_
 let⟨u,rfl,r3⟩:=r2.is1;let⟨c,o,vs,rfl,q,t,rs⟩:=r1;let⟨n,ho⟩:=t.obj I1.heap q;let hl:=rs.length;let un:=I1.un;obtain⟨g,g1,g2⟩:∃g:J4->Bool,(∀y,y∈vs.toArray->Mj X.A.in1 s1 y u (g y))/\∀i (h:i<vs.length),g vs[i]=decide (ds[i]'(by lia)=y):=by
  classical
  refine⟨λu=>decide (∃e,okD 16 e=V/\R m M1 e u/\e=y),λz hz=>?_,λi h=>?_⟩
  ·let⟨d',h1,h2⟩:=rs.mem (show z∈vs by simp_all)
   let o':=(qab.mp o2) d' h1;dsimp only;rw[show decide (∃e,okD 16 e=V/\R m M1 e z/\e=y)=decide (d'=y) from decide_eq_decide.mpr ⟨λ⟨e',o3,h',w⟩=>by rw[<-w];exact R.inj o' o3 h2 h',λw=>⟨d',o',h2,w⟩⟩]
   exact(CF I1.heap 16 X.A.in1 o' o1 (by show X.A.units+1+16+1<cLine;lia) h2 r3).2.1
  ·let⟨v,h1,h2⟩:=rs.get (i:=i) (d:=ds[i]'(by lia)) (by simp)
   let h3:vs[i]=v:=by simpa[h]using h1
   let o':=(qab.mp o2) _ (LC (show i<ds.length by lia))
   rw[h3];exact decide_eq_decide.mpr ⟨λ⟨e',o3,h',w⟩=>by rw[<-w];exact R.inj o' o3 h2 h',λw=>⟨_,o',h2,w⟩⟩
 refine Oo F.slot_list_index ⟨_,ho,rfl⟩ F.entry_list_index (F.args_list_index_2 _ _) (SeqAt.list_indexAt c vs.toArray n B #[] u g (ds.idxOf y) (by simp;lia) ?_ ?_ ?_) ⟨ho,g1,k _ _ _ x1 I1.tok ⟨_,rfl⟩⟩
 ·have:lim<2 ^ 63 - 1:=by decide +kernel
  lia
 ·simp_all
 ·intro i hi hlt
  rw[List.getElem_toArray,g2 i (by simpa using hi)]
  simpa using QQ (p:=λz=>z==y) (xs:=ds) (i:=i) hlt⟩
def zf {bs:Ww Bool}(I:Inv X M δ s) (r:R m M (.lst (bs.map D.bl)) v):∃c,v=.ref c/\s.heap.IsList c (bs.map L7).toArray:=by
 let⟨c,o,vs,rfl,q,t,rs⟩:=r;rw[rs.bols]at t;exact⟨c,rfl,t.is I.heap q⟩
def Ht {bs:Ww Bool}{E:J4->J5->Prop}{A:KH}{R:Bool->J5->Prop}(h:(bs.map L7).toArray[i]?=U v) (k:R (bs.getD i Y) s):wpAny (model P w) A (truthy v) R E s:=by
 rw[Mx,Ky]at h
 cases q:bs[i]? with
 |none=>simp[q]at h
 |some b=>simp[q]at h;subst h;exact KR (by simp_all)
def zC {h':LF}(hk:∀b o,b∉[s.heap.objs.size]->(s.heap.push ob).get? b=U o->h'.get? b=U o):∀b o,s.heap.get? b=U o->h'.get? b=U o:=λb o e=>hk b o (λz=>by
 rw[MU]at z;rw[z]at e;exact absurd (Kc e) (K3 _)) (J0 _ e)
nonrec theorem HL (g:Bn X "any") (ha:DE X m a fa):DE X mm (.Call (.Name "any" p) [a] [] pos) (λδ=>H7 (fa δ)):=⟨rfl,λ{M δ s d Q} I e k=>by
 unfold H7 at e;split at e<;>try cases e
 let⟨bs,e3,e4⟩:=ai e;cases e4;obtain rfl:=nh e3;rename_i q;refine gN g boot_any ha I q λv s1 M1 x1 I1 r=>?_
 let⟨c,rfl,hl⟩:=zf I1 r;let hne:=KF (by let⟨o,e,_⟩:=hl;exact Kc e)
 refine call_any_walk (L4 hl ⟨s1.heap.objs.size,_,_,_,_,_,λi=>bs.getD i Y,rfl,Pe (A:=X.A.in1) I1.ok.room.hd s1.heap.objs.size c hne _,⟨⟨_,J7 _ rfl,rfl,rfl⟩,hl.push _⟩,λi v s' Q' E' hv hQ'=>Ht hv hQ',λh' tk hk=>?_⟩)
 rw[show(K1 (bs.map L7).toArray.size).any (λi=>bs.getD i Y)=bs.any id by
  rw[KO,J8,ME,PX,PX];constructor
  ·rintro⟨i,hi,h1⟩
   let hi':=qae.mp hi;exact⟨bs[i],LC hi',by simpa[hi']using h1⟩
  ·rintro⟨x,hx,h1⟩
   let⟨i,hi,rfl⟩:=qah.mp hx;exact⟨i,qae.mpr hi,by simpa[hi]using h1⟩]
 exact k _ _ _ x1 (I1.kp (s':={s1 with heap:=h',toks:=tk}) (zC hk)) rfl⟩
def nV:J4->Bool|.none=>V|_=>Y
def xU (r:R m M d v):decide (d=.non)=nV v:=by
 cases d<;>simp![R]at r<;>first|(subst r;rfl)|(let⟨_,rfl⟩:=r;rfl)|(let⟨_,_,_,rfl,_⟩:=r;rfl)|(let⟨_,_,_,_,rfl,_⟩:=r;rfl)
def Rs.emp (rs:Rs m M ds vs):(!ds.isEmpty)=!vs.toArray.isEmpty:=by have:=rs.length;cases ds<;>cases vs<;>simp_all
theorem GX (ha:DE X m a fa):DT X (.Compare a [.Is] [.Constant .none j p] pos) (λδ=>wX (fa δ)):=λ{M δ s c Q} I e k=>by
 cases q:fa δ with
 |none=>simp[wX,q]at e
 |some d=>
  simp![wX,q]at e;cases e;exact Nk (ha.ev I q λv s1 M1 x1 I1 r=>Constant_none (is_none_gen (KR (by rw[xU r]at k;cases v<;>exact k _ _ x1 I1)))) rfl
theorem Fe (ha:DE X m a fa):DT X (.Compare a [.IsNot] [.Constant .none j p] pos) (λδ=>eD (wX (fa δ))):=λ{M δ s c Q} I e k=>by
 cases q:fa δ with
 |none=>simp[wX,eD,q]at e
 |some d=>
  simp![wX,eD,q]at e;cases e;exact Nk (ha.ev I q λv s1 M1 x1 I1 r=>Constant_none (isnot_none_gen (KR (by rw[xU r]at k;cases v<;>exact k _ _ x1 I1)))) rfl
nonrec theorem H4 (h:plT a=V) (ha:DE X m a fa):DT X a (λδ=>AB (fa δ)):=λ{M δ s c Q} I e k=>by
 let hs:=qk;cases q:fa δ with
 |none=>simp[AB,q]at e
 |some d=>
  refine Qc (ha.ev I q λv s1 M1 x1 I1 r=>?_) (pW h)
  simp![AB,q]at e;cases d<;>dsimp only at e<;>try cases e
  ·cases r;exact truthy_none (k _ _ x1 I1)
  ·cases r;exact KR (k _ _ x1 I1)
  ·let⟨t,rfl⟩:=r;exact PySem.P.truthy_int (k _ _ x1 I1)
  ·split at e<;>cases e
   rename_i hz;have:=ax hz;let⟨t,rfl⟩:=r;exact PySem.P.truthy_str (by lia) (k _ _ x1 I1.tok)
  ·let⟨c,o,vs,rfl,q,t,rs⟩:=r
   let z:=t.1;exact truthy_tuple (t.is I1.heap q) (by simp![KO];lia) (by rw[<-rs.emp];exact k _ _ x1 I1.tok)
  ·let⟨c,o,vs,rfl,q,t,rs⟩:=r
   let z:=t.1;exact wpAny_truthy_list (t.is I1.heap q) (by simp![KO];lia) (by rw[<-rs.emp];exact k _ _ x1 I1.tok)
end
end L2
namespace L2
open PySem PySem.Spec PyProof.Rows Md
variable[Md]
def Rn (X:Cx) (M:Mp) (s:J5) (d:D) (v:J4):Prop:=∃a o,v=.ref a/\s.heap.get? a=U o/\C M d o/\(Free X M a\/∃i,M a=U (.o i,o))
def Tr (X:Cx) (M:Mp) (s:J5):Ww D->Ww J4->Prop
 |[],vs=>vs=[]
 |d::ds,vs=>∃v r,vs=v::r/\((sN d=Y/\R Y M d v)\/(sN d=V/\Rn X M s d v))/\Tr X M s ds r
def Ret (X:Cx) (M:Mp) (s:J5) (d:D) (v:J4):Bool->Prop
 |false=>R Y M d v
 |true=>Rn X M s d v\/∃ds t o vs,d=.tup ds/\v=.ref t/\M t=U (.f,o)/\TupO o vs/\Tr X M s ds vs
def OutP (X:Cx) (M:Mp) (Q:Flow->J5->Prop):Out->Prop
 |.next δ=>∀s' M',Sx M M'->Inv X M' δ s'->Q .next s'
 |.brk δ=>∀s' M',Sx M M'->Inv X M' δ s'->Q .brk s'
 |.cont δ=>∀s' M',Sx M M'->Inv X M' δ s'->Q .cont s'
 |.ret d fr=>∀v s' M' δ,Sx M M'->Inv X M' δ s'->Ret X M' s' d v fr->Q (.ret v) s'
def DS (X:Cx) (st:Lr) (g:DEnv->Wq Out):Prop:=∀{M δ s o} {Q:Flow->J5->Prop},Inv X M δ s->g δ=U o->OutP X M Q o->WP X (exec st X.env) Q s
def DSs (X:Cx) (st:Ww Lr) (g:DEnv->Wq Out):Prop:=∀{M δ s o} {Q:Flow->J5->Prop},Inv X M δ s->g δ=U o->OutP X M Q o->WP X (execs st X.env) Q s
section
variable{X:Cx}{M M':Mp}{δ:DEnv}{s:J5}{a b c:Expr}{es:Ww Expr}{fa fb:DEnv->Wq D}{fs:DEnv->Wq (Ww D)}{m m' mm:Bool}{p p2 pos pos' px apos cpos:PA}{st:Lr}{rest:Ww Lr}{g g1 g2:DEnv->Wq Out}{fc:DEnv->Wq Bool}{Q:Flow->J5->Prop}
def OutP.to (h:OutP X M Q o) (x:Sx M M'):OutP X M' Q o:=by
 cases o with
 |next δ=>exact λs' M'' y=>h s' M'' (x.trans y)
 |brk δ=>exact λs' M'' y=>h s' M'' (x.trans y)
 |cont δ=>exact λs' M'' y=>h s' M'' (x.trans y)
 |ret d fr=>exact λv s' M'' δ y=>h v s' M'' δ (x.trans y)
def FG:DSs X [] nextO:=λI e k=>by cases e;exact Ll (k _ _ Sx.refl I)
theorem g9 (h1:DS X st g1) (h2:DSs X rest g2):DSs X (st::rest) (λδ=>ak (g1 δ) g2):=λ{M δ s o Q} I e k=>by
 cases q:g1 δ with
 |none=>simp[q,ak]at e
 |some o1=>
  simp![q,ak]at e;refine K8 (h1 I q ?_)
  cases o1 with
  |next δ1=>exact λs1 M1 x1 I1=>h2 I1 e (k.to x1)
  |brk δ1=>cases e;exact k
  |cont δ1=>cases e;exact k
  |ret d fr=>cases e;exact k
def Fx (h:DS X st g):DSs X [st] g:=λ{M δ s o Q} I e k=>K8 (h I e (by cases o with|next δ=>exact λs1 M1 x1 I1=>Ll (k _ _ x1 I1)|_=>exact k))
nonrec theorem EV (i:Nat) (h:∃x,Nm X i x) (nd:X.N.Nodup) (hs:DSs X rest g):DSs X rest (λδ=>g (jP i δ)):=λ{M δ s o Q} I e k=>by
 let⟨x,h⟩:=h;unfold jP at e;dsimp only at e;split at e
 ·exact hs I e k
 ·rename_i d hd e1
  let⟨M',h1,h2,h3,I'⟩:=I.frz e1 h.n h.v nd λds z=>hd ds (by rw[<-z])
  exact hs I' e (k.to ⟨h1,λa o q=>(h2 a o).mp q,λa o q=>(h2 a o).mpr q⟩)
 ·exact hs I e k
theorem IX {x y:Ww Lr}(hc:DT X c fc) (ha:DSs X x g1) (hb:DSs X y g2):DS X (.If c x y pos) (λδ=>ifO (fc δ) (g1 δ) (g2 δ)):=λ{M δ s o Q} I e k=>by
 cases q:fc δ with
 |none=>simp[ifO,q]at e
 |some t=>
  simp![ifO,q]at e;refine Pu (hc I q λs1 M1 x1 I1=>?_)
  cases t
  ·exact hb I1 e (k.to x1.sx)
  ·exact ha I1 e (k.to x1.sx)
def lj (h:aE i x δ=U o):∃d,x=U d/\o=.next (δ.set i (U (d,Y))):=by unfold aE at h;split at h;split at h<;>simp_all;cases h
def qn (h:dF i x δ=U o):∃d,x=U d/\o=.next (δ.set i (U (d,V))):=by unfold dF at h;split at h;split at h<;>simp_all;cases h
def D7 (hx:Lc X i x) (ha:DE X Y a fa) (hs:swapsWith a (U (.Name x pos')) pos.line X.env=pure Y):DS X (.Assign [.Name x pos'] a pos) (λδ=>aE i (fa δ) δ):=λI e k=>by
 let⟨d,e1,rfl⟩:=lj e;exact Mq (ha.ev I e1 λv s1 M1 x1 I1 r=>I1.store hx (b:=Y) r λs2 _ I2 _ _=>k _ _ x1.sx I2) hs
def Bd (hx:Lc X i x) (ha:DF X a fa) (hs:swapsWith a (U (.Name x pos')) pos.line X.env=pure Y):DS X (.Assign [.Name x pos'] a pos) (λδ=>dF i (fa δ) δ):=λI e k=>by
 let⟨d,e1,rfl⟩:=qn e;exact Mq (ha.ev I e1 λa o s1 M1 x1 I1 f q c=>I1.setOwn f q c hx λs2 M2 _ I2 h1 h2 _ _ _=>k _ _ (x1.sx.trans ⟨h1,λa o q=>(h2 a o).mp q,λa o q=>(h2 a o).mpr q⟩) I2) hs
theorem Gi (ha:DE X Y a fa):DS X (.Return (U a) pos) (λδ=>bp (fa δ)):=λ{M δ s o Q} I e k=>by
 cases q:fa δ with
 |none=>simp[bp,q]at e
 |some d=>simp![bp,q]at e;cases e;exact NQ (ha.ev I q λv s1 M1 x1 I1 r=>k v _ _ _ x1.sx I1 r)
theorem EO (ha:DF X a fa):DS X (.Return (U a) pos) (λδ=>bH (fa δ)):=λ{M δ s o Q} I e k=>by
 cases q:fa δ with
 |none=>simp[bH,q]at e
 |some d=>simp![bH,q]at e;cases e;exact NQ (ha.ev I q λa o s1 M1 x1 I1 f h c=>k _ _ _ _ x1.sx I1 (.inl ⟨a,o,rfl,h,c,.inl f⟩))
def aK (h:aN i δ=U d):δ[i]?=U (U (d,V)):=by unfold aN at h;split at h<;>simp_all
def vh (h:aN i δ=U d) (ds:Ww D):d≠.tup ds:=by
 unfold aN at h;split at h<;>simp_all
def Ti.tr (h:Ti M n i ds vs) (H:∀a k o,M a=U (k,o)->s.heap.get? a=U o):Tr X M s ds vs:=by
 induction ds generalizing vs with
 |nil=>exact h
 |cons d ds ih=>
  let⟨v,r,rfl,h,t⟩:=h;exact⟨v,r,rfl,h.imp id λ⟨z,a,o,j,e,_,q,c⟩=>⟨z,a,o,e,H _ _ _ q,c,.inr ⟨j,q⟩⟩,ih t⟩
theorem CA (h:Nm X i x):DS X (.Return (U (.Name x px)) pos) (λδ=>bH (aN i δ)):=λ{M δ s o Q} I e k=>by
 cases q:aN i δ with
 |none=>simp[bH,q]at e
 |some d=>
  simp![bH,q]at e;cases e;exact NQ (Mh (I.load h (aK q) λv r=>k _ _ _ _ Sx.refl I (r.imp (λ⟨a,o,e,q,c⟩=>⟨a,o,e,I.heap _ _ _ q,c,.inr ⟨i,q⟩⟩) λ⟨ds,t,o,vs,h1,h2,h3,h4,h5⟩=>⟨ds,t,o,vs,h1,h2,h3,h4,h5.tr I.heap⟩)) h.d)
def HG (hx:Lc X i x) (h:Nm X i x) (ha:DE X Y a fa):DS X (.AugAssign (.Name x pos') .Add a pos) (λδ=>aE i (cw (rd Y i δ) (fa δ)) δ):=λI e k=>by
 let⟨d,e1,rfl⟩:=lj e;let⟨x,y,e4,e2,e3⟩:=jg e1;cases x<;>try cases e3
 cases y<;>try cases e3
 let⟨o,h1,h2⟩:=yi e4;refine wpAny_AugAssign_Name (I.load h h1 λv r=>ha.ev I e2 λu s1 M1 x1 I1 r1=>?_)
 let r0:=r.rep (m:=V) λ_=>rfl
 let⟨t,rfl⟩:=r0;let⟨t',rfl⟩:=r1;exact iadd_int (I1.tok.store hx (b:=Y) (d:=.int _) ⟨_,rfl⟩ λs2 _ I2 _ _=>k _ _ x1.sx I2)
def DG (X:Cx) (tg:Expr) (τ:D->DEnv->Wq DEnv):Prop:=∀{M δ s d v δ'} {Q:Unit->J5->Prop},Inv X M δ s->R Y M d v->τ d δ=U δ'->(∀s',Inv X M δ' s'->Q () s')->WP X (assign tg X.env v) Q s
def DGs (X:Cx) (ts:Ww Expr) (τ:Ww D->DEnv->Wq DEnv):Prop:=∀{M δ s ds vs δ'} {Q:Unit->J5->Prop},Inv X M δ s->Rs Y M ds vs->τ ds δ=U δ'->(∀s',Inv X M δ' s'->Q () s')->WP X (assignInOrder ((assignEach ts X.env).map (·.2)) vs) Q s
def dO (h:af i d δ=U δ'):δ'=δ.set i (U (d,Y)):=by unfold af at h;split at h<;>simp_all
def Bz (hx:Lc X i x):DG X (.Name x pos) (af i):=λI r e k=>by
 obtain rfl:=dO e;exact OB (I.store hx (b:=Y) r λs' _ I' _ _=>k s' I')
theorem EQ:DGs X [] toNil:=λ{M δ s ds vs δ' Q} I r e k=>by
 cases ds with
 |nil=>cases e;exact assignInOrder_nil (k _ I)
 |cons d ds=>cases e
def plG:Expr->Bool|.Starred .. =>Y|_=>V
def yb (h:plG e=V):assignEach (e::es) v=(Y,assign e v)::assignEach es v:=by cases e<;>first|rfl|cases h
theorem AX {e:Expr}{τ:D->DEnv->Wq DEnv}{υ:Ww D->DEnv->Wq DEnv}(hp:plG e=V) (h1:DG X e τ) (h2:DGs X es υ):DGs X (e::es) (ah τ υ):=λ{M δ s ds vs δ' Q} I r e k=>by
 cases ds with
 |nil=>cases e
 |cons d ds=>
  let⟨δ1,e1,e2⟩:=ai e;let⟨v,r,rfl,r1,r2⟩:=r;rw[yb hp];exact assignInOrder_cons (h1 I r1 e1 λs1 I1=>h2 I1 r2 e2 k)
def aJ {τ:D->DEnv->Wq DEnv}{υ:Ww D->DEnv->Wq DEnv}{n:Nat}(h:∀ds δ δ',υ ds δ=U δ'->ds.length=n) (ds:Ww D) (δ δ':DEnv) (e:ah τ υ ds δ=U δ'):ds.length=n+1:=by
 cases ds with
 |nil=>cases e
 |cons d ds=>let⟨δ1,_,e2⟩:=ai e;rw[Kl,h _ _ _ e2]
def iR (ds:Ww D) (δ δ':DEnv) (e:toNil ds δ=U δ'):ds.length=0:=by cases ds with|nil=>rfl|cons d ds=>cases e
def GH {k:Nat}{υ:Ww D->DEnv->Wq DEnv}{n:Nat}(h:DGs X es υ) (hl:∀ds δ δ',υ ds δ=U δ'->ds.length=n) (hn:(assignEach es X.env).length=n) (hst:(assignEach es X.env).findIdx? (·.1)=B):DG X (.Tuple es k pos) (aB υ):=λ{M δ s d v δ' Q} I r e k=>by
 cases d<;>try cases e
 let⟨a,o,vs,rfl,q,t,rs⟩:=r;refine assign_Tuple_tuple I.ok.room.hd (t.is I.heap q) (by simp[hn,<-hl _ _ _ e,rs.length]) hst λh' hx=>?_
 exact h (I.kp (s':={s with heap:=h'}) λb o e=>hx b o (KF (Kc e)) e) (by simpa using rs) e k
nonrec theorem zu {tg:Expr}{τ:D->DEnv->Wq DEnv}(ha:DE X Y a fa) (hg:DG X tg τ) (hp:plG tg=V) (hs:swapsWithSole [tg] a pos.line X.env=pure Y) (hw:swappedStores [tg] a X.env=pure B):DS X (.Assign [tg] a pos) (λδ=>Ib (fa δ) τ δ):=λ{M δ s o Q} I e k=>by
 unfold Ib at e;dsimp only at e;split at e<;>try cases e
 split at e<;>cases e
 rename_i d e1 _ δ' e2;refine wpAny_Assign_stores (ha.ev I e1 λv s1 M1 x1 I1 r=>?_) hs hw
 rw[yb hp];exact hg I1 r e2 λs2 I2=>k _ _ x1.sx I2
def B9 {id T:String}{name:Kr}{Q:J4->J5->Prop}(pa:PlainAttrs T) (slot:Slot T name id) (hty:typeOf (.builtin id)=pure (.type "method_descriptor")) (l:(apos.endLine==cpos.line)=V) (h:Nm X i x) (hb:DA X m' (b::es) fs) (hn:es.length<20) (I:Inv X M δ s) (e:δ[i]?=U (U (d,V))) (e2:fs δ=U ds)
  (ht:∀{M:Mp}{o},C M d o->o.cls=.type T/\o.dict=B)
  (k:∀a o vs s' M',Ext M M'->Inv X M' δ s'->M' a=U (.o i,o)->C M' d o->Rs m' M' ds vs->WP X (call (.builtin id) (.ref a::vs)) Q s') (hd:∀ds,d≠.tup ds:=by nofun):WP X (eval (.Call (.Attribute (.Name x px) name apos) (b::es) [] cpos) X.env) Q s:=
 zQ (Z:=λM v=>∃a o,v=.ref a/\M a=U (.o i,o)/\C M d o) pa slot hty l rfl hb hn e2 (λkk=>Mh (I.load h e λv r=>kk v _ _ Ext.refl I (r.own hd)) h.d) (λH z=>by
  let⟨a,o,rfl,q,c⟩:=z;exact⟨⟨o,H _ _ _ q,(ht c).1⟩,λb e=>by cases e;exact⟨o,H _ _ _ q,(ht c).2⟩⟩) (λx ⟨a,o,e,q,c⟩=>⟨a,o,e,(x a).elim (λw=>w.trans q) λw=>(by rw[w.1]at q;cases q),c.to x.sub⟩) λv vs s' M' x I' z r=>by
  let⟨a,o,rfl,q,c⟩:=z;exact k a o vs s' M' x I' q c r
def uV {M:Mp}(c:C M (.lst ds) o):o.cls=.type "list"/\o.dict=B:=by let⟨vs,⟨_,n,rfl⟩,_⟩:=c;exact⟨rfl,rfl⟩
def GK:Ow {cls:=.type "list",data:=.seq vs n}:=⟨by simp,λ_ z=>nomatch z⟩
def Inv.lset {c:Kp}{vs us:Ww J4}{n:Nat}{f:Array J4->Array J4}{t:Nat}(I:Inv X M δ s) (h:Nm X i x) (nd:X.N.Nodup) (e:δ[i]?=U (U (.lst ds,V))) (q:M c=U (.o i,{cls:=.type "list",data:=.seq vs.toArray n})) (hf:f vs.toArray=us.toArray) (r:Rs Y M ds' us) (hz:ds'.length<=lim):
  ∃M',Inv X M' (δ.set i (U (.lst ds',V))) {s with heap:=s.heap.update c (Kx f),toks:=t}/\Sx M M':=by
 let g:=Pg (I.heap _ _ _ q) f;rw[hf]at g;let⟨h1,h2,h3⟩:=I.chg (s':={s with heap:=s.heap.update c (Kx f),toks:=t}) e h.n h.v nd q (λb ob z w=>(Ki s.heap (Kx f) (Kt z)).trans w) g GK (d':=.lst ds') ⟨us,⟨by rw[<-r.length];exact ax hz,_,rfl⟩,r⟩
 exact⟨_,h1,h2,λa o=>(h3 a o).mp,λa o=>(h3 a o).mpr⟩
def Inv.quiet (I:Inv X M δ s):interactive X.env=Y:=by simp[interactive,I.ok.kind]
nonrec theorem ww (h:Nm X i x) (nd:X.N.Nodup) (ha:DE X Y a fa) (l:(apos.endLine==cpos.line)=V):DS X (.Expr (.Call (.Attribute (.Name x px) "append" apos) [a] [] cpos) pos) (λδ=>jb i (fa δ) δ):=λ{M δ s o Q} I e k=>by
 unfold jb at e;dsimp only at e;split at e<;>try cases e
 split at e<;>cases e
 rename_i ds d e1 e2 hl;refine Pw (B9 MK PR Qh l h (aX ha cW) (by decide) I (aK e1) (ds:=[d]) (by rw[e2];rfl) uV λa o vs s1 M1 x1 I1 q c r=>?_) I.quiet rfl
 let⟨u,rfl,r1⟩:=r.is1;let⟨vs,⟨z,n,rfl⟩,rs⟩:=c;let hq:=I1.heap _ _ _ q;let hl1:=rs.length;let⟨M2,I2,x2⟩:=I1.lset (f:=λa=>a.push u) (us:=vs++[u]) (t:=s1.toks) h nd (aK e1) q (by simp) (rs.append (.one r1)) (by simp;lia)
 exact Oo PR ⟨_,hq,rfl⟩ Pz (Pn _ _) (Py a vs.toArray n u (by simp;lia)) ⟨hq,k _ _ (x1.sx.trans x2) I2⟩
nonrec theorem wq (h:Nm X i x) (nd:X.N.Nodup) (ha:DF X a fa) (l:(apos.endLine==cpos.line)=V):DS X (.Expr (.Call (.Attribute (.Name x px) "extend" apos) [a] [] cpos) pos) (λδ=>DB i (fa δ) δ):=λ{M δ s o Q} I e k=>by
 unfold DB at e;dsimp only at e;split at e<;>try cases e
 split at e<;>cases e
 rename_i ds es e1 e2 hl;refine Pw (B9 MK PySem.F.slot_list_extend PySem.F.type_list_extend l h (aX (m:=Y) ha.share cW) (by decide) I (aK e1) (ds:=[.lst es]) (by rw[e2];rfl) uV λa o us s1 M1 x1 I1 q c r=>?_) I.quiet rfl
 let⟨u,rfl,r1⟩:=r.is1;let⟨c',o',vs',rfl,q',t',rs'⟩:=r1;let⟨vs,⟨z,n,rfl⟩,rs⟩:=c;let hq:=I1.heap _ _ _ q;let⟨n',hq'⟩:=t'.obj I1.heap q';let hl1:=rs.length;let hl2:=rs'.length;have:=ax hl;let⟨M2,I2,x2⟩:=I1.lset (f:=λa=>a++vs'.toArray) (us:=vs++vs') (t:=s1.toks) h nd (aK e1) q (by simp) (rs.append rs') (by simpa using hl)
 refine Oo F.slot_list_extend ⟨_,hq,rfl⟩ F.entry_list_extend (F.args_list_extend_2 _ _) (AutoSeq1.list_extend_list_list_0 a vs.toArray n c' vs'.toArray n' ?_ (by assumption) (by simp;lia)) ⟨hq,hq',k _ _ (x1.sx.trans x2) I2⟩
 rw[show Builtin.List.listTooLong (vs.toArray.size+vs'.toArray.size)=Y from decide_eq_false (by simp;lia),Bool.and_false];lia
theorem vM {body:Ww Lr}{ft:DEnv->Wq Bool}{gb:DEnv->Wq Out}(n:Nat) (hc:DT X c ft) (hb:DSs X body gb):DS X (.While c body [] pos) (λδ=>aV ft gb n δ):=λ{M δ s o Q} I e k=>by
 refine wpAny_While (codeAny_whileLoop (λj s'=>∃δ' M',Sx M M'/\Inv X M' δ' s'/\aV ft gb j δ'=U o) ?_ n ⟨δ,M,Sx.refl,I,e⟩)
 rintro j s1 ⟨δ1,M1,x1,I1,e1⟩
 cases j with
 |zero=>cases e1
 |succ j=>
  unfold aV at e1;cases q:ft δ1 with
  |none=>simp[q]at e1
  |some t=>
   simp![q]at e1;refine KN KL (hc I1 q λs2 M2 x2 I2=>?_)
   cases t with
   |false=>cases e1;exact Ll (k _ _ (x1.trans x2.sx) I2)
   |true=>
    cases q2:gb δ1 with
    |none=>simp[q2]at e1
    |some o1=>
     simp![q2]at e1;refine KN KL (hb I2 q2 ?_)
     let x12:=x1.trans x2.sx;cases o1 with
     |next δ3=>exact λs3 M3 x3 I3=>⟨j,LD j,δ3,M3,x12.trans x3,I3,e1⟩
     |cont δ3=>exact λs3 M3 x3 I3=>⟨j,LD j,δ3,M3,x12.trans x3,I3,e1⟩
     |brk δ3=>cases e1;exact λs3 M3 x3 I3=>k _ _ (x12.trans x3) I3
     |ret d fr=>cases e1;exact λv s3 M3 δ3 x3 I3 r=>k _ _ _ _ (x12.trans x3) I3 r
end
end L2
namespace L2
open PySem PySem.Spec PyProof.Rows Md
variable[Md]
def Ch (fp:Ww Kp) (s s':J5):Prop:=(s'.os=s.os/\s'.gens=s.gens)/\∀b o,b∉fp->s.heap.get? b=U o->s'.heap.get? b=U o
def Got (m:Bool) (M:Mp) (s s':J5) (d:D) (u:J4):Prop:=R m M d u\/∃t o,s.heap.objs.size<=t/\s'.heap.get? t=U o/\R m (upd M t (U (.f,o))) d u
structure Turn2 (A:KH) (tg:Expr) (m m':Bool) (M:Mp) (ds:Ww D) (fp:Ww Kp) (it:Kp) (tn:Nat->LF->Prop):Prop where
 ex:∀{i h},tn i h->∀b∈fp,∃o,h.get? b=U o
 keep:∀{i h h'},tn i h->(∀b∈fp,∀o,h.get? b=U o->h'.get? b=U o)->tn i h'
 item:∀{i s d},tn i s.heap->(∀a o,Rd m M a o->s.heap.get? a=U o)->ds[i]?=U d->wpAny (model P w) A (pyNext (.ref it)) (λr s1=>∃u,r=U u/\
  wpAny (model P w) A (letOwnedTupleGo tg (.ref it) u) (λ_ s2=>Ch fp s s2/\tn (i+1) s2.heap/\Got m' M s s2 d u) (λ_ _=>False) s1) (λ_ _=>False) s
 done:∀{s},tn ds.length s.heap->(∀a o,Rd m M a o->s.heap.get? a=U o)->wpAny (model P w) A (pyNext (.ref it)) (λr s1=>r=B/\Ch fp s s1) (λ_ _=>False) s
 self:∀{A:KH}{i s} {Q E:J4->J5->Prop},tn i s.heap->Q (.ref it) s->wpAny (model P w) A (pyIter (.ref it)) Q E s
abbrev GB (A:KH) (tg:Expr) (m:Bool):=Turn2 A tg m m
abbrev Jq (X:Cx) (tg:Expr) (M:Mp) (δ:DEnv) (m m':Bool) (ds:Ww D) (Q:J4->J5->Prop):Prop:=∀it fp tn s' M',Ext M M'->Inv X M' δ s'->Turn2 X.A tg m m' M' ds fp it tn->tn 0 s'.heap->(∀b∈fp,Free X M' b)->Q (.ref it) s'
structure DI2 (X:Cx) (m m':Bool) (tg iter:Expr) (f:DEnv->Wq (Ww D)):Prop where
 pl:plE iter=V
 ev:∀{M δ s ds} {Q:J4->J5->Prop},Inv X M δ s->f δ=U ds->Jq X tg M δ m m' ds Q->WP X (eval iter X.env) (λv s1=>WP X (pyIter v) Q s1) s
abbrev DI (X:Cx) (m:Bool):=DI2 X m m
section
variable{X:Cx}{M M' M1:Mp}{δ:DEnv}{s s':J5}{tg iter:Expr}{es:Ww Expr}{fa fb:DEnv->Wq D}{m m' mm:Bool}{p pos tp:PA}
def Inv.ch (I:Inv X M δ s) (h:Ch fp s s') (hf:∀b∈fp,Free X M b):Inv X M δ s':=I.wr fp hf (λb o hb=>h.2 b o hb) h.1
def Cc (h:Sub m M m' M'):Sub m (upd M a (U (.f,o))) m' (upd M' a (U (.f,o))):=λb ob ⟨k,e,z⟩=>by
 by_cases q:b=a
 ·subst q;rw[ao]at e;cases e;exact⟨.f,ao,rfl⟩
 ·rw[ar q]at e;let⟨k',e',z'⟩:=h b ob ⟨k,e,z⟩;exact⟨k',by rw[ar q];exact e',z'⟩
def Inv.got (I:Inv X M' δ s) (hs:Sub m M m' M') (g:Got m M s s' d u) (c:Ch fp s s') (hf:∀b∈fp,Free X M' b):∃M'',Ext M' M''/\Inv X M'' δ s'/\R m' M'' d u/\∀b o,Free X M' b->s.heap.get? b=U o->Free X M'' b:=by
 let I1:=I.ch c hf
 rcases g with g|⟨t,o,h1,h2,h3⟩
 ·exact⟨M',Ext.refl,I1,g.to hs,λb _ f _=>f⟩
 ·let f:=I.fresh h1
  refine⟨_,cb f.m,I1.put f h2,h3.to (Cc hs),λb o f e=>⟨?_,f.l,f.c,f.t,f.s⟩⟩
  rw[ar];exact f.m
  rintro rfl
  exact absurd (Kc e) (Nat.not_lt.mpr h1)
def Ret.unp (r:Ret X M1 s d v fr) (h1:Sub Y M1 Y M') (h2:∀a,M1 a=B->M' a=B) (h3:∀a i o,M1 a=U (.o i,o)->M' a=U (.o i,o)):Ret X M' s d v fr:=by
 cases fr with
 |false=>exact R.to h1 r
 |true=>
  let rn:∀{d v},Rn X M1 s d v->Rn X M' s d v:=λ⟨a,o,e,q,c,z⟩=>⟨a,o,e,q,c.to h1,z.imp (λf=>⟨h2 _ f.m,f.l,f.c,f.t,f.s⟩) λ⟨i,w⟩=>⟨i,h3 _ _ _ w⟩⟩
  let tr:∀{ds vs},Tr X M1 s ds vs->Tr X M' s ds vs:=by
   intro ds
   induction ds with
   |nil=>exact λh=>h
   |cons d ds ih=>exact λ⟨v,r,e,h,t⟩=>⟨v,r,e,h.imp (λz=>⟨z.1,z.2.to h1⟩) λz=>⟨z.1,rn z.2⟩,ih t⟩
  exact r.imp rn λ⟨ds,t,o,vs,e1,e2,e3,e4,e5⟩=>⟨ds,t,o,vs,e1,e2,rdf.mp (h1 _ _ (rdf.mpr e3)),e4,tr e5⟩
def GP {body:Ww Lr}{fi:DEnv->Wq (Ww D)}{τ:D->DEnv->Wq DEnv}{gb:DEnv->Wq Out}(hi:DI X Y tg iter fi) (hg:DG X tg τ) (hb:DSs X body gb):DS X (.For tg iter body [] pos) (λδ=>ae (fi δ) λds=>am (λd δ=>ae (τ d δ) gb) ds δ):=λ{M δ s o Q} I e k=>by
 let⟨ds,e1,e2⟩:=ai e;refine wpAny_For (hi.ev I e1 λit fp tn s1 M1 x1 I1 T t0 f1=>?_) λx=>i8 hi.pl
 refine Oe (λn s'=>∃i δ' M',n=ds.length - i/\i<=ds.length/\Sx M1 M'/\Inv X M' δ' s'/\tn i s'.heap/\(∀b∈fp,Free X M' b)/\am (λd δ=>ae (τ d δ) gb) (ds.drop i) δ'=U o) ?_ ds.length ⟨0,δ,M1,rfl,KA _,Sx.refl,I1,t0,f1,e2⟩
 rintro n s2 ⟨i,δ2,M2,rfl,hi',x2,I2,t2,f2,e3⟩
 let rd2:∀a o,Rd Y M1 a o->s2.heap.get? a=U o:=λa o q=>I2.heap _ _ _ (rdf.mp (x2.f _ _ q))
 let k2:=k.to (x1.sx.trans x2)
 by_cases hlt:i<ds.length
 ·rw[KW hlt]at e3
  simp![am]at e3;refine KN KL (thn (T.item t2 rd2 (d:=ds[i]) (by simp[hlt])) λr s3 hz=>?_)
  let⟨u,rfl,h3⟩:=hz;refine KN KL (thn h3 λ_ s4 hz=>?_)
  let⟨c4,t4,g4⟩:=hz;let⟨M4,x4,I4,r4,f4'⟩:=I2.got x2.f g4 c4 f2;let f4:∀b∈fp,Free X M4 b:=λb hb=>by let⟨o,e⟩:=T.ex t2 b hb;exact f4' b o (f2 b hb) e
  cases q:ae (τ ds[i] δ2) gb with
  |none=>simp[q]at e3
  |some o1=>
   simp![q]at e3;let⟨δ5,q1,q2⟩:=ai q;refine KN KL (hg I4.pin (r4.to kT) q1 λs5 I5=>?_)
   refine KN KL (hb I5 q2 ?_)
   let fin:∀{δ6 M6 s6},Sx (pin X M4 s4.heap) M6->Inv X M6 δ6 s6->∃M7,Sx M2 M7/\Inv X M7 δ6 s6/\tn (i+1) s6.heap/\(∀b∈fp,Free X M7 b)/\Sub Y M6 Y M7/\(∀a,M6 a=B->M7 a=B)/\∀a i o,M6 a=U (.o i,o)->M7 a=U (.o i,o):=λy J=>by
    let⟨h1,h2,h3,h4,h5,h6⟩:=I4.unp J y;exact⟨_,x4.sx.trans h2,h1,T.keep t4 λb hb o e=>(h6 b o (f4 b hb) e).1,λb hb=>by let⟨o,e⟩:=T.ex t4 b hb;exact(h6 b o (f4 b hb) e).2,h3,h4,h5⟩
   let again:∀{δ6 M6 s6},Sx (pin X M4 s4.heap) M6->Inv X M6 δ6 s6->am (λd δ=>ae (τ d δ) gb) (ds.drop (i+1)) δ6=U o->∃m,m<ds.length - i/\∃i δ' M',m=ds.length - i/\i<=ds.length/\Sx M1 M'/\Inv X M' δ' s6/\tn i s6.heap/\(∀b∈fp,Free X M' b)/\am (λd δ=>ae (τ d δ) gb) (ds.drop i) δ'=U o:=λy J e=>by
    let⟨M7,h1,h2,h3,h4,_⟩:=fin y J;exact⟨ds.length - (i+1),by lia,i+1,_,M7,rfl,hlt,x2.trans h1,h2,h3,h4,e⟩
   cases o1 with
   |next δ6=>exact λs6 M6 y J=>again y J e3
   |cont δ6=>exact λs6 M6 y J=>again y J e3
   |brk δ6=>cases e3;exact λs6 M6 y J=>by let⟨M7,h1,h2,_⟩:=fin y J;exact k2 _ _ h1 h2
   |ret d fr=>cases e3;exact λv s6 M6 δ6 y J r=>by let⟨M7,h1,h2,h3,h4,h5,h6,h7⟩:=fin y J;exact k2 _ _ _ _ h1 h2 (r.unp h5 h6 h7)
 ·obtain rfl:i=ds.length:=by lia
  rw[Ox]at e3;cases e3;refine KN KL (thn (T.done t2 rd2) λr s3 hz=>?_)
  let⟨rfl,c3⟩:=hz;exact Ll (k2 _ _ Sx.refl (I2.ch c3 f2))
def yq {A:KH}{E:J4->J5->Prop}{it:Kp}{u:J4}{o:PC}{n:String}{vs:Array J4}{Q:Unit->J5->Prop}(ho:s.heap.get? it=U o) (hc:o.cls=.type n) (hd:o.data=.fields vs)
  (hn:["enumerate","zip","dict_itemiterator","dict_reverseitemiterator","odict_iterator","itertools.zip_longest","itertools.pairwise"].contains n=Y) (hQ:Q () s):wpAny (model P w) A (letOwnedTupleGo tg (.ref it) u) Q E s:=by
 cases tg<;>first
  |exact JZ hQ
  |(cases u<;>first
    |exact JZ hQ
    |(refine JY (O5 ho ?_)
      rw[hc,hd];show wpAny _ A (if(["enumerate","zip","dict_itemiterator","dict_reverseitemiterator","odict_iterator","itertools.zip_longest","itertools.pairwise"].contains n&&vs[0]?==U (rawInt _))=V then _ else _) Q E s
      rw[if_neg (by intro h;rw[hn,Bool.false_and]at h;cases h)]
      exact JZ hQ))
def mD {h':LF}{t:Nat}(h:Ln it s.heap h'):Ch [it] s {s with heap:=h',toks:=t}:=⟨⟨rfl,rfl⟩,λb o hb e=>(h.2 b λz=>hb (by simp[z])).trans e⟩
def nL {h':LF}(h:O3 it s.heap h'):Ch [it] s {s with heap:=h'}:=⟨⟨rfl,rfl⟩,λb o hb e=>h b o (λz=>hb (by simp[z])) e⟩
def oC (h:∀a o,Rd m M a o->s.heap.get? a=U o) (q:Rd m M c o) (t:LstO o vs):s.heap.IsList c vs.toArray:=by let⟨_,n,rfl⟩:=t;exact⟨_,h _ _ q,rfl,n,rfl⟩
def Dl (h:∀a o,Rd m M a o->s.heap.get? a=U o) (q:Rd m M c o) (t:TupO o vs):s.heap.IsTuple c vs.toArray:=⟨_,h _ _ q,t.2⟩
def rH (hh:A.handled=B) (q:Rd m M c o) (t:LstO o vs) (rs:Rs m' M ds vs):Turn2 A tg m m' M ds [it] it (λi h=>h.IsListIter it c i) where
 ex:=λ⟨o,e,_⟩ b hb=>by simp_all
 keep:=λst k=>st.at λo e=>k it (by simp) o e
 item:=λ{i s d} st h e=>by
  let⟨u,h1,h2⟩:=rs.get e;refine wpAny_pyNext_list_item st (oC h q t) (x:=u) (by simpa using h1) λh' st' sb=>?_
  let⟨o,e,c,d⟩:=id st';exact⟨u,rfl,yq (s:={s with heap:=h'}) e c d (by decide) ⟨mD (t:=s.toks) sb,st',.inl h2⟩⟩
 done:=λst h=>wpAny_pyNext_list_end hh st (oC h q t) (by simp[rs.length]) λh' eb=>⟨rfl,nL eb⟩
 self:=λst h=>wpAny_pyIter_listiter st h
def xB (hh:A.handled=B) (q:Rd m M c o) (t:TupO o vs) (rs:Rs m M ds vs):GB A tg m M ds [it] it (λi h=>h.IsTupleIter it c i) where
 ex:=λ⟨o,e,_⟩ b hb=>by simp_all
 keep:=λst k=>st.at λo e=>k it (by simp) o e
 item:=λ{i s d} st h e=>by
  let⟨u,h1,h2⟩:=rs.get e;refine wpAny_pyNext_tuple_item st (Dl h q t) (x:=u) (by simpa using h1) λh' st' sb=>?_
  let⟨o,e,c,d⟩:=id st';exact⟨u,rfl,yq (s:={s with heap:=h'}) e c d (by decide) ⟨mD (t:=s.toks) sb,st',.inl h2⟩⟩
 done:=λst h=>wpAny_pyNext_tuple_end hh st (Dl h q t) (by simp[rs.length]) λh' eb=>⟨rfl,nL eb⟩
 self:=λst h=>wpAny_pyIter_tupleiter st h
def CB (I:Inv X M δ s):∀b∈[s.heap.objs.size],Free X M b:=λb hb=>by rw[qaa.mp hb];exact I.fresh (Kh _)
def lZ (h:bi x=U ds):x=U (.lst ds):=by unfold bi at h;split at h<;>simp_all
def rL (h:wd x=U ds):x=U (.tup ds):=by unfold wd at h;split at h<;>simp_all
variable{a b:Expr}
def FF (h:DE X m a fa):DI X m tg a (λδ=>bi (fa δ)):=⟨h.pl,λI e k=>h.ev I (lZ e) λv s1 M1 x1 I1 r=>by
 let⟨c,o,vs,rfl,q,t,rs⟩:=r;exact L4 (t.is I1.heap q) (k _ _ _ _ _ x1 (I1.push (t:=s1.toks)) (rH I.ok.room.hd q t rs) ⟨_,J7 _ rfl,rfl,rfl⟩ (CB I1))⟩
def Gl (h:DE X m a fa):DI X m tg a (λδ=>wd (fa δ)):=⟨h.pl,λI e k=>h.ev I (rL e) λv s1 M1 x1 I1 r=>by
 let⟨c,o,vs,rfl,q,t,rs⟩:=r;exact PY (t.is I1.heap q) (k _ _ _ _ _ x1 (I1.push (t:=s1.toks)) (xB I.ok.room.hd q t rs) ⟨_,J7 _ rfl,rfl,rfl⟩ (CB I1))⟩
def AS {lo:Int}(h:(kg lo n)[i]?=U d):i<n/\d=.int (lo+i):=by
 unfold kg at h
 by_cases hi:i<n
 ·simp_all
 ·simp_all
def w6 (hh:A.handled=B) (lo:Int) (n:Nat):GB A tg m M (kg lo n) [it] it (λi h=>IsRangeIter h it (lo+(i:Nat)*1) ((n:Int) - (i:Nat)) 1) where
 ex:=λst b hb=>by simp_all
 keep:=λst k=>k it (by simp) _ st
 item:=λ{i s d} st h e=>by
  let⟨hi,rfl⟩:=AS e;let W:=Walks.range (prog:=P) (w:=w) hh it lo 1 n;refine W.item i s _ _ hi st λv h' tk hv st' kk=>?_
  let⟨t,rfl⟩:=hv;exact⟨_,rfl,yq (s:={s with heap:=h',toks:=tk}) (n:="range_iterator") st' rfl rfl (by decide) ⟨⟨⟨rfl,rfl⟩,λb o hb e=>kk b o (by lia) e⟩,st',.inl ⟨t,by rw[Int.mul_one]⟩⟩⟩
 done:=λ{s} st h=>wpAny_pyNext_range_end hh st (by simp[kg]) λh' eb=>⟨rfl,nL eb⟩
 self:=λst h=>wpAny_pyIter_rangeiter st h
nonrec theorem ED (g:Bn X "range") (h:DE X m a fa):DI X mm tg (.Call (.Name "range" p) [a] [] pos) (λδ=>rG (fa δ)):=⟨rfl,λ{M δ s ds Q} I e k=>by
 unfold rG at e;split at e<;>try cases e
 split at e<;>cases e
 rename_i j q hj;let hj:=of_decide_eq_true hj;refine fH g boot_range h I q λv s1 M1 x1 I1 r=>?_
 let⟨t,rfl⟩:=r;refine call_range_1 (wpAny_pyIter_range (IsRange.new ..) (small_one (by lia) (by lia) hj.1 hj.2) ?_)
 refine k _ _ _ _ _ x1 (I1.push.push (t:=s1.toks+2)) (w6 I.ok.room.hd 0 j.toNat) ?_ λb hb=>?_
 ·rw[show(0:Int)+((0:Nat):Int)*1=0 by simp,show((j.toNat:Nat):Int) - ((0:Nat):Int)=Builtin.Range.rangeSize 0 j 1 by rw[rangeSize_one];split<;>lia]
  exact J7 _ rfl
 ·rw[qaa.mp hb];exact I1.fresh (by simp)⟩
end
end L2
namespace L2
open PySem PySem.Spec PyProof.Rows Md
variable[Md]
structure Bas (M:Mp) (s:J5):Prop where
 og:s.os=Md.os/\s.gens=gens
 heap:Hm M s.heap
 base:∀a o,base.get? a=U o->M a=U (.p,o)
 tabs:TabOk M s.heap
 own:∀a i o,M a≠U (.o i,o)
 full:∀a o,s.heap.get? a=U o->M a≠B\/∃q∈tb,a=q.1
 sys:∀k o,M sysModules=U (k,o)->k=.p
def HR (fd:Q6) (ps:Ww Kr):Prop:=∀(s:J5) (us:Ww J4),us.length=ps.length->BindsTo s fd ⟨us,[]⟩ (ps.zip us)
structure FnM (k:Nat) (x:Kr) (f:Ww D->Wq (D×Bool)):Prop where
 ex:∃p,mg x=U (.ref p)/\PySem.W.keepIn K (.ref p)=V/\∀{A s M us ds r fr},Room k A->Mod->Bas M s->Rs Y M ds us->f ds=U (r,fr)->
  codeAny (model P w) A (.call (.ref p) ⟨us,[]⟩) (λres s'=>∃v X' M1 δ1,res=.ok (.ret v)/\Sx M M1/\Inv X' M1 δ1 s'/\Ret X' M1 s' r v fr) s
def Room.mono {j k:Nat}{A:KH}(r:Room k A) (h:j<=k):Room j A:=⟨r.hd,by have:=r.dp;lia,by have:=r.un;lia⟩
def Room.deeper {k:Nat}{A:KH}(r:Room (k+1) A) (env:Env):Room k (A.deeper env):=
 ⟨r.hd,by have:=r.dp;show A.depth+1+3*k+5<_;lia,by have:=r.un;simp;lia⟩
section
variable{X:Cx}{M:Mp}{δ:DEnv}{s:J5}{a:Expr}{es:Ww Expr}{fs:DEnv->Wq (Ww D)}{m:Bool}{p pos:PA}{f:Ww D->Wq (D×Bool)}
def Inv.calI (I:Inv X M δ s) (hf:∀b∈ex,Free X M b):Hm (cal m ko M s.heap ex) s.heap/\(∀b o,Md.base.get? b=U o->cal m ko M s.heap ex b=U (.p,o))/\TabOk (cal m ko M s.heap ex) s.heap/\∀b i o,cal m ko M s.heap ex b=U (.o i,o)->ko=V/\M b=U (.o i,o):=by
 let key:∀b k o,cal m ko M s.heap ex b=U (k,o)->s.heap.get? b=U o/\∀i,k=.o i->ko=V/\M b=U (.o i,o):=λb k o e=>by
  unfold cal at e;cases h:M b with
  |some x=>
   let⟨k',o'⟩:=x;rw[h]at e;have:=I.heap _ _ _ h;cases k'<;>injection e with e<;>injection e with e1 e2<;>subst e2<;>refine⟨this,λi z=>?_⟩<;>subst z<;>cases m<;>cases ko<;>cases e1
   exact⟨rfl,rfl⟩
  |none=>
   rw[h]at e;dsimp only at e;split at e;cases e;cases q:s.heap.get? b with
   |none=>simp_all
   |some o'=>rw[q]at e;cases e;exact⟨rfl,λi z=>nomatch z⟩
 refine⟨λb k o e=>(key b k o e).1,λb o e=>by unfold cal;rw[I.base b o e],λq hq=>?_,λb i o e=>(key b _ o e).2 i rfl⟩
 let⟨h1,ps,h2,h3,h4⟩:=I.tabs q hq;refine⟨by unfold cal;rw[h1];exact if_pos (.inr ⟨q,hq,rfl⟩),ps,h2,h3,λpos cv z=>?_⟩
 let⟨c,oc,vs,t,e1,e2,e3⟩:=h4 pos cv z;exact⟨c,oc,vs,t,e1,by unfold cal;rw[e2],e3⟩
def Inv.calS (I:Inv X M δ s) (e:cal m ko M h ex sysModules=U (k,o)):k=.p:=by
 unfold cal at e;cases q:M sysModules with
 |some x=>let⟨k',o'⟩:=x;obtain rfl:=I.sys _ _ q;rw[q]at e;cases e;rfl
 |none=>
  simp_all
def Inv.bas (I:Inv X M δ s):Bas (cal m Y M s.heap []) s:=by
 let⟨h1,h2,h3,h4⟩:=I.calI (m:=m) (ko:=Y) (ex:=[]) λ_ z=>nomatch z
 refine⟨I.og,h1,h2,h3,λb i o e=>Ny (h4 b i o e).1,λb o e=>?_,λ_ _ e=>I.calS e⟩
 unfold cal;cases h:M b with
 |some x=>let⟨k',o'⟩:=x;cases k'<;>exact .inl (by simp)
 |none=>
  simp;lia
def Fn (X:Cx) (M:Mp) (s:J5) (m:Bool) (d:D) (v:J4):Prop:=∃c o,v=.ref c/\Free X M c/\s.heap.get? c=U o/\Cm m M d o
def Tf (X:Cx) (M:Mp) (s:J5) (m:Bool):Ww D->Ww J4->Prop
 |[],vs=>vs=[]
 |d::ds,vs=>∃v r,vs=v::r/\((sN d=Y/\R m M d v)\/(sN d=V/\Fn X M s m d v))/\Tf X M s m ds r
def oM {Q:J4->J5->Prop}{k:Nat}(F:FnM k x f) (hr:Room k X.A) (g:Gb X x) (ha:DA X m (a::es) fs) (I:Inv X M δ s) (e1:fs δ=U ds) (e2:f ds=U (r,fr))
  (kk:∀v s' M',Ext M M'->Inv X M' δ s'->(fr=Y->R m M' r v)->(fr=V->Fn X M' s' m r v\/∃ds t o vs,r=.tup ds/\v=.ref t/\Rd m M' t o/\TupO o vs/\Tf X M' s' m ds vs)->Q v s'):WP X (eval (.Call (.Name x p) (a::es) [] pos) X.env) Q s:=by
 let⟨q,h1,h2,h3⟩:=F.ex;let h:=ha.pl;rw[KG,J9]at h;refine Lx (Qj I.ok.kind g.g (Calls.loadGlobal_global (by rw[I.ok.glob];exact I.ok.mod.glob.keeps I.bk) h1 ?_) g.d)
 refine PySem.W.callWith_K (h₀:=base) I.ok.mod.kin h2 (ha.ev I e1 (λvs s1 M1 x1 I1 rs=>⟨I1.kIn,wpAny_call (Qe (h3 hr I.ok.mod I1.bas (rs.to oW) e2) λres s' hz=>?_)⟩) pos) (aU h.1) (lE h.2)
 let⟨v,X',M2,δ2,rfl,x2,J,rt⟩:=hz;let⟨I2,sb⟩:=I1.ret (ex:=[]) J (λ_ z=>nomatch z) (λ_ z=>nomatch z) x2 (λa i o z=>absurd z (I1.bas.own a i o))
 let key:∀{d v},Rn X' M2 s' d v->Fn X (bak M1 s1.heap M2) s' m d v:=λ{d v} hz=>by
  let⟨c,o,rfl,hc,cc,z⟩:=hz;let new:s1.heap.get? c=B:=by
   cases w:s1.heap.get? c with
   |none=>rfl
   |some o'=>
    exfalso;let Ri:=I1.bas (m:=m)
    rcases Ri.full c o' w with z1|⟨t,z1,z2⟩
    ·cases q:cal m Y M1 s1.heap [] c with
     |none=>exact z1 q
     |some y=>
      let⟨k',o2⟩:=y;have:M2 c=U (k',o2):=by
       cases k' with
       |f=>exact rdf.mp (x2.f _ _ (rdf.mpr q))
       |p=>exact x2.p _ _ q
       |o i=>exact absurd q (Ri.own _ _ _)
      rcases z with z|⟨i,z⟩
      ·simp_all [z.m]
      ·rw[z]at this;cases this;exact Ri.own _ _ _ q
    ·rcases z with z|⟨i,z⟩
     ·exact z.t t z1 z2
     ·have:=(J.tabs t z1).1;lia
  let no:M1 c=B:=by
   cases w:M1 c with
   |none=>rfl
   |some y=>have:=I1.heap _ _ _ w;lia
  refine⟨c,o,rfl,⟨?_,?_,λy z1=>?_,λt z1 z2=>?_,λz1=>z.elim (λf=>f.s z1) λ⟨i,w⟩=>by rw[z1]at w;exact nomatch J.sys _ _ w⟩,hc,cc.to sb⟩
  ·unfold bak;rw[no];rw[if_neg (by simp[new])]
   rcases z with z|⟨i,z⟩
   ·rw[z.m]
   ·rw[z]
  ·rintro rfl;let⟨_,⟨o,_,_,z1,_⟩,_⟩:=I1.loc;lia
  ·let⟨⟨_,o,z2,_⟩,_⟩:=I1.cell y c z1;lia
  ·let⟨_,ps,z3,_⟩:=I1.tabs t z1;lia
 let tk:∀{ds vs},Tr X' M2 s' ds vs->Tf X (bak M1 s1.heap M2) s' m ds vs:=by
  intro ds
  induction ds with
  |nil=>exact λh=>h
  |cons d ds ih=>exact λ⟨v,r,e,h,t⟩=>⟨v,r,e,h.imp (λz=>⟨z.1,z.2.to sb⟩) λz=>⟨z.1,key z.2⟩,ih t⟩
 refine kk v s' _ (x1.trans sQ) I2 (λz=>?_) λz=>?_
 ·subst z;exact R.to sb rt
 ·subst z
  exact rt.imp key λ⟨ds,t,o,vs,e1,e2,e3,e4,e5⟩=>⟨ds,t,o,vs,e1,e2,sb _ _ (rdf.mpr e3),e4,tk e5⟩
theorem Tf.put:∀{ds vs} {M:Mp},Inv X M δ s->(∀M0,Ext M0 M->Tf X M0 s m ds vs->∃M',Ext M M'/\Inv X M' δ s/\Rs m M' ds vs)
 |[],vs,M,I,M0,x0,h=>⟨M,Ext.refl,I,h⟩
 |d::ds,_,M,I,M0,x0,⟨v,r,rfl,h,t⟩=>by
  rcases h with⟨_,h⟩|⟨_,a,o,rfl,f,e,c⟩
  ·let⟨M',x1,I1,rs⟩:=Tf.put I M0 x0 t
   exact⟨M',x1,I1,v,r,rfl,h.up (x0.trans x1),rs⟩
  ·rcases x0 a with z|⟨z,o',z'⟩
   ·let f':Free X M a:=⟨z.trans f.m,f.l,f.c,f.t,f.s⟩
    let⟨M',x1,I1,rs⟩:=Tf.put (I.put f' e) M0 (x0.trans (cb f'.m)) t;let q:Rd m M' a o:=x1.sub _ _ ⟨.f,ao,rfl⟩;exact⟨M',(cb f'.m).trans x1,I1,_,r,rfl,c.rep ((x0.trans (cb f'.m)).trans x1).sub q,rs⟩
   ·let⟨M',x1,I1,rs⟩:=Tf.put I M0 x0 t
    have:=I.heap _ _ _ z';rw[e]at this;cases this;exact⟨M',x1,I1,_,r,rfl,c.rep (x0.trans x1).sub (x1.sub _ _ ⟨.f,z',rfl⟩),rs⟩
theorem Bv {k:Nat}(F:FnM k x f) (hr:Room k X.A) (g:Gb X x) (ha:DA X m (a::es) fs):DE X m (.Call (.Name x p) (a::es) [] pos) (λδ=>shO (ae (fs δ) f)):=⟨rfl,λ{M δ s d Q} I e k=>by
 cases q:ae (fs δ) f with
 |none=>simp[shO,q]at e
 |some y=>
  let⟨d',fr⟩:=y;simp![shO,q]at e;cases e;let⟨ds,e1,e2⟩:=ai q;refine oM F hr g ha I e1 e2 λv s1 M1 x1 I1 h1 h2=>?_
  cases fr with
  |false=>exact k _ _ _ x1 I1 (h1 rfl)
  |true=>
   rcases h2 rfl with⟨c,o,rfl,f,z,cc⟩|⟨ds,t,o,vs,rfl,rfl,q,h4,h5⟩
   ·exact k _ _ _ (x1.trans (cb f.m)) (I1.put f z) (cc.rep (dT f.m) ⟨.f,ao,rfl⟩)
   ·let⟨M2,x2,I2,rs⟩:=h5.put I1 _ Ext.refl
    exact k _ _ _ (x1.trans x2) I2 ⟨t,o,vs,rfl,x2.sub _ _ q,h4,rs⟩⟩
theorem B5 {k:Nat}(F:FnM k x f) (hr:Room k X.A) (g:Gb X x) (ha:DA X Y (a::es) fs):DF X (.Call (.Name x p) (a::es) [] pos) (λδ=>frO (ae (fs δ) f)):=⟨rfl,λ{M δ s d Q} I e k=>by
 cases q:ae (fs δ) f with
 |none=>simp[frO,q]at e
 |some y=>
  let⟨d',fr⟩:=y;let⟨ds,e1,e2⟩:=ai q;obtain⟨rfl,rfl⟩:fr=V/\d'=d:=by cases d'<;>cases fr<;>simp_all [frO]
  refine oM F hr g ha I e1 e2 λv s1 M1 x1 I1 h1 h2=>?_
  rcases h2 rfl with⟨c,o,rfl,f,z,cc⟩|⟨ds,_,_,_,rfl,_⟩
  ·exact k _ _ _ _ x1 I1 f z cc
  ·rw[q]at e;cases e⟩
nonrec theorem zX {k:Nat}(F:FnM k x f) (hr:Room k X.A) (g:Gb X x) (ha:DA X V (a::es) fs):DF X (.Call (.Name x p) (a::es) [] pos) (λδ=>flO (ae (fs δ) f)):=⟨rfl,λ{M δ s d Q} I e k=>by
 unfold flO at e;split at e<;>try cases e
 split at e<;>cases e
 rename_i q fl;let⟨ds,e1,e2⟩:=ai q;refine oM F hr g ha I e1 e2 λv s1 M1 x1 I1 h1 h2=>?_
 rcases h2 rfl with⟨c,o,rfl,f,z,vs,h3,h4⟩|⟨_,_,_,_,z,_⟩
 ·exact k _ _ _ _ x1 I1 f z ⟨vs,h3,Rs.flat I1.own fl h4⟩
 ·cases z⟩
end
structure FnScope (N P:Ww Kr) (sc:MJ):Prop where
 kind:sc.kind=.function
 co:sc.isCoroutine=Y
 gen:sc.isGenerator=Y
 nd:N.Nodup
 pre:N.take P.length=P
 par:∀x∈P,sc.names.lookup x=U .local\/sc.names.lookup x=U .cell
 nofree:∀y∈sc.names,y.2≠.free
theorem rD {kindOf:Kr->Wq Nu}{x:Kr}:∀{binds:Ww (Kr×J4)}{m:Kr->Wq J4},(∀v,(x,v)∉binds)->bindL kindOf binds m x=m x
 |[],_,_=>rfl
 |(n,v)::r,m,h=>by
  unfold bindL;rw[rD λw hw=>h w (Kb _ hw)]
  split
  ·grind
  ·rfl
theorem sE {kindOf:Kr->Wq Nu}{x:Kr}:∀{binds:Ww (Kr×J4)}{m:Kr->Wq J4},(∀v,(x,v)∉binds)->bindC kindOf binds m x=m x
 |[],_,_=>rfl
 |(n,v)::r,m,h=>by
  unfold bindC;rw[sE λw hw=>h w (Kb _ hw)]
  split
  ·rfl
  grind
theorem uX {kindOf:Kr->Wq Nu}{x:Kr}{v:J4}:∀{P:Ww Kr}{vs:Ww J4}{i:Nat}{m:Kr->Wq J4},P.Nodup->P[i]?=U x->vs[i]?=U v->(kindOf x=U .local->bindL kindOf (P.zip vs) m x=U v)/\(kindOf x≠U .local->bindC kindOf (P.zip vs) m x=U v)
 |[],_,_,_,_,h,_=>by simp at h
 |_::_,[],_,_,_,_,h=>by simp at h
 |p::P,w::vs,0,m,nd,h1,h2=>by
  simp at h1 h2;subst h1;subst h2;let no:∀v,(p,v)∉P.zip vs:=λv hv=>(qaf.mp nd).1 (P5 hv).1
  constructor<;>intro hk
  ·show bindL kindOf ((p,w)::P.zip vs) m p=_
   unfold bindL;rw[rD no,if_pos hk];simp
  ·show bindC kindOf ((p,w)::P.zip vs) m p=_
   unfold bindC;rw[sE no,if_neg hk];simp
 |p::P,w::vs,i+1,m,nd,h1,h2=>by
  let ih:=λm=>uX (i:=i) (m:=m) (kindOf:=kindOf) (qaf.mp nd).2 (by trivial) (by trivial)
  exact⟨λhk=>(ih _).1 hk,λhk=>(ih _).2 hk⟩
abbrev cxF (N:Ww Kr) (qual:Kr) (scope:MJ) (f:Kp) (cd:J4) (A:KH) (L:Kp):Cx:={A:=A.deeper (envOfC qual scope L f cd),N:=N,env:=envOfC qual scope L f cd,fn:=V}
def xd {i:Nat}(h:(cH n ds)[i]?=U (U (d,b))):b=Y/\ds[i]?=U d:=by
 unfold cH at h
 by_cases hi:i<ds.length
 ·rw[MC (by simpa using hi),Ky]at h
  cases q:ds[i]?<;>simp_all
 ·rw[N9 (by simpa using hi),List.getElem?_replicate]at h
  split at h<;>cases h
def qY {N ps:Ww Kr}{qual:Kr}{scope:MJ}{f:Kp}{cd:J4}{A:KH}{s s1:J5}{us:Ww J4}{M:Mp}(S:FnScope N ps scope) (hr:Room 0 (A.deeper (envOfC qual scope s.heap.objs.size f cd))) (mo:Mod) (Ri:Bas M s) (hl:ds.length=ps.length) (r:Rs Y M ds us)
  (x:InCallC s s.heap.objs.size (bindL (envOfC qual scope s.heap.objs.size f cd).kindOf (ps.zip us) λ_=>B) (cellsFrom (s.heap.objs.size+1) scope.names []) (bindC (envOfC qual scope s.heap.objs.size f cd).kindOf (ps.zip us) λ_=>B) s1):
  Inv (cxF N qual scope f cd A s.heap.objs.size) M (cH N.length ds) s1:=by
 let hpl:ps.length<=N.length:=by have:=congrArg LW S.pre;rw[Nl]at this;lia
 let⟨h1,tk,rfl,hk⟩:=x.done;let no:∀{c},s.heap.objs.size<=c->M c=B:=λ{c} h=>by
  cases q:M c with
  |none=>rfl
  |some y=>exact absurd (Kc (Ri.heap _ _ _ q)) (Nat.not_lt.mpr h)
 let has:∀{n:Nat}{x:Kr},scope.names.lookup x=U .cell->∃c,(cellsFrom n scope.names []).lookup x=U c:=λ{n x} h=>Option.isSome_iff_exists.mp (Op scope.names n [] (.inl h))
 refine⟨⟨mo,S.kind,rfl,rfl,λy z c h1 h2=>name_of_addr x.apart (LQ h1) (LQ h2),λy hy=>?_,hr⟩,Ri.og,λb k o e=>hk _ _ (Ri.heap _ _ _ e),Ri.base,⟨_,x.toInCall.ns,λi y d b h1 h2 h3=>?_⟩,no (Kh _),λy c h=>⟨⟨_,x.cell y c h⟩,.inl (no (OO (x.above y c (LQ h))))⟩,Ri.tabs.to (λ_ _ h=>h) (λq h=>(Ri.tabs q h).1) λq _ o e=>hk _ _ e,λb i o e=>absurd e (Ri.own _ _ _),λb c i o o' e=>absurd e (Ri.own _ _ _),?_,Ri.sys⟩
 ·rcases hy with hy|hy
  ·exact has hy
  ·exact absurd rfl (S.nofree _ (LQ hy))
 ·let⟨rfl,hd⟩:=xd h2
  let⟨u,hu,rv⟩:=r.get hd;let hi:=(List.getElem?_eq_some_iff.mp hd).1
  let hp:ps[i]?=U y:=by rw[<-S.pre,QF (by lia)];exact h1
  let ndP:ps.Nodup:=by rw[<-S.pre];exact S.nd.sublist (qau _ _)
  let⟨g1,g2⟩:=uX (kindOf:=(envOfC qual scope s.heap.objs.size f cd).kindOf) (m:=λ_=>B) ndP hp hu
  refine⟨u,?_,rv⟩
  rcases S.par y (Kv hp)with k|k
  ·exact .inl ⟨k,g1 k⟩
  ·let⟨c,e⟩:=has (n:=s.heap.objs.size+1) k
   refine .inr ⟨.inl k,c,e,?_⟩
   let q:=x.cell y c e;rw[g2 (by show scope.names.lookup y≠_;lia)]at q
   exact q
 ·unfold cH;show _=N.length;simp;lia
structure Fun (K:PySem.W.Frag) (x qual:Kr) (st:Lr) (f:Kp) (fd:Q6):Prop where
 ex:∃(oc:J4) (od:Wq Kp) (kV doc pm:J4) (an:Wq Kp) (cdv ct:J4) (osl:Array (Wq J4)),
  fd=PySem.W.fnOf x qual (defArgs st) (defBody st) (defScope st) .none kV doc pm an cdv ct/\K.lookup f=U ⟨oc,od,.func fd,osl⟩/\PySem.W.codeIn K cdv qual=V
 kp:PySem.W.keepIn K (.ref f)=V
nonrec theorem CZ {x qual:Kr}{st:Lr}{f:Kp}{fd:Q6}{N ps:Ww Kr}{k:Nat}{g:DEnv->Wq Out}(F:Fun K x qual st f fd) (S:FnScope N ps (defScope st)) (hb:HR fd ps) (hm:mg x=U (.ref f))
  (body:∀(A:KH) (L:Kp),Room k (A.deeper (envOfC qual (defScope st) L f fd.code))->DSs (cxF N qual (defScope st) f fd.code A L) (defBody st) g):FnM (k+1) x (bh N.length ps.length g):=by
 refine⟨f,hm,F.kp,λ{A s M us ds r fr} hr mo Ri rs e=>?_⟩
 let⟨oc,od,kV,doc,pm,an,cdv,ct,osl,rfl,lk,hcd⟩:=F.ex;unfold bh at e;split at e<;>try cases e
 rename_i hl;let bk:∀b o,base.get? b=U o->s.heap.get? b=U o:=λb o e=>Ri.heap _ _ _ (Ri.base b o e)
 let KX:=mo.kin.keeps bk;let hkind:∀y∈ps.zip us,(defScope st).names.lookup y.1=U .local\/((defScope st).names.lookup y.1=U .cell/\((cellsFrom (s.heap.objs.size+1) (defScope st).names []).lookup y.1).isSome=V):=λ⟨n,v⟩ hy=>by
  rcases S.par n (P5 hy).1 with q|q
  ·exact .inl q
  ·exact .inr ⟨q,Op _ _ _ (.inl q)⟩
 refine codeAny_call_function (by have:=hr.dp;lia) (KX _ _ lk) rfl S.co S.gen rfl (PySem.W.codeRec_of KX hcd) (hb s us (by rw[<-rs.length,hl]) _ _ _ _ ?_)
 refine QU S.kind hkind λenv he s1 x=>?_
 subst he;refine⟨(mo.nolimit.keeps bk).keeps x.toInCall.keep,codeAny_func ?_⟩
 let I:=qY (N:=N) (cd:=cdv) (A:=A) S ((hr.deeper _).mono (KA _)) mo Ri hl rs x;cases qo:g (cH N.length ds)with
 |none=>rw[qo]at e;cases e
 |some o=>
  rw[qo]at e;refine L5 (body A s.heap.objs.size (hr.deeper _) I qo ?_:WP _ _ (λfl s'=>_) _) (λfl s' hs=>hs) λ_ _ z=>z.elim
  cases o with
  |ret d fr'=>cases e;exact λv s' M' δ' x1 I1 rt=>⟨v,_,M',δ',rfl,x1,I1,rt⟩
  |next δ'=>cases e;exact λs' M' x1 I1=>⟨.none,_,M',δ',rfl,x1,I1,rfl⟩
  |brk δ'=>cases e
  |cont δ'=>cases e
end L2
namespace L2
open PySem PySem.Spec PyProof.Rows Md
variable[Md]
abbrev cxC (X:Cx) (scope:MJ) (cl:Ww (Kr×Kp)) (C:Kp):Cx:={A:=X.A,N:=X.N,env:=compEnvC scope cl C X.env,fn:=Y}
def DTs (X:Cx) (ifs:Ww Expr) (f:DEnv->Wq Bool):Prop:=∀{M δ s c} {Q:Bool->J5->Prop},Inv X M δ s->f δ=U c->(∀s' M',Ext M M'->Inv X M' δ s'->Q c s')->
 WP X (forIn ifs V λc r=>if r=V then do let ok <-isTrue c X.env (eval c X.env);pure (Mf ok) else pure (Mf r)) Q s
def EX {X:Cx}:DTs X [] (λ_=>U V):=λI e k=>by cases e;exact wpAny_tests_nil (k _ _ Ext.refl I)
def EJ {X:Cx}{c:Expr}(h:DT X c f):DTs X [c] f:=λI e k=>wpAny_tests_one (h I e k)
def cP (env:Env):Ww (Kr×Nu)->Ww (Kr×Kp)->Ww (Kr×Kp)
 |[],acc=>acc
 |(n,k)::r,acc=>if(k==N8)=V then cP env r ((n,(env.cells.lookup n).getD 0)::acc) else cP env r acc
theorem pN (env:Env):∀(names:Ww (Kr×Nu)) (acc:Ww (Kr×Kp)),(∀y∈names,y.2=.free->∃c,env.cells.lookup y.1=U c)->
  (forIn names acc (λ(x:Kr×Nu) (cs:Ww (Kr×Kp))=>(match x with
   |(name,kind)=>if(kind==.free)=V then(do let c <-cellOf env name;pure (Mf ((name,c)::cs))) else pure (Mf cs):PZ (ForInStep (Ww (Kr×Kp))))))=pure (cP env names acc)
 |[],acc,_=>rfl
 |(n,k)::r,acc,h=>by
  let hr:=λy hy=>h y (Kb _ hy)
  rw[List.forIn_cons];unfold cP;cases hk:k==N8 with
  |true=>
   let⟨c,e⟩:=h (n,k) Kg (eq_of_beq hk);let ec:cellOf env n=pure c:=by unfold cellOf;rw[e]
   simp![if_true,ec,pure_bind,hk,e,PB];exact pN env r _ hr
  |false=>
   simp![Ko,if_false,pure_bind,hk];exact pN env r acc hr
nonrec theorem fV (env:Env):∀(names:Ww (Kr×Nu)) (acc:Ww (Kr×Kp)),(∀y∈names,y.2=.free->∃c,env.cells.lookup y.1=U c)->
  (∀x c,acc.lookup x=U c->env.cells.lookup x=U c)->∀x c,(cP env names acc).lookup x=U c->env.cells.lookup x=U c
 |[],acc,_,ha=>ha
 |(n,k)::r,acc,h,ha=>by
  let hr:=λy hy=>h y (Kb _ hy)
  unfold cP;split
  ·rename_i hk
   let⟨c,e⟩:=h (n,k) Kg (eq_of_beq hk);refine fV env r _ hr λx d hx=>?_
   rw[PW]at hx;cases q:x==n with
   |true=>simp_all
   |false=>rw[q]at hx;exact ha x d hx
  ·exact fV env r acc hr ha
theorem ii (env:Env) (x:Kr):∀(names:Ww (Kr×Nu)) (acc:Ww (Kr×Kp)),((x,N8)∈names\/∃c,acc.lookup x=U c)->∃c,(cP env names acc).lookup x=U c
 |[],acc,h=>h.elim (λz=>nomatch z) id
 |(n,k)::r,acc,h=>by
  unfold cP;split
  ·refine ii env x r _ ?_
   by_cases q:(x==n)=V
   ·simp_all
   ·rcases h with h|⟨c,h⟩
    ·simp_all
    ·exact .inr ⟨c,by rw[PW];simp[q,h]⟩
  ·refine ii env x r _ ?_
   grind
def iJ {scope:MJ}{env:Env}(h:∀y∈scope.names,y.2=.free->∃c,env.cells.lookup y.1=U c):closureFor scope env=pure (cP env scope.names []):=by
 let q:closureFor scope env=((forIn scope.names [] (λ(x:Kr×Nu) (cs:Ww (Kr×Kp))=>(match x with
   |(name,kind)=>if(kind==.free)=V then(do let c <-cellOf env name;pure (Mf ((name,c)::cs))) else pure (Mf cs):PZ (ForInStep (Ww (Kr×Kp)))))) >>= λcs=>pure cs):=rfl
 rw[q,pN env scope.names [] h,pure_bind]
theorem bX {env:Env}:∀{names:Ww (Kr×Nu)}{x:Kr}{k:Nu},
  (names.map λ(n,k)=>if(k==N8&&env.scope.kind==.function&&env.kindOf n==U .cell) then(n,NameKind.cell) else(n,k)).lookup x=U k->
  names.lookup x=U k\/(names.lookup x=U .free/\k=.cell)
 |[],_,_,h=>by simp at h
 |(n,k')::r,x,k,h=>by
  let ih:=@bX env r x k
  grind
structure CompScope (X:Cx) (scope:MJ) (bs:Ww Bool):Prop where
 kind:scope.kind=.function
 cell:∀y∈scope.names,y.2≠.cell
 loc:∀y∈scope.names,y.2=.local->scope.names.lookup y.1=U .local
 fre:∀y∈scope.names,y.2=.free->scope.names.lookup y.1=U .free/\(X.env.kindOf y.1=U .cell\/X.env.kindOf y.1=U .free)
 len:bs.length=X.N.length
 vis:∀(i:Nat) (x:Kr),X.N[i]?=U x->bs[i]?=U V->scope.names.lookup x=U .free
nonrec theorem yI {bo:Bool}{bs:Ww Bool}{δ:DEnv}{i:Nat}{d:D}{ow:Bool}(h:(aF bo bs δ)[i]?=U (U (d,ow))):bs[i]?=U V/\ow=Y/\∃b,δ[i]?=U (U (d,b))/\(b=V->bo=V):=by
 unfold aF at h;rw[Q4]at h
 cases e1:bs[i]? with
 |none=>simp[e1]at h
 |some b=>
  cases e2:δ[i]? with
  |none=>simp[e1,e2]at h
  |some o=>
   cases b<;>cases o<;>simp[e1,e2]at h
   rename_i y;let⟨d',b'⟩:=y;let⟨h1,rfl,rfl⟩:=h;exact⟨rfl,rfl,b',rfl,h1⟩
section
variable{X:Cx}{M M' M1:Mp}{δ:DEnv}{s s':J5}{scope:MJ}{bs:Ww Bool}{bo:Bool}{fp:Ww Kp}{elt tg iter:Expr}{ifs:Ww Expr}{pos:PA}{fi:DEnv->Wq (Ww D)}{τ:D->DEnv->Wq DEnv}{ft:DEnv->Wq Bool}{fe:DEnv->Wq D}
def CompScope.has (S:CompScope X scope bs) (I:Inv X M δ s):∀y∈scope.names,y.2=.free->∃c,X.env.cells.lookup y.1=U c:=λy hy e=>I.ok.has y.1 (S.fre y hy e).2
def Bu {m:Kr->Wq J4}{C:Kp}(S:CompScope X scope bs) (I:Inv X M δ s) (hf:∀b∈fp,Free X M b) (hC:s.heap.objs.size<=C) (hns:s'.heap.Ns C m) (hk:∀b o,s.heap.get? b=U o->s'.heap.get? b=U o) (hg:s'.os=s.os/\s'.gens=s.gens):
  Inv (cxC X scope (cP X.env scope.names []) C) (cal bo V M s.heap fp) (aF bo bs δ) s':=by
 let hh:=S.has I;let cons:=fV X.env scope.names [] hh (λx c e=>by simp at e)
 let⟨k1,k2,k3,k4⟩:=I.calI (m:=bo) (ko:=V) hf;let⟨m0,hn0,hl⟩:=I.loc;refine⟨⟨I.ok.mod,S.kind,I.ok.glob,I.ok.blt,λx y c h1 h2=>I.ok.inj x y c (cons x c h1) (cons y c h2),λx hx=>?_,I.ok.room⟩,⟨hg.1.trans I.og.1,hg.2.trans I.og.2⟩,λa k o e=>hk _ _ (k1 _ _ _ e),k2,⟨m,hns,λi x d b h1 h2 h3=>?_⟩,?_,λx c e=>?_,k3.to (λ_ _ h=>h) (λq h=>(k3 q h).1) λq _ o e=>hk _ _ e,λa i o e=>I.own a i o (k4 _ _ _ e).2,λa b i o o' e e'=>I.uni a b i o o' (k4 _ _ _ e).2 (k4 _ _ _ e').2,?_,λ_ _ e=>I.calS e⟩
 ·let key:(x,N8)∈scope.names:=by
   rcases hx with q|q
   ·rcases bX q with q|⟨q,_⟩
    ·exact absurd rfl (S.cell _ (LQ q))
    ·exact LQ q
   ·rcases bX q with q|⟨_,q⟩
    ·exact LQ q
    ·cases q
  exact ii X.env x scope.names [] (.inl key)
 ·let⟨hb,rfl,o,ho,hbo⟩:=yI h2
  let hfr:=S.vis i x h1 hb;let⟨_,hkd⟩:=S.fre _ (LQ hfr) rfl;let⟨u,lk,va⟩:=hl i x d o h1 ho (hkd.elim (λz=>.inr (.inl z)) λz=>.inr (.inr z))
  refine⟨u,.inr ⟨?_,?_⟩,(va.rep hbo).to oW⟩
  ·rcases h3 with q|q|q
   ·rcases bX (show(relabel scope X.env).names.lookup x=U .local from q)with q|⟨_,q⟩
    ·lia
    ·cases q
   ·exact .inl q
   ·exact .inr q
  ·rcases lk with⟨kl,_⟩|⟨_,c,ec,oc,q1,q2⟩
   ·lia
   ·let⟨c',e'⟩:=ii X.env x scope.names [] (.inl (LQ hfr))
    have:=cons x c' e';rw[ec]at this;cases this;exact⟨c,e',oc,hk c oc q1,q2⟩
 ·let f:=I.fresh hC
  show cal bo V M s.heap fp C=B;unfold cal;rw[f.m];dsimp only;split
  ·rfl
  ·rw[O2 hC];rfl
 ·let ce:=cons x c e
  let⟨⟨v,o,q1,q2⟩,z⟩:=I.cell x c ce;refine⟨⟨v,o,hk _ _ q1,q2⟩,.inr ⟨rfl,?_⟩⟩
  rcases z with z|⟨_,o',z⟩
  ·refine⟨o,?_⟩
   unfold cal;rw[z];rw[if_neg,q1];rfl
   rintro(w|⟨q,w1,w2⟩)
   ·exact(hf c w).c x ce
   ·let⟨_,ps,w3,_⟩:=I.tabs q w1
    lia
  ·exact⟨o',by unfold cal;rw[z]⟩
 ·unfold aF;rw[List.length_zipWith,S.len,I.len,Nat.min_self]
def Fp (τ:D->DEnv->Wq DEnv):Prop:=∀d d' δ δ',τ d δ=U δ'->τ d' δ'=τ d' δ
def xJ (i:Nat):Fp (af i):=λd d' δ δ' h=>by obtain rfl:=dO h;unfold af;simp
nonrec theorem At (i j:Nat) (hij:i≠j):Fp (aB (ah (af i) (ah (af j) toNil))):=λd d' δ δ' h=>by
 cases d<;>try cases h
 rename_i ds
 match ds,h with
 |[a,b],h=>
  let⟨δ1,h1,h⟩:=ai h;let⟨δ2,h2,h⟩:=ai h;cases h;obtain rfl:=dO h1;obtain rfl:=dO h2;cases d'<;>try rfl
  rename_i es
  match es with
  |[]=>rfl
  |[c]=>simp![aB,ah,af,Mk];split<;>rfl
  |c::e::es=>
   let e3:(((qaq δ i (U (a,Y))).set j (U (b,Y))).set i (U (c,Y))).set j (U (e,Y))=(qaq δ i (U (c,Y))).set j (U (e,Y)):=by
    rw[Pi _ _ hij.symm,N2,N2]
   simp_all [aB,ah,af,Mk,ae,e3]
 |[],h=>cases h
 |[a],h=>let⟨_,_,h⟩:=ai h;cases h
 |a::b::c::ds,h=>let⟨_,_,h⟩:=ai h;let⟨_,_,h⟩:=ai h;cases h
theorem sY {R:O9->J5->Prop}{it acc:J4}{env:Env}{A:KH}(I:Nat->J5->Prop)
  (turn:∀n s,I n s->wpAny (model P w) A (pyNext it) (λr s₁=>match r with
   |none=>R (.ok .next) s₁
   |some v=>wpAny (model P w) A (letOwnedTupleGo tg it v) (λ_ s₁=>wpAny (model P w) A (assign tg env v) (λ_ s₂=>
     wpAny (model P w) A (forIn ifs V λc r=>if r=V then do let ok <-isTrue c env (eval c env);pure (Mf ok) else pure (Mf r)) (λok s₃=>
      if ok=V then wpAny (model P w) A (eval elt env) (λx s₄=>
       wpAny (model P w) A (call (.builtin "list.append") [acc,x]) (λ_ s₅=>∃m,m<n/\I m s₅) (λ_ _=>False) s₄) (λ_ _=>False) s₃
      else ∃m,m<n/\I m s₃) (λ_ _=>False) s₂) (λ_ _=>False) s₁) (λ_ _=>False) s₁) (λ_ _=>False) s)
  (n:Nat) (h:I n s):
  codeAny (model P w) A (.compLoop (.ListComp elt [⟨tg,iter,ifs,0⟩] scope pos) 0 it acc env) R s:=by
 refine codeAny_loop rfl I (λn s hI=>?_) n h
 refine wpAny_noted ?_
 refine JY (PT (JY (L5 (turn n s hI) (λr s₁ h₁=>?_) λ_ _ h'=>h'.elim)))
 cases r with
 |none=>exact JZ h₁
 |some v=>
  refine JY (L5 h₁ (λ_ s₁' h₁'=>?_) λ_ _ h'=>h'.elim)
  refine JY (L5 h₁' (λ_ s₂ h₂=>JY (L5 h₂ (λok s₃ h₃=>?_) λ_ _ h'=>h'.elim)) λ_ _ h'=>h'.elim)
  cases ok with
  |false=>exact JZ ⟨rfl,h₃⟩
  |true=>
   exact JY (JY (L5 h₃ (λx s₄ h₄=>JY (L5 h₄ (λ_ s₅ h₅=>JZ (JZ ⟨rfl,h₅⟩)) λ_ _ h'=>h'.elim)) λ_ _ h'=>h'.elim))
nonrec theorem Ext.unp (h:Ext (pin X M hp) M1):Ext M (L2.unp X M hp M1):=λa=>by
 unfold L2.unp;split
 ·rename_i z;exact .inl z.1.m.symm
 ·let e:pin X M hp a=M a:=by
   unfold pin;split
   ·rename_i f
    simp[f.m];lia
   ·rfl
  rw[<-e];exact h a
nonrec theorem yT {RR:J4->Kp->O9->J5->Prop}{it:Kp}{tn:Nat->LF->Prop}(hτ:Fp τ) (S:CompScope X scope bs) (hg:∀cl C,DG (cxC X scope cl C) tg τ) (ht:∀cl C,DTs (cxC X scope cl C) ifs ft) (he:∀cl C,DE (cxC X scope cl C) Y elt fe)
  (I:Inv X M δ s) (T:Turn2 X.A tg bm bo M ds fp it tn) (t0:tn 0 s.heap) (hf:∀b∈fp,Free X M b) (e2:bJ bo bs τ ft fe δ ds=U ls)
  (k:∀acc C m s' M' vs,Ext M M'->Inv X M' δ s'->Free X M' acc->Free X M' C->s'.heap.Ns C m->acc≠C->(∃n,s'.heap.get? acc=U {cls:=.type "list",data:=.seq vs.toArray n})->vs.length<=lim->Rs bo M' ls vs->RR (.ref acc) C (.ok .next) s'):
  WP X (newList []) (λacc s₃=>WP X (newFunctionEnv scope X.env.globals (cP X.env scope.names []) [] X.env.qual B .none (U X.env)) (λcenv s₄=>
   codeAny (model P w) X.A (.compStart (.ListComp elt [⟨tg,iter,ifs,0⟩] scope pos) 0 (.ref it) acc {cenv with scope:=relabel scope X.env}) (RR acc cenv.locals) s₄) s₃) s:=by
 unfold bJ at e2;split at e2<;>try cases e2
 refine Le ?_
 let hz:({s with heap:=s.heap.push {cls:=.type "list",dict:=B,data:=.seq ([]:Ww J4).toArray}}:J5).heap.objs.size=s.heap.objs.size+1:=Lz ..
 refine wpAny_newFunctionEnv S.cell (λy hy=>by simp at hy) (λh₁ hns₁ hsb₁=>?_) S.kind
 rw[hz]at hns₁ hsb₁⊢;let keep:∀b o,(s.heap.push {cls:=.type "list",dict:=B,data:=.seq ([]:Ww J4).toArray}).get? b=U o->h₁.get? b=U o:=λb o e=>(hsb₁.2 b (by have:=Kc e;rw[Lz]at this;exact KF this)).trans (J0 _ e)
 let hex:=T.ex t0;generalize hs5:({s with heap:=h₁,toks:=s.toks+([]:Ww (Kr×J4)).length}:J5)=s5
 let h5:s5.heap=h₁:=by rw[<-hs5]
 let kp5:∀b o,s.heap.get? b=U o->s5.heap.get? b=U o:=λb o e=>by rw[h5];exact keep b o (J0 _ e)
 let I5:=Bu (bo:=bo) (s':=s5) S I hf (NX _) (by rw[h5];exact hns₁) kp5 (by rw[<-hs5];exact⟨rfl,rfl⟩)
 let hacc:s5.heap.get? s.heap.objs.size=U {cls:=.type "list",data:=.seq ([]:Ww J4).toArray}:=by rw[h5];exact keep _ _ (J7 _ rfl)
 let fa:Free X M s.heap.objs.size:=I.fresh (Kh _);let lt:∀b∈fp,b<s.heap.objs.size:=λb hb=>by let⟨o,e⟩:=hex b hb;exact Kc e
 let cons:=fV X.env scope.names [] (S.has I) (λx c e=>by simp at e)
 let frC:∀{b},cal bo V M s.heap fp b=B->Free X M b->b≠s.heap.objs.size+1->Free (cxC X scope (cP X.env scope.names []) (s.heap.objs.size+1)) (cal bo V M s.heap fp) b:=λ{b} z f ne=>⟨z,ne,λx e=>f.c x (cons x _ e),f.t,f.s⟩
 let cn:cal bo V M s.heap fp s.heap.objs.size=B:=by
  unfold cal;rw[fa.m];dsimp only;split;rfl;rw[O2 (Kh _)];rfl
 let f0:∀b∈s.heap.objs.size::fp,Free (cxC X scope (cP X.env scope.names []) (s.heap.objs.size+1)) (cal bo V M s.heap fp) b:=λb hb=>by
  rcases on.mp hb with rfl|hb
  ·exact frC cn fa (KF (LD _))
  ·exact frC (by unfold cal;rw[(hf b hb).m];exact if_pos (.inl hb)) (hf b hb) (KF (Ol (lt b hb)))
 let loop:codeAny (model P w) X.A (.compLoop (.ListComp elt [⟨tg,iter,ifs,0⟩] scope pos) 0 (.ref it) (.ref s.heap.objs.size) (compEnvC scope (cP X.env scope.names []) (s.heap.objs.size+1) X.env)) (RR (.ref s.heap.objs.size) (s.heap.objs.size+1)) s5:=by
  refine sY (λn s'=>∃i δ' M' vs l1 l2 e,n=ds.length - i/\i<=ds.length/\vs.length<=i/\Ext (cal bo V M s.heap fp) M'/\Inv (cxC X scope (cP X.env scope.names []) (s.heap.objs.size+1)) M' δ' s'/\tn i s'.heap/\(∀b∈s.heap.objs.size::fp,Free (cxC X scope (cP X.env scope.names []) (s.heap.objs.size+1)) M' b)/\
   (∀d,τ d δ'=τ d (aF bo bs δ))/\s'.heap.get? s.heap.objs.size=U {cls:=.type "list",data:=.seq vs.toArray e}/\Rs Y M' l1 vs/\ls=l1++l2/\aO (aC τ ft fe (aF bo bs δ)) (ds.drop i)=U l2) ?_ ds.length
   ⟨0,_,_,[],[],ls,_,rfl,KA _,Kh _,Ext.refl,I5,T.keep t0 λb _ o e=>kp5 b o e,f0,λ_=>rfl,hacc,rfl,rfl,e2⟩
  rintro n s6 ⟨i,δ6,M6,vs,l1,l2,ep,rfl,hi,hvs,x6,I6,t6,f6,hd6,ha6,rs6,hls,ec⟩
  let sb6:Sub bo M Y M6:=λa o q=>x6.sub _ _ (oW a o q)
  let rd6:∀a o,Rd bm M a o->s6.heap.get? a=U o:=λa o ⟨k,q,_⟩=>by
   obtain⟨k',w⟩:∃k',cal bo V M s.heap fp a=U (k',o):=by unfold cal;rw[q];cases k<;>exact⟨_,rfl⟩
   rcases x6 a with z|z
   ·exact I6.heap _ _ _ (z.trans w)
   ·rw[z.1]at w;cases w
  let f6':∀b∈fp,Free (cxC X scope (cP X.env scope.names []) (s.heap.objs.size+1)) M6 b:=λb hb=>f6 b (.tail _ hb)
  by_cases hlt:i<ds.length
  ·rw[KW hlt]at ec
   simp![aO]at ec;refine thn (T.item t6 rd6 (d:=ds[i]) (by simp[hlt])) λr s7 hz=>?_
   let⟨u,rfl,h7⟩:=hz;refine thn h7 λ_ s8 hz=>?_
   let⟨c8,t8,g8⟩:=hz;let ne:s.heap.objs.size∉fp:=λz=>absurd (lt _ z) (K3 _)
   let⟨M8,x8,I8,r8,f8'⟩:=I6.got sb6 g8 c8 f6';let ha8:=c8.2 _ _ ne ha6;let f8:∀b∈s.heap.objs.size::fp,Free (cxC X scope (cP X.env scope.names []) (s.heap.objs.size+1)) M8 b:=λb hb=>by
    rcases on.mp hb with rfl|z
    ·exact f8' _ _ (f6 _ hb) ha6
    ·let⟨o,e⟩:=T.ex t6 b z;exact f8' b o (f6 _ hb) e
   let fin:∀{δ9 M9 s9},Ext (pin (cxC X scope (cP X.env scope.names []) (s.heap.objs.size+1)) M8 s8.heap) M9->Inv (cxC X scope (cP X.env scope.names []) (s.heap.objs.size+1)) M9 δ9 s9->∃M7,Ext M8 M7/\Inv (cxC X scope (cP X.env scope.names []) (s.heap.objs.size+1)) M7 δ9 s9/\tn (i+1) s9.heap/\(∀b∈s.heap.objs.size::fp,Free (cxC X scope (cP X.env scope.names []) (s.heap.objs.size+1)) M7 b)/\
     s9.heap.get? s.heap.objs.size=U {cls:=.type "list",data:=.seq vs.toArray ep}/\Sub Y M9 Y M7:=λy J=>by
    let⟨h1,h2,h3,h4,h5,h6⟩:=I8.unp J y.sx;exact⟨_,y.unp,h1,T.keep t8 λb hb o e=>(h6 b o (f8 b (.tail _ hb)) e).1,λb hb=>by
     rcases on.mp hb with rfl|z
     ·exact(h6 _ _ (f8 _ hb) ha8).2
     ·let⟨o,e⟩:=T.ex t8 b z;exact(h6 b o (f8 b hb) e).2,(h6 _ _ (f8 _ (.head _)) ha8).1,h3⟩
   cases q:aC τ ft fe (aF bo bs δ) ds[i]with
   |none=>rw[q]at ec;cases ec
   |some oy=>
    rw[q]at ec;let⟨δ1,q1,q2⟩:=ai q;let q1':τ ds[i] δ6=U δ1:=by rw[hd6];exact q1
    let hd1:∀d,τ d δ1=τ d (aF bo bs δ):=λd=>by rw[hτ _ d _ _ q1',hd6 d]
    refine hg _ _ I8.pin (r8.to kT) q1' λs9 I9=>?_
    split at q2
    ·rename_i qt
     refine ht _ _ I9 qt λs10 M10 x10 I10=>?_
     split at q2<;>cases q2
     rename_i y qe;dsimp only at ec;split at ec<;>cases ec
     rename_i l3 qc;refine(he _ _).ev I10 qe λv s11 M11 x11 I11 r11=>?_
     let⟨M7,y1,J,t7,f7,ha7,sb⟩:=fin (x10.trans x11) I11;let hl:lim<sizeLine:=by decide +kernel
     let g:=Pg ha7 (λa=>a.push v)
     refine Oo PR ⟨_,ha7,rfl⟩ Pz (Pn _ _) (Py s.heap.objs.size vs.toArray ep v (by simp;lia)) ⟨ha7,ds.length - (i+1),by lia,i+1,δ1,M7,vs++[v],l1++[y],l3,_,rfl,hlt,by simp;lia,(x6.trans x8).trans y1,J.wr (s':={s11 with heap:=s11.heap.update s.heap.objs.size (Kx λa=>a.push v)}) [s.heap.objs.size] (λb hb=>f7 b (by simp_all)) (λb o hb e=>(Ki _ _ (λz=>hb (by simp[z]))).trans e),T.keep t7 λb hb o e=>(Ki _ _ (λz=>ne (by rw[z];exact hb))).trans e,f7,hd1,by simpa using g,((rs6.up x8).up y1).append (.one (r11.to sb)),by simp[hls],qc⟩
    ·rename_i qt
     cases q2;refine ht _ _ I9 qt λs10 M10 x10 I10=>?_
     let⟨M7,y1,J,t7,f7,ha7,sb⟩:=fin x10 I10;exact⟨ds.length - (i+1),by lia,i+1,δ1,M7,vs,l1,l2,ep,rfl,hlt,by lia,(x6.trans x8).trans y1,J,t7,f7,hd1,ha7,(rs6.up x8).up y1,hls,ec⟩
    ·cases q2
  ·obtain rfl:i=ds.length:=by lia
   rw[Ox]at ec;cases ec;rw[Ls]at hls;subst hls;refine thn (T.done t6 rd6) λr s7 hz=>?_
   let⟨rfl,c7⟩:=hz;let J:=I6.ch c7 f6';let⟨I7,sb⟩:=I.ret (m:=bo) J hf (λb hb=>(f6' b hb).m) x6.sx (λa i o z=>(x6 a).elim (λw=>w.trans z) λw=>by rw[w.1]at z;cases z)
   let fr:∀c,s.heap.objs.size<=c->M6 c=B->Free X (bak M s.heap M6) c:=λc h z=>by
    let f:=I.fresh h;exact⟨by unfold bak;rw[f.m];dsimp only;rw[if_neg (by simp[O2 h]),z],f.l,f.c,f.t,f.s⟩
   let⟨m',hn,_⟩:=J.loc;exact k _ _ m' s7 _ vs sQ I7 (fr _ (Kh _) (f6 _ (.head _)).m) (fr _ (NX _) J.free) hn (KF (LD _)) ⟨ep,c7.2 _ _ (λz=>absurd (lt _ z) (K3 _)) ha6⟩ (by lia) (rs6.to sb)
 exact codeAny_compStart_list loop (T.self (T.keep t0 λb _ o e=>kp5 b o e) loop)
def nM {bm bo:Bool}(hτ:Fp τ) (hi:DI2 X bm bo tg iter fi) (S:CompScope X scope bs) (hg:∀cl C,DG (cxC X scope cl C) tg τ) (ht:∀cl C,DTs (cxC X scope cl C) ifs ft) (he:∀cl C,DE (cxC X scope cl C) Y elt fe) {Q:J4->J5->Prop}(I:Inv X M δ s) (e:ae (fi δ) (bJ bo bs τ ft fe δ)=U ls) (fl:bo=V->D.flats ls=V) (k:PostF X M δ (.lst ls) Q):
  WP X (eval (.ListComp elt [⟨tg,iter,ifs,0⟩] scope pos) X.env) Q s:=by
 let⟨ds,e1,e2⟩:=ai e;refine wpAny_comprehension_free (use:=B) rfl (λx=>i8 hi.pl) (iJ (S.has I)) S.kind S.loc (hi.ev I e1 λit fp tn s1 M1 x1 I1 T t0 f1=>?_)
 refine yT (RR:=λacc C=>compPost (model P w) X.A (λ_ _=>False) B Q acc C) hτ S hg ht he I1 T t0 f1 e2 ?_
 intro acc C m s' M' vs x2 I2 fa fC hn ne ⟨n,ha⟩ hl rs;let rs':Rs Y M' ls vs:=by
  cases bo with
  |false=>exact rs
  |true=>exact Rs.flat I2.own (fl rfl) rs
 exact⟨m,hn,λh' hs=>k _ _ _ M' (x1.trans x2) (I2.wr (s':={s' with heap:=h'}) [C] (λb hb=>by simp_all) λb o hb e=>(hs.2 b λz=>hb (by simp[z])).trans e) fa ((hs.2 acc ne).trans ha) ⟨vs,⟨ax hl,n,rfl⟩,rs'⟩⟩
theorem FI {bm:Bool}(hτ:Fp τ) (hi:DI2 X bm Y tg iter fi) (S:CompScope X scope bs) (hg:∀cl C,DG (cxC X scope cl C) tg τ) (ht:∀cl C,DTs (cxC X scope cl C) ifs ft) (he:∀cl C,DE (cxC X scope cl C) Y elt fe):
  DF X (.ListComp elt [⟨tg,iter,ifs,0⟩] scope pos) (λδ=>aq (ae (fi δ) (bJ Y bs τ ft fe δ))):=⟨rfl,λ{M δ s d Q} I e k=>by
 cases q:ae (fi δ) (bJ Y bs τ ft fe δ)with
 |none=>simp[q,aq]at e
 |some ls=>simp![q,aq]at e;cases e;exact nM hτ hi S hg ht he I q (λz=>nomatch z) k⟩
theorem Bx (hτ:Fp τ) (hi:DI X V tg iter fi) (S:CompScope X scope bs) (hg:∀cl C,DG (cxC X scope cl C) tg τ) (ht:∀cl C,DTs (cxC X scope cl C) ifs ft) (he:∀cl C,DE (cxC X scope cl C) Y elt fe):
  DF X (.ListComp elt [⟨tg,iter,ifs,0⟩] scope pos) (λδ=>aq (nQ (ae (fi δ) (bJ V bs τ ft fe δ)))):=⟨rfl,λ{M δ s d Q} I e k=>by
 cases q:ae (fi δ) (bJ V bs τ ft fe δ)with
 |none=>simp[q,aq,nQ]at e
 |some ls=>
  simp![q,aq,nQ]at e
  by_cases fl:D.flats ls=V
  ·rw[if_pos fl]at e;cases e;exact nM hτ hi S hg ht he I q (λ_=>fl) k
  ·rw[if_neg fl]at e;cases e⟩
theorem BL {y:Kr}{py spos:PA}{bm:Bool}(hx:Lc X i y) (hτ:Fp τ) (hi:DI2 X bm Y tg iter fi) (S:CompScope X scope bs) (hg:∀cl C,DG (cxC X scope cl C) tg τ) (ht:∀cl C,DTs (cxC X scope cl C) ifs ft) (he:∀cl C,DE (cxC X scope cl C) Y elt fe)
  (hsw:swapsWith (.ListComp elt [⟨tg,iter,ifs,0⟩] scope pos) (U (.Name y py)) spos.line X.env=pure V):DS X (.Assign [.Name y py] (.ListComp elt [⟨tg,iter,ifs,0⟩] scope pos) spos) (λδ=>dF i (aq (ae (fi δ) (bJ Y bs τ ft fe δ))) δ):=λ{M δ s o Q} I e k=>by
 let⟨d,ed,rfl⟩:=qn e;cases q:ae (fi δ) (bJ Y bs τ ft fe δ)with
 |none=>simp[q,aq]at ed
 |some ls=>
  simp![q,aq]at ed;cases ed;let⟨ds,e1,e2⟩:=ai q;rw[exec_Assign_Name_used _ _ _ _ hsw];refine JY (PT (JY ?_))
  refine JY (L5 (wpAny_comprehension_free (use:=U (assign (.Name y py) X.env)) (Q:=λ_ s'=>Q .next s') rfl (λx=>i8 hi.pl) (iJ (S.has I)) S.kind S.loc
   (hi.ev I e1 λit fp tn s1 M1 x1 I1 T t0 f1=>?_)) (λ_ s' hq=>JZ (JZ hq)) λ_ _ e=>e)
  refine yT (RR:=λacc C=>compPost (model P w) X.A (λ_ _=>False) (U (assign (.Name y py) X.env)) (λ_ s'=>Q .next s') acc C) hτ S hg ht he I1 T t0 f1 e2 ?_
  intro acc C m s' M' vs x2 I2 fa fC hn ne ⟨n,ha⟩ hl rs;refine OB (I2.setOwn fa ha (d:=.lst ls) ⟨vs,⟨ax hl,n,rfl⟩,rs⟩ hx λs3 M3 c I3 h1 h2 h3 h4 h5=>?_)
  let hC:C≠c:=by
   rcases h4 with rfl|h4
   ·exact fC.l
   ·rintro rfl;exact fC.c y h4
  exact⟨m,hn.sameBut h3 hC,λh' hs=>k _ M3 ((x1.trans x2).sx.trans ⟨h1,λa o q=>(h2 a o).mp q,λa o q=>(h2 a o).mpr q⟩) (I3.wr (s':={s3 with heap:=h'}) [C] (λb hb=>by rw[qaa.mp hb];exact⟨h5 _ fC.m (Kt ne),fC.l,fC.c,fC.t,fC.s⟩) λb o hb e=>(hs.2 b λz=>hb (by simp[z])).trans e)⟩
end
end L2
namespace L2
open PySem PySem.Spec PyProof.Rows Md
variable[Md]
mutual
noncomputable def cF:D->Nat
 |.int _=>1
 |.str _=>1
 |.tup ds=>b7 ds+1
 |_=>0
noncomputable def b7:Ww D->Nat
 |[]=>0
 |d::ds=>cF d+b7 ds
end
theorem kM:∀a b:Ww D,b7 (a++b)=b7 a+b7 b
 |[],b=>by simp[b7]
 |d::a,b=>by simp[b7,kM a b,QK]
theorem nN (w:LY):∀ds,vH w ds=ds.map (dR w)
 |[]=>rfl
 |d::ds=>by simp[vH,nN w ds]
def CM (h:dn n (.tup ds)=V):∃k,n=k+1/\ds.all (dn k)=V:=by cases n with|zero=>cases h|succ k=>exact⟨k,rfl,h⟩
def eR:∀{n d},dn n d=V->okD n d=V:=by
 intro n
 induction n with
 |zero=>intro d h;cases d<;>simp_all [dn,okD]
 |succ n ih=>intro d h;cases d<;>simp_all [dn,okD]
def shh (hd:dn n d=V) (r:R m M d u):(∃i t,d=.int i/\u=.int i t)\/(∃i t,d=.str i/\u=.str i t)\/∃ds a o vs k,d=.tup ds/\u=.ref a/\n=k+1/\ds.all (dn k)=V/\Rd m M a o/\TupO o vs/\Rs m M ds vs:=by
 cases d with
 |int i=>let⟨t,rfl⟩:=r;exact .inl ⟨_,_,rfl,rfl⟩
 |str i=>let⟨t,rfl⟩:=r;exact .inr (.inl ⟨_,_,rfl,rfl⟩)
 |tup ds=>let⟨a,o,vs,rfl,r1,r2,r3⟩:=r;let⟨k,rfl,h⟩:=CM hd;exact .inr (.inr ⟨_,a,o,vs,k,rfl,rfl,rfl,h,r1,r2,r3⟩)
 |_=>simp[dn]at hd
def qW:∀(n:Nat) {d u} {A:KH}{s:J5}{Q:Int->J5->Prop}{E:J4->J5->Prop},Hm M s.heap->dn n d=V->A.units+2*n+2<cLine->R m M d u->Q (dR w d) {s with toks:=s.toks+cF d}->wpAny (model P w) A (pyHash u) Q E s:=by
 intro n
 induction n using LB with
 |ind n ih=>
 intro d u A s Q E H hd hA r hQ
 rcases shh hd r with⟨i,t,rfl,rfl⟩|⟨i,t,rfl,rfl⟩|⟨ds,a,o,vs,k,rfl,rfl,rfl,hd',q,t,rs⟩
 ·exact wpAny_pyHash_int hQ
 ·exact wpAny_pyHash_str hQ
 ·let⟨o,ho,hc,m,hdat⟩:=t.is H q
  let hT:s.TypeIs (.ref a) "tuple":=⟨o,ho,hc⟩;refine JY (wpAny_cRoomFor_or (.inr (by lia)) (JY (Ms hT F.slot_tuple_hash.lookup ?_)))
  refine JY (Ms hT F.slot_tuple_hash.lookup ?_)
  refine JY (wpAny_callSpecialIfBoundUnlessNone?_slot hT F.slot_tuple_hash (KU F.slot_tuple_hash hT F.entry_tuple_hash ?_ (F.args_tuple_hash_1 _)))
  show wpAny _ _ (Builtin.Tuple.tupleItemsOf (.ref a) >>= _) _ _ _;refine JY (wpAny_tupleItemsOf ho hdat (JY ?_))
  rw[<-N6];refine MB _ (λrest (b:Array Int) s'=>∃done left,ds=done++left/\Rs _ M left rest/\b.toList=done.map (dR w)/\s'={s with toks:=s.toks+b7 done}) _ ?_ ?_ _ _ ⟨[],ds,rfl,by trivial,rfl,rfl⟩
  ·rintro v rest b s' ⟨done,left,rfl,hl,hb,rfl⟩
   cases left with
   |nil=>cases hl
   |cons d' left'=>
    let⟨v',r',e',r1,r2⟩:=hl;cases e';let hd1:dn k d'=V:=by simp_all
    refine JY (ih k (by lia) (s:={s with toks:=s.toks+b7 done}) H hd1 (show A.units+1+2*k+2<cLine by lia) r1 ?_)
    let et:({s with toks:=s.toks+b7 done+cF d'}:J5)={s with toks:=s.toks+b7 (done++[d'])}:=by rw[kM];simp[b7,QK]
    first
     |exact JZ ⟨done++[d'],left',by simp,r2,by simp[hb],et⟩
     |exact JY (JZ (JZ ⟨done++[d'],left',by simp,r2,by simp[hb],et⟩))
  ·rintro b s' ⟨done,left,rfl,hl,hb,rfl⟩
   obtain rfl:left=[]:=by
    have:=hl.length
    simp_all
   rw[Ls]at hQ;simp![dR,nN,cF]at hQ;show wpAny _ _ (retInt (LZ b.toList)) _ _ _;rw[hb];refine wpAny_ret_mkInt ?_
   show wpAny _ _ (if(decide (-(2:Int) ^ 63<=LZ (done.map (dR w)))&&decide (LZ (done.map (dR w))<2 ^ 63))=V then _ else _) Q E _
   unfold reduceHash at hQ
   by_cases hr:(decide (-(2:Int) ^ 63<=LZ (done.map (dR w)))&&decide (LZ (done.map (dR w))<2 ^ 63))=V
   ·rw[if_pos hr]at hQ⊢;exact JZ hQ
   ·rw[if_neg hr]at hQ⊢;exact JY (LA (JZ hQ))
def tu:∀(n:Nat) {d u} {A:KH}{s:J5}{Q:Bool->J5->Prop}{E:J4->J5->Prop},Hm M s.heap->dn n d=V->R m M d u->Q V s->wpAny (model P w) A (eqIsQuiet n u) Q E s:=by
 intro n
 induction n using LB with
 |ind n ih=>
 intro d u A s Q E H hd r hQ
 rcases shh hd r with⟨i,t,rfl,rfl⟩|⟨i,t,rfl,rfl⟩|⟨ds,a,o,vs,k,rfl,rfl,rfl,hd',q,t,rs⟩
 ·unfold eqIsQuiet;exact JZ hQ
 ·unfold eqIsQuiet;exact JZ hQ
 ·let⟨o,ho,hc,m,hdat⟩:=t.is H q
  let hT:s.TypeIs (.ref a) "tuple":=⟨o,ho,hc⟩;unfold eqIsQuiet;refine JY (Ms hT F.slot_tuple_eq.lookup ?_)
  refine JY (MA hT isSubtype_tuple_tuple ?_)
  refine JY (K9 ho hdat (JY ?_))
  rw[<-N6];refine MB _ (λrest b s'=>b.1=B/\s'=s/\∃left,left.all (dn k)=V/\Rs _ M left rest) _ ?_ ?_ _ _ ⟨rfl,rfl,ds,hd',by trivial⟩
  ·rintro v rest b s' ⟨hb,rfl,left,hall,hl⟩
   cases left with
   |nil=>cases hl
   |cons d' left'=>
    let⟨v',r',e',r1,r2⟩:=hl;cases e';rw[KG,J9]at hall;refine JY (ih k (by lia) H hall.1 r1 ?_)
    exact JZ ⟨rfl,rfl,left',hall.2,r2⟩
  ·rintro⟨b1,b2⟩ s' ⟨hb,rfl,_⟩
   simp only at hb;subst hb;exact JZ hQ
def fm (h:LF):Mp:=λa=>(h.get? a).map λo=>(.f,o)
def B3 {h:LF}:Hm (fm h) h:=λa k o e=>by
 unfold fm at e
 simp_all
def Hm.fm {h:LF}(H:Hm M h):Sub m M Y (fm h):=λa o ⟨k,e,_⟩=>rdf.mpr (by unfold L2.fm;rw[H _ _ _ e];rfl)
def R.key (g:∀a o vs,Rd m M a o->TupO o vs->Rd m' M' a o):∀{n d u},dn n d=V->R m M d u->R m' M' d u:=by
 intro n
 induction n using LB with
 |ind n ih=>
 intro d u hd r
 rcases shh hd r with⟨i,t,rfl,rfl⟩|⟨i,t,rfl,rfl⟩|⟨ds,a,o,vs,k,rfl,rfl,rfl,hd',q,t,rs⟩
 ·assumption
 ·assumption
 ·refine⟨a,o,vs,rfl,g _ _ _ q t,t,?_⟩
  clear r hd t q
  induction ds generalizing vs with
  |nil=>exact rs
  |cons d ds ih2=>
   let⟨v,r,rfl,r1,r2⟩:=rs;rw[KG,J9]at hd';exact⟨v,r,rfl,ih k (LD k) hd'.1 r1,ih2 r hd'.2 r2⟩
def kv:HeapKind P w D where
 is h d a:=dn 8 d=V/\R Y (fm h) d (.ref a)
 hash:=dR w
 draws:=cF
 room A:=A.units+30<cLine
 inj hx hy:=R.inj (eR hx.1) (eR hy.1) hx.2 hy.2
 keeps:=λ{h h' k a d o es ep} hk ho hd hs=>⟨hk.1,hk.2.key (λb ob vs q c=>rdf.mpr (by
  let e:=B3 _ _ _ (rdf.mp q);unfold fm;rw[(hs.2 b (λz=>by subst z;rw[ho]at e;cases e;let⟨_,_,n,c⟩:=c;lia)).trans e];rfl)) hk.1⟩
 pyHash:=λ{A E s k a Q} hr hk h=>qW 8 B3 hk.1 (by lia) hk.2 h
 eqBool:=λ{A E s x y a b Q} hr hx hy h=>(CF B3 8 A (eR hx.1) (eR hy.1) (by lia) hx.2 hy.2).2.1 P w E Q h
 quiet:=λ{A E s k a Q} hk h=>tu 8 B3 hk.1 hk.2 h
def xn:D->J4->Bool
 |.int i,.int j _=>i==j
 |.str x,.str y _=>y==x
 |_,_=>Y
theorem fQ (h:xn k v=V):(∃i t,k=.int i/\v=.int i t)\/∃x t,k=.str x/\v=.str x t:=by
 unfold xn at h;split at h
 ·cases beq_iff_eq.mp h;exact .inl ⟨_,_,rfl,rfl⟩
 ·cases beq_iff_eq.mp h;exact .inr ⟨_,_,rfl,rfl⟩
 ·cases h
def DM:PySem.KeyKind P w D where
 is:=xn
 hash:=dR w
 inj:=λv a b ha hb=>by
  grind [fQ]
 byValue:=λk v h=>by
  rcases fQ h with⟨i,t,rfl,rfl⟩|⟨x,t,rfl,rfl⟩<;>rfl
 pyHash:=λhv h=>by
  rcases fQ hv with⟨i,t,rfl,rfl⟩|⟨x,t,rfl,rfl⟩
  ·exact wpAny_pyHash_int h
  ·exact wpAny_pyHash_str h
 eqBool:=λ{A E s a b u v Q} hu hv h=>by
  rcases fQ hu with⟨i,t,rfl,rfl⟩|⟨x,t,rfl,rfl⟩<;>rcases fQ hv with⟨j,t',rfl,rfl⟩|⟨y,t',rfl,rfl⟩
  ·rw[show decide (D.int i=D.int j)=(i==j) by lia]at h;exact SeqAt.EqAt.int_int i t j t' _ _ _ _ h
  ·exact SeqAt.EqAt.int_str i t y t' _ _ _ _ h
  ·exact SeqAt.EqAt.str_int x t j t' _ _ _ _ h
  ·rw[show decide (D.str x=D.str y)=(x==y) by lia]at h;exact QC x t y t' _ _ _ _ h
 «strs»:=λk x t v h=>by
  rcases fQ h with⟨i,u,rfl,e⟩|⟨y,u,rfl,e⟩<;>cases e
  cases v<;>rfl
end L2
namespace L2
open PySem PySem.Spec PyProof.Rows Md
variable[Md]
nonrec theorem yf {h:LF}(H:Hm M h):∀{ks:Ww D}{l:Ww PJ}{us},l.map (·.hash)=ks.map (dR w)->l.map (·.key)=us->ks.all (kOk V)=V->Rs m M ks us->∃xs:Ww (D×Kp×J4),l=xs.map (entryOfKey kv)/\xs.map (·.1)=ks/\xs.map (·.2.2)=l.map (·.val)/\∀x∈xs,kv.is h x.1 x.2.1
 |[],l,us,h1,h2,_,rs=>by simp_all
 |k::ks,l,us,h1,h2,hk,rs=>by
  cases l with
  |nil=>simp at h1
  |cons e l=>
   rw[KG,J9]at hk;let⟨u,r,rfl,r1,r2⟩:=rs;simp![Ka,MP]at h1 h2;let⟨xs,g1,g2,g3,g4⟩:=yf H h1.2 h2.2 hk.2 r2;cases k<;>simp[kOk]at hk
   rename_i ds;let rr:=r1.to H.fm;let⟨a,o,vs,rfl,_⟩:=r1;refine⟨(.tup ds,a,e.val)::xs,?_,by simp[g2],by simp[g3],λx hx=>?_⟩
   ·let⟨eh,ek,ev⟩:=e;simp only at h1 h2;rw[Ka,<-g1,h1.1,h2.1];rfl
   ·rcases on.mp hx with rfl|hx
    ·exact⟨by simpa using hk.1,rr⟩
    ·exact g4 x hx
def G0 (h1:kOk Y k'=V) (h2:kOk Y k=V) (r:R m M k' v):xn k v=decide (k'=k):=by
 cases k'<;>simp[kOk]at h1<;>cases k<;>simp[kOk]at h2<;>let⟨t,rfl⟩:=r<;>rw[ME]<;>simp[xn]
 exact eq_comm
def lC (h:kOk b k=V):dn 8 k=V:=by cases k<;>simp_all [kOk,dn]
section
variable{M:Mp}{s:J5}{A:KH}{E:J4->J5->Prop}{m m' b:Bool}{o:PC}{ks:Ww D}{us vs:Ww J4}{k:D}{u v:J4}{d:Kp}
def DcO.at (c:DcO b o ks us vs) (e:o.data=.dict es ep):es.size=ks.length/\us.length=ks.length/\vs.length=ks.length/\∀(i:Nat),(es[i]?.map (·.hash))=(ks[i]?).map (dR w)/\(es[i]?.map (·.key))=us[i]?/\(es[i]?.map (·.val))=vs[i]?:=by
 let⟨_,_,_,_,es',ep',h,h1,h2,h3⟩:=c;rw[e]at h;cases h;let l1:=congrArg LW h1;let l2:=congrArg LW h2;let l3:=congrArg LW h3;simp![J8,Lo]at l1 l2 l3;refine⟨l1,by lia,by lia,λi=>⟨?_,?_,?_⟩⟩
 ·rw[<-Ky,<-h1,Ky,LG]
 ·rw[<-h2,Ky,LG]
 ·rw[<-h3,Ky,LG]
theorem fnd {Q:Wq Nat->J5->Prop}(hu:A.units+30<cLine) (H:Hm M s.heap) (hd:s.heap.get? d=U o) (c:DcO b o ks us vs) (rk:Rs m M ks us) (hk:kOk b k=V) (r:R m' M k u)
  (hn:k∉ks->Q B s) (hy:∀j:Nat,ks[j]?=U k->Q (U j) s):wpAny (model P w) A (dictFind d u (dR w k)) Q E s:=by
 obtain⟨es,ep,he⟩:∃es ep,o.data=.dict es ep:=by let⟨_,_,_,_,es,ep,h,_⟩:=c;exact⟨es,ep,h⟩
 let⟨l1,l2,l3,ha⟩:=c.at he;let⟨_,_,nd,al,es',ep',h,h1,h2,h3⟩:=c;rw[he]at h;cases h;cases b with
 |false=>
  let at1:∀(i:Nat) (hi:i<es.size),∃k',ks[i]?=U k'/\kOk Y k'=V/\es[i].hash=dR w k'/\R m M k' es[i].key:=λi hi=>by
   let⟨g1,g2,_⟩:=ha i;rw[Lq hi]at g1 g2
   let hk':ks[i]?=U (ks[i]'(by lia)):=by simp
   let⟨v,e1,e2⟩:=rk.get hk';rw[e1]at g2;rw[hk']at g1;simp at g1 g2;refine⟨_,hk',(qab.mp al) _ (LC _),g1,by rw[g2];exact e2⟩
  let ru:xn k u=V:=by rw[G0 hk hk r];simp
  refine wpAny_dictFind_of (knd:=DM) (k:=k) ru hd he (λe hin=>?_) ?_
  ·let⟨i,hi,rfl⟩:=Array.mem_iff_getElem.mp hin
   let⟨k',_,z1,z2,z3⟩:=at1 i hi;exact⟨k',by show xn k' _=V;rw[G0 z1 z1 z3];simp,z2⟩
  ·let key:∀(i:Nat) (hi:i<es.size),xn k es[i].key=decide (ks[i]?=U k):=λi hi=>by
    let⟨k',z0,z1,z2,z3⟩:=at1 i hi;rw[G0 z1 hk z3,z0];simp
   cases q:es.findIdx? (λe=>xn k e.key)with
   |none=>
    show Q (es.findIdx? λe=>xn k e.key) s
    rw[q];refine hn λz=>?_
    let⟨i,hi⟩:=List.mem_iff_getElem?.mp z;let hl:i<es.size:=by rw[l1];exact(List.getElem?_eq_some_iff.mp hi).1
    have:=(Array.findIdx?_eq_none_iff.mp q) es[i] (Array.getElem_mem hl)
    rw[key i hl,hi]at this;simp at this
   |some i=>
    show Q (es.findIdx? λe=>xn k e.key) s
    rw[q];let⟨hl,h5⟩:=Array.findIdx?_eq_some_iff_getElem.mp q
    let h5:=h5.1;rw[key i hl]at h5;exact hy i (of_decide_eq_true h5)
 |true=>
  let⟨xs,g1,g2,g3,g4⟩:=yf H h1 h2 al rk;let rr:=r.to H.fm;let hk8:=lC hk;obtain⟨a,rfl⟩:∃a,u=.ref a:=by cases k<;>simp[kOk]at hk;let⟨a,o',ws,rfl,_⟩:=r;lia
  refine wpAny_dictFind_heap (knd:=kv) (show kv.room A from hu) ⟨hk8,rr⟩ hd he g1 g4 (by rw[g2];exact nd) (λz=>hn λy=>?_) λj p z=>hy j ?_
  ·let⟨i,hi⟩:=List.mem_iff_getElem?.mp y
   rw[<-g2,Ky]at hi
   cases w:xs[i]? with
   |none=>simp_all
   |some x=>rw[w]at hi;injection hi with hi;exact z i x.2 (by rw[w,<-hi])
  ·rw[<-g2,Ky,z];rfl
theorem dx {β:Type}:∀{ks:Ww D}{xs:Ww β},k∉ks->bP k ks xs=B
 |[],_,_=>rfl
 |_::_,[],_=>rfl
 |x::ks,y::xs,h=>by simp![KI,not_or]at h;unfold bP;rw[if_neg (Kt h.1)];exact dx h.2
theorem kt {β:Type}:∀{ks:Ww D}{xs:Ww β}{j:Nat},ks.Nodup->ks[j]?=U k->bP k ks xs=xs[j]?
 |[],_,_,_,h=>by simp at h
 |x::ks,[],j,_,h=>rfl
 |x::ks,y::xs,0,_,h=>by simp at h;simp[bP,h]
 |x::ks,y::xs,j+1,nd,h=>by
  unfold bP;rw[if_neg λ(z:x=k)=>(qaf.mp nd).1 (z▸Kv h),kt (qaf.mp nd).2 h];rfl
def IF {Q:Wq J4->J5->Prop}(hu:A.units+30<cLine) (H:Hm M s.heap) (hd:s.heap.get? d=U o) (c:DcO b o ks us vs) (rk:Rs m M ks us) (hk:kOk b k=V) (r:R m' M k u)
  (h:∀tk,Q (bP k ks vs) {s with toks:=tk}):wpAny (model P w) A (dictGet d u) Q E s:=by
 unfold dictGet
 try with_reducible refine KB ?_
 refine JY (qW 8 H (lC hk) (by lia) r (JY (fnd (s:={s with toks:=s.toks+cF k}) hu H hd c rk hk r (λz=>?_) λj z=>?_)))
 ·rw[dx z]at h;exact JZ (h _)
 ·let nd:=c.2.2.1
  let⟨_,_,_,_,es,ep,he,_⟩:=id c;refine JY (OA (s:={s with toks:=s.toks+cF k}) hd he (JZ ?_))
  rw[((c.at he).2.2.2 j).2.2,<-kt nd z];exact h _
theorem vA {β:Type}{v:β}:∀{ks:Ww D}{xs:Ww β}{j:Nat},ks.Nodup->ks[j]?=U k->ks.length=xs.length->eY k v ks xs=xs.set j v
 |[],_,_,_,h,_=>by simp at h
 |x::ks,[],j,_,h,e=>by simp at e
 |x::ks,y::xs,0,nd,h,e=>by
  simp at h;subst h;let no:∀{ks:Ww D}{xs:Ww β},x∉ks->ks.length=xs.length->eY x v ks xs=xs:=by
   intro ks
   induction ks with
   |nil=>intro xs _ e;cases xs<;>simp_all [eY]
   |cons z ks ih=>intro xs h e;cases xs with
    |nil=>simp at e
    |cons y xs=>simp![KI,not_or]at h;unfold eY;rw[if_neg (Kt h.1),ih h.2 (by simpa using e)]
  unfold eY;simp_all
 |x::ks,y::xs,j+1,nd,h,e=>by
  unfold eY;rw[if_neg λ(z:x=k)=>(qaf.mp nd).1 (z▸Kv h),vA (qaf.mp nd).2 h (by simpa using e)];rfl
def DcO.new (c:DcO b o ks us vs) (hk:kOk b k=V) (hz:ks.length<sizeLine) (z:k∉ks) (he:o.data=.dict es ep):DcO b (o.mapDictKeys (·.push ⟨dR w k,u,v⟩)) (ks++[k]) (us++[u]) (vs++[v]):=by
 let⟨h1,h2,nd,al,es',ep',h,g1,g2,g3⟩:=c;rw[he]at h;cases h;refine⟨by simp;lia,h2.mapDictKeys _,?_,by simp[al,hk],_,_,Pa he _,by simp[g1],by simp[g2],by simp[g3]⟩
 rw[Nd];grind
def DcO.old (c:DcO b o ks us vs) (hj:j<ks.length) (he:o.data=.dict es ep):DcO b (o.mapDict (·.modify j λe=>{e with val:=v})) ks us (vs.set j v):=by
 let⟨h1,h2,nd,al,es',ep',h,g1,g2,g3⟩:=c;rw[he]at h;cases h;let l1:=congrArg LW g1;simp![J8,Lo]at l1;refine⟨h1,h2.mapDict _,nd,al,_,_,Obj.data_mapDict he _,?_,?_,?_⟩<;>refine Ng λi=>?_<;>simp![Ky,LG,Array.getElem?_modify,PG]
 ·rw[<-Ky,<-g1,Ky,LG];split<;>cases es[i]?<;>rfl
 ·rw[<-g2,Ky,LG];split<;>cases es[i]?<;>rfl
 ·rw[<-g3];simp![Ky,LG,J8,Lo]
  split
  ·simp_all
  ·rfl
def DP (k:D) (u:J4) (ks:Ww D) (us:Ww J4):Ww J4:=if k∈ks then us else us++[u]
def IN {Q:Unit->J5->Prop}(hu:A.units+30<cLine) (H:Hm M s.heap) (hd:s.heap.get? d=U o) (c:DcO b o ks us vs) (rk:Rs m M ks us) (hk:kOk b k=V) (r:R m' M k u) (hz:ks.length<sizeLine)
  (h:∀h' tk o',Ln d s.heap h'->h'.get? d=U o'->DcO b o' (bK k ks) (DP k u ks us) (kK k v ks vs)->Q () {s with heap:=h',toks:=tk}):wpAny (model P w) A (dictSet d u v) Q E s:=by
 unfold dictSet
 try with_reducible refine KB ?_
 refine JY (qW 8 H (lC hk) (by lia) r ?_)
 unfold dictSetHashed
 try with_reducible refine KB ?_
 let⟨_,_,nd,_,es,ep,he,_⟩:=id c;let⟨l1,l2,l3,ha⟩:=c.at he;refine JY (fnd (s:={s with toks:=s.toks+cF k}) hu H hd c rk hk r (λz=>?_) λj z=>?_)
 ·refine JY (LA (wpAny_updateDictKeys (hz:=by lia) (s:={s with toks:=s.toks+cF k}) hd he (h _ _ _ (KT ..) (Ku _ hd (Ph (Pa he _))) ?_)))
  unfold bK DP kK;rw[if_neg z,if_neg z,if_neg z];exact c.new hk hz z he
 ·let hm:=Kv z
  let hj:=(List.getElem?_eq_some_iff.mp z).1
  refine JY (LA (JY (wpAny_updateDict (s:={s with toks:=s.toks+cF k}) hd he (wpAny_point (h _ _ _ (KT ..) (Ku _ hd (Ph (Obj.data_mapDict he _))) ?_)))))
  unfold bK DP kK;rw[if_pos hm,if_pos hm,if_pos hm,vA nd z (by lia)];exact c.old hj he
def IE {Q:J4->J5->Prop}(hu:A.units+30<cLine) (H:Hm M s.heap) (hd:s.heap.get? d=U o) (c:DcO b o ks us vs) (rk:Rs m M ks us) (hk:kOk b k=V) (r:R m' M k u) (hz:k∉ks->ks.length<sizeLine)
  (h1:∀x tk,bP k ks vs=U x->Q x {s with toks:=tk})
  (h2:∀h' tk o',k∉ks->Ln d s.heap h'->h'.get? d=U o'->DcO b o' (bK k ks) (DP k u ks us) (kK k v ks vs)->Q v {s with heap:=h',toks:=tk}):wpAny (model P w) A (dictSetDefault d u v) Q E s:=by
 unfold dictSetDefault
 try with_reducible refine KB ?_
 let⟨_,_,nd,_,es,ep,he,_⟩:=id c;let⟨l1,l2,l3,ha⟩:=c.at he;refine JY (qW 8 H (lC hk) (by lia) r (JY (fnd (s:={s with toks:=s.toks+cF k}) hu H hd c rk hk r (λz=>?_) λj z=>?_)))
 ·refine JY (LA (JY (wpAny_updateDictKeys (hz:=by have:=hz z;lia) (s:={s with toks:=s.toks+cF k}) hd he (JZ (h2 _ _ _ z (KT ..) (Ku _ hd (Ph (Pa he _))) ?_)))))
  unfold bK DP kK;rw[if_neg z,if_neg z,if_neg z];exact c.new hk (hz z) z he
 ·let hj:j<es.size:=by rw[l1];exact(List.getElem?_eq_some_iff.mp z).1
  refine JY (OA (s:={s with toks:=s.toks+cF k}) hd he ?_)
  let g:=(ha j).2.2;rw[Lq hj]at g⊢
  exact JY (LA (JZ (h1 _ _ (by rw[kt nd z,<-g];rfl))))
end
end L2
namespace L2
open PySem PySem.Spec PyProof.Rows Md
variable[Md]
def dcD:D->Wq (Bool×Ww D×Ww D)
 |.dK ks vs=>U (Y,ks.map kD,vs)
 |.dD ks vs=>U (V,ks,vs)
 |_=>B
theorem Ks.rs:∀{ks us},Ks ks us↔Rs m M (ks.map kD) us
 |[],us=>Iff.rfl
 |.inl i::ks,us=>⟨λ⟨t,r,e,h⟩=>⟨_,r,e,⟨t,rfl⟩,Ks.rs.mp h⟩,λ⟨v,r,e,⟨t,z⟩,h⟩=>⟨t,r,by rw[<-z];exact e,Ks.rs.mpr h⟩⟩
 |.inr i::ks,us=>⟨λ⟨t,r,e,h⟩=>⟨_,r,e,⟨t,rfl⟩,Ks.rs.mp h⟩,λ⟨v,r,e,⟨t,z⟩,h⟩=>⟨t,r,by rw[<-z];exact e,Ks.rs.mpr h⟩⟩
def R.dc (r:R m M d v) (h:dcD d=U (b,ks,ds)):∃a o us vs,v=.ref a/\Rd m M a o/\DcO b o ks us vs/\Rs m M ks us/\Rs m M ds vs:=by
 cases d<;>cases h
 ·let⟨a,o,us,vs,e,q,c,k,rs⟩:=r;exact⟨a,o,us,vs,e,q,c,Ks.rs.mp k,rs⟩
 ·exact r
def Cm.dc (r:Cm m M d o) (h:dcD d=U (b,ks,ds)):∃us vs,DcO b o ks us vs/\Rs m M ks us/\Rs m M ds vs:=by
 cases d<;>cases h
 ·let⟨us,vs,c,k,rs⟩:=r;exact⟨us,vs,c,Ks.rs.mp k,rs⟩
 ·exact r
theorem Af:∀{a b:Key},kD a=kD b->a=b
 |.inl _,.inl _,h=>by cases h;rfl
 |.inr _,.inr _,h=>by cases h;rfl
theorem rZ {β:Type}{kk:Key}:∀{ks:Ww Key}{ds:Ww β},bP (kD kk) (ks.map kD) ds=bP kk ks ds
 |[],_=>rfl
 |_::_,[]=>rfl
 |x::ks,d::ds=>by
  simp![Ka,bP,rZ]
  by_cases h:x=kk
  ·lia
  ·rw[if_neg h,if_neg λz=>h (Af z)]
def u8 {kk:Key}{ks:Ww Key}:kD kk∈ks.map kD↔kk∈ks:=by
 rw[NH];exact⟨λ⟨x,h,e⟩=>Af e▸h,λh=>⟨kk,h,rfl⟩⟩
def wl {β:Type}{kk:Key}{v:β}{ks:Ww Key}{ds:Ww β}:kK (kD kk) v (ks.map kD) ds=kK kk v ks ds:=by
 let g:∀{ks:Ww Key}{ds:Ww β},eY (kD kk) v (ks.map kD) ds=eY kk v ks ds:=by
  intro ks
  induction ks with
  |nil=>intro ds;rfl
  |cons x ks ih=>intro ds;cases ds with
   |nil=>rfl
   |cons d ds=>
    simp![Ka,eY,ih]
    by_cases h:x=kk
    ·rw[if_pos h,if_pos (by rw[h])]
    ·rw[if_neg h,if_neg λz=>h (Af z)]
 unfold kK;rw[g]
 by_cases h:kk∈ks
 ·rw[if_pos h,if_pos (u8.mpr h)]
 ·rw[if_neg h,if_neg λz=>h (u8.mp z)]
def rI {kk:Key}{ks:Ww Key}:bK (kD kk) (ks.map kD)=(bK kk ks).map kD:=by
 unfold bK
 by_cases h:kk∈ks
 ·rw[if_pos h,if_pos (u8.mpr h)]
 ·rw[if_neg h,if_neg λz=>h (u8.mp z),Kn];rfl
def kB (h:sH d=U kk):d=kD kk/\kOk Y d=V:=by cases d<;>cases h<;>exact⟨rfl,rfl⟩
def lF (h:(dn 8 d&&isTD d)=V):kOk V d=V:=by cases d<;>simp_all [isTD,kOk]
nonrec theorem fU (h:jo x y=U o):∃d k b ks ds,x=U d/\y=U k/\dcD d=U (b,ks,ds)/\kOk b k=V/\o=bP k ks ds:=by
 unfold jo at h;split at h
 ·split at h<;>cases h
  rename_i kk hk;let⟨rfl,hk⟩:=kB hk;exact⟨_,_,_,_,_,rfl,rfl,rfl,hk,rZ.symm⟩
 ·split at h<;>cases h
  exact⟨_,_,_,_,_,rfl,rfl,rfl,lF (by assumption),rfl⟩
 ·cases h
nonrec theorem n5 (h:rJ x k v=U y):∃b ks ds,dcD x=U (b,ks,ds)/\kOk b k=V/\ks.length<lim/\dcD y=U (b,bK k ks,kK k v ks ds)/\∀{m M o us vs},DcO b o (bK k ks) us vs->Rs m M (bK k ks) us->Rs m M (kK k v ks ds) vs->Cm m M y o:=by
 unfold rJ at h;split at h
 ·split at h<;>try cases h
  split at h<;>cases h
  rename_i kk hk hl;let⟨rfl,hk⟩:=kB hk;refine⟨_,_,_,rfl,hk,by simpa using hl,by rw[rI,wl];rfl,λ{m M o us vs} h1 h2 h3=>?_⟩
  rw[rI]at h1 h2;rw[wl]at h3;exact⟨us,vs,h1,Ks.rs.mpr h2,h3⟩
 ·split at h<;>cases h
  rename_i hc;rw[J9,decide_eq_true_iff]at hc;exact⟨_,_,_,rfl,lF hc.1,hc.2,rfl,λ{m M o us vs} h1 h2 h3=>⟨us,vs,h1,h2,h3⟩⟩
 ·cases h
theorem kG:∀{ks:Ww D}{ds:Ww D}{vs},Rs m M ds vs->(bP k ks ds=B->bP k ks vs=B)/\∀d,bP k ks ds=U d->∃v,bP k ks vs=U v/\R m M d v
 |[],_,_,_=>⟨λ_=>rfl,λ_ h=>nomatch h⟩
 |x::ks,[],_,r=>by cases r;exact⟨λ_=>rfl,λ_ h=>nomatch h⟩
 |x::ks,d::ds,_,⟨v,r,e,h1,h2⟩=>by
  subst e;unfold bP
  by_cases h:x=k
  ·simp_all
  ·rw[if_neg h,if_neg h];exact kG h2
def zl {ks ds:Ww D}{vs:Ww J4}(r:Rs m M ds vs) (h:R m M d v):Rs m M (kK k d ks ds) (kK k v ks vs):=by
 let g:∀{ks ds:Ww D}{vs:Ww J4},Rs m M ds vs->Rs m M (eY k d ks ds) (eY k v ks vs):=by
  intro ks
  induction ks with
  |nil=>intro ds vs _;rfl
  |cons x ks ih=>intro ds vs r;cases ds with
   |nil=>cases r;rfl
   |cons e ds=>
    let⟨u,t,rfl,h1,h2⟩:=r;refine⟨_,_,rfl,?_,ih h2⟩
    split
    ·exact h
    ·exact h1
 unfold kK;split
 ·exact g r
 ·exact r.append (.one h)
def qj {ks:Ww D}{us:Ww J4}(r:Rs m M ks us) (h:R m M k u):Rs m M (bK k ks) (DP k u ks us):=by
 unfold bK DP;split
 ·exact r
 ·exact r.append (.one h)
section
variable{X:Cx}{M M':Mp}{δ:DEnv}{s:J5}{Q:J4->J5->Prop}{a b c:Expr}{fa fb fc:DEnv->Wq D}{m m' mm bb:Bool}{p px pos pos' apos cpos:PA}
def Inv.nsys (I:Inv X M δ s) (q:Rd m M d o):(d==sysModules)=Y:=by
 let⟨k,e,h⟩:=q;rw[beq_eq_false_iff_ne];rintro rfl;obtain rfl:=I.sys _ _ e;cases h
def DcO.ty (c:DcO bb o ks us vs) (e:s.heap.get? d=U o):s.TypeIs (.ref d) "dict":=⟨o,e,c.2.1.1⟩
def Rd.heap (q:Rd m M d o) (H:Hm M s.heap):s.heap.get? d=U o:=by let⟨k,e,_⟩:=q;exact H _ _ _ e
nonrec theorem Hk (ha:DE X m a fa) (hb:DE X m' b fb):DE X m (.Subscript a b pos) (λδ=>F2 (fa δ) (fb δ)):=⟨rfl,λ{M δ s d Q} I e k=>by
 unfold F2 at e;split at e<;>cases e
 rename_i q;let⟨d1,k1,b1,ks,ds,e1,e2,e3,e4,e5⟩:=fU q;refine O8 (ha.ev I e1 λv s1 M1 x1 I1 r1=>hb.ev I1 e2 λu s2 M2 x2 I2 r2=>?_)
 let⟨l,o,us,vs,rfl,q,c,rk,rs⟩:=(r1.up x2).dc e3;let ho:=q.heap I2.heap;let un:=I2.un;let⟨v,g1,g2⟩:=(kG rs).2 _ e5.symm;refine tail_any (c.ty ho) slot_dict_getitem.lookup ?_ (sd hb.pl)
 unfold getItem
 try with_reducible refine KB ?_
 refine JY (P9 (c.ty ho) (by decide) ?_)
 refine JY (Lf (name:=Lb "__getitem__") (c.ty ho) slot_dict_getitem (KU slot_dict_getitem (c.ty ho) entry_dict_getitem ?_ (args_dict_getitem _ _)))
 show wpAny _ _ (dictGet l u >>= _) _ _ _;refine JY (IF (show X.A.units+1+30<cLine by lia) I2.heap ho c rk e4 r2 λtk=>?_)
 rw[g1];exact JZ ⟨v,rfl,JZ (k _ _ _ (x1.trans x2) I2.tok g2)⟩⟩
theorem xS (ha:DE X m a fa) (hb:DE X m' b fb):DT X (.Compare a [.NotIn] [b] pos) (λδ=>eD (Gk (fa δ) (fb δ))):=λ{M δ s c Q} I e k=>by
 unfold Gk at e;cases q:jo (fb δ) (fa δ)with
 |none=>simp[q,eD]at e
 |some og=>
  simp![q,eD]at e;cases e;let⟨d1,k1,b1,ks,ds,e1,e2,e3,e4,e5⟩:=fU q;refine Nk (ha.ev I e2 λu s1 M1 x1 I1 r1=>hb.ev I1 e1 λv s2 M2 x2 I2 r2=>?_) (oE hb.pl)
  let⟨l,o,us,vs,rfl,q,c,rk,rs⟩:=r2.dc e3;let ho:=q.heap I2.heap;let un:=I2.un;let hS:=I2.nsys q;refine JY ?_
  unfold contains
  try with_reducible refine KB ?_
  refine JY (Ms (c.ty ho) slot_dict_contains.lookup ?_)
  refine JY (wpAny_callSpecialUnlessNone?_slot (name:=Lb "__contains__") (c.ty ho) slot_dict_contains (KU slot_dict_contains (c.ty ho) entry_dict_contains ?_ (args_dict_contains _ _)))
  show wpAny _ _ (dictGet l u >>= _) _ _ _;refine JY (IF (show X.A.units+1+30<cLine by lia) I2.heap ho c rk e4 (r1.up x2) λtk=>?_)
  let fin:=k _ _ (x1.trans x2) (I2.tok (t:=tk));subst e5;let⟨g1,g2⟩:=kG (k:=k1) (ks:=ks) rs;cases z:bP k1 ks ds with
  |none=>
   rw[g1 z];rw[z]at fin;exact JY (wpAny_pendingKey_other hS (JZ ⟨_,rfl,KR (JZ (KR fin))⟩))
  |some y=>
   let⟨v,g3,_⟩:=g2 y z;rw[g3];rw[z]at fin;exact JZ ⟨_,rfl,KR (JZ (KR fin))⟩
nonrec theorem Fu (ha:DE X m a fa) (hb:DE X m b fb) (hc:DE X m c fc) (l:(apos.endLine==cpos.line)=V):DE X m (.Call (.Attribute a "get" apos) [b,c] [] cpos) (λδ=>cS (fa δ) (fb δ) (fc δ)):=⟨rfl,λ{M δ s d Q} I e k=>by
 unfold cS at e;split at e<;>cases e
 rename_i og z q1 q2;let⟨d1,k1,b1,ks,ds,e1,e2,e3,e4,e5⟩:=fU q1;refine yj Of QE PySem.F.type_dict_get l ha (aX hb (aX hc cW)) (by simp) I e1 (ds:=[k1,z]) (by rw[e2,q2];rfl) (λH r=>?_) λv ws s1 M1 x1 I1 r1 r2=>?_
 ·let⟨l,o,us,vs,rfl,q,c,_⟩:=r.dc e3
  exact⟨c.ty (q.heap H),λb e=>by cases e;exact⟨o,q.heap H,c.2.1.2.1⟩⟩
 ·let⟨u,v2,rfl,r3,r4⟩:=r2.is2
  let⟨l,o,us,vs,rfl,q,c,rk,rs⟩:=r1.dc e3;let ho:=q.heap I1.heap;let un:=I1.un;let hS:=I1.nsys q;refine KU QE (c.ty ho) PySem.F.entry_dict_get ?_ (PySem.F.args_dict_get_3 _ _ _)
  show wpAny _ _ (dictGet l u >>= _) _ _ _;refine JY (IF (show X.A.units+1+30<cLine by lia) I1.heap ho c rk e4 r3 λtk=>?_)
  subst e5;let⟨g1,g2⟩:=kG (k:=k1) (ks:=ks) rs;cases z:bP k1 ks ds with
  |none=>
   rw[g1 z];rw[z]at k;exact JY (wpAny_missed_other hS (JZ ⟨_,rfl,k _ _ _ x1 I1.tok r4⟩))
  |some y=>
   let⟨v,g3,g4⟩:=g2 y z;rw[g3];rw[z]at k;exact JZ ⟨_,rfl,k _ _ _ x1 I1.tok g4⟩⟩
def sI:DcO bb {cls:=.type "dict",data:=.dict #[]} [] [] []:=⟨KA _,⟨rfl,rfl,rfl⟩,LX,rfl,#[],_,rfl,rfl,rfl,rfl⟩
def B6:DF X (.Dict [] [] pos) (λ_=>U (.dK [] [])):=⟨rfl,λI e k=>by
 cases e;exact OU (k _ _ _ _ Ext.refl I.push (I.fresh (Kh _)) (J7 _ rfl) ⟨[],[],sI,rfl,rfl⟩)⟩
def Bs:DF X (.Dict [] [] pos) (λ_=>U (.dD [] [])):=⟨rfl,λI e k=>by
 cases e;exact OU (k _ _ _ _ Ext.refl I.push (I.fresh (Kh _)) (J7 _ rfl) ⟨[],[],sI,rfl,rfl⟩)⟩
end
end L2
namespace L2
open PySem PySem.Spec PyProof.Rows Md
variable[Md]
def neX (x:Wq (D×DEnv)) (fb:DEnv->Wq D):Wq (Bool×DEnv):=ae x λp=>match neO (U p.1) (fb p.2)with|some c=>U (c,p.2)|none=>B
structure DX (X:Cx) (e:Expr) (f:DEnv->Wq (D×DEnv)):Prop where
 pl:plE e=V
 ev:∀{M δ s d δ'} {Q:J4->J5->Prop},Inv X M δ s->f δ=U (d,δ')->(∀v s' M',Sx M M'->Inv X M' δ' s'->R Y M' d v->Q v s')->WP X (eval e X.env) Q s
def DTX (X:Cx) (e:Expr) (f:DEnv->Wq (Bool×DEnv)):Prop:=∀{M δ s c δ'} {Q:Bool->J5->Prop},Inv X M δ s->f δ=U (c,δ')->(∀s' M',Sx M M'->Inv X M' δ' s'->Q c s')->WP X (isTrue e X.env (eval e X.env)) Q s
section
variable{X:Cx}{M M':Mp}{δ:DEnv}{s:J5}{a b c:Expr}{fa fb fc:DEnv->Wq D}{m m' mm bb:Bool}{p px pos pos' apos cpos:PA}{g1 g2:DEnv->Wq Out}
def IC (c:DcO bb o ks us vs):Ow o:=by let⟨_,h1,_,_,es,ep,h2,_⟩:=c;exact⟨by rw[h1.1];simp,λ_ z=>by lia⟩
theorem R.keyF (I:Inv X M δ s) (h:dn 8 k=V) (r:R m M k u):R Y M k u:=r.key (λa o vs ⟨kk,e,q⟩ t=>by
 cases kk with
 |f=>exact rdf.mpr e
 |p=>cases q
 |o i=>exact absurd t.2.1 (I.own _ _ _ e).1) h
def vw (h:dcD d=U z) (ds:Ww D):d≠.tup ds:=by rintro rfl;cases h
def Inv.dput {h':LF}{tk:Nat}{a:Kp}(hd:∀ds,d≠.tup ds) (I:Inv X M δ s) (h:Nm X i x) (nd:X.N.Nodup) (e:δ[i]?=U (U (d,V))) (q:M a=U (.o i,o)) (sb:Ln a s.heap h') (g:h'.get? a=U o') (dc:DcO bb o' ks us vs) (c:C M y o'):∃M',Inv X M' (δ.set i (U (y,V))) {s with heap:=h',toks:=tk}/\Sx M M':=by
 let⟨h1,h2,h3⟩:=I.chg (s':={s with heap:=h',toks:=tk}) e h.n h.v nd q (λb ob z w=>(sb.2 b z).trans w) g (IC dc) c hd
 exact⟨_,h1,h2,λa o=>(h3 a o).mp,λa o=>(h3 a o).mpr⟩
nonrec theorem Er (h:Nm X i x) (nd:X.N.Nodup) (hb:DE X m b fb) (hv:DE X Y c fc) (hs:swapsWith c (U (.Subscript (.Name x px) b pos')) pos.line X.env=pure Y):DS X (.Assign [.Subscript (.Name x px) b pos'] c pos) (λδ=>AK i (fb δ) (fc δ) δ):=λ{M δ s o Q} I e k=>by
 unfold AK at e;dsimp only at e;split at e<;>try cases e
 split at e<;>cases e
 rename_i d kd vd q0 q1 q2 _ y qy;let h1:=aK q0;let⟨b1,ks,ds,e3,e4,e5,_,e6⟩:=n5 qy;refine wpAny_Assign_Subscript (hv.ev I q2 λr s1 M1 x1 I1 r1=>Mh (I1.load h h1 λv z=>hb.ev I1 q1 λu s2 M2 x2 I2 r2=>?_) h.d) hs
 let⟨l,o,rfl,q,c⟩:=z.own (vw e3);let q:M2 l=U (.o i,o):=by rcases x2 l with w|w;rw[w,q];rw[w.1]at q;cases q
 let c:=c.to x2.sub;let⟨us,vs,c,rk,rs⟩:=c.dc e3;let ho:=I2.heap _ _ _ q;let un:=I2.un;let hl:=ax (Kh lim);unfold setItem
 try with_reducible refine KB ?_
 refine JY (P9 (c.ty ho) (by decide) ?_)
 refine JY (Lf (name:=Lb "__setitem__") (c.ty ho) OC (KU OC (c.ty ho) entry_dict_setitem ?_ (args_dict_setitem _ _ _)))
 refine JY (MF (c.ty ho) ?_)
 show wpAny _ _ (dictSet l u r >>= _) _ _ _;refine JY (IN (show X.A.units+1+30<cLine by lia) I2.heap ho c rk e4 r2 (by lia) λh' tk o' sb g dc=>?_)
 let⟨M3,I3,x3⟩:=I2.dput (vw e3) (tk:=tk) h nd h1 q sb g dc (e6 dc (qj rk (r2.keyF I2 (lC e4))) (zl rs (r1.up x2)));exact JZ ⟨.none,rfl,JZ (k _ _ ((x1.trans x2).sx.trans x3) I3)⟩
def B0 {M:Mp}(h:dcD d=U (bb,ks,ds)) (c:C M d o):o.cls=.type "dict"/\o.dict=B:=by let⟨_,_,c,_⟩:=c.dc h;exact⟨c.2.1.1,c.2.1.2.1⟩
nonrec theorem yv (h:Nm X i x) (nd:X.N.Nodup) (hb:DE X Y b fb) (hc:DE X Y c fc) (l:(apos.endLine==cpos.line)=V):DX X (.Call (.Attribute (.Name x px) "setdefault" apos) [b,c] [] cpos) (λδ=>sdO i (fb δ) (fc δ) δ):=⟨rfl,λ{M δ s d δ' Q} I e k=>by
 unfold sdO at e;split at e<;>try cases e
 rename_i d0 kd vd q0 q1 q2;cases og:jo (U d0) (U kd)with
 |none=>rw[og]at e;cases e
 |some oy=>
  let⟨_,_,b1,ks,ds,z1,z2,e3,e4,e5⟩:=fU og;cases z1;cases z2;let h1:=aK q0;refine B9 (hd:=vw e3) Of PL PK l h (aX hb (aX hc cW)) (by simp) I h1 (ds:=[kd,vd]) (by rw[q1,q2];rfl) (λc=>B0 e3 c) λa o ws s1 M1 x1 I1 q c r=>?_
  let⟨u,v,rfl,r1,r2⟩:=r.is2;let⟨us,vs,c,rk,rs⟩:=c.dc e3;let ho:=I1.heap _ _ _ q;let un:=I1.un;let hS:(a==sysModules)=Y:=by rw[beq_eq_false_iff_ne];rintro rfl;exact nomatch I1.sys _ _ q
  let hl:=ax (Kh lim);refine KU F.slot_dict_setdefault (c.ty ho) Rc ?_ (Q7 _ _ _)
  refine JY (JY (MF (c.ty ho) (JZ ?_)))
  change wpAny _ _ (if(a==sysModules)=V then _ else(dictSetDefault a u v >>= _)) _ _ _
  rw[if_neg (by rw[hS];exact Ny)]
  let⟨g1,g2⟩:=kG (k:=kd) (ks:=ks) rs;rw[og]at e;cases oy with
  |some y=>
   cases e;let⟨v',g3,g4⟩:=g2 _ e5.symm;refine JY (IE (show X.A.units+1+30<cLine by lia) I1.heap ho c rk e4 r1 (λz=>by rw[dx z]at g3;cases g3) (λx tk z=>?_) λh' tk o' z=>?_)
   ·rw[g3]at z;cases z;exact JZ ⟨_,rfl,k _ _ _ x1.sx I1.tok g4⟩
   ·rw[dx z]at g3;cases g3
  |none=>
   dsimp only at e;split at e<;>cases e
   rename_i y qy;let⟨_,_,_,z1,_,e7,_,e6⟩:=n5 qy;rw[e3]at z1;cases z1;refine JY (IE (show X.A.units+1+30<cLine by lia) I1.heap ho c rk e4 r1 (λ_=>by lia) (λx tk z=>?_) λh' tk o' z sb g dc=>?_)
   ·rw[g1 e5.symm]at z;cases z
   ·let⟨M3,I3,x3⟩:=I1.dput (vw e3) (tk:=tk) h nd h1 q sb g dc (e6 dc (qj rk r1) (zl rs r2))
    exact JZ ⟨_,rfl,k _ _ _ (x1.sx.trans x3) I3 (r2.to x3.f)⟩⟩
nonrec theorem FK {ga:DEnv->Wq (D×DEnv)}(ha:DX X a ga) (hb:DE X Y b fb):DTX X (.Compare a [.NotEq] [b] pos) (λδ=>neX (ga δ) fb):=λ{M δ s c δ' Q} I e k=>by
 let⟨⟨d1,δ1⟩,e1,e2⟩:=ai e;split at e2<;>cases e2
 rename_i qc;refine Nk (ha.ev I e1 λv s1 M1 x1 I1 r1=>?_) (oE hb.pl)
 let⟨x,y,z1,z2,z3⟩:=jg (ky qc);cases z1;exact hb.ev I1 z2 λu s2 M2 x2 I2 r2=>Ea I2 (r1.up x2).tt r2.tt z3 λs3 I3=>KR (k _ _ (x1.trans x2.sx) I3)
nonrec theorem Hr {gt:DEnv->Wq (Bool×DEnv)}{x y:Ww Lr}(hc:DTX X c gt) (ha:DSs X x g1) (hb:DSs X y g2):DS X (.If c x y pos) (λδ=>ifX (gt δ) g1 g2):=λ{M δ s o Q} I e k=>by
 unfold ifX at e;dsimp only at e;split at e
 ·rename_i q;exact Pu (hc I q λs1 M1 x1 I1=>ha I1 e (k.to x1))
 ·rename_i q;exact Pu (hc I q λs1 M1 x1 I1=>hb I1 e (k.to x1))
 ·cases e
end
end L2
namespace L2
open PySem PySem.Spec PyProof.Rows Md
variable[Md]
section
variable{prog:Lw}{w:LY}{A:KH}{E:J4->J5->Prop}{s:J5}
def qN {d:Kp}{o:PC}{es:Array PJ}{ep:Nat}{Q:J4->J5->Prop}(hd:(d==sysModules)=Y) (ho:s.heap.get? d=U o) (hc:o.ExactDict) (hdat:o.data=.dict es ep)
  (hQ:Q (.ref s.heap.objs.size) {s with heap:=s.heap.push {cls:=.type "dict_keyiterator",data:=.fields #[.ref d,.int 0 0,.int es.size 0,.int ep 0]}}):wpAny (model prog w) A (pyIter (.ref d)) Q E s:=by
 let ty:s.TypeIs (.ref d) "dict":=⟨o,ho,hc.1⟩;refine Qa ty F.slot_dict_iter (KU F.slot_dict_iter ty F.entry_dict_iter ?_ (F.args_dict_iter_1 _))
 refine JY ?_
 refine JY (MF ty (JZ ?_))
 change wpAny _ _ (P1 d >>= _) _ E s;unfold P1;rw[if_neg (by lia)]
 refine JY (JZ (JY (OA ho hdat (JY (wpAny_dictEpoch ho hdat (JY (Le (JZ ⟨_,rfl,"dict_keyiterator",_,⟨_,J7 _ rfl,rfl⟩,F.slot_dict_keyiterator_next.lookup,?_⟩))))))))
 assumption
def gZ {it d:Kp}{o:PC}{es:Array PJ}{i ep:Nat}{Q:Wq J4->J5->Prop}(hh:A.handled=B) (hit:s.heap.IsKeyIter it d i es.size ep) (ho:s.heap.get? d=U o) (hdat:o.data=.dict es ep)
  (item:∀e,es[i]?=U e->∀h',h'.IsKeyIter it d (i+1) es.size ep->Ln it s.heap h'->Q (U e.key) {s with heap:=h'})
  (stop:es[i]?=B->∀h',O3 it s.heap h'->Q B {s with heap:=h'}):wpAny (model prog w) A (pyNext (.ref it)) Q E s:=by
 let⟨oi,gi,ci,di⟩:=id hit;refine JY (MO (Lf (name:=Lb "__next__") hit.typeIs Qx (KU Qx hit.typeIs F.entry_dict_keyiterator_next ?_ (F.args_dict_keyiterator_next_1 _))))
 refine JY (JZ (JY (JY ?_)))
 first|refine JY (N3 hit.typeIs (JZ ?_))|refine JY (OG hit.typeIs (JZ ?_))
 refine JY (Om gi di ?_)
 refine JY (JZ (JY (OA ho hdat ?_)))
 rw[if_neg (by simp)]
 refine JY (JZ (JY (wpAny_dictEpoch ho hdat ?_)))
 rw[if_neg (by simp)]
 refine JZ ?_
 by_cases hlt:i<es.size
 ·let hx:=Lq hlt
  simp![show ¬((i:Int)<0) from by lia,if_false,Lj,hx]
  refine JY ?_
  first|refine JY (N3 hit.typeIs (JZ ?_))|refine JY (OG hit.typeIs (JZ ?_))
  refine JY (wpAny_isOneOf_keyiter hit.typeIs ?_)
  change wpAny _ _ (setField (.ref it) 1 (rawInt ((i:Int)+1)) >>= _) _ _ s;let nx:(s.heap.update it (NW (·.setIfInBounds 1 (rawInt ((i:Int)+1))))).IsKeyIter it d (i+1) es.size ep:=⟨_,Ku _ gi (Mz (Ld di _)),(NN ..).trans ci,by rw[Ld di];rfl⟩
  refine JY (Mn gi di (by simp) (JY (KB (JY (wpAny_isOneOf_keyiter (s:={s with heap:=s.heap.update it (NW (·.setIfInBounds 1 (rawInt ((i:Int)+1))))}) nx.typeIs ?_)))))
  exact JZ (JZ ⟨_,rfl,JZ (item _ hx _ nx (KT ..))⟩)
 ·let hx:es[i]?=B:=QO (by lia)
  simp![show ¬((i:Int)<0) from by lia,if_false,Lj,hx]
  refine JY ?_
  first|refine JY (N3 hit.typeIs (JZ ?_))|refine JY (OG hit.typeIs (JZ ?_))
  change wpAny _ _ (setField (.ref it) 0 .none >>= _) _ _ s;refine JY (Mn gi di (by simp) ?_)
  refine JY (JY (Le ?_ (by size_fits)))
  refine JY (m:=firstArgMember _ _) (N4 (a:=L6) (by rfl) (Le ?_ (by size_fits)))
  refine JY (PU ?_)
  rw[show A.in1.handled=B from hh]
  refine JY (JZ (Qz ?_))
  refine JY (MA (T:="StopIteration") (b:=V) ⟨_,J7 _ rfl,rfl⟩ On ?_)
  exact JZ (stop hx _ (((KT ..).extBut.push _).push _))
def wD (hh:A.handled=B) (I d:Kp) (hne:d≠I) {o:PC}{es:Array PJ}{ep:Nat}(hdat:o.data=.dict es ep):
  Qg prog w A I [I,d] [I] es.size (λi v=>∃e,es[i]?=U e/\v=e.key) (λi h=>h.IsKeyIter I d i es.size ep/\h.get? d=U o) where
 sub:=λb hb=>by simp_all
 frame:=λ_ _ _ st hk=>⟨st.1.at λo e=>hk I (by simp) o e,hk d (by simp) _ st.2⟩
 item:=λi s Q E hi st hQ=>gZ hh st.1 st.2 hdat (λe he h' it' sb=>hQ _ h' s.toks ⟨e,he,rfl⟩ ⟨it',(sb.2 d hne).trans st.2⟩ λb o hb e=>(sb.2 b (λz=>hb (by simp[z]))).trans e) λhn=>by
  simp_all
 done:=λs Q E st hQ=>gZ hh st.1 st.2 hdat (λe he=>by simp_all) λ_ h' eb=>hQ h' s.toks λb o hb e=>eb b o (λz=>hb (by simp[z])) e
 self:=λ_ _ _ _ st hQ=>wpAny_pyIter_keyiter st.1 hQ
def tM {R:O9->J5->Prop}(hh:A.handled=B) {d S:Kp}{o:PC}{es:Array PJ}{ep c₀:Nat}(hd:(d==sysModules)=Y) (ho:s.heap.get? d=U o) (hc:o.ExactDict) (hdat:o.data=.dict es ep) (hn:es.size<=sizeLine) (res:J4)
  (hS:s.heap.get? S=U {cls:=.type "list",data:=.seq #[] c₀})
  (hR:∀h' tk acc' c',(∀b o,b≠S->s.heap.get? b=U o->h'.get? b=U o)->h'.get? S=U {cls:=.type "list",dict:=B,data:=.seq acc' c',slots:=#[]}->ItemsOf (λi v=>∃e,es[i]?=U e/\v=e.key) acc' es.size->R (.ok (.ret res)) {s with heap:=h',toks:=tk}):
  wpAny (model prog w) A.in1 (MQ (.ref S) (.ref d) res)
   (λfin s'=>match fin with|.done f=>R (.ok f) s'|.again c'=>c'.quiet=V/\codeAny (model prog w) A c' R s') (λe s'=>R (.error e) s') s:=by
 let ty:s.TypeIs (.ref d) "dict":=⟨o,ho,hc.1⟩;let nSd:S≠d:=λe=>by lia
 let nSI:=KF (Kc hS);let ndI:=KF (Kc ho);let nSf:S∉[s.heap.objs.size,d]:=λhm=>by
  simp_all
 refine JY (Nc ty ?_)
 simp![show L3 (.ref S) (.ref d)=Y by simp[L3,nSd],show(LP "dict"==LP "list")=Y by decide,show(LP "dict"==LP "tuple")=Y by decide,QG,Ko,if_false]
 refine JY (qN hd ho hc hdat (JY (KB ?_)))
 let ho1:(s.heap.push {cls:=.type "dict_keyiterator",data:=.fields #[.ref d,.int 0 0,.int es.size 0,.int ep 0]}).get? d=U o:=J0 _ ho
 let ty1:Nr {s with heap:=s.heap.push {cls:=.type "dict_keyiterator",data:=.fields #[.ref d,.int 0 0,.int es.size 0,.int ep 0]}} (.ref d) "dict":=⟨o,ho1,hc.1⟩
 refine JY (Ms ty1 F.slot_dict_len.lookup ?_)
 refine JY (MA ty1 (b:=V) (by rfl) ?_)
 refine JY (Nc ty1 (JZ ?_))
 let hS1:(s.heap.push {cls:=.type "dict_keyiterator",data:=.fields #[.ref d,.int 0 0,.int es.size 0,.int ep 0]}).get? S=U {cls:=.type "list",data:=.seq #[] c₀}:=J0 _ hS
 refine JY (LA (JY ?_))
 let hS2:=Ku (Kx (·.push L6)) hS1 rfl
 refine JY (Lu hS1 rfl (Lu (hz:=by seq_fits) hS2 rfl ?_))
 let hS3:=Ku (Kx (·.pop)) hS2 rfl
 let oth:∀b o,b≠S->(s.heap.push {cls:=.type "dict_keyiterator",data:=.fields #[.ref d,.int 0 0,.int es.size 0,.int ep 0]}).get? b=U o->(((s.heap.push {cls:=.type "dict_keyiterator",data:=.fields #[.ref d,.int 0 0,.int es.size 0,.int ep 0]}).update S (Kx (·.push L6))).update S (Kx (·.pop))).get? b=U o:=
  λb o hb e=>(Ki _ _ (Kt hb)).trans ((Ki _ _ (Kt hb)).trans e)
 refine JZ ⟨Lh Oa _,codeAny_extend_loopS (wD (A:=A.in1) (show A.in1.handled=B from hh) s.heap.objs.size d ndI hdat).toS hn _ nSf _ es.size 0 _ _ _ rfl (KA _) ⟨⟨_,oth _ _ (Kt nSI) (J7 _ rfl),rfl,rfl⟩,oth _ _ (Kt nSd) ho1⟩ hS3 (ItemsOf.nil _) λs' acc' c' hm hS' hacc=>?_⟩
 rw[Moved.eq_with hm];refine hR s'.heap s'.toks acc' c' (λb ob hb e=>hm.heap b ob (λhmem=>?_) (oth b ob hb (J0 _ e))) hS' hacc
 rcases on.mp hmem with e'|hmem
 ·exact hb e'
 ·rw[qaa.mp hmem]at e;exact absurd (Kc e) (K3 _)
def mS {Q:J4->J5->Prop}(hh:A.handled=B) {d:Kp}{o:PC}{es:Array PJ}{ep:Nat}(hd:(d==sysModules)=Y) (ho:s.heap.get? d=U o) (hc:o.ExactDict) (hdat:o.data=.dict es ep) (hn:es.size<=sizeLine)
  (hQ:∀h' tk acc' c',(∀b o,s.heap.get? b=U o->h'.get? b=U o)->h'.get? s.heap.objs.size=U {cls:=.type "list",dict:=B,data:=.seq acc' c',slots:=#[]}->ItemsOf (λi v=>∃e,es[i]?=U e/\v=e.key) acc' es.size->Q (.ref s.heap.objs.size) {s with heap:=h',toks:=tk}):
  wpAny (model prog w) A (call (.type "list") [.ref d]) Q E s:=by
 refine QV (Q₁:=λobj s₁=>obj=.ref s.heap.objs.size/\s₁={s with heap:=s.heap.push {cls:=.type "list",data:=.seq #[]}}) F.called_list (F.typeCall_list_1 _) F.entry_list_init (code_list_new _ ⟨rfl,rfl⟩) λobj s₁ h₁=>?_
 let⟨rfl,rfl⟩:=h₁;let hS:(s.heap.push {cls:=.type "list",data:=.seq #[]}).get? s.heap.objs.size=U {cls:=.type "list",data:=.seq #[]}:=J7 _ rfl
 refine⟨⟨_,hS,rfl⟩,F.args_list_init_2 _ _,?_⟩
 refine JY ?_
 refine JY (K9 hS rfl (JZ ?_))
 let hS2:=Ku (Kx (λ_=>(#[]:Array J4))) hS rfl
 let up:∀b ob,s.heap.get? b=U ob->((s.heap.push {cls:=.type "list",data:=.seq #[]}).update s.heap.objs.size (Kx (λ_=>(#[]:Array J4)))).get? b=U ob:=λb ob e=>(Ki _ _ (Kt (KF (Kc e)))).trans (J0 _ e)
 refine JY (Lu hS rfl (JY (Mo ?_)))
 exact tM (A:=A.in1) hh hd (up d o ho) hc hdat hn .none hS2 λh' tk acc' c' hk hS' hacc=>⟨rfl,hQ h' tk acc' c' (λb ob e=>hk b ob (KF (Kc e)) (up b ob e)) hS' hacc⟩
end
open PySem.W in
section
open PySem.W
def gm:entryFor table "dict.update.loop"=U NK.«dict.update.loop»:=entryFor_of_tree (by kernel_rfl)
def gG:plainId "dict.update.loop"=V:=by decide +kernel
def zA:typeLookup (.type "list") "keys"=pure B:=by rfl
def E0 {prog:Lw}{w:LY}{A:KH}{E:J4->J5->Prop}{s:J5}{a:Kp}{o:PC}{xs:Array J4}{k:Nat}{Q:Wq J4->J5->Prop}
  (hx:s.heap.get? a=U o) (hc:o.cls=.type "list") (hdat:o.data=.seq xs k) (hd:o.dict=B) (hA:A.handled=B)
  (h:∀h' tk,(∀b o,s.heap.get? b=U o->h'.get? b=U o)->Q B {s with heap:=h',toks:=tk}):wpAny (model prog w) A (getAttr? (.ref a) "keys") Q E s:=by
 let⟨c,dct,dat,sl⟩:=o;simp only at hc hdat hd;subst hc hdat hd;let⟨hp,g,d,tk,os⟩:=s;let hT:∀tk',(⟨hp,g,d,tk',os⟩:J5).TypeIs (.ref a) "list":=λ_=>⟨_,hx,rfl⟩
 let f1:=sub_AttributeError;let f3:=F.slot_list_getattribute.lookup;let f4:=F.slot_list_getattribute.bind (.ref a);let f5:=am_list_getattr_none;unfold getAttr? getAttrBy? getAttrBy
 repeat (any_goals (first|assumption|exact hT _|((with_reducible show wpAny _ _ (call (Qu "list.__getattribute__") _ _) _ _ _);refine Oo F.slot_list_getattribute (hT _) am_entry_list_getattribute (F.args_list_getattribute_2 _ _) (meets_getattribute_miss_list a xs k sl _ _ zA (by decide) (by decide)) ⟨hx,hA,λh' tk' e hx'=>?_⟩)|wp_step))
 let⟨t',u',he⟩:=hx'.there;show wpAny _ _ (getattributeRaised _ _ _ _ _ _ _) _ _ _;unfold getattributeRaised
 repeat (any_goals (first|assumption|wp_step))
 exact h _ _ hx'.keeps
end
section
variable{X:Cx}{M M':Mp}{δ:DEnv}{s:J5}{tg a:Expr}{fa:DEnv->Wq D}{m m' bb:Bool}{p pos:PA}
def xW (hh:A.handled=B) (q:Rd m M c o) (dc:DcO bb o ks us vs) (he:o.data=.dict es ep) (rk:Rs m M ks us):GB A tg m M ks [it] it (λi h=>h.IsKeyIter it c i es.size ep) where
 ex:=λ⟨o,e,_⟩ b hb=>by simp_all
 keep:=λst k=>st.at λo e=>k it (by simp) o e
 item:=λ{i s d} st h e=>by
  let⟨l1,l2,l3,ha⟩:=dc.at he;let⟨u,h1,h2⟩:=rk.get e;refine gZ hh st (h _ _ q) he (λen hen h' st' sb=>?_) λhn=>?_
  ·have:=(ha i).2.1
   rw[hen,h1]at this;injection this with this;subst this
   let⟨o,e,c,d⟩:=id st';exact⟨_,rfl,yq (s:={s with heap:=h'}) e c d (by decide) ⟨mD (t:=s.toks) sb,st',.inl h2⟩⟩
  ·have:=(ha i).2.1;rw[hn,h1]at this;cases this
 done:=λ{s} st h=>by
  let⟨l1,l2,l3,ha⟩:=dc.at he;exact gZ hh st (h _ _ q) he (λen hen=>by simp_all) λhn h' eb=>⟨rfl,nL eb⟩
 self:=λst h=>wpAny_pyIter_keyiter st h
def xo (h:As x=U ks):∃vs,x=U (.dD ks vs):=by unfold As at h;split at h<;>simp_all
def FS (h:DE X m a fa):DI X m tg a (λδ=>As (fa δ)):=⟨h.pl,λI e k=>by
 let⟨vs,e⟩:=xo e;refine h.ev I e λv s1 M1 x1 I1 r=>?_
 let⟨c,o,us,vs,rfl,q,dc,rk,rs⟩:=r;let⟨_,hc,_,_,es,ep,he,_⟩:=id dc;exact qN (I1.nsys q) (q.heap I1.heap) hc he (k _ _ _ _ _ x1 (I1.push (t:=s1.toks)) (xW I.ok.room.hd q dc he rk) ⟨_,J7 _ rfl,rfl,rfl⟩ (CB I1))⟩
def AT {us:Ww J4}{acc:Array J4}{P:Nat->J4->Prop}(h:ItemsOf P acc us.length) (hp:∀i v,P i v->us[i]?=U v):acc=us.toArray:=by
 refine Array.ext_getElem? λi=>?_
 by_cases hi:i<acc.size
 ·rw[Lq hi,Mx,hp i _ (h.2 i _ (Lq hi))]
 ·have:=h.1;simp_all
nonrec theorem Bc (g:Bn X "list") (ha:DE X Y a fa):DF X (.Call (.Name "list" p) [a] [] pos) (λδ=>yX (fa δ)):=⟨rfl,λ{M δ s d Q} I e k=>by
 unfold yX at e;split at e<;>cases e
 rename_i ks ds q0;refine fH g (by rfl:bootBuiltins "list"=U (.type "list")) ha I q0 λv s1 M1 x1 I1 r=>?_
 let⟨c,o,us,vs,rfl,q,dc,rk,rs⟩:=r;let⟨hz,hc,_,_,es,ep,he,_⟩:=id dc;let⟨l1,l2,l3,at'⟩:=dc.at he;refine mS I.ok.room.hd (I1.nsys q) (q.heap I1.heap) hc he (by lia) λh' tk acc c' hk hS hacc=>?_
 rw[show es.size=us.length by lia]at hacc
 let e:=AT hacc λi v ⟨en,z1,z2⟩=>by have:=(at' i).2.1;rw[z1]at this;rw[<-this,z2];rfl
 subst e;exact k _ _ {s1 with heap:=h',toks:=tk} M1 x1 (I1.kp hk) (I1.fresh (Kh _)) hS ⟨us,⟨by lia,c',rfl⟩,rk⟩⟩
def uG (h:vL d=U (k,v)):d=.tup [k,v]/\kOk V k=V:=by
 unfold vL at h;split at h<;>try cases h
 split at h<;>cases h
 exact⟨rfl,lF (by assumption)⟩
nonrec theorem wJ {X:Cx}{δ:DEnv}{A:KH}{d l it:Kp}{ol:PC}{ws:Ww J4}{dsl:Ww D}{M:Mp}{R':O9->J5->Prop}(hu:A.units+40<cLine) (hh:A.handled=B) (ql:Rd Y M l ol) (tl:LstO ol ws) (rl:Rs Y M dsl ws) (hne:it≠d) (fd:Free X M d) (fi:Free X M it):
  ∀(n i:Nat) (t:Tok) (s:J5) (o:PC) (ks ds:Ww D) (us vs:Ww J4) (ps:Ww (D×D)),i+n=dsl.length->je (dsl.drop i)=U ps->Inv X M δ s->s.heap.get? d=U o->DcO V o ks us vs->Rs Y M ks us->Rs Y M ds vs->ks.length+n<lim->s.heap.IsListIter it l i->
   (∀s' o' us' vs',Inv X M δ s'->s'.heap.get? d=U o'->DcO V o' (qg ks ds ps).1 us' vs'->Rs Y M (qg ks ds ps).1 us'->Rs Y M (qg ks ds ps).2 vs'->R' (.ok (.ret .none)) s')->
   codeAny (model P w) A (.builtin "dict.update.loop" ⟨[.ref d,.ref it,.int i t,.none],[]⟩) R' s:=by
 intro n
 induction n with
 |zero=>
  intro i t s o ks ds us vs ps hi hp I hd dc rk rs hl st hR;refine KP gm ?_
  refine JY (wpAny_pyNext_list_end hh st (tl.is I.heap ql) (by have:=rl.length;simp;lia) λh' eb=>?_)
  rw[QS (by lia)]at hp;cases hp
  refine JY (JZ (JZ (hR _ _ _ _ (I.ch (nL eb) (λb hb=>by simp_all)) (eb _ _ (Kt hne) hd) dc rk rs)))
 |succ n ih=>
  intro i t s o ks ds us vs ps hi hp I hd dc rk rs hl st hR;refine KP gm ?_
  let hip:i<dsl.length:=by lia
  rw[KW hip]at hp;simp![je]at hp;split at hp<;>cases hp
  rename_i pp ps' q1 q2;let⟨pk,pv⟩:=pp;let⟨ed,hk⟩:=uG q1;let⟨u,hu1,ru⟩:=rl.get (i:=i) (d:=dsl[i]) (by simp[hip])
  refine JY (wpAny_pyNext_list_item st (tl.is I.heap ql) (x:=u) (by simpa using hu1) λh' st' sb=>?_)
  let I1:Inv X M δ {s with heap:=h'}:=I.ch (mD (t:=s.toks) sb) λb hb=>by simp_all
  rw[ed]at ru;let⟨b,to,tis,rfl,tq,tt,rr⟩:=ru;let⟨ku,vu,rfl,rk1,rv1⟩:=rr.is2;let⟨to,tg,tc,tn,td⟩:=tt.is I1.heap tq;refine JY (KB (JY (Mm ?_)))
  refine JY (Nc (show Nr {s with heap:=h'} (.ref b) "tuple" from⟨_,tg,tc⟩) ?_)
  refine JY (JY (O5 tg ?_))
  rw[td];refine JZ (JZ ?_)
  let hlim:=ax (Kh lim);refine KB (IN (s:={s with heap:=h'}) (show A.units+1+30<cLine by lia) I1.heap ((sb.2 d (Kt hne)).trans hd) dc rk hk rk1 (by lia) λh2 tk o2 hs2 g2 dc2=>?_)
  refine JZ ⟨Lh gG _,?_⟩
  let hlen:(bK pk ks).length<=ks.length+1:=by unfold bK;split<;>simp
  refine ih (i+1) 0 _ o2 (bK pk ks) (kK pk pv ks ds) _ _ ps' (by lia) q2 (I1.wr (s':={s with heap:=h2,toks:=tk}) [d] (λb hb=>by simp_all) λb o hb e=>(hs2.2 b (λz=>hb (by simp[z]))).trans e) g2 dc2 (qj rk rk1) (zl rs rv1) (by lia) ?_ hR
  let⟨o,ho,hc,hd'⟩:=st';exact⟨o,(hs2.2 it hne).trans ho,hc,hd'⟩
nonrec theorem BO (g:Bn X "dict") (ha:DE X Y a fa):DF X (.Call (.Name "dict" p) [a] [] pos) (λδ=>mh (fa δ)):=⟨rfl,λ{M δ s d Q} I e k=>by
 unfold mh at e;split at e<;>try cases e
 split at e<;>try cases e
 split at e<;>cases e
 rename_i ds q0 _ ps qp hl;refine fH g (by rfl:bootBuiltins "dict"=U (.type "dict")) ha I q0 λv s1 M1 x1 I1 r=>?_
 let⟨l,ol,ws,rfl,ql,tl,rl⟩:=r;let hh:=I.ok.room.hd;let un:=I1.un;refine QV (Q₁:=λobj s₁=>obj=.ref s1.heap.objs.size/\s₁={s1 with heap:=s1.heap.push {cls:=.type "dict",data:=.dict #[]}}) F.kt_called_dict (F.kt_typeCall_dict_1 _) F.entry_dict_init (kt_code_dict_new _ ⟨rfl,rfl⟩) ?_
 rintro obj s₁ ⟨rfl,rfl⟩
 let fd:=I1.fresh (Kh _);let I2:Inv X M1 δ {s1 with heap:=s1.heap.push {cls:=.type "dict",data:=.dict #[]}}:=I1.push (t:=s1.toks)
 let hT:Nr {s1 with heap:=s1.heap.push {cls:=.type "dict",data:=.dict #[]}} (.ref s1.heap.objs.size) "dict":=⟨_,J7 _ rfl,rfl⟩
 let⟨n,hol⟩:=tl.obj I2.heap ql;refine⟨hT,F.args_dict_init_2 _ _,?_⟩
 refine JY (JY (MF hT (JZ ?_)))
 refine JY (Nc (show Nr {s1 with heap:=s1.heap.push {cls:=.type "dict",data:=.dict #[]}} (.ref l) "list" from⟨_,hol,rfl⟩) ?_)
 refine JY (E0 hol rfl rfl rfl (by simp[hh]) λh2 tk2 kp2=>?_)
 let I3:Inv X M1 δ {s1 with heap:=h2,toks:=tk2}:=I2.kp kp2
 refine JY (LA (JY (L4 (tl.is I3.heap ql) (JZ ⟨Lh gG _,?_⟩))))
 let hd2:=kp2 _ _ (J7 (h:=s1.heap) (o:={cls:=.type "dict",data:=.dict #[]}) rfl)
 refine wJ (X:=X) (δ:=δ) (A:=X.A.in1) (show X.A.units+1+40<cLine by lia) (by simp[hh]) ql tl rl (MV (Kc hd2)) fd (I3.fresh (Kh _)) ds.length 0 0 _ _ [] [] [] [] ps (by lia) (by trivial) (I3.push (t:=tk2)) (J0 _ hd2) sI rfl rfl (by simpa using hl) ⟨_,J7 _ rfl,rfl,rfl⟩ λs' o' us' vs' I' g' dc' rk' rs'=>?_
 exact⟨rfl,k _ _ _ _ x1 I' fd g' ⟨us',vs',dc',rk',rs'⟩⟩⟩
end
end L2
namespace L2
open PySem PySem.Spec PyProof.Rows Md
def ItAt (t:Bool) (h:LF) (c q:Kp) (n:Nat):Prop:=if t=V then h.IsTupleIter c q n else h.IsListIter c q n
def SqAt (t:Bool) (h:LF) (q:Kp) (vs:Array J4):Prop:=if t=V then h.IsTuple q vs else h.IsList q vs
def ItAt.obj {t:Bool}{h:LF}{c q:Kp}{n:Nat}(x:ItAt t h c q n):∃o,h.get? c=U o/\o.cls=.type (if t=V then "tuple_iterator" else "list_iterator")/\o.data=.fields #[.ref q,.int n 0]:=by
 cases t<;>exact x
def ItAt.to {t:Bool}{h h':LF}{c q:Kp}{n:Nat}(x:ItAt t h c q n) (k:∀o,h.get? c=U o->h'.get? c=U o):ItAt t h' c q n:=by
 cases t<;>(let⟨o,e,r⟩:=x;exact⟨o,k o e,r⟩)
def SqAt.to {t:Bool}{h h':LF}{q:Kp}{vs:Array J4}(x:SqAt t h q vs) (k:∀o,h.get? q=U o->h'.get? q=U o):SqAt t h' q vs:=by
 cases t<;>(let⟨o,e,r⟩:=x;exact⟨o,k o e,r⟩)
section
variable{prog:Lw}{w:LY}{A:KH}{E:J4->J5->Prop}{s:J5}
def A1 {c q:Kp}{n:Nat}{vs:Array J4}{Q:J4->J5->Prop}(hh:A.handled=B) (hc:s.heap.IsTupleIter c q n) (hq:s.heap.IsTuple q vs)
  (some':∀v,vs[n]?=U v->∀h',h'.IsTupleIter c q (n+1)->Ln c s.heap h'->Q v {s with heap:=h'})
  (none':vs[n]?=B->∀h' e,O3 c s.heap h'->(∃o,h'.get? e=U o/\o.cls=.type "StopIteration")->E (.ref e) {s with heap:=h'}):
  wpAny (model prog w) A (OW (.ref c)) Q E s:=by
 let ty:=hc.typeIs;let⟨oc,gc,kc,dc⟩:=hc;let⟨oq,gq,_,m,dq⟩:=hq;refine JY (Lf (name:=Lb "__next__") ty QM (KU QM ty F.entry_tuple_iterator_next ?body (F.args_tuple_iterator_next_1 _)))
 change wpAny _ _ (field (.ref c) 0 >>= _) _ E s;refine JY (MZ gc dc (x:=.ref q) rfl ?_)
 refine JY (MZ gc dc (x:=.int n 0) rfl (JY (K9 gq dq ?_)))
 simp![Lj]
 rcases hv:vs[n]? with _|v
 ·refine JY (LA (JY (Mn gc dc (by simp) (JY (JY (Le ?_ (by size_fits)))))))
  refine JY (m:=firstArgMember _ _) (N4 (a:=L6) (by rfl) (Le ?_ (by size_fits)))
  refine JY (PU ?_)
  rw[show A.in1.handled=B from hh]
  exact JY (JZ (Qz (none' hv _ _ (((KT ..).extBut.push _).push _) ⟨_,J7 _ rfl,rfl⟩)))
 ·refine JY (Mn gc dc (by simp) (JZ ⟨v,rfl,JZ (some' v hv _ ⟨_,Ku _ gc (Mz (Ld dc _)),?_,?_⟩ (KT ..))⟩))
  ·rw[NN];exact kc
  ·rw[Ld dc];rfl
theorem Ia {t:Bool}{c q:Kp}{n:Nat}{vs:Array J4}{Q:J4->J5->Prop}(hh:A.handled=B) (hc:ItAt t s.heap c q n) (hq:SqAt t s.heap q vs)
  (some':∀v,vs[n]?=U v->∀h',ItAt t h' c q (n+1)->Ln c s.heap h'->Q v {s with heap:=h'})
  (none':vs[n]?=B->∀h' e,O3 c s.heap h'->(∃o,h'.get? e=U o/\o.cls=.type "StopIteration")->E (.ref e) {s with heap:=h'}):
  wpAny (model prog w) A (OW (.ref c)) Q E s:=by
 cases t with
 |true=>exact A1 hh hc hq some' none'
 |false=>
  rcases hv:vs[n]? with _|v
  ·exact wpAny_nextOf_list_end hh hc hq hv (none' hv)
  ·exact wpAny_nextOf_list_item hc hq hv (some' v hv)
end
structure Zp (t u:Bool) (h:LF) (z P O c d p q:Kp) (n:Nat) (f:J4):Prop where
 zz:IsZip h z P O f
 pp:Ov h P (.ref c) (.ref d)
 oo:∃a b,Ov h O a b
 cc:ItAt t h c p n
 dd:ItAt u h d q n
structure Ap (z P O c d p q:Kp):Prop where
 nd:[z,P,O,c,d].Nodup
 p:p∉[z,P,O,c,d]
 q:q∉[z,P,O,c,d]
def aj {a b:Kp}{h h':LF}{o:PC}(k:Ln a h h') (n:b≠a) (e:h.get? b=U o):h'.get? b=U o:=(k.2 b n).trans e
section
variable{prog:Lw}{w:LY}{A:KH}{E:J4->J5->Prop}{s:J5}
def BG {t u:Bool}{z P O c d p q:Kp}{n:Nat}{xs ys:Array J4}{Q:J4->J5->Prop}(hh:A.handled=B) (ap:Ap z P O c d p q) (Z:Zp t u s.heap z P O c d p q n .none)
  (hp:SqAt t s.heap p xs) (hq:SqAt u s.heap q ys)
  (item:∀x y,xs[n]?=U x->ys[n]?=U y->∀h',Zp t u h' z P O c d p q (n+1) (rawInt s.heap.objs.size)->Ov h' s.heap.objs.size x y->h'.objs.size=s.heap.objs.size+1->
   (∀b o,b∉[z,P,O,c,d]->s.heap.get? b=U o->h'.get? b=U o)->Q (.ref s.heap.objs.size) {s with heap:=h'})
  (stop:(xs[n]?=B\/ys[n]?=B)->∀h' e,(∀b o,b∉[z,P,O,c,d]->s.heap.get? b=U o->h'.get? b=U o)->(∃o,h'.get? e=U o/\o.cls=.type "StopIteration")->E (.ref e) {s with heap:=h'}):
  wpAny (model prog w) A (NK.«zip.__next__» ⟨[.ref z],[]⟩) (λr s'=>∃v,r=.done (.ret v)/\Q v s') E s:=by
 let⟨zz,pp,⟨a,b,oo⟩,cc,dd⟩:=Z;let nd:=ap.nd;let np:=ap.p;let nq:=ap.q;simp![NZ,KI,K4,or_false,not_or,LX,and_true,not_false_eq_true]at nd np nq;let⟨⟨zP,zO,zc,zd⟩,⟨PO,Pc,Pd⟩,⟨Oc,Od⟩,cd⟩:=nd;let⟨pz,pP,pO,pc,pd⟩:=np;let⟨qz,qP,qO,qc,qd⟩:=nq;change wpAny _ _ (field (.ref z) 2 >>= _) _ E s;refine JY (MZ zz rfl (x:=.bool Y) rfl ?_)
 refine JY (MZ zz rfl (x:=.ref P) rfl (JY (K9 pp rfl ?_)))
 refine JY (JY (MZ zz rfl (x:=.none) rfl (JZ ?_)))
 refine JY (LA (JY (MZ zz rfl (x:=.ref O) rfl (JY (MD zz (by simp) λk₁ g₁ m₁=>JY ?_)))))
 let z₁:=g₁;refine JY (JY (wpAny_onRaise ?_))
 refine JY (Ia (t:=t) hh (cc.to λo e=>aj m₁ (Kt zc) e) (hp.to λo e=>aj m₁ pz e) (λx hx k₂ c₂ m₂=>JZ ?_) λhx k₂ e m₂ he=>?_)
 ·let o₂:=aj m₂ Oc (aj m₁ (Kt zO) oo)
  refine JY (K9 o₂ rfl (JY (wpAny_updateSeq_pair o₂ λk₃ g₃ m₃=>JY (Mo (JZ ?_)))))
  let o₃:=g₃;refine JY (JY (wpAny_onRaise ?_))
  refine JY (Ia (t:=u) hh (dd.to λo e=>aj m₃ (Kt Od) (aj m₂ (Kt cd) (aj m₁ (Kt zd) e))) (hq.to λo e=>aj m₃ qO (aj m₂ qc (aj m₁ qz e))) (λy hy k₄ d₄ m₄=>JZ ?_) λhy k₄ e m₄ he=>?_)
  ·let o₄:=aj m₄ Od o₃
   refine JY (K9 o₄ rfl (JY (wpAny_updateSeq_pair o₄ λk₅ g₅ m₅=>JY (Mo (JZ (JZ ?_))))))
   let o₅:Ov k₅ O x y:=g₅;let old:∀f o,f≠z->f≠O->f≠c->f≠d->s.heap.get? f=U o->k₅.get? f=U o:=λf o n1 n2 n3 n4 e=>aj m₅ n2 (aj m₄ n4 (aj m₃ n2 (aj m₂ n3 (aj m₁ n1 e))))
   let sz:k₅.objs.size=s.heap.objs.size:=by rw[m₅.1,m₄.1,m₃.1,m₂.1,m₁.1]
   let z₅:=aj m₅ zO (aj m₄ zd (aj m₃ zO (aj m₂ zc z₁)));refine JY (K9 o₅ rfl (JY (Pt ?_)))
   let z₆:IsZip (k₅.push {cls:=.type "tuple",data:=.seq #[x,y]}) z P O .ellipsis:=J0 _ z₅
   refine JY (JY (MD z₆ (by simp) λk₇ g₇ m₇=>?_))
   let z₇:=g₇;refine MD z₇ (by simp) λk₈ g₈ m₈=>JZ ⟨_,rfl,?_⟩
   let z₈:=g₈;let up:∀f o,f≠z->k₅.get? f=U o->k₈.get? f=U o:=λf o n1 e=>aj m₈ n1 (aj m₇ n1 (J0 _ e))
   let lz:=Kc z₅;let new:=aj m₈ (MV lz) (aj m₇ (MV lz) (J7 _ rfl))
   let sz8:k₈.objs.size=k₅.objs.size+1:=by rw[m₈.1,m₇.1,Lz]
   rw[sz]at z₈ new sz8⊢;refine item x y hx hy k₈ ⟨z₈,up _ _ (Kt zP) (old _ _ (Kt zP) PO Pc Pd pp),⟨x,y,up _ _ (Kt zO) o₅⟩,?_,?_⟩ new sz8 λf o hf e=>?_
   ·exact c₂.to λo e=>up _ o (Kt zc) (aj m₅ (Kt Oc) (aj m₄ cd (aj m₃ (Kt Oc) e)))
   ·exact d₄.to λo e=>up _ o (Kt zd) (aj m₅ (Kt Od) e)
   simp_all
  ·let⟨oe,ge,ke⟩:=he
   let z₄:=m₄ _ _ zd (aj m₃ zO (aj m₂ zc z₁));let ez:e≠z:=λr=>by lia
   refine MD z₄ (by simp) λk₅ _ m₅=>stop (.inr hy) k₅ e (λf o hf g=>?_) ⟨oe,aj m₅ ez ge,ke⟩
   simp![KI,K4,or_false,not_or]at hf;let⟨n1,_,n2,n3,n4⟩:=hf;exact aj m₅ n1 (m₄ _ _ n4 (aj m₃ n2 (aj m₂ n3 (aj m₁ n1 g))))
 ·let⟨oe,ge,ke⟩:=he
  let z₂:=m₂ _ _ zc z₁;let ez:e≠z:=λr=>by lia
  refine MD z₂ (by simp) λk₃ _ m₃=>stop (.inl hx) k₃ e (λf o hf g=>?_) ⟨oe,aj m₃ ez ge,ke⟩
  simp![KI,K4,or_false,not_or]at hf;exact aj m₃ hf.1 (m₂ _ _ hf.2.2.2.1 (aj m₁ hf.1 g))
end
section
variable{prog:Lw}{w:LY}{A:KH}{E:J4->J5->Prop}{s:J5}
def oS {t u:Bool}{z P O c d p q:Kp}{n:Nat}{xs ys:Array J4}{Q:Wq J4->J5->Prop}(hh:A.handled=B) (ap:Ap z P O c d p q) (Z:Zp t u s.heap z P O c d p q n .none)
  (hp:SqAt t s.heap p xs) (hq:SqAt u s.heap q ys)
  (item:∀x y,xs[n]?=U x->ys[n]?=U y->∀h',Zp t u h' z P O c d p q (n+1) (rawInt s.heap.objs.size)->Ov h' s.heap.objs.size x y->h'.objs.size=s.heap.objs.size+1->
   (∀b o,b∉[z,P,O,c,d]->s.heap.get? b=U o->h'.get? b=U o)->Q (U (.ref s.heap.objs.size)) {s with heap:=h'})
  (stop:(xs[n]?=B\/ys[n]?=B)->∀h',(∀b o,b∉[z,P,O,c,d]->s.heap.get? b=U o->h'.get? b=U o)->Q B {s with heap:=h'}):
  wpAny (model prog w) A (pyNext (.ref z)) Q E s:=by
 let ty:s.TypeIs (.ref z) "zip":=⟨_,Z.zz,rfl⟩;refine JY (MO (Lf (name:=Lb "__next__") ty O4 (KU O4 ty F.entry_zip_next (BG hh ap Z hp hq (λx y hx hy h' b1 b2 b3 b4=>JZ (item x y hx hy h' b1 b2 b3 b4)) λhn h' e k he=>?_) (F.args_zip_next_1 _))))
 let⟨o,ho,hc⟩:=he;exact JY (MA (T:="StopIteration") (b:=V) ⟨o,ho,hc⟩ On (JZ (stop hn h' k)))
end
def itO (t:Bool) (p:Kp):PC:={cls:=.type (if t=V then "tuple_iterator" else "list_iterator"),data:=.fields #[.ref p,.int 0 0]}
def iv {prog:Lw}{w:LY}{A:KH}{E:J4->J5->Prop}{s:J5}{t:Bool}{p:Kp}{xs:Array J4}{Q:J4->J5->Prop}(hp:SqAt t s.heap p xs) (h:Q (.ref s.heap.objs.size) {s with heap:=s.heap.push (itO t p)}):wpAny (model prog w) A (pyIter (.ref p)) Q E s:=by
 cases t with
 |true=>exact PY hp h
 |false=>exact L4 hp h
def zO (a b:J4):PC:={cls:=.type "tuple",data:=.seq #[a,b]}
def HI (t u:Bool) (h:LF) (p q:Kp):LF:=
 ((((h.push (itO t p)).push (itO u q)).push (zO (.ref h.objs.size) (.ref (h.push (itO t p)).objs.size))).push (zO .none .none)).push
  {cls:=.type "zip",data:=.fields #[.none,.bool Y,.bool Y,.ref ((h.push (itO t p)).push (itO u q)).objs.size,.ref (((h.push (itO t p)).push (itO u q)).push (zO (.ref h.objs.size) (.ref (h.push (itO t p)).objs.size))).objs.size]}
def DZ (t u:Bool) (p q:Kp) (xs ys:Array J4):
  Meets (NK.«zip.__new__» ⟨[.type "zip",.ref p,.ref q],[]⟩) (λ_ R s=>SqAt t s.heap p xs/\SqAt u s.heap q ys/\
   R (.ok (.ret (.ref (((((s.heap.push (itO t p)).push (itO u q)).push (zO (.ref s.heap.objs.size) (.ref (s.heap.push (itO t p)).objs.size))).push (zO .none .none)).objs.size)))) {s with heap:=HI t u s.heap p q}):=
 .of_wp λprog w A R s h=>by
  let⟨hp,g,d,tk,os⟩:=s;let⟨h1,h2,h⟩:=h;let hsub:=sub_zip;let k1:=h1;let k2:SqAt u (Shared.heap ⟨hp.push (itO t p),g,d,tk,os⟩) q ys:=h2.to λo e=>J0 _ e
  wp_walk using iv k1,iv k2
  exact⟨_,rfl,h⟩
def A5 {prog:Lw}{w:LY}{A:KH}{E:J4->J5->Prop}{s:J5}{t u:Bool}{p q:Kp}{xs ys:Array J4}{Q:J4->J5->Prop}(hp:SqAt t s.heap p xs) (hq:SqAt u s.heap q ys)
  (h:∀z P O c d h',Ap z P O c d p q->Zp t u h' z P O c d p q 0 .none->(∀b∈[z,P,O,c,d],s.heap.objs.size<=b)->(∀b o,s.heap.get? b=U o->h'.get? b=U o)->Q (.ref z) {s with heap:=h'}):
  wpAny (model prog w) A (call (.type "zip") [.ref p,.ref q]) Q E s:=by
 refine callType_new F.called_zip (by decide) (F.typeCall_zip_2 _ _) (F.newCall_zip_2 _ _) (λobj=>F.args_object_init_3 obj _ _) F.entry_zip_new (DZ t u p q xs ys) ⟨hp,hq,?_⟩
 let lp:p<s.heap.objs.size:=by cases t<;>(let⟨o,e,_⟩:=hp;exact Kc e)
 let lq:q<s.heap.objs.size:=by cases u<;>(let⟨o,e,_⟩:=hq;exact Kc e)
 generalize e1:s.heap.push (itO t p)=k1;generalize e2:k1.push (itO u q)=k2;generalize e3:k2.push (zO (.ref s.heap.objs.size) (.ref k1.objs.size))=k3;generalize e4:k3.push (zO .none .none)=k4;let hL:HI t u s.heap p q=k4.push {cls:=.type "zip",data:=.fields #[.none,.bool Y,.bool Y,.ref k2.objs.size,.ref k3.objs.size]}:=by unfold HI;rw[e1,e2,e3,e4]
 let s1:k1.objs.size=s.heap.objs.size+1:=by rw[<-e1];exact Lz ..
 let s2:k2.objs.size=s.heap.objs.size+2:=by rw[<-e2,Lz,s1]
 let s3:k3.objs.size=s.heap.objs.size+3:=by rw[<-e3,Lz,s2]
 let s4:k4.objs.size=s.heap.objs.size+4:=by rw[<-e4,Lz,s3]
 let u1:∀{b o},s.heap.get? b=U o->k1.get? b=U o:=λe=>by rw[<-e1];exact J0 _ e
 let u2:∀{b o},k1.get? b=U o->k2.get? b=U o:=λe=>by rw[<-e2];exact J0 _ e
 let u3:∀{b o},k2.get? b=U o->k3.get? b=U o:=λe=>by rw[<-e3];exact J0 _ e
 let u4:∀{b o},k3.get? b=U o->k4.get? b=U o:=λe=>by rw[<-e4];exact J0 _ e
 let u5:∀{b o},k4.get? b=U o->(HI t u s.heap p q).get? b=U o:=λe=>by rw[hL];exact J0 _ e
 let z5:IsZip (HI t u s.heap p q) k4.objs.size k2.objs.size k3.objs.size .none:=by rw[hL];exact J7 _ rfl
 let o5:=u5 (by rw[<-e4];exact J7 _ rfl)
 let p5:=u5 (u4 (by rw[<-e3];exact J7 _ rfl))
 let d5:=u5 (u4 (u3 (by rw[<-e2];exact J7 _ rfl)))
 let c5:=u5 (u4 (u3 (u2 (by rw[<-e1];exact J7 _ rfl))))
 refine⟨⟨_,z5,rfl⟩,h k4.objs.size k2.objs.size k3.objs.size s.heap.objs.size k1.objs.size _ ⟨?_,?_,?_⟩ ⟨z5,p5,⟨_,_,o5⟩,?_,?_⟩ ?_ λb o e=>u5 (u4 (u3 (u2 (u1 e))))⟩
 ·rw[s1,s2,s3,s4]
  simp![NZ,KI,K4,or_false,not_or,LX,and_true,not_false_eq_true];refine⟨⟨?_,?_,?_,?_⟩,⟨?_,?_,?_⟩,⟨?_,?_⟩,?_⟩<;>(intro e;let e':(_:Nat)=_:=e;lia)
 ·simp;lia
 ·simp;lia
 ·cases t<;>exact⟨_,c5,rfl,rfl⟩
 ·cases u<;>exact⟨_,d5,rfl,rfl⟩
 simp;lia
def iH:Ww D->Ww D->Ww D
 |d::ds,e::es=>.tup [d,e]::iH ds es
 |_,_=>[]
theorem sD:∀(ds es:Ww D) (i:Nat) (x:D),(iH ds es)[i]?=U x->∃d e,ds[i]?=U d/\es[i]?=U e/\x=.tup [d,e]
 |[],_,i,x,h=>by trivial
 |d::ds,[],i,x,h=>by trivial
 |d::ds,e::es,0,x,h=>by simp[iH]at h;exact⟨d,e,rfl,rfl,h.symm⟩
 |d::ds,e::es,i+1,x,h=>by simpa using sD ds es i x h
theorem iG:∀ds es:Ww D,(iH ds es).length=min ds.length es.length
 |[],_=>by rfl
 |d::ds,[]=>by rfl
 |d::ds,e::es=>by simp[iH,iG ds es]
def HK (t:Bool) (x:Wq D):Wq (Ww D):=if t=V then wd x else bi x
def yh (t u:Bool) (x y:Wq D):Wq (Ww D):=ae (HK t x) λds=>ae (HK u y) λes=>U (iH ds es)
abbrev IsZ (h:LF) (z P O:Kp) (f:J4) (b:Bool):Prop:=
 h.get? z=U {cls:=.type "zip",dict:=B,data:=.fields #[f,.bool b,.bool Y,.ref P,.ref O],slots:=#[]}
structure Zq (t u:Bool) (h:LF) (z P O c d p q:Kp) (n:Nat) (T:Kp) (b:Bool):Prop where
 zz:IsZ h z P O (rawInt T) b
 al:∃o,h.get? T=U o
 pp:Ov h P (.ref c) (.ref d)
 oo:∃a b,Ov h O a b
 cc:ItAt t h c p n
 dd:ItAt u h d q n
section
variable{prog:Lw}{w:LY}{A:KH}{E:J4->J5->Prop}{s:J5}
def jl {M:Model}{A:KH}{E:J4->J5->Prop}{s:J5}{a:Kp}{Q:Wq PC->J5->Prop}(h:Q (s.heap.get? a) s):wpAny M A (loadIfAlive a) Q E s:=λΓ p _=>by
 assumption
theorem B1 {bo:Bool}{z P O T:Kp}{oT:PC}{Q:Bool->J5->Prop}(zz:IsZ s.heap z P O (rawInt T) bo) (al:s.heap.get? T=U oT) (h:∀k₁,IsZ k₁ z P O (rawInt T) V->Ln z s.heap k₁->Q Y {s with heap:=k₁}):
  wpAny (model prog w) A (Builtin.SmallTypes.ownedTupleIsFree (.ref z)) Q E s:=by
 let hal:s.heap.get? (Int.toNat (T:Int))=U oT:=by rw[Lj];exact al
 refine JY (MZ zz rfl (x:=rawInt T) rfl ?_)
 refine JY (jl ?_)
 rw[hal];refine JY (MZ zz rfl (x:=.bool bo) rfl ?_)
 cases bo with
 |true=>
  exact JZ (h _ zz ⟨rfl,λ_ _=>rfl⟩)
 |false=>
  exact JY (MD zz (by simp) λk₁ g₁ m₁=>JZ (h k₁ g₁ m₁))
def yw {t u bo:Bool}{z P O c d p q T:Kp}{n:Nat}{xs ys:Array J4}{Q:J4->J5->Prop}(hh:A.handled=B) (ap:Ap z P O c d p q) (hT:T∉[z,P,O,c,d]) (Z:Zq t u s.heap z P O c d p q n T bo)
  (hp:SqAt t s.heap p xs) (hq:SqAt u s.heap q ys)
  (item:∀x y,xs[n]?=U x->ys[n]?=U y->∀h',Zq t u h' z P O c d p q (n+1) T V->Ov h' s.heap.objs.size x y->h'.objs.size=s.heap.objs.size+1->
   (∀b o,b∉[z,P,O,c,d]->s.heap.get? b=U o->h'.get? b=U o)->Q (.ref s.heap.objs.size) {s with heap:=h'})
  (stop:(xs[n]?=B\/ys[n]?=B)->∀h' e,(∀b o,b∉[z,P,O,c,d]->s.heap.get? b=U o->h'.get? b=U o)->(∃o,h'.get? e=U o/\o.cls=.type "StopIteration")->E (.ref e) {s with heap:=h'}):
  wpAny (model prog w) A (NK.«zip.__next__» ⟨[.ref z],[]⟩) (λr s'=>∃v,r=.done (.ret v)/\Q v s') E s:=by
 let⟨zz,⟨oT,al⟩,pp,⟨a,b,oo⟩,cc,dd⟩:=Z;let nd:=ap.nd;let np:=ap.p;let nq:=ap.q;simp![NZ,KI,K4,or_false,not_or,LX,and_true,not_false_eq_true]at nd np nq hT;let⟨⟨zP,zO,zc,zd⟩,⟨PO,Pc,Pd⟩,⟨Oc,Od⟩,cd⟩:=nd;let⟨pz,pP,pO,pc,pd⟩:=np;let⟨qz,qP,qO,qc,qd⟩:=nq;let⟨Tz,TP,TO,Tc,Td⟩:=hT;change wpAny _ _ (field (.ref z) 2 >>= _) _ E s;refine JY (MZ zz rfl (x:=.bool Y) rfl ?_)
 refine JY (MZ zz rfl (x:=.ref P) rfl (JY (K9 pp rfl ?_)))
 refine JY (B1 zz al λk₁ z₁ m₁=>?_)
 refine JY (JY (JY (KB ?_)))
 refine JY (Ia (t:=t) hh (cc.to λo e=>aj m₁ (Kt zc) e) (hp.to λo e=>aj m₁ pz e) (λx hx k₂ c₂ m₂=>JZ ?_) λhx k₂ e m₂ he=>?_)
 ·refine JZ ?_
  refine JY (JY (KB ?_))
  refine JY (Ia (t:=u) hh (dd.to λo e=>aj m₂ (Kt cd) (aj m₁ (Kt zd) e)) (hq.to λo e=>aj m₂ qc (aj m₁ qz e)) (λy hy k₄ d₄ m₄=>JZ ?_) λhy k₄ e m₄ he=>?_)
  ·refine JZ (JZ ?_)
   refine JY (Pt (JZ ⟨_,rfl,?_⟩) (by show 2<=sizeLine;trivial))
   let sz:k₄.objs.size=s.heap.objs.size:=by rw[m₄.1,m₂.1,m₁.1]
   let old:∀f o,f≠z->f≠c->f≠d->s.heap.get? f=U o->k₄.get? f=U o:=λf o n1 n3 n4 e=>aj m₄ n4 (aj m₂ n3 (aj m₁ n1 e))
   let z₄:=aj m₄ zd (aj m₂ zc z₁);let up:∀f o,k₄.get? f=U o->(k₄.push {cls:=.type "tuple",data:=.seq #[x,y]}).get? f=U o:=λf o e=>J0 _ e
   let new:Ov (k₄.push {cls:=.type "tuple",data:=.seq #[x,y]}) k₄.objs.size x y:=J7 _ rfl
   let sz8:(k₄.push {cls:=.type "tuple",data:=.seq #[x,y]}).objs.size=k₄.objs.size+1:=Lz ..;rw[sz]at new sz8⊢;refine item x y hx hy _ ⟨up _ _ z₄,⟨oT,up _ _ (old _ _ Tz Tc Td al)⟩,up _ _ (old _ _ (Kt zP) Pc Pd pp),⟨a,b,up _ _ (old _ _ (Kt zO) Oc Od oo)⟩,?_,?_⟩ new sz8 λf o hf e=>?_
   ·exact c₂.to λo e=>up _ o (aj m₄ cd e)
   ·exact d₄.to λo e=>up _ o e
   simp_all
  ·refine stop (.inr hy) k₄ e (λf o hf g=>?_) he
   simp![KI,K4,or_false,not_or]at hf;let⟨n1,_,n2,n3,n4⟩:=hf;exact m₄ _ _ n4 (aj m₂ n3 (aj m₁ n1 g))
 ·refine stop (.inl hx) k₂ e (λf o hf g=>?_) he
  simp![KI,K4,or_false,not_or]at hf;exact m₂ _ _ hf.2.2.2.1 (aj m₁ hf.1 g)
def ZS (t u:Bool) (h:LF) (z P O c d p q:Kp) (n:Nat):Prop:=Zp t u h z P O c d p q n .none\/∃T b,T∉[z,P,O,c,d]/\Zq t u h z P O c d p q n T b
def ZS.to {t u:Bool}{h h':LF}{z P O c d p q:Kp}{n:Nat}{S:Kp}(Z:ZS t u h z P O c d p q n) (k:∀b o,b≠S->h.get? b=U o->h'.get? b=U o) (hS:S∉[z,P,O,c,d]) (he:∃o,h'.get? S=U o):ZS t u h' z P O c d p q n:=by
 let ne:∀b∈[z,P,O,c,d],b≠S:=λb hb e=>hS (by rw[<-e];exact hb)
 rcases Z with⟨zz,pp,⟨a,b,oo⟩,cc,dd⟩|⟨T,bo,nT,⟨zz,⟨o,al⟩,pp,⟨a,b,oo⟩,cc,dd⟩⟩
 ·exact .inl ⟨k _ _ (ne z (by simp)) zz,k _ _ (ne P (by simp)) pp,⟨a,b,k _ _ (ne O (by simp)) oo⟩,cc.to λo e=>k _ o (ne c (by simp)) e,dd.to λo e=>k _ o (ne d (by simp)) e⟩
 ·refine .inr ⟨T,bo,nT,k _ _ (ne z (by simp)) zz,?_,k _ _ (ne P (by simp)) pp,⟨a,b,k _ _ (ne O (by simp)) oo⟩,cc.to λo e=>k _ o (ne c (by simp)) e,dd.to λo e=>k _ o (ne d (by simp)) e⟩
  grind
def se {t u:Bool}{z P O c d p q:Kp}{n:Nat}{xs ys:Array J4}{Q:Wq J4->J5->Prop}(hh:A.handled=B) (ap:Ap z P O c d p q) (Z:ZS t u s.heap z P O c d p q n)
  (hp:SqAt t s.heap p xs) (hq:SqAt u s.heap q ys)
  (item:∀x y,xs[n]?=U x->ys[n]?=U y->∀h',ZS t u h' z P O c d p q (n+1)->Ov h' s.heap.objs.size x y->h'.objs.size=s.heap.objs.size+1->
   (∀b o,b∉[z,P,O,c,d]->s.heap.get? b=U o->h'.get? b=U o)->Q (U (.ref s.heap.objs.size)) {s with heap:=h'})
  (stop:(xs[n]?=B\/ys[n]?=B)->∀h',(∀b o,b∉[z,P,O,c,d]->s.heap.get? b=U o->h'.get? b=U o)->Q B {s with heap:=h'}):
  wpAny (model prog w) A (pyNext (.ref z)) Q E s:=by
 let lts:∀b∈[z,P,O,c,d],b<s.heap.objs.size:=λb hb=>by
  rcases Z with⟨zz,pp,⟨a,b',oo⟩,cc,dd⟩|⟨T,bo,nT,⟨zz,⟨o,al⟩,pp,⟨a,b',oo⟩,cc,dd⟩⟩<;>
   (simp![KI,K4,or_false]at hb
    rcases hb with rfl|rfl|rfl|rfl|rfl
    ·exact Kc zz
    ·exact Kc pp
    ·exact Kc oo
    ·let⟨o,e,_⟩:=cc.obj;exact Kc e
    ·let⟨o,e,_⟩:=dd.obj;exact Kc e)
 rcases Z with Z|⟨T,bo,nT,Z⟩
 ·refine oS hh ap Z hp hq (λx y hx hy h' Z' new sz k=>item x y hx hy h' (.inr ⟨s.heap.objs.size,Y,λhm=>K3 _ (lts _ hm),?_⟩) new sz k) stop
  let⟨zz,pp,oo,cc,dd⟩:=Z';exact⟨zz,⟨_,new⟩,pp,oo,cc,dd⟩
 ·let ty:s.TypeIs (.ref z) "zip":=⟨_,Z.zz,rfl⟩
  refine JY (MO (Lf (name:=Lb "__next__") ty O4 (KU O4 ty F.entry_zip_next (yw hh ap nT Z hp hq (λx y hx hy h' b1 b2 b3 b4=>JZ (item x y hx hy h' (.inr ⟨T,V,nT,b1⟩) b2 b3 b4)) λhn h' e k he=>?_) (F.args_zip_next_1 _))))
  let⟨o,ho,hc⟩:=he;exact JY (MA (T:="StopIteration") (b:=V) ⟨o,ho,hc⟩ On (JZ (stop hn h' k)))
def Made (h:LF) (lo:Kp) (xs ys:Array J4):Nat->Ww J4->Prop
 |_,[]=>True
 |i,v::r=>∃T x y,v=.ref T/\lo<=T/\xs[i]?=U x/\ys[i]?=U y/\Ov h T x y/\(∀v'∈r,v'≠v)/\Made h lo xs ys (i+1) r
theorem Made.to {h h':LF}{lo:Kp}{xs ys:Array J4}:∀{i:Nat}{l:Ww J4},Made h lo xs ys i l->(∀T,.ref T∈l->∀o,h.get? T=U o->h'.get? T=U o)->Made h' lo xs ys i l
 |_,[],_,_=>trivial
 |i,v::r,hz,k=>by let⟨T,x,y,h1,h2,h3,h4,h5,h6,h7⟩:=hz;exact⟨T,x,y,h1,h2,h3,h4,k T (by rw[h1];simp) _ h5,h6,h7.to λT' hT=>k T' (Kb _ hT)⟩
theorem Made.snoc {h:LF}{lo T:Kp}{xs ys:Array J4}{x y:J4}:∀{i:Nat}{l:Ww J4},Made h lo xs ys i l->lo<=T->xs[i+l.length]?=U x->ys[i+l.length]?=U y->Ov h T x y->(∀v∈l,v≠.ref T)->Made h lo xs ys i (l++[.ref T])
 |i,[],_,a1,a2,a3,a4,_=>⟨T,x,y,rfl,a1,a2,a3,a4,λv hv=>(by lia),trivial⟩
 |i,v::r,hz,a1,a2,a3,a4,a5=>by
  let⟨T',x',y',h1,h2,h3,h4,h5,h6,h7⟩:=hz;refine⟨T',x',y',h1,h2,h3,h4,h5,λv' hv'=>?_,h7.snoc a1 (by rw[Kl]at a2;rw[show i+1+r.length=i+(r.length+1) by lia];exact a2) (by rw[Kl]at a3;rw[show i+1+r.length=i+(r.length+1) by lia];exact a3) a4 λv' hv'=>a5 v' (Kb _ hv')⟩
  rcases qac.mp hv' with hv'|hv'
  ·exact h6 v' hv'
  ·rw[qaa.mp hv'];exact Kt (a5 v (Kg ..))
theorem Made.lt {h:LF}{lo:Kp}{xs ys:Array J4}:∀{i:Nat}{l:Ww J4},Made h lo xs ys i l->∀v∈l,∃T,v=.ref T/\T<h.objs.size/\lo<=T
 |_,[],_,v,hv=>by trivial
 |i,v::r,hz,v',hv=>by
  let⟨T,x,y,h1,h2,h3,h4,h5,h6,h7⟩:=hz
  rcases on.mp hv with rfl|hv
  ·exact⟨T,h1,Kc h5,h2⟩
  ·exact h7.lt v' hv
theorem tY {R:O9->J5->Prop}{t u:Bool}{z P O c d p q S lo:Kp}{xs ys:Array J4}{res:J4}{n:Nat}(hh:A.handled=B) (ap:Ap z P O c d p q) (hS:S∉[z,P,O,c,d]) (pS:p≠S) (qS:q≠S) (hmin:n=min xs.size ys.size) (hn:n<=sizeLine) (bl:∀b∈[z,P,O,c,d],lo<=b) (bS:lo<=S):
  ∀(k i:Nat) (s:J5) (acc:Array J4) (e:Nat),n - i=k->i<=n->ZS t u s.heap z P O c d p q i->SqAt t s.heap p xs->SqAt u s.heap q ys->s.heap.get? S=U {cls:=.type "list",dict:=B,data:=.seq acc e,slots:=#[]}->acc.size=i->Made s.heap lo xs ys 0 acc.toList->lo<=s.heap.objs.size->(∀T,.ref T∈acc.toList->T∉S::[z,P,O,c,d])->
  (∀s' acc' e',(∀b o,b∉S::[z,P,O,c,d]->s.heap.get? b=U o->s'.heap.get? b=U o)->s'.heap.get? S=U {cls:=.type "list",dict:=B,data:=.seq acc' e',slots:=#[]}->acc'.size=n->Made s'.heap lo xs ys 0 acc'.toList->(∃h' tk,s'={s with heap:=h',toks:=tk})->R (.ok (.ret res)) s')->
  codeAny (model prog w) A (.builtin "list.extend.loop" ⟨[.ref S,.ref z,res],[]⟩) R s:=by
 intro k
 induction k with
 |zero=>
  intro i s acc e hk hi Z hp hq hL ha hm hlo hT hR;let hin:i=n:=by lia
  subst hin;refine KP F.entry_extend_loop ?_
  refine JY (se (show A.in1.handled=B from hh) ap Z hp hq (λx y hx hy=>?_) λ_ h' kp=>?_)
  ·exfalso
   let a1:=(Array.getElem?_eq_some_iff.mp hx).1
   let a2:=(Array.getElem?_eq_some_iff.mp hy).1
   lia
  ·refine JZ (hR _ acc e (λb o hb g=>kp b o (λz=>hb (Kb _ z)) g) (kp S _ hS hL) ha (hm.to λT hT' o g=>kp T o (λz=>hT T hT' (Kb _ z)) g) ⟨h',s.toks,rfl⟩)
 |succ k ih=>
  intro i s acc e hk hi Z hp hq hL ha hm hlo hT hR;let hlt:i<n:=by lia
  refine KP F.entry_extend_loop ?_
  refine JY (se (show A.in1.handled=B from hh) ap Z hp hq (λx y hx hy h' Z' new sz kp=>?_) λhn' h' kp=>?_)
  ·let hL':=kp S _ hS hL
   let zlt:∀b∈S::[z,P,O,c,d],b≠s.heap.objs.size:=λb hb e'=>by
    rcases on.mp hb with rfl|hb
    ·lia
    ·have:b<s.heap.objs.size:=by
      rcases Z with⟨zz,pp,⟨a,b',oo⟩,cc,dd⟩|⟨T,bo,nT,⟨zz,⟨o,al⟩,pp,⟨a,b',oo⟩,cc,dd⟩⟩<;>
       (simp![KI,K4,or_false]at hb
        rcases hb with rfl|rfl|rfl|rfl|rfl
        ·exact Kc zz
        ·exact Kc pp
        ·exact Kc oo
        ·let⟨o,e,_⟩:=cc.obj;exact Kc e
        ·let⟨o,e,_⟩:=dd.obj;exact Kc e)
     rw[e']at this;exact K3 _ this
   refine JY (Lu hL' rfl (JZ ⟨Lh Oa _,?_⟩) (by rw[ha];lia) (by show(acc.push _).size<=sizeLine+1;rw[P2,ha];lia))
   let sb:=KT h' S (Kx (·.push (.ref s.heap.objs.size)))
   let oth:∀b o,b≠S->h'.get? b=U o->(h'.update S (Kx (·.push (.ref s.heap.objs.size)))).get? b=U o:=λb o hb g=>(sb.2 b hb).trans g
   let gS:=Ku (Kx (·.push (O0 s.heap.objs.size))) hL' rfl
   refine ih (i+1) _ (acc.push (.ref s.heap.objs.size)) _ (by lia) hlt (Z'.to oth hS ⟨_,gS⟩) (hp.to λo g=>oth _ o pS (kp _ o ap.p g)) (hq.to λo g=>oth _ o qS (kp _ o ap.q g)) gS (by rw[P2,ha]) ?_ ?_ ?_ λs' acc' e' k1 k2 k3 k4 k5=>?_
   ·rw[LV]
    refine(hm.to λT hT' o g=>oth _ o (λz=>hT T hT' (by rw[z];exact Kg ..)) (kp T o (λz=>hT T hT' (Kb _ z)) g)).snoc hlo ?_ ?_ (oth _ _ (Kt (zlt S (Kg ..))) new) λv hv z=>?_
    ·simp;lia
    ·simp;lia
    ·let⟨T,rfl,lt,_⟩:=hm.lt v hv
     cases z;exact K3 _ lt
   ·simp;lia
   ·grind
   ·refine hR s' acc' e' (λb o hb g=>k1 b o hb (oth b o (λz=>hb (by rw[z];exact Kg ..)) (kp b o (λz=>hb (Kb _ z)) g))) k2 k3 k4 ?_
    let⟨h2,tk,e2⟩:=k5;exact⟨h2,tk,e2⟩
  ·exfalso
   rcases hn' with hn'|hn'
   ·rw[Ql]at hn';lia
   ·rw[Ql]at hn';lia
def rR:typeLookup (.type "zip") "__len__"=pure B:=by rfl
def oA:typeLookup (.type "zip") "__length_hint__"=pure B:=by rfl
def nG {R:O9->J5->Prop}(hh:A.handled=B) {t u:Bool}{z P O c d p q S lo:Kp}{xs ys:Array J4}{c₀:Nat}(ap:Ap z P O c d p q) (hS:S∉[z,P,O,c,d]) (pS:p≠S) (qS:q≠S) (hn:min xs.size ys.size<=sizeLine) (bl:∀b∈[z,P,O,c,d],lo<=b) (bS:lo<=S) (res:J4)
  (Z:Zp t u s.heap z P O c d p q 0 .none) (hp:SqAt t s.heap p xs) (hq:SqAt u s.heap q ys) (hlo:lo<=s.heap.objs.size)
  (hL:s.heap.get? S=U {cls:=.type "list",data:=.seq #[] c₀})
  (hR:∀s' acc' e',(∀b o,b∉S::[z,P,O,c,d]->s.heap.get? b=U o->s'.heap.get? b=U o)->s'.heap.get? S=U {cls:=.type "list",dict:=B,data:=.seq acc' e',slots:=#[]}->acc'.size=min xs.size ys.size->Made s'.heap lo xs ys 0 acc'.toList->(∃h' tk,s'={s with heap:=h',toks:=tk})->R (.ok (.ret res)) s'):
  wpAny (model prog w) A.in1 (MQ (.ref S) (.ref z) res)
   (λfin s'=>match fin with|.done f=>R (.ok f) s'|.again c'=>c'.quiet=V/\codeAny (model prog w) A c' R s') (λe s'=>R (.error e) s') s:=by
 let ty:s.TypeIs (.ref z) "zip":=⟨_,Z.zz,rfl⟩;let nSz:S≠z:=λe=>hS (by rw[e];simp)
 refine JY (Nc ty ?_)
 simp![show L3 (.ref S) (.ref z)=Y by simp[L3,nSz],show(LP "zip"==LP "list")=Y by decide,show(LP "zip"==LP "tuple")=Y by decide,QG,Ko,if_false]
 refine JY (Qr Z.zz (JY (KB ?_)))
 refine JY (Ms ty rR ?_)
 refine JY (Ms ty oA (JZ ?_))
 refine JY (LA (JY ?_))
 let hS2:=Ku (Kx (·.push L6)) hL rfl
 refine JY (Lu hL rfl (Lu (hz:=by seq_fits) hS2 rfl ?_))
 let hS3:=Ku (Kx (·.pop)) hS2 rfl
 let oth:∀b o,b≠S->s.heap.get? b=U o->((s.heap.update S (Kx (·.push L6))).update S (Kx (·.pop))).get? b=U o:=
  λb o hb e=>(Ki _ _ (Kt hb)).trans ((Ki _ _ (Kt hb)).trans e)
 refine JZ ⟨Lh Oa _,tY hh ap hS pS qS rfl hn bl bS _ 0 _ _ _ rfl (KA _) ((show ZS t u s.heap z P O c d p q 0 from .inl Z).to oth hS ⟨_,hS3⟩) (hp.to λo e=>oth _ o pS e) (hq.to λo e=>oth _ o qS e) hS3 (by simp) (by simp[Made]) ?_ (by simp) λs' acc' e' k1 k2 k3 k4 k5=>?_⟩
 ·simp;lia
 ·let⟨h',tk,e2⟩:=k5
  exact hR s' acc' e' (λb o hb e=>k1 b o hb (oth b o (λz=>hb (by rw[z];exact Kg ..)) e)) k2 k3 k4 ⟨h',tk,e2⟩
def pC {Q:J4->J5->Prop}(hh:A.handled=B) {t u:Bool}{z P O c d p q:Kp}{xs ys:Array J4}(ap:Ap z P O c d p q) (hn:min xs.size ys.size<=sizeLine) {lo:Kp}(bl:∀b∈[z,P,O,c,d],lo<=b) (hlo:lo<=s.heap.objs.size)
  (Z:Zp t u s.heap z P O c d p q 0 .none) (hp:SqAt t s.heap p xs) (hq:SqAt u s.heap q ys)
  (hQ:∀h' tk acc' e',(∀b o,b∉[z,P,O,c,d]->s.heap.get? b=U o->h'.get? b=U o)->h'.get? s.heap.objs.size=U {cls:=.type "list",dict:=B,data:=.seq acc' e',slots:=#[]}->acc'.size=min xs.size ys.size->Made h' lo xs ys 0 acc'.toList->Q (.ref s.heap.objs.size) {s with heap:=h',toks:=tk}):
  wpAny (model prog w) A (call (.type "list") [.ref z]) Q E s:=by
 refine QV (Q₁:=λobj s₁=>obj=.ref s.heap.objs.size/\s₁={s with heap:=s.heap.push {cls:=.type "list",data:=.seq #[]}}) F.called_list (F.typeCall_list_1 _) F.entry_list_init (code_list_new _ ⟨rfl,rfl⟩) λobj s₁ h₁=>?_
 let⟨rfl,rfl⟩:=h₁;let hS:(s.heap.push {cls:=.type "list",data:=.seq #[]}).get? s.heap.objs.size=U {cls:=.type "list",data:=.seq #[]}:=J7 _ rfl
 refine⟨⟨_,hS,rfl⟩,F.args_list_init_2 _ _,?_⟩
 refine JY ?_
 refine JY (K9 hS rfl (JZ ?_))
 let hS2:=Ku (Kx (λ_=>(#[]:Array J4))) hS rfl
 let up:∀b ob,s.heap.get? b=U ob->((s.heap.push {cls:=.type "list",data:=.seq #[]}).update s.heap.objs.size (Kx (λ_=>(#[]:Array J4)))).get? b=U ob:=λb ob e=>(Ki _ _ (Kt (KF (Kc e)))).trans (J0 _ e)
 let lts:∀b∈[z,P,O,c,d],b<s.heap.objs.size:=λb hb=>by
  let⟨zz,pp,⟨a,b',oo⟩,cc,dd⟩:=Z;simp![KI,K4,or_false]at hb
  rcases hb with rfl|rfl|rfl|rfl|rfl
  ·exact Kc zz
  ·exact Kc pp
  ·exact Kc oo
  ·let⟨o,e,_⟩:=cc.obj;exact Kc e
  ·let⟨o,e,_⟩:=dd.obj;exact Kc e
 let lp:p<s.heap.objs.size:=by cases t<;>(let⟨o,e,_⟩:=hp;exact Kc e)
 let lq:q<s.heap.objs.size:=by cases u<;>(let⟨o,e,_⟩:=hq;exact Kc e)
 refine JY (Lu hS rfl (JY (Mo ?_)))
 let⟨zz,pp,⟨a,b',oo⟩,cc,dd⟩:=Z;refine nG (A:=A.in1) hh ap (λhm=>K3 _ (lts _ hm)) (KF lp) (KF lq) hn bl hlo .none ⟨up _ _ zz,up _ _ pp,⟨a,b',up _ _ oo⟩,cc.to λo e=>up _ o e,dd.to λo e=>up _ o e⟩ (hp.to λo e=>up _ o e) (hq.to λo e=>up _ o e) ?_ hS2 λs' acc' e' k1 k2 k3 k4 k5=>?_
 ·simp;lia
 ·let⟨h',tk,rfl⟩:=k5
  exact⟨rfl,hQ h' tk acc' e' (λb ob hb e=>k1 b ob (λhm=>(on.mp hm).elim (λz=>KF (Kc e) z) hb) (up b ob e)) k2 k3 k4⟩
end
structure En (h:LF) (e c p:Kp) (n:Nat):Prop where
 ee:∃old,IsEnum h e c n old
 cc:h.IsListIter c p n
def DY {prog:Lw}{w:LY}{A:KH}{E:J4->J5->Prop}{s:J5}{elts:Ww Expr}{x1} {pos:PA}{e c T:Kp}{i:Int}{x:J4}{Q:Unit->J5->Prop}(he:IsEnumOut s.heap e c i x T)
  (hQ:∀h',IsEnum h' e c i x->Ln e s.heap h'->Q () {s with heap:=h'}):wpAny (model prog w) A (letOwnedTupleGo (.Tuple elts x1 pos) (.ref e) (.ref T)) Q E s:=by
 refine JY (O5 he ?_)
 change wpAny _ _ (if(["enumerate","zip","dict_itemiterator","dict_reverseitemiterator","odict_iterator","itertools.zip_longest","itertools.pairwise"].contains "enumerate"&&(#[rawInt T,.bool Y,.ref c,rawInt i,.none,x]:Array J4)[0]?==U (rawInt T))=V then _ else _) Q E s
 rw[if_pos (by simp)]
 refine JY (LA (MD he (by simp) λh' g' m'=>hQ h' g' m'))
def enL (h:LF) (p:Kp):LF:=(h.push (itO Y p)).push {cls:=.type "enumerate",data:=.fields #[.none,.bool Y,.ref h.objs.size,rawInt 0,.none,.none]}
nonrec theorem Cd (p:Kp) (xs:Array J4):Meets (NK.«enumerate.__new__» ⟨[.type "enumerate",.ref p],[]⟩) (λ_ R s=>SqAt Y s.heap p xs/\R (.ok (.ret (.ref (s.heap.push (itO Y p)).objs.size))) {s with heap:=enL s.heap p}):=
 .of_wp λprog w A R s h=>by
  let⟨h1,h⟩:=h;let hsub:=sub_enumerate;let k1:=h1
  wp_walk using iv k1
  refine wpAny_stack_any λst=>JZ ?_
  split
  ·rename_i c0 _ _ _ _ _
   cases (c0==LP "enumerate")<;>(wp_walk using iv k1;exact⟨_,rfl,h⟩)
  ·wp_walk using iv k1
   exact⟨_,rfl,h⟩
def xL {prog:Lw}{w:LY}{A:KH}{E:J4->J5->Prop}{s:J5}{p:Kp}{xs:Array J4}{Q:J4->J5->Prop}(hp:SqAt Y s.heap p xs)
  (h:∀h',IsEnum h' (s.heap.objs.size+1) s.heap.objs.size 0 .none->h'.IsListIter s.heap.objs.size p 0->(∀b o,s.heap.get? b=U o->h'.get? b=U o)->Q (.ref (s.heap.objs.size+1)) {s with heap:=h'}):
  wpAny (model prog w) A (call (.type "enumerate") [.ref p]) Q E s:=by
 refine callType_new F.called_enumerate (by decide) (F.typeCall_enumerate_1 _) (F.newCall_enumerate_1 _) (λobj=>F.args_object_init_2 obj _) F.entry_enumerate_new (Cd p xs) ⟨hp,?_⟩
 let s1:(s.heap.push (itO Y p)).objs.size=s.heap.objs.size+1:=Lz ..;let e5:(enL s.heap p).get? (s.heap.push (itO Y p)).objs.size=U {cls:=.type "enumerate",data:=.fields #[.none,.bool Y,.ref s.heap.objs.size,rawInt 0,.none,.none]}:=J7 _ rfl
 let c5:(enL s.heap p).get? s.heap.objs.size=U (itO Y p):=J0 _ (J7 _ rfl)
 rw[s1]at e5;refine⟨⟨_,by rw[s1];exact e5,rfl⟩,?_⟩
 rw[s1];exact h _ e5 ⟨_,c5,rfl,rfl⟩ λb o e=>J0 _ (J0 _ e)
def fZ (i:Nat):Ww D->Ww D
 |[]=>[]
 |d::ds=>.tup [.int i,d]::fZ (i+1) ds
theorem rM:∀(ds:Ww D) (j i:Nat) (x:D),(fZ j ds)[i]?=U x->∃d,ds[i]?=U d/\x=.tup [.int ((j+i:Nat):Int),d]
 |[],j,i,x,h=>by trivial
 |d::ds,j,0,x,h=>by simp_all [fZ,h]
 |d::ds,j,i+1,x,h=>by
  let⟨e,h1,h2⟩:=rM ds (j+1) i x h;exact⟨e,by trivial,by rw[h2,show j+1+i=j+(i+1) by lia]⟩
theorem ri:∀(j:Nat) (ds:Ww D),(fZ j ds).length=ds.length
 |_,[]=>rfl
 |j,d::ds=>by simp[fZ,ri (j+1) ds]
def rC (x:Wq D):Wq (Ww D):=match x with|some (.lst ds)=>U (fZ 0 ds)|_=>B
variable[Md]
section
variable{X:Cx}{M M':Mp}{δ:DEnv}{s:J5}{elts:Ww Expr}{x1:Nat}{tp:PA}{a b:Expr}{fa fb:DEnv->Wq D}{m m':Bool}{p p2 pos pos2:PA}{t u:Bool}{A:KH}
def SqO (t:Bool) (o:PC) (vs:Ww J4):Prop:=if t=V then TupO o vs else LstO o vs
def SqO.at (q:SqO t o vs) (h:s.heap.get? c=U o):SqAt t s.heap c vs.toArray:=by
 cases t with
 |true=>exact⟨o,h,q.2⟩
 |false=>let⟨_,n,rfl⟩:=q;exact⟨_,h,rfl,n,rfl⟩
def Dv {v:J4}(h:HK t x=U ds):∃d,x=U d/\∀{m M v},R m M d v->∃c o vs,v=.ref c/\Rd m M c o/\SqO t o vs/\Rs m M ds vs:=by
 cases t with
 |true=>exact⟨_,rL h,λr=>r⟩
 |false=>exact⟨_,lZ h,λr=>r⟩
def Hs:TupO {cls:=.type "tuple",data:=.seq #[x,y]} [x,y]:=⟨by show 2<=sizeLine;decide,rfl,_,rfl⟩
def R.pair (h:M T=B) (r1:R m M d x) (r2:R m M e y):R m (upd M T (U (.f,{cls:=.type "tuple",data:=.seq #[x,y]}))) (.tup [d,e]) (.ref T):=
 ⟨T,_,[x,y],rfl,⟨.f,ao,rfl⟩,Hs,⟨x,[y],rfl,r1.to (dT h),.one (r2.to (dT h))⟩⟩
def R.pairN {h:LF}(rd:∀a o,Rd m M a o->h.get? a=U o) (hT:h.objs.size<=T) (r1:R m M d x) (r2:R m M e y):R m (upd M T (U (.f,{cls:=.type "tuple",data:=.seq #[x,y]}))) (.tup [d,e]) (.ref T):=by
 let sb:Sub m M m (upd M T (U (.f,{cls:=.type "tuple",data:=.seq #[x,y]}))):=λb o ⟨k,e,z⟩=>⟨k,by
  rw[ar];exact e
  rintro rfl;exact absurd (Kc (rd _ _ ⟨k,e,z⟩)) (Nat.not_lt.mpr hT),z⟩
 exact⟨T,_,[x,y],rfl,⟨.f,ao,rfl⟩,Hs,⟨x,[y],rfl,r1.to sb,.one (r2.to sb)⟩⟩
def Zp.ex {t u:Bool}{h:LF}{z P O c d p q:Kp}{n:Nat}{f:J4}(Z:Zp t u h z P O c d p q n f):∀b∈[z,P,O,c,d],∃o,h.get? b=U o:=λb hb=>by
 let⟨zz,pp,⟨a,a',oo⟩,cc,dd⟩:=Z;simp![KI,K4,or_false]at hb
 rcases hb with rfl|rfl|rfl|rfl|rfl
 ·exact⟨_,zz⟩
 ·exact⟨_,pp⟩
 ·exact⟨_,oo⟩
 ·let⟨o,e,_⟩:=cc.obj;exact⟨o,e⟩
 ·let⟨o,e,_⟩:=dd.obj;exact⟨o,e⟩
def Ba {z Pr O c d p q:Kp}(hh:A.handled=B) (ap:Ap z Pr O c d p q) (q1:Rd m M p o1) (t1:SqO t o1 xs) (r1:Rs m M ds xs) (q2:Rd m M q o2) (t2:SqO u o2 ys) (r2:Rs m M es ys):
  GB A (.Tuple elts x1 tp) m M (iH ds es) [z,Pr,O,c,d] z (λn h=>Zp t u h z Pr O c d p q n .none) where
 ex:=λst=>st.ex
 keep:=λst k=>by
  let⟨zz,pp,⟨a,a',oo⟩,cc,dd⟩:=st;exact⟨k z (by simp) _ zz,k Pr (by simp) _ pp,⟨a,a',k O (by simp) _ oo⟩,cc.to λo e=>k c (by simp) o e,dd.to λo e=>k d (by simp) o e⟩
 item:=λ{i s x} st h e=>by
  let⟨d1,d2,e1,e2,rfl⟩:=sD _ _ _ _ e;let⟨vx,g1,g2⟩:=r1.get e1;let⟨vy,g3,g4⟩:=r2.get e2;refine oS hh ap st (t1.at (h _ _ q1)) (t2.at (h _ _ q2)) (λux uy hx hy h' Z' new sz k=>?_) λhn=>by simp_all
  simp![Mx]at hx hy
  rw[g1]at hx;cases hx;rw[g3]at hy;cases hy;refine⟨_,rfl,?_⟩
  let⟨zz,pp,⟨a,a',oo⟩,cc,dd⟩:=Z';let nd:=ap.nd;simp![NZ,KI,K4,or_false,not_or,LX,and_true,not_false_eq_true]at nd;let zT:z≠s.heap.objs.size:=KF (Kc st.zz);refine wpAny_letOwnedTupleGo_zip (s:={s with heap:=h'}) zz λk2 z2 m2=>⟨⟨⟨rfl,rfl⟩,λb o hb e=>aj m2 (λw=>hb (by simp[w])) (k b o hb e)⟩,⟨z2,aj m2 (Kt nd.1.1) pp,⟨a,a',aj m2 (Kt nd.1.2.1) oo⟩,cc.to λo e=>aj m2 (Kt nd.1.2.2.1) e,dd.to λo e=>aj m2 (Kt nd.1.2.2.2) e⟩,.inr ⟨s.heap.objs.size,_,Kh _,aj m2 (Kt zT) new,R.pairN h (Kh _) g2 g4⟩⟩
 done:=λ{s} st h=>oS hh ap st (t1.at (h _ _ q1)) (t2.at (h _ _ q2)) (λvx vy hvx hvy h' Z' new sz k=>by
  exfalso;let l1:=r1.length;let l2:=r2.length;rw[iG]at hvx hvy;let a1:=(Array.getElem?_eq_some_iff.mp hvx).1
  let a2:=(Array.getElem?_eq_some_iff.mp hvy).1
  simp at a1 a2;lia) λhn h' k=>⟨rfl,⟨rfl,rfl⟩,k⟩
 self:=λst h=>Qr st.zz h
def xK {Q:J4->J5->Prop}(g:Bn X "zip") (h:DE X m a fa) (h':DE X m b fb) (I:Inv X M δ s) (e:yh t u (fa δ) (fb δ)=U ls) (k:∀z Pr O c d p q o1 o2 xs ys ds es h' s1 M1,ls=iH ds es->Ext M M1->Inv X M1 δ s1->Ap z Pr O c d p q->Zp t u h' z Pr O c d p q 0 .none->(∀b∈[z,Pr,O,c,d],s1.heap.objs.size<=b)->(∀b o,s1.heap.get? b=U o->h'.get? b=U o)->Rd m M1 p o1->SqO t o1 xs->Rs m M1 ds xs->Rd m M1 q o2->SqO u o2 ys->Rs m M1 es ys->Q (.ref z) {s1 with heap:=h'}):
  WP X (eval (.Call (.Name "zip" p) [a,b] [] pos) X.env) Q s:=by
 let⟨ds,e1,e⟩:=ai e;let⟨es,e2,e⟩:=ai e;cases e;let⟨d1,f1,k1⟩:=Dv (v:=.none) e1;let⟨d2,f2,k2⟩:=Dv (v:=.none) e2;refine Dg g boot_zip (aX h (aX h' cW)) I (ds:=[d1,d2]) (by rw[f1,f2];rfl) λvs s1 M1 x1 I1 r=>?_
 let⟨v1,v2,rfl,r1,r2⟩:=r.is2;let⟨l1,o1,xs,rfl,q1,t1,rs1⟩:=k1 r1;let⟨l2,o2,ys,rfl,q2,t2,rs2⟩:=k2 r2;exact A5 (t1.at (q1.heap I1.heap)) (t2.at (q2.heap I1.heap)) λz P O c d h' ap Z hi kk=>k _ _ _ _ _ _ _ _ _ _ _ _ _ _ _ _ rfl x1 I1 ap Z hi kk q1 t1 rs1 q2 t2 rs2
def Gj {t u:Bool}(g:Bn X "zip") (h:DE X m a fa) (h':DE X m b fb):DI X m (.Tuple elts x1 tp) (.Call (.Name "zip" p) [a,b] [] pos) (λδ=>yh t u (fa δ) (fb δ)):=⟨rfl,λI e k=>
 xK g h h' I e λz Pr O c d p q o1 o2 xs ys ds es h' s1 M1 e x1 I1 ap Z hi kk q1 t1 r1 q2 t2 r2=>by
  subst e;exact Qr (s:={s1 with heap:=h'}) Z.zz (k _ _ _ _ _ x1 (I1.kp kk) (Ba I.ok.room.hd ap q1 t1 r1 q2 t2 r2) Z λb hb=>I1.fresh (hi b hb))⟩
theorem ya {lo:Kp}{is js:Ww J4}:∀(l:Ww J4) (i:Nat) (M:Mp) (ds es:Ww D),Inv X M δ s->Made s.heap lo is.toArray js.toArray i l->(∀T,.ref T∈l->Free X M T)->Rs Y M ds (is.drop i)->Rs Y M es (js.drop i)->l.length=min ds.length es.length->
  ∃M',Ext M M'/\Inv X M' δ s/\(∀c,.ref c∉l->M' c=M c)/\Rs Y M' (iH ds es) l
 |[],i,M,ds,es,I,m,f,r1,r2,hl=>by
  refine⟨M,Ext.refl,I,λ_ _=>rfl,?_⟩
  cases ds with
  |nil=>rfl
  |cons d ds=>cases es with
   |nil=>rfl
   |cons e es=>simp at hl
 |v::l,i,M,ds,es,I,hz,f,r1,r2,hl=>by
  let⟨T,x,y,rfl,e2,e3,e4,e5,e6,e7⟩:=hz;cases ds with
  |nil=>simp at hl
  |cons d ds=>cases es with
   |nil=>simp at hl
   |cons e es=>
    let hi:i<is.length:=by simpa using(Array.getElem?_eq_some_iff.mp e3).1
    let hj:i<js.length:=by simpa using(Array.getElem?_eq_some_iff.mp e4).1
    rw[KW hi]at r1;rw[KW hj]at r2;let⟨_,_,w1,a1,a2⟩:=r1;let⟨_,_,w2,b1,b2⟩:=r2;cases w1;cases w2;rw[show is[i]=x by simpa[hi]using e3]at a1
    rw[show js[i]=y by simpa[hj]using e4]at b1
    let fT:=f T (Kg ..);let ne:∀T',O0 T'∈l->T'≠T:=λT' hT' z=>e6 _ hT' (by rw[z])
    let xT:=cb (o:={cls:=.type "tuple",data:=.seq #[x,y]}) fT.m;let⟨M',i1,i2,i3,i4⟩:=ya l (i+1) _ ds es (I.put fT e5) e7 (λT' hT'=>by
     let g:=f T' (Kb _ hT');exact⟨by rw[ar (ne T' hT')];exact g.m,g.l,g.c,g.t,g.s⟩) (a2.up xT) (b2.up xT) (by simp at hl;lia)
    refine⟨M',xT.trans i1,i2,λc hc=>?_,⟨_,l,rfl,(R.pair fT.m a1 b1).up i1,i4⟩⟩
    rw[i3 c (λz=>hc (Kb _ z)),ar (λz=>hc (by rw[z];exact Kg ..))]
def Made.pair {h:LF}{lo:Kp}{xs ys:Array J4}{l:Ww J4}{i:Nat}(H:Made h lo xs ys i l) (T) (hT:.ref T∈l):∃x y,Ov h T x y:=by
 induction l generalizing i with
 |nil=>simp at hT
 |cons v l ih=>
  let⟨T',x,y,e1,e2,e3,e4,e5,e6,e7⟩:=H
  rcases on.mp hT with e|hT
  ·rw[e1]at e;cases e;exact⟨x,y,e5⟩
  ·exact ih e7 hT
def qw (t u:Bool) (x y:Wq D):Wq D:=match yh t u x y with|some ds=>if ds.length<=lim then U (.lst ds) else B|none=>B
def ny (h:qw t u x y=U d):∃ls,yh t u x y=U ls/\ls.length<=lim/\d=.lst ls:=by
  unfold qw at h;split at h<;>try cases h
  split at h<;>cases h;exact⟨_,by assumption,by assumption,rfl⟩
def xf (t u:Bool) (gl:Bn X "list") (g:Bn X "zip") (h:DE X Y a fa) (h':DE X Y b fb):DF X (.Call (.Name "list" p) [.Call (.Name "zip" p2) [a,b] [] pos2] [] pos) (λδ=>qw t u (fa δ) (fb δ)):=⟨rfl,λI e k=>by
 let⟨ls,e0,hl,rfl⟩:=ny e;refine Lx (I.bltn gl (by rfl:bootBuiltins "list"=U (.type "list")) (NO ?_ rfl rfl))
 refine KZ (xK g h h' I e0 λz Pr O c d p q o1 o2 xs ys ds es h' s1 M1 e x1 I1 ap Z hi kk q1 t1 r1 q2 t2 r2=>LH ?_)
 subst e;let hsz:=Kf (hi z (by simp)) (OO (Kc Z.zz))
 let l1:=r1.length;let l2:=r2.length;rw[iG]at hl;refine pC (s:={s1 with heap:=h'}) I.ok.room.hd ap (by have:=ax hl;simp;lia) (lo:=s1.heap.objs.size) hi hsz Z ((t1.at (q1.heap I1.heap)).to λo e=>kk _ o e) ((t2.at (q2.heap I1.heap)).to λo e=>kk _ o e) λh2 tk acc e' k1 k2 k3 k4=>?_
 let I2:Inv X M1 _ {s1 with heap:=h2,toks:=tk}:=I1.kp λb o e=>k1 b o (λhm=>absurd (MW (Kc e) (hi b hm)) (K3 _)) (kk b o e)
 let⟨M3,x3,I3,n3,r3⟩:=ya (s:={s1 with heap:=h2,toks:=tk}) (is:=xs) (js:=ys) acc.toList 0 M1 ds es I2 k4 (λT hT=>by let⟨T',e,_,lo⟩:=k4.lt _ hT;cases e;exact I1.fresh lo) r1 r2 (by simp_all)
 let f:=I1.fresh hsz;refine k _ _ _ _ (x1.trans x3) I3 ⟨?_,f.l,f.c,f.t,f.s⟩ k2 ⟨acc.toList,⟨by have:=ax hl;simp at k3⊢;lia,e',by simp⟩,r3⟩
 rw[n3 _ λhm=>?_];exact f.m
 let⟨x,y,z⟩:=k4.pair _ hm
 lia⟩
def yo {e c p:Kp}(hh:A.handled=B) (ne:e≠c) (q1:Rd m M p o1) (t1:LstO o1 xs) (r1:Rs m M ds xs):GB A (.Tuple elts x1 tp) m M (fZ 0 ds) [e,c] e (λn h=>En h e c p n) where
 ex:=λ⟨⟨old,ee⟩,cc⟩ b hb=>by
  simp![KI,K4,or_false]at hb
  rcases hb with rfl|rfl
  ·exact⟨_,ee⟩
  ·let⟨o,g,_⟩:=cc;exact⟨o,g⟩
 keep:=λ⟨⟨old,ee⟩,cc⟩ k=>⟨⟨old,k e (by simp) _ ee⟩,cc.at λo g=>k c (by simp) o g⟩
 item:=λ{i s x} st h hx=>by
  let⟨d1,e1,rfl⟩:=rM _ _ _ _ hx;let⟨vx,g1,g2⟩:=r1.get e1;let⟨⟨old,ee⟩,cc⟩:=st;refine wpAny_pyNext_enum_item ee cc (oC h q1 t1) (x:=vx) (by simpa using g1) ne λh' out cc' new sz k=>⟨_,rfl,?_⟩
  let eT:e≠s.heap.objs.size:=KF (Kc ee);refine DY (s:={s with heap:=h',toks:=s.toks+1}) out λk2 e2 m2=>⟨⟨⟨rfl,rfl⟩,λb o hb g=>aj m2 (λw=>hb (by simp[w])) (k b o (λz=>hb (by simp[z])) (λz=>hb (by simp[z])) g)⟩,⟨⟨_,e2⟩,cc'.at λo g=>aj m2 (Kt ne) g⟩,.inr ⟨s.heap.objs.size,_,Kh _,aj m2 (Kt eT) new,R.pairN h (Kh _) ⟨_,by rw[MH]⟩ g2⟩⟩
 done:=λ{s} ⟨⟨old,ee⟩,cc⟩ h=>wpAny_pyNext_enum_end hh ee cc (oC h q1 t1) (by simp[ri,r1.length]) λh' k=>⟨rfl,⟨rfl,rfl⟩,λb o hb q=>k b o (λz=>hb (by simp[z])) q⟩
 self:=λ⟨⟨old,ee⟩,cc⟩ h=>wpAny_pyIter_enum ee h
nonrec theorem Ey (g:Bn X "enumerate") (h:DE X m a fa):DI X m (.Tuple elts x1 tp) (.Call (.Name "enumerate" p) [a] [] pos) (λδ=>rC (fa δ)):=⟨rfl,λ{M δ s ds Q} I e k=>by
 unfold rC at e;split at e<;>cases e
 rename_i q0;refine fH g boot_enumerate h I q0 λv s1 M1 x1 I1 r=>?_
 let⟨c,o,vs,rfl,q,t,rs⟩:=r;refine xL (p:=c) (t.is I1.heap q) λh' ee cc kk=>?_
 refine wpAny_pyIter_enum (s:={s1 with heap:=h'}) ee (k _ _ _ _ _ x1 (I1.kp kk) (yo I.ok.room.hd (MV (LD _)) q t rs) ⟨⟨_,ee⟩,cc⟩ λb hb=>I1.fresh ?_)
 simp![KI,K4,or_false]at hb
 rcases hb with rfl|rfl
 ·exact NX _
 ·exact Kh _⟩
def zi (x:Wq D):Wq D:=match x with|some (.int j)=>if decide (0<=j/\j<=1000)=V then U (.lst (kg 0 j.toNat)) else B|_=>B
def Jj:∀{n:Nat}{ds:Ww D}{vs:Ww J4},ds.length=vs.length->(∀(i:Nat) (h:i<ds.length),∃v,vs[i]?=U v/\R m M ds[i] v)->Rs m M ds vs:=by
 intro n ds
 induction ds with
 |nil=>intro vs e _;cases vs with
  |nil=>rfl
  |cons=>cases e
 |cons d ds ih=>intro vs e h;cases vs with
  |nil=>cases e
  |cons v vs=>exact⟨v,vs,rfl,by let⟨v',h1,h2⟩:=h 0 (by simp);simp_all,ih (by simpa using e) λi hi=>by let⟨v',h1,h2⟩:=h (i+1) (by simpa using hi);exact⟨v',by trivial,by trivial⟩⟩
nonrec theorem BQ (gl:Bn X "list") (gr:Bn X "range") (h:DE X m a fa):DF X (.Call (.Name "list" p) [.Call (.Name "range" p2) [a] [] pos2] [] pos) (λδ=>zi (fa δ)):=⟨rfl,λ{M δ s d Q} I e k=>by
 unfold zi at e;split at e<;>try cases e
 split at e<;>cases e
 rename_i j q0 hj;let hj:=of_decide_eq_true hj;refine Lx (I.bltn gl (by rfl:bootBuiltins "list"=U (.type "list")) (NO ?_ rfl rfl))
 refine KZ (fH gr boot_range h I q0 λv s1 M1 x1 I1 r=>?_)
 let⟨t,rfl⟩:=r;refine call_range_1 (LH ?_)
 refine call_list_range (n:=j.toNat) I.ok.room.hd (IsRange.new ..) (small_one (by lia) (by lia) (by lia) (by lia)) (by rw[rangeSize_one];split<;>lia) (by lia) λh' tk acc c' hk hS hacc=>?_
 let I2:=(I1.push (t:=s1.toks+1) (o:=_)).kp (s':={s1 with heap:=h',toks:=tk}) hk
 let lz:1000<=sizeLine:=by decide
 let ha:=hacc.1;refine k _ _ _ _ x1 I2 (I1.fresh (by simp)) hS ⟨acc.toList,⟨by simp;lia,c',by simp⟩,Jj (n:=0) (by simp[kg,ha]) λi hi=>?_⟩
 simp![kg,J8,Nf]at hi;let⟨t,e⟩:=hacc.2 i acc[i] (by simp)
 refine⟨acc[i],by simp,?_⟩
 rw[show(kg 0 j.toNat)[i]=.int i by simp[kg]];exact⟨t,by rw[e];simp⟩⟩
end
end L2
namespace SM
open PySem PyProof.Rows
structure OrdK (LT:Kj->Kj->Bool):Prop where
 asym:∀x y,LT x y=V->LT y x=Y
 tr:∀x y z,LT y x=Y->LT z y=Y->LT z x=Y
def OrdK.irr {LT:Kj->Kj->Bool}(O:OrdK LT) (x:Kj):LT x x=Y:=by
 cases h:LT x x with
 |false=>rfl
 |true=>exact h.symm.trans (O.asym x x h)
def Ans (prog:Lw) (w:LY) (A:KH) (s:J5) (κ:ND) (LT:Kj->Kj->Bool) (T:Array Kj):Prop:=
 ∀x∈T,∀y∈T,∀C:Bool->J5->Prop,C (LT x y) s->wpAny (model prog w) A (keyLt' κ x.1 y.1) C (λ_ _=>False) s
abbrev nK:Kj:=(L6,L6)
def K (a:Array Kj) (i:Nat):Kj:=(a[i]?).getD nK
def IJ {a:Array Kj}{i:Nat}(h:i<a.size):a[i]?=U (K a i):=by unfold K;simp_all
def Ff {a:Array Kj}{i:Nat}(h:i<a.size):K a i∈a:=by unfold K;simp_all
def F4 {a b:Array Kj}{i j:Nat}(h:a[i]?=b[j]?):K a i=K b j:=by unfold K;rw[h]
def pE {a:Array Kj}{i j:Nat}(hj:j<=a.size) (k:Nat):K (mirror a i j ((j - i) / 2)) k=if i<=k/\k<j then K a (i+j - 1 - k) else K a k:=by
 let e:=getElem?_mirror_all (i:=i) hj k
 by_cases h:i<=k/\k<j
 ·rw[if_pos h]at e⊢;exact F4 e
 ·rw[if_neg h]at e⊢;exact F4 e
def E2 {a:Array Kj}{src d:Nat}(hs:src<a.size) (hd:d<=src) (k:Nat):K (bubble a src d) k=if k=src - d then K a src else if src - d<k/\k<=src then K a (k - 1) else K a k:=by
 let e:=getElem?_bubble hs d hd k
 by_cases h:k=src - d
 ·rw[if_pos h]at e⊢;exact F4 e
 ·rw[if_neg h]at e⊢
  by_cases h2:src - d<k/\k<=src
  ·rw[if_pos h2]at e⊢;exact F4 e
  ·rw[if_neg h2]at e⊢;exact F4 e
section
variable{prog:Lw}{w:LY}{A:KH}{E:J4->J5->Prop}{s:J5}{LT:Kj->Kj->Bool}{T:Array Kj}{κ:ND}{st:K2}
def Up (LT:Kj->Kj->Bool) (a:Array Kj) (i j:Nat):Prop:=∀p q,i<=p->p<=q->q<j->LT (K a q) (K a p)=Y
def Dn (LT:Kj->Kj->Bool) (a:Array Kj) (i j:Nat):Prop:=∀p q,i<=p->p<=q->q<j->LT (K a p) (K a q)=Y
def Up.one (O:OrdK LT) {a:Array Kj}{i:Nat}:Up LT a i (i+1):=λp q h1 h2 h3=>by
 let e:p=q:=by lia
 rw[e];exact O.irr _
def Dn.one (O:OrdK LT) {a:Array Kj}{i:Nat}:Dn LT a i (i+1):=λp q h1 h2 h3=>by
 let e:p=q:=by lia
 rw[e];exact O.irr _
def Up.snoc (O:OrdK LT) {a:Array Kj}{i j:Nat}(h:Up LT a i j) (hij:i<j) (hl:LT (K a j) (K a (j - 1))=Y):Up LT a i (j+1):=λp q h1 h2 h3=>by
 by_cases e:q=j
 ·subst e
  by_cases e':p=q
  ·rw[e'];exact O.irr _
  ·exact O.tr _ _ _ (h p (q - 1) h1 (by lia) (by lia)) hl
 ·exact h p q h1 h2 (by lia)
def Dn.snoc (O:OrdK LT) {a:Array Kj}{i j:Nat}(h:Dn LT a i j) (hij:i<j) (hl:LT (K a (j - 1)) (K a j)=Y):Dn LT a i (j+1):=λp q h1 h2 h3=>by
 by_cases e:q=j
 ·subst e
  by_cases e':p=q
  ·rw[e'];exact O.irr _
  ·exact O.tr _ _ _ hl (h p (q - 1) h1 (by lia) (by lia))
 ·exact h p q h1 h2 (by lia)
def y0 (H:Ans prog w A s κ LT T) (hk:kindOf st=κ) {x y:Kj}{Q:Wq Bool->K2->Prop}(hx:x∈T) (hy:y∈T) (h:Q (U (LT x y)) st):wpS (model prog w) A E s (lt' x y) Q st:=by
 rw[lt'_eq];refine Kk (Oy ?_)
 rw[hk];refine Kk (Pq (MO (L5 (H x hx y hy (λb s'=>s'=s/\wpS (model prog w) A E s (pure (U b)) Q st) ⟨rfl,Km h⟩) (λ_ _ h=>h) λ_ _ h=>h.elim)))
def aD {a:Array Kj}{i:Nat}{Q:Kj->K2->Prop}(hi:i<a.size) (h:Q (K a i) st):wpS (model prog w) A E s (elem' a i) Q st:=by
 rw[elem'_eq,IJ hi];exact Km h
def l8 (H:Ans prog w A s κ LT T) (hk:kindOf st=κ) (hp:(arrOf st).Perm T) {i j:Nat}{Q:Wq Bool->K2->Prop}(hi:i<T.size) (hj:j<T.size) (h:Q (U (LT (K (arrOf st) i) (K (arrOf st) j))) st):
  wpS (model prog w) A E s (ltAt' i j) Q st:=by
 let hz:=hp.size_eq;rw[ltAt'_eq];refine Kk (Oy ?_)
 exact Kk (aD (by lia) (Kk (aD (by lia) (y0 H hk (hp.mem_iff.mp (Ff (by lia))) (hp.mem_iff.mp (Ff (by lia))) h))))
structure Chg (T a:Array Kj) (lo:Nat) (a':Array Kj):Prop where
 perm:a'.Perm T
 keep:∀k,k<lo->K a' k=K a k
def Chg.rev {a a':Array Kj}{lo i j:Nat}(h:Chg T a lo a') (hi:lo<=i) (hj:j<=T.size):Chg T a lo (mirror a' i j ((j - i) / 2)):=by
 let hz:=h.perm.size_eq;refine⟨(mirror_perm a' i j _).trans h.perm,λk hk=>?_⟩
 rw[pE (by lia),if_neg (by lia)];exact h.keep k hk
def Chg.bub {a a':Array Kj}{lo src d:Nat}(h:Chg T a lo a') (hs:src<T.size) (hd:lo+d<=src):Chg T a lo (bubble a' src d):=by
 let hz:=h.perm.size_eq;refine⟨(bubble_perm a' src d).trans h.perm,λk hk=>?_⟩
 rw[E2 (by lia) (by lia),if_neg (by lia),if_neg (by lia)];exact h.keep k hk
def Cy {a:Array Kj}{i j:Nat}(hj:j<=a.size) (h:Dn LT a i j):Up LT (mirror a i j ((j - i) / 2)) i j:=λp q h1 h2 h3=>by
 rw[pE hj,pE hj,if_pos ⟨by lia,h3⟩,if_pos ⟨h1,by lia⟩]
 exact h _ _ (by lia) (by lia) (by lia)
def ym {a:Array Kj}{lo i j:Nat}(hj:j<=a.size) (hi:lo<=i) (h:Dn LT a lo j) (e:∀p q,i<=p->i<=q->p<j->q<j->LT (K a p) (K a q)=Y):Dn LT (mirror a i j ((j - i) / 2)) lo j:=λp q h1 h2 h3=>by
 rw[pE hj,pE hj]
 by_cases c1:i<=p/\p<j
 ·rw[if_pos c1]
  by_cases c2:i<=q/\q<j
  ·rw[if_pos c2];exact e _ _ (by lia) (by lia) (by lia) (by lia)
  ·lia
 ·rw[if_neg c1]
  by_cases c2:i<=q/\q<j
  ·rw[if_pos c2];exact h _ _ h1 (by lia) (by lia)
  ·rw[if_neg c2];exact h _ _ h1 h2 h3
def Dk (O:OrdK LT) (H:Ans prog w A s κ LT T) (hk:kindOf st=κ) {a:Array Kj}(hc:(arrOf st).Perm T) {lo n nrem:Nat}(hz:lo+nrem<=T.size) (hn:1<=n) (hnn:n<=nrem) (hu:Up LT (arrOf st) lo (lo+n))
  {β:Type}{Q:β->K2->Prop}{f:Wq (Wq Nat)×Nat->StateT K2 PZ β}(h:∀m,n<=m->m<=nrem->Up LT (arrOf st) lo (lo+m)->(m<nrem->LT (K (arrOf st) (lo+m)) (K (arrOf st) (lo+m - 1))=V)->wpS (model prog w) A E s (f (B,m)) Q st):
  wpS (model prog w) A E s (forIn [n:nrem] ((B,n):Wq (Wq Nat)×Nat) (λ_ r=>do
   let x <-ltAt' (lo+r.2) (lo+r.2 - 1)
   match x with
   |some smaller=>if smaller=V then pure (ForInStep.done (B,r.2)) else pure (Mf (B,r.2+1))
   |_=>pure (ForInStep.done (U B,r.2))) >>= f) Q st:=by
 refine Kk (MM (LM (I:=λx c st'=>c=(B,x)/\st'=st/\n<=x/\Up LT (arrOf st) lo (lo+x)) (Q:=λc st'=>∃m,c=(B,m)/\st'=st/\n<=m/\m<=nrem/\Up LT (arrOf st) lo (lo+m)/\(m<nrem->LT (K (arrOf st) (lo+m)) (K (arrOf st) (lo+m - 1))=V)) ?_ ?_ ⟨rfl,rfl,Kh _,hu⟩) ?_)
 ·intro x c st' h1 h2 hz;let⟨rfl,rfl,h3,h4⟩:=hz
  dsimp only;refine Kk (l8 H hk hc (by lia) (by lia) ?_)
  cases hl:LT (K (arrOf st') (lo+x)) (K (arrOf st') (lo+x - 1))with
  |true=>exact Km ⟨x,rfl,rfl,h3,by lia,h4,λ_=>hl⟩
  |false=>exact Km ⟨rfl,rfl,by lia,h4.snoc O (by lia) hl⟩
 ·intro c st' hz;let⟨rfl,rfl,h3,h4⟩:=hz
  let e:max n nrem=nrem:=by lia
  rw[e]at h4⊢;exact⟨nrem,rfl,rfl,hnn,Kh _,h4,λh=>absurd h (K3 _)⟩
 simp_all
end
end SM
namespace SM
open PySem PyProof.Rows
section
variable{prog:Lw}{w:LY}{A:KH}{E:J4->J5->Prop}{s:J5}{LT:Kj->Kj->Bool}{T:Array Kj}{κ:ND}{st:K2}
def IM (LT:Kj->Kj->Bool) (a:Array Kj) (i j:Nat):Prop:=∀p q,i<=p->i<=q->p<j->q<j->LT (K a p) (K a q)=Y
def zS (O:OrdK LT) (H:Ans prog w A s κ LT T) (hk:kindOf st=κ) {a a':Array Kj}{lo n nrem:Nat}(hC:Chg T a lo a') (hz:lo+nrem<=T.size) (hn:1<=n) (hnn:n<=nrem) (hd:Dn LT a' lo (lo+n))
  {Q:Wq Nat->K2->Prop}(h:∀m a'',1<=m->m<=nrem->Chg T a lo a''->Up LT a'' lo (lo+m)->Q (U m) (setArr st a'')):
  wpS (model prog w) A E s (do
   let mut n:=n
   reverseSlice' lo (lo+n)
   for _ in [n:nrem] do
    let U smaller <-ltAt' (lo+n) (lo+n - 1)|return B
    if smaller then break
    n:=n+1
   return U n) Q (setArr st a'):=by
 let e:=hC.perm.size_eq;refine Kk (MN ?_)
 let C':=hC.rev (i:=lo) (j:=lo+n) (Kh _) (by lia)
 let Rf:=Cy (LT:=LT) (a:=a') (i:=lo) (j:=lo+n) (by lia) hd
 exact Dk (st:=setArr st (mirror a' lo (lo+n) ((lo+n - lo) / 2))) (a:=a) O H hk C'.perm hz hn hnn Rf λm h1 h2 h3 _=>Km (h m _ (by lia) h2 C' h3)
def yR (O:OrdK LT) (H:Ans prog w A s κ LT T) (hk:kindOf st=κ) {a a':Array Kj}{lo n nrem:Nat}(hC:Chg T a lo a') (hz:lo+nrem<=T.size) (hn:1<=n) (hnn:n<nrem) (hd:Dn LT a' lo (lo+n)) (hl:LT (K a' (lo+n)) (K a' (lo+n - 1))=V)
  {Q:Wq Nat->K2->Prop}(h:∀m a'',1<=m->m<=nrem->Chg T a lo a''->Up LT a'' lo (lo+m)->Q (U m) (setArr st a'')):
  wpS (model prog w) A E s (do
   let mut n:=n
   rule "list.sort.descending-run"
   n:=n+1
   let mut neq:=0
   for _ in [n:nrem] do
    let U smaller <-ltAt' (lo+n) (lo+n - 1)|return B
    if smaller then
     if neq>0 then reverseSlice' (lo+n - (neq+1)) (lo+n)
     neq:=0
    else
     let U larger <-ltAt' (lo+n - 1) (lo+n)|return B
     if larger then break
     neq:=neq+1
    n:=n+1
   if neq>0 then reverseSlice' (lo+n - (neq+1)) (lo+n)
   reverseSlice' lo (lo+n)
   for _ in [n:nrem] do
    let U smaller <-ltAt' (lo+n) (lo+n - 1)|return B
    if smaller then break
    n:=n+1
   return U n) Q (setArr st a'):=by
 refine Kk (Pq (LA ⟨rfl,?_⟩))
 let d1:=hd.snoc O (by lia) (O.asym _ _ hl)
 refine Kk (MM (LM (I:=λx c st'=>∃q a1,c=(B,x,q)/\st'=setArr st a1/\Chg T a lo a1/\n+1<=x/\q+1<=x/\Dn LT a1 lo (lo+x)/\IM LT a1 (lo+x - (q+1)) (lo+x))
  (Q:=λc st'=>∃x q a1,c=(B,x,q)/\st'=setArr st a1/\Chg T a lo a1/\x<=nrem/\n+1<=x/\q+1<=x/\Dn LT a1 lo (lo+x)/\IM LT a1 (lo+x - (q+1)) (lo+x)) ?_ ?_ ⟨0,a',rfl,rfl,hC,Kh _,by lia,d1,λp q h1 h2 h3 h4=>by rw[show p=q by lia];exact O.irr _⟩) ?_)
 ·intro x c st' h1 h2 hz;let⟨q,a1,rfl,rfl,C1,h3,h4,D1,L1⟩:=hz
  let e:=C1.perm.size_eq;dsimp only;refine Kk (l8 (st:=setArr st a1) H hk C1.perm (by lia) (by lia) ?_)
  cases hl:LT (K a1 (lo+x)) (K a1 (lo+x - 1))with
  |true=>
   let D2:=D1.snoc O (by lia) (O.asym _ _ hl)
   by_cases hq:q>0
   ·rw[if_pos hq,reverseSlice'_eq]
    refine Kk (MN (Km ⟨0,_,rfl,rfl,C1.rev (by lia) (by lia),by lia,by lia,?_,λp q h1 h2 h3 h4=>by rw[show p=q by lia];exact O.irr _⟩))
    let D3:=ym (LT:=LT) (a:=a1) (lo:=lo) (i:=lo+x - (q+1)) (j:=lo+x) (by lia) (by lia) D1 L1
    refine D3.snoc O (by lia) ?_
    rw[pE (by lia),pE (by lia),if_pos (by lia),if_neg (by lia)]
    exact D2 _ _ (by lia) (by lia) (by lia)
   ·rw[if_neg hq]
    exact Km ⟨0,a1,rfl,rfl,C1,by lia,by lia,D2,λp q h1 h2 h3 h4=>by rw[show p=q by lia];exact O.irr _⟩
  |false=>
   refine Kk (l8 (st:=setArr st a1) H hk C1.perm (by lia) (by lia) ?_)
   cases hg:LT (K a1 (lo+x - 1)) (K a1 (lo+x))with
   |true=>exact Km ⟨x,q,a1,rfl,rfl,C1,by lia,h3,h4,D1,L1⟩
   |false=>
    refine Km ⟨q+1,a1,rfl,rfl,C1,by lia,by lia,D1.snoc O (by lia) hg,λp p' h1 h2 h5 h6=>?_⟩
    let key:∀p,lo+(x+1) - (q+1+1)<=p->p<lo+(x+1)->LT (K a1 p) (K a1 (lo+x - 1))=Y/\LT (K a1 (lo+x - 1)) (K a1 p)=Y:=λp h1 h2=>by
     by_cases e:p=lo+x
     ·rw[e];exact⟨hl,hg⟩
     ·exact⟨L1 _ _ (by lia) (by lia) (by lia) (by lia),L1 _ _ (by lia) (by lia) (by lia) (by lia)⟩
    exact O.tr _ _ _ (key p' h2 h6).2 (key p h1 h5).1
 ·intro c st' hz;let⟨q,a1,rfl,rfl,C1,h3,h4,D1,L1⟩:=hz
  rw[show max (n+1) nrem=nrem by lia]at*
  exact⟨nrem,q,a1,rfl,rfl,C1,Kh _,h3,h4,D1,L1⟩
 ·intro c st' hz;let⟨x,q,a1,rfl,rfl,C1,h1,h3,h4,D1,L1⟩:=hz
  let e:=C1.perm.size_eq;dsimp only
  by_cases hq:q>0
  ·rw[if_pos hq]
   refine Kk ?_
   exact MN (zS O H hk (C1.rev (by lia) (by lia)) hz (by lia) h1 (ym (LT:=LT) (a:=a1) (lo:=lo) (i:=lo+x - (q+1)) (j:=lo+x) (by lia) (by lia) D1 L1) h)
  ·rw[if_neg hq]
   exact zS O H hk C1 hz (by lia) h1 D1 h
def tj (O:OrdK LT) (H:Ans prog w A s κ LT T) (hk:kindOf st=κ) {lo nrem:Nat}(hp:(arrOf st).Perm T) (hz:lo+nrem<=T.size) (hn:1<=nrem)
  {Q:Wq Nat->K2->Prop}(h:∀m a',1<=m->m<=nrem->Chg T (arrOf st) lo a'->Up LT a' lo (lo+m)->Q (U m) (setArr st a')):wpS (model prog w) A E s (countRun' lo nrem) Q st:=by
 let e:=hp.size_eq;let C0:Chg T (arrOf st) lo (arrOf st):=⟨hp,λ_ _=>rfl⟩
 refine Dk (a:=arrOf st) O H hk hp hz (Kh 1) hn (Up.one O) λm h1 h2 h3 h4=>?_
 dsimp only
 by_cases hm:m=nrem
 ·rw[if_pos (beq_iff_eq.mpr hm)]
  exact Km (h m (arrOf st) h1 h2 C0 h3)
 ·rw[if_neg (λq=>hm (beq_iff_eq.mp q))]
  let hl:=h4 (by lia)
  by_cases h5:m>1
  ·rw[if_pos h5]
   refine Kk (l8 H hk hp (by lia) (by lia) ?_)
   cases hr:LT (K (arrOf st) lo) (K (arrOf st) (lo+m - 1))with
   |true=>
    exact Km (h m (arrOf st) h1 h2 C0 h3)
   |false=>
    let al:IM LT (arrOf st) lo (lo+m):=λp q h1 h2 h5 h6=>O.tr _ _ _ (h3 q (lo+m - 1) h2 (by lia) (by lia)) (O.tr _ _ _ hr (h3 lo p (Kh _) h1 (by lia)))
    let D1:Dn LT (arrOf st) lo (lo+m):=λp q h1 h2 h5=>al p q h1 (by lia) (by lia) h5
    refine yR O H hk (C0.rev (Kh _) (by lia)) hz h1 (by lia) (ym (LT:=LT) (a:=arrOf st) (lo:=lo) (i:=lo) (j:=lo+m) (by lia) (Kh _) D1 al) ?_ h
    rw[pE (by lia),pE (by lia),if_neg (by lia),if_pos (by lia)]
    cases hc:LT (K (arrOf st) (lo+m)) (K (arrOf st) (lo+(lo+m) - 1 - (lo+m - 1)))with
    |true=>rfl
    |false=>exact absurd (O.tr _ _ _ (al (lo+(lo+m) - 1 - (lo+m - 1)) (lo+m - 1) (by lia) (by lia) (by lia) (by lia)) hc) (by lia)
  ·rw[if_neg h5]
   let hm1:m=1:=by lia
   exact yR O H hk C0 hz h1 (by lia) (by subst hm1;exact Dn.one O) hl h
end
end SM
namespace SM
open PySem PyProof.Rows
section
variable{prog:Lw}{w:LY}{A:KH}{E:J4->J5->Prop}{s:J5}{LT:Kj->Kj->Bool}{T:Array Kj}{κ:ND}{st:K2}
def Hn (O:OrdK LT) {a:Array Kj}{lo k l:Nat}(hs:lo+k<a.size) (hl:l<=k) (hu:Up LT a lo (lo+k)) (h1:∀p,p<l->LT (K a (lo+k)) (K a (lo+p))=Y) (h2:∀p,l<=p->p<k->LT (K a (lo+k)) (K a (lo+p))=V):
  Up LT (bubble a (lo+k) (lo+k - (lo+l))) lo (lo+(k+1)):=λp q g1 g2 g3=>by
 let h2':∀p,lo+l<=p->p<lo+k->LT (K a p) (K a (lo+k))=Y:=λp a1 a2=>by
  have:=h2 (p - lo) (by lia) (by lia)
  rw[show lo+(p - lo)=p by lia]at this
  exact O.asym _ _ this
 let h1':∀p,lo<=p->p<lo+l->LT (K a (lo+k)) (K a p)=Y:=λp a1 a2=>by
  have:=h1 (p - lo) (by lia)
  simp_all
 let e:lo+k - (lo+k - (lo+l))=lo+l:=by lia
 rw[E2 hs (by lia),E2 hs (by lia),e]
 repeat' split
 all_goals first
  |exact O.irr _
  |(exfalso;lia)
  |exact h2' _ (by lia) (by lia)
  |exact h1' _ (by lia) (by lia)
  |exact hu _ _ (by lia) (by lia) (by lia)
def qb (O:OrdK LT) (H:Ans prog w A s κ LT T) (hk:kindOf st=κ) {lo n ok:Nat}(hp:(arrOf st).Perm T) (hz:lo+n<=T.size) (hok:ok<=n) (hn:1<=n) (hu:Up LT (arrOf st) lo (lo+ok))
  {Q:Bool->K2->Prop}(h:∀a',Chg T (arrOf st) lo a'->Up LT a' lo (lo+n)->Q V (setArr st a')):wpS (model prog w) A E s (binarySort' lo n ok) Q st:=by
 let e:=hp.size_eq;let C0:Chg T (arrOf st) lo (arrOf st):=⟨hp,λ_ _=>rfl⟩
 let hu1:Up LT (arrOf st) lo (lo+max ok 1):=by
  by_cases c:ok=0
  ·subst c;exact Up.one O
  ·rw[show max ok 1=ok by lia];exact hu
 refine Kk (MM (LM (I:=λx c st'=>c=(B,())/\∃a1,st'=setArr st a1/\Chg T (arrOf st) lo a1/\Up LT a1 lo (lo+x))
  (Q:=λc st'=>c=(B,())/\∃a1,st'=setArr st a1/\Chg T (arrOf st) lo a1/\Up LT a1 lo (lo+n)) ?_ ?_ ⟨rfl,arrOf st,rfl,C0,hu1⟩) ?_)
 ·intro k c st' h1 h2 hz;let⟨rfl,a1,rfl,C1,U1⟩:=hz
  let e1:=C1.perm.size_eq;refine Kk (MM (LM (I:=λx c st'=>∃l r,c=(B,l,r)/\st'=setArr st a1/\l<=r/\r<=k/\r - l+x<=k/\(∀p,p<l->LT (K a1 (lo+k)) (K a1 (lo+p))=Y)/\∀p,r<=p->p<k->LT (K a1 (lo+k)) (K a1 (lo+p))=V)
   (Q:=λc st'=>∃l r,c=(B,l,r)/\st'=setArr st a1/\l<=k/\(∀p,p<l->LT (K a1 (lo+k)) (K a1 (lo+p))=Y)/\∀p,l<=p->p<k->LT (K a1 (lo+k)) (K a1 (lo+p))=V) ?_ ?_ ⟨0,k,rfl,rfl,KA _,Kh _,by lia,λp hp=>absurd hp (N0 _),λp q1 q2=>absurd q2 (by lia)⟩) ?_)
  ·intro x c st' g1 g2 hz;let⟨l,r,rfl,rfl,g3,g4,g5,g6,g7⟩:=hz
   dsimp only
   by_cases hlr:l>=r
   ·rw[if_pos hlr]
    have:l=r:=by lia
    exact Km ⟨l,r,rfl,rfl,by lia,g6,by rw[this];exact g7⟩
   ·rw[if_neg hlr]
    refine Kk (l8 (st:=setArr st a1) H hk C1.perm (by lia) (by lia) ?_)
    cases hl:LT (K a1 (lo+k)) (K a1 (lo+(l+r) / 2))with
    |true=>
     refine Km ⟨l,(l+r) / 2,rfl,rfl,by lia,by lia,by lia,g6,λp q1 q2=>?_⟩
     cases hc:LT (K a1 (lo+k)) (K a1 (lo+p))with
     |true=>rfl
     |false=>exact absurd (O.tr _ _ _ (U1 (lo+(l+r) / 2) (lo+p) (by lia) (by lia) (by lia)) hc) (by rw[hl];exact λq=>nomatch q)
    |false=>
     refine Km ⟨(l+r) / 2+1,r,rfl,rfl,by lia,g4,by lia,λp q1=>?_,g7⟩
     exact O.tr _ _ _ (U1 (lo+p) (lo+(l+r) / 2) (by lia) (by lia) (by lia)) hl
  ·intro c st' hz;let⟨l,r,rfl,rfl,g3,g4,g5,g6,g7⟩:=hz
   have:l=r:=by lia
   exact⟨l,r,rfl,rfl,by lia,g6,by rw[this];exact g7⟩
  ·intro c st' hz;let⟨l,r,rfl,rfl,g1,g2,g3⟩:=hz
   dsimp only;exact Kk (MN (Km ⟨rfl,_,rfl,C1.bub (by lia) (by lia),Hn O (show lo+k<a1.size by lia) g1 U1 g2 g3⟩))
 ·simp_all
 ·intro c st' hz;let⟨rfl,a1,rfl,C1,U1⟩:=hz
  exact Km (h a1 C1 U1)
def fx:Bool->Kj->Array Kj->Nat->Nat->Nat->StateT K2 PZ (Wq Nat):=sortPriv%PySem.Builtin.gallop
def bey (left:Bool) (key:Kj) (arr:Array Kj) (base i:Nat):StateT K2 PZ (Wq Bool):=do
 let x <-elem' arr (base+i)
 if left then lt' x key else return (<-lt' key x).map (!·)
theorem F0 (left:Bool) (key:Kj) (arr:Array Kj) (base n hint:Nat):fx left key arr base n hint=(do
 let mut lastofs:=0
 let mut ofs:=1
 let mut lo:=0
 let mut hi:=0
 let U right <-bey left key arr base hint|return B
 if right then
  let maxofs:=n - hint
  for _ in [0:n] do
   if ofs>=maxofs then break
   let U more <-bey left key arr base (hint+ofs)|return B
   if !more then break
   lastofs:=ofs
   ofs:=2*ofs+1
  lo:=hint+lastofs+1
  hi:=hint+min ofs maxofs
 else
  let maxofs:=hint+1
  for _ in [0:n] do
   if ofs>=maxofs then break
   let U found <-bey left key arr base (hint - ofs)|return B
   if found then break
   lastofs:=ofs
   ofs:=2*ofs+1
  lo:=hint+1 - min ofs maxofs
  hi:=hint - lastofs
 for _ in [0:n] do
  if lo>=hi then break
  let m:=lo+(hi - lo) / 2
  let U more <-bey left key arr base m|return B
  if more then lo:=m+1 else hi:=m
 return U hi):=rfl
def fB (LT:Kj->Kj->Bool) (left:Bool) (key:Kj) (arr:Array Kj) (base i:Nat):Bool:=if left then LT (K arr (base+i)) key else !LT key (K arr (base+i))
theorem vW (H:Ans prog w A s κ LT T) (hk:kindOf st=κ) {left:Bool}{key:Kj}{arr:Array Kj}{base i:Nat}{Q:Wq Bool->K2->Prop}(hkey:key∈T) (hi:base+i<arr.size) (hx:K arr (base+i)∈T)
  (h:Q (U (fB LT left key arr base i)) st):wpS (model prog w) A E s (bey left key arr base i) Q st:=by
 refine Kk (aD hi ?_)
 cases left with
 |true=>exact y0 H hk hx hkey h
 |false=>
  exact Kk (y0 H hk hkey hx (Km h))
def pY (O:OrdK LT) {left:Bool}{key:Kj}{arr:Array Kj}{base n i j:Nat}(hu:Up LT arr base (base+n)) (hij:i<=j) (hj:j<n) (h:fB LT left key arr base j=V):fB LT left key arr base i=V:=by
 let u:=hu (base+i) (base+j) (by lia) (by lia) (by lia)
 unfold fB at h⊢;cases left with
 |true=>
  cases hc:LT (K arr (base+i)) key with
  |true=>rfl
  |false=>exact absurd (O.tr _ _ _ hc u) (by lia)
 |false=>
  simp![Ko,if_false,MG]at h⊢;exact O.tr _ _ _ u h
def Db (O:OrdK LT) (H:Ans prog w A s κ LT T) (hk:kindOf st=κ) {left:Bool}{key:Kj}{arr:Array Kj}{base n:Nat}{Q:Wq Nat->K2->Prop}(hkey:key∈T) (hb:base+n<=arr.size) (hx:∀i,i<n->K arr (base+i)∈T) (hu:Up LT arr base (base+n))
  {lo hi:Nat}(h1:lo<=hi) (h2:hi<=n) (h3:∀i,i<lo->fB LT left key arr base i=V) (h4:hi<n->fB LT left key arr base hi=Y)
  (h:∀k,k<=n->(∀i,i<k->fB LT left key arr base i=V)->(∀i,k<=i->i<n->fB LT left key arr base i=Y)->Q (U k) st):
  wpS (model prog w) A E s (do
   let mut lo:=lo
   let mut hi:=hi
   for _ in [0:n] do
    if lo>=hi then break
    let m:=lo+(hi - lo) / 2
    let U more <-bey left key arr base m|return B
    if more then lo:=m+1 else hi:=m
   return U hi) Q st:=by
 let fin:∀k,k<=n->(∀i,i<k->fB LT left key arr base i=V)->(k<n->fB LT left key arr base k=Y)->Q (U k) st:=λk a1 a2 a3=>h k a1 a2 λi b1 b2=>by
  cases hc:fB LT left key arr base i with
  |false=>rfl
  |true=>exact absurd (pY O hu b1 b2 hc) (by rw[a3 (by lia)];exact λq=>nomatch q)
 refine Kk (MM (LM (I:=λx c st'=>∃lo hi,c=(B,lo,hi)/\st'=st/\lo<=hi/\hi<=n/\hi - lo+x<=n/\(∀i,i<lo->fB LT left key arr base i=V)/\(hi<n->fB LT left key arr base hi=Y))
  (Q:=λc st'=>∃hi,c=(B,hi,hi)/\st'=st/\hi<=n/\(∀i,i<hi->fB LT left key arr base i=V)/\(hi<n->fB LT left key arr base hi=Y)) ?_ ?_ ⟨lo,hi,rfl,rfl,h1,h2,by lia,h3,h4⟩) ?_)
 ·intro x c st' g1 g2 hz;let⟨lo,hi,rfl,rfl,g3,g4,g5,g6,g7⟩:=hz
  dsimp only
  by_cases hlr:lo>=hi
  ·rw[if_pos hlr]
   obtain rfl:lo=hi:=by lia
   exact Km ⟨lo,rfl,rfl,g4,g6,g7⟩
  ·rw[if_neg hlr]
   refine Kk (vW H hk hkey (by lia) (hx _ (by lia)) ?_)
   cases hl:fB LT left key arr base (lo+(hi - lo) / 2)with
   |true=>exact Km ⟨lo+(hi - lo) / 2+1,hi,rfl,rfl,by lia,g4,by lia,λi hi'=>pY O hu (show i<=lo+(hi - lo) / 2 by lia) (by lia) hl,g7⟩
   |false=>exact Km ⟨lo,lo+(hi - lo) / 2,rfl,rfl,by lia,by lia,by lia,g6,λ_=>hl⟩
 ·intro c st' hz;let⟨lo,hi,rfl,rfl,g3,g4,g5,g6,g7⟩:=hz
  obtain rfl:lo=hi:=by lia
  exact⟨lo,rfl,rfl,g4,g6,g7⟩
 ·intro c st' hz;let⟨hi,rfl,rfl,g4,g6,g7⟩:=hz
  exact Km (fin hi g4 g6 g7)
theorem dE (O:OrdK LT) (H:Ans prog w A s κ LT T) (hk:kindOf st=κ) {left:Bool}{key:Kj}{arr:Array Kj}{base n hint:Nat}{Q:Wq Nat->K2->Prop}(hkey:key∈T) (hb:base+n<=arr.size) (hh:hint<n) (hx:∀i,i<n->K arr (base+i)∈T) (hu:Up LT arr base (base+n))
  (h:∀k,k<=n->(∀i,i<k->fB LT left key arr base i=V)->(∀i,k<=i->i<n->fB LT left key arr base i=Y)->Q (U k) st):wpS (model prog w) A E s (fx left key arr base n hint) Q st:=by
 refine Kk (vW H hk hkey (by lia) (hx _ hh) ?_)
 cases hr:fB LT left key arr base hint with
 |true=>
  refine Kk (MM (LM (I:=λx c st'=>∃la of,c=(B,la,of)/\st'=st/\x+1<=of/\la+1<=of/\la<n - hint/\fB LT left key arr base (hint+la)=V)
   (Q:=λc st'=>∃la of,c=(B,la,of)/\st'=st/\la+1<=of/\la<n - hint/\fB LT left key arr base (hint+la)=V/\(of<n - hint->fB LT left key arr base (hint+of)=Y)) ?_ ?_ ⟨0,1,rfl,rfl,by lia,by lia,by lia,hr⟩) ?_)
  ·intro x c st' g1 g2 hz;let⟨la,of,rfl,rfl,g3,g4,g5,g6⟩:=hz
   dsimp only
   by_cases ho:of>=n - hint
   ·rw[if_pos ho]
    exact Km ⟨la,of,rfl,rfl,g4,g5,g6,λq=>absurd q (by lia)⟩
   ·rw[if_neg ho]
    refine Kk (vW H hk hkey (by lia) (hx _ (by lia)) ?_)
    cases hm:fB LT left key arr base (hint+of)with
    |false=>exact Km ⟨la,of,rfl,rfl,g4,g5,g6,λ_=>hm⟩
    |true=>exact Km ⟨of,2*of+1,rfl,rfl,by lia,by lia,by lia,hm⟩
  ·intro c st' hz;let⟨la,of,rfl,rfl,g3,g4,g5,g6⟩:=hz
   exact⟨la,of,rfl,rfl,g4,g5,g6,λq=>absurd q (by lia)⟩
  ·intro c st' hz;let⟨la,of,rfl,rfl,g4,g5,g6,g7⟩:=hz
   dsimp only;refine Db O H hk hkey hb hx hu (by lia) (by lia) (λi hi=>pY O hu (show i<=hint+la by lia) (by lia) g6) (λhlt=>?_) h
   by_cases c:of<n - hint
   ·rw[show min of (n - hint)=of by lia];exact g7 c
   ·lia
 |false=>
  refine Kk (MM (LM (I:=λx c st'=>∃la of,c=(B,la,of)/\st'=st/\x+1<=of/\la+1<=of/\la<=hint/\fB LT left key arr base (hint - la)=Y)
   (Q:=λc st'=>∃la of,c=(B,la,of)/\st'=st/\la+1<=of/\la<=hint/\fB LT left key arr base (hint - la)=Y/\(of<hint+1->fB LT left key arr base (hint - of)=V)) ?_ ?_ ⟨0,1,rfl,rfl,by lia,by lia,by lia,hr⟩) ?_)
  ·intro x c st' g1 g2 hz;let⟨la,of,rfl,rfl,g3,g4,g5,g6⟩:=hz
   dsimp only
   by_cases ho:of>=hint+1
   ·rw[if_pos ho]
    exact Km ⟨la,of,rfl,rfl,g4,g5,g6,λq=>absurd q (by lia)⟩
   ·rw[if_neg ho]
    refine Kk (vW H hk hkey (by lia) (hx _ (by lia)) ?_)
    cases hm:fB LT left key arr base (hint - of)with
    |true=>exact Km ⟨la,of,rfl,rfl,g4,g5,g6,λ_=>hm⟩
    |false=>exact Km ⟨of,2*of+1,rfl,rfl,by lia,by lia,by lia,hm⟩
  ·intro c st' hz;let⟨la,of,rfl,rfl,g3,g4,g5,g6⟩:=hz
   exact⟨la,of,rfl,rfl,g4,g5,g6,λq=>absurd q (by lia)⟩
  ·intro c st' hz;let⟨la,of,rfl,rfl,g4,g5,g6,g7⟩:=hz
   dsimp only;refine Db O H hk hkey hb hx hu (by lia) (by lia) (λi hi=>?_) (λ_=>g6) h
   by_cases c:of<hint+1
   ·exact pY O hu (show i<=hint - of by lia) (by lia) (g7 c)
   ·lia
end
end SM
namespace SM
open PySem PyProof.Rows
def cu:Nat->StateT K2 PZ Unit:=sortPriv%PySem.Builtin.setMinGallop
abbrev au (st:K2) (g:Nat):K2:=La (kindOf st) (arrOf st) (pendingOf st) g (failedOf st)
def pL:Array Kj->Array Kj->StateT K2 PZ (Array Kj):=sortPriv%PySem.Builtin.mergeLo
def pX:Array Kj->Array Kj->StateT K2 PZ (Array Kj):=sortPriv%PySem.Builtin.mergeHi
section
variable{LT:Kj->Kj->Bool}
def jS (a:Array Kj) (i:Nat):K a i=(a.toList[i]?).getD nK:=by unfold K;simp
def kr {a:Array Kj}{i:Nat}(h:i<a.size):a.toList.drop i=[K a i]++a.toList.drop (i+1):=by
 rw[KW (by trivial),jS];simp[h]
def dw (a:Array Kj) (i k:Nat):a.toList.drop i=(a.extract i (i+k)).toList++a.toList.drop (i+k):=by
 rw[NU,Nq,show i+k - i=k by lia,<-List.drop_drop,Na]
def jk (a:Array Kj) (i:Nat):(a.extract i a.size).toList=a.toList.drop i:=by
 rw[NU,Nq];exact MT (by simp)
def fP {a:Array Kj}{i:Nat}(h:a.size<=i):a.toList.drop i=[]:=QS (by trivial)
def fE {a:Array Kj}{i:Nat}{x:Kj}(h:x∈a.toList.drop i):∃j,i<=j/\j<a.size/\x=K a j:=by
 let⟨k,hk,e⟩:=List.mem_drop_iff_getElem.mp h;simp at hk;exact⟨i+k,by lia,by lia,by rw[jS];simp[show i+k<a.size by lia,<-e]⟩
def fg {a:Array Kj}{i:Nat}{x:Kj}(h:x∈a.toList.take i):∃j,j<i/\j<a.size/\x=K a j:=by
 let⟨k,hk,e⟩:=qar.mp h;simp at hk;exact⟨k,by lia,by lia,by rw[jS];simp[show k<a.size by lia,<-e]⟩
def bx {a:Array Kj}{i j:Nat}{x:Kj}(h:x∈(a.extract i j).toList):∃k,i<=k/\k<j/\k<a.size/\x=K a k:=by
 rw[NU,Nq]at h;let⟨k,hk,e⟩:=qar.mp h;simp at hk;exact⟨i+k,by lia,by lia,by lia,by rw[jS];simp[show i+k<a.size by lia,<-e]⟩
def kz {a:Array Kj}{i:Nat}(h:i<a.size):(a.toList.take (i+1)).reverse=[K a i]++(a.toList.take i).reverse:=by
 rw[PD (by trivial),qav,jS];simp[h]
def rV (a:Array Kj) {i k:Nat}(h:i<=k):(a.toList.take k).reverse=(a.extract i k).reverse.toList++(a.toList.take i).reverse:=by
 rw[OY,<-qav,NU,Nq];rw[<-Na i (a.toList.take k),List.take_take,Nat.min_eq_left h,List.drop_take]
def R (LT:Kj->Kj->Bool) (x y:Kj):Prop:=LT y x=Y
structure J (LT:Kj->Kj->Bool) (T out ra rb:Ww Kj):Prop where
 pm:(out++ra++rb).Perm T
 sa:(out++ra).Pairwise (R LT)
 sb:(out++rb).Pairwise (R LT)
structure Good (LT:Kj->Kj->Bool) (T l:Ww Kj):Prop where
 pm:l.Perm T
 so:l.Pairwise (R LT)
variable{T out ra rb c:Ww Kj}
def J.swap (h:J LT T out ra rb):J LT T out rb ra:=⟨by
 have:=h.pm;rw[LJ]at this⊢;exact((Qp out List.perm_append_comm).trans this),h.sb,h.sa⟩
def J.push (h:J LT T out (c++ra) rb) (q:∀x∈c,∀y∈rb,LT y x=Y):J LT T (out++c) ra rb:=by
 let⟨h1,h2,h3⟩:=h;refine⟨by simp_all,by simp;lia,?_⟩
 rw[<-LJ]at h2;rw[Mg]at h3⊢;refine⟨(qaw.mp h2).1,h3.2.1,λx hx y hy=>?_⟩
 rcases qac.mp hx with hx|hx
 ·exact h3.2.2 x hx y hy
 ·exact q x hx y hy
def J.done (h:J LT T out ra []):Good LT T (out++ra):=⟨by simpa using h.pm,h.sa⟩
def J.last {z:Kj}(h:J LT T out [z] rb) (q:∀y∈rb,LT z y=Y):Good LT T (out++rb++[z]):=by
 refine⟨h.swap.pm,?_⟩
 ·rw[Mg]
  refine⟨h.sb,QL _ _,λx hx y hy=>?_⟩
  rw[MU]at hy;subst hy
  rcases qac.mp hx with hx|hx
  ·exact(qaw.mp h.sa).2.2 x hx y (.head _)
  ·exact q x hx
end
end SM
namespace SM
open PySem PyProof.Rows
abbrev LS:=Wq (Array Kj)×Array Kj×Nat×Nat×Nat×Nat×Nat
abbrev dn' (a b out:Array Kj) (ia ib:Nat):Array Kj:=out++a.extract ia a.size++b.extract ib b.size
abbrev la' (a b out:Array Kj) (ia ib:Nat):Array Kj:=out++b.extract ib b.size++a.extract ia a.size
def loC (a b out:Array Kj) (ia ib mg ac bc:Nat):StateT K2 PZ (ForInStep LS):=do
 let x <-elem' a ia
 if ia+1+1==a.size then pure (.done (U (la' a b (out.push x) (ia+1) ib),out.push x,ia+1,ib,mg,ac,bc))
 else if ac<7&&bc<7 then pure (.done (B,out.push x,ia+1,ib,mg,ac,bc)) else pure (.yield (B,out.push x,ia+1,ib,mg,ac,bc))
def loB (a b out:Array Kj) (ia ib mg ac bc:Nat):StateT K2 PZ (ForInStep LS):=do
 let x <-elem' b ib
 if ib+1==b.size then pure (.done (U (dn' a b (out.push x) ia (ib+1)),out.push x,ia,ib+1,mg,ac,bc))
 else do
  let y <-elem' a ia
  match <-fx V y b (ib+1) (b.size - (ib+1)) 0 with
  |some k=>
   if k>0 then
    if ib+1+k==b.size then pure (.done (U (dn' a b (out.push x++b.extract (ib+1) (ib+1+k)) ia (ib+1+k)),out.push x++b.extract (ib+1) (ib+1+k),ia,ib+1+k,mg,ac,k))
    else loC a b (out.push x++b.extract (ib+1) (ib+1+k)) ia (ib+1+k) mg ac k
   else loC a b (out.push x) ia (ib+1) mg ac k
  |_=>pure (.done (U (dn' a b (out.push x) ia (ib+1)),out.push x,ia,ib+1,mg,ac,bc))
def loA (a b out:Array Kj) (ia ib mg ac bc:Nat):StateT K2 PZ (ForInStep LS):=do
 cu mg
 let y <-elem' b ib
 match <-fx Y y a ia (a.size - ia) 0 with
 |some k=>
  if k>0 then
   if ia+k+1==a.size then pure (.done (U (la' a b (out++a.extract ia (ia+k)) (ia+k) ib),out++a.extract ia (ia+k),ia+k,ib,mg,k,bc))
   else if ia+k==a.size then pure (.done (U (dn' a b (out++a.extract ia (ia+k)) (ia+k) ib),out++a.extract ia (ia+k),ia+k,ib,mg,k,bc))
   else loB a b (out++a.extract ia (ia+k)) (ia+k) ib mg k bc
  else loB a b out ia ib mg k bc
 |_=>pure (.done (U (dn' a b out ia ib),out,ia,ib,mg,ac,bc))
abbrev WS:=Wq (Array Kj)×Array Kj×Nat×Nat×Nat×Nat
abbrev OS:=Wq (Array Kj)×Array Kj×Nat×Nat×Nat
def loW (a b out:Array Kj) (ia ib mg ac bc:Nat):StateT K2 PZ (ForInStep WS):=do
 let x <-elem' b ib
 let y <-elem' a ia
 match <-lt' x y with
 |some t=>
  if t then do
   let x <-elem' b ib
   if ib+1==b.size then pure (.done (U (dn' a b (out.push x) ia (ib+1)),out.push x,ia,ib+1,0,bc+1))
   else if bc+1>=mg then pure (.done (B,out.push x,ia,ib+1,0,bc+1)) else pure (.yield (B,out.push x,ia,ib+1,0,bc+1))
  else do
   let x <-elem' a ia
   if ia+1+1==a.size then pure (.done (U (la' a b (out.push x) (ia+1) ib),out.push x,ia+1,ib,ac+1,0))
   else if ac+1>=mg then pure (.done (B,out.push x,ia+1,ib,ac+1,0)) else pure (.yield (B,out.push x,ia+1,ib,ac+1,0))
 |_=>pure (.done (U (dn' a b out ia ib),out,ia,ib,ac,bc))
def loG (a b out:Array Kj) (ia ib mg ac bc:Nat):StateT K2 PZ (ForInStep LS):=if mg>1 then loA a b out ia ib (mg - 1) ac bc else loA a b out ia ib mg ac bc
def loO (a b out:Array Kj) (ia ib mg:Nat):StateT K2 PZ (ForInStep OS):=do
 let d <-forIn [:a.size+b.size] ((B,out,ia,ib,0,0):WS) λ_ c=>loW a b c.2.1 c.2.2.1 c.2.2.2.1 mg c.2.2.2.2.1 c.2.2.2.2.2
 ML (λ_=>StateT K2 PZ (ForInStep OS)) d.1 (λr=>pure (.done (U r,d.2.1,d.2.2.1,d.2.2.2.1,mg))) λ_=>do
  rule "list.sort.gallop"
  let c <-forIn [:a.size+b.size] ((B,d.2.1,d.2.2.1,d.2.2.2.1,mg+1,d.2.2.2.2.1,d.2.2.2.2.2):LS) λ_ c=>loG a b c.2.1 c.2.2.1 c.2.2.2.1 c.2.2.2.2.1 c.2.2.2.2.2.1 c.2.2.2.2.2.2
  ML (λ_=>StateT K2 PZ (ForInStep OS)) c.1 (λr=>pure (.done (U r,c.2.1,c.2.2.1,c.2.2.2.1,c.2.2.2.2.1))) λ_=>do
   cu (c.2.2.2.2.1+1)
   pure (.yield (B,c.2.1,c.2.2.1,c.2.2.2.1,c.2.2.2.2.1+1))
theorem Ir (a b:Array Kj):pL a b=(do
 rule "list.sort.merge-lo"
 let x <-elem' b 0
 if 1==b.size then pure (dn' a b #[x] 0 1)
 else if 0+1==a.size then pure (la' a b #[x] 0 1)
 else do
  let s <-get
  let c <-forIn [:a.size+b.size] ((B,#[x],0,1,gallopOf s):OS) λ_ c=>loO a b c.2.1 c.2.2.1 c.2.2.2.1 c.2.2.2.2
  ML (λ_=>StateT K2 PZ (Array Kj)) c.1 pure λ_=>unsupported "internal:list.sort.merge-bound"):=rfl
section
variable{prog:Lw}{w:LY}{A:KH}{E:J4->J5->Prop}{s:J5}{LT:Kj->Kj->Bool}{T:Array Kj}{κ:ND}{st:K2}{a b:Array Kj}
structure Two (LT:Kj->Kj->Bool) (T a b:Array Kj):Prop where
 ha:∀i,i<a.size->K a i∈T
 hb:∀i,i<b.size->K b i∈T
 ua:Up LT a 0 a.size
 ub:Up LT b 0 b.size
 za:0<a.size
 zb:0<b.size
 h0:∀j,j<a.size->LT (K a j) (K b 0)=Y
 hl:∀j,j<b.size->LT (K a (a.size - 1)) (K b j)=Y
abbrev JL (LT:Kj->Kj->Bool) (a b out:Array Kj) (ia ib:Nat):Prop:=J LT (a.toList++b.toList) out.toList (a.toList.drop ia) (b.toList.drop ib)
variable{out:Array Kj}{ia ib:Nat}
def JL.dB (j:JL LT a b out ia ib) (e:ib=b.size):Good LT (a.toList++b.toList) (dn' a b out ia ib).toList:=by
 rw[Lg,Lg,jk,jk];rw[JL,fP (a:=b) (by lia)]at j
 rw[fP (a:=b) (by lia),Ls];exact j.done
def JL.dA (j:JL LT a b out ia ib) (e:ia=a.size):Good LT (a.toList++b.toList) (dn' a b out ia ib).toList:=by
 rw[Lg,Lg,jk,jk];rw[JL,fP (a:=a) (by lia)]at j
 rw[fP (a:=a) (by lia),Ls];exact j.swap.done
def JL.lA (W:Two LT T a b) (j:JL LT a b out ia ib) (e:ia+1=a.size):Good LT (a.toList++b.toList) (la' a b out ia ib).toList:=by
 rw[Lg,Lg,jk,jk];rw[JL,kr (show ia<a.size by lia),fP (a:=a) (show a.size<=ia+1 by lia),Ls]at j
 rw[kr (show ia<a.size by lia),fP (a:=a) (show a.size<=ia+1 by lia),Ls]
 refine j.last λy hy=>?_
 let⟨k,_,hk,rfl⟩:=fE hy;rw[show ia=a.size - 1 by lia];exact W.hl k hk
def JL.pB (j:JL LT a b out ia ib) (e:ib<b.size) (q:∀k,ia<=k->k<a.size->LT (K a k) (K b ib)=Y):JL LT a b (out.push (K b ib)) ia (ib+1):=by
 rw[JL,LV];rw[JL,kr e]at j;refine(j.swap.push λx hx y hy=>?_).swap
 obtain rfl:=qaa.mp hx;let⟨k,h1,h2,rfl⟩:=fE hy;exact q k h1 h2
def JL.pA (j:JL LT a b out ia ib) (e:ia<a.size) (q:∀k,ib<=k->k<b.size->LT (K b k) (K a ia)=Y):JL LT a b (out.push (K a ia)) (ia+1) ib:=by
 rw[JL,LV];rw[JL,kr e]at j;refine j.push λx hx y hy=>?_
 obtain rfl:=qaa.mp hx;let⟨k,h1,h2,rfl⟩:=fE hy;exact q k h1 h2
def JL.cA (k:Nat) (j:JL LT a b out ia ib) (q:∀i,i<k->ia+i<a.size->∀j,ib<=j->j<b.size->LT (K b j) (K a (ia+i))=Y):JL LT a b (out++a.extract ia (ia+k)) (ia+k) ib:=by
 rw[JL,Lg];rw[JL,dw a ia k]at j;refine j.push λx hx y hy=>?_
 let⟨i,h1,h2,h3,rfl⟩:=bx hx;let⟨k,h4,h5,rfl⟩:=fE hy;have:=q (i - ia) (by lia) (by lia) k h4 h5
 simp_all
def JL.cB (k:Nat) (j:JL LT a b out ia ib) (q:∀i,i<k->ib+i<b.size->∀j,ia<=j->j<a.size->LT (K a j) (K b (ib+i))=Y):JL LT a b (out++b.extract ib (ib+k)) ia (ib+k):=by
 rw[JL,Lg];rw[JL,dw b ib k]at j;refine(j.swap.push λx hx y hy=>?_).swap
 let⟨i,h1,h2,h3,rfl⟩:=bx hx;let⟨k,h4,h5,rfl⟩:=fE hy;have:=q (i - ib) (by lia) (by lia) k h4 h5
 simp_all
def pw_up {c:Array Kj}(u:Up LT c 0 c.size):c.toList.Pairwise (R LT):=qas.mpr λi j hi hj hij=>by
 simp at hi hj;have:=u i j (KA _) (by lia) hj
 unfold R;unfold K at this
 simp_all
def Two.j0 (W:Two LT T a b):JL LT a b #[K b 0] 0 1:=by
 let j:JL LT a b #[] 0 0:=⟨MI _,pw_up W.ua,pw_up W.ub⟩;exact j.pB W.zb λk _ hk=>W.h0 k hk
abbrev IL (LT:Kj->Kj->Bool) (a b:Array Kj) (n:Nat) (out:Array Kj) (ia ib:Nat):Prop:=JL LT a b out ia ib/\ia+1<a.size/\ib<b.size/\n<=ia+ib
structure EndL (LT:Kj->Kj->Bool) (a b:Array Kj) (st:K2) (n0:Nat) (P:ForInStep LS->K2->Prop):Prop where
 good:∀m r g,Good LT (a.toList++b.toList) m.toList->P (.done (U m,r)) (au st g)
 next:∀out ia ib mg ac bc g,IL LT a b (n0+1) out ia ib->P (.done (B,out,ia,ib,mg,ac,bc)) (au st g)/\P (.yield (B,out,ia,ib,mg,ac,bc)) (au st g)
variable{n0 mg ac bc g:Nat}{P:ForInStep LS->K2->Prop}
def DQ (W:Two LT T a b) (j:IL LT a b n0 out ia ib) (Z:EndL LT a b st n0 P) (q:∀k,ib<=k->k<b.size->LT (K b k) (K a ia)=Y):
  wpS (model prog w) A E s (loC a b out ia ib mg ac bc) P (au st g):=by
 let⟨j,h1,h2,h3⟩:=j;refine Kk (aD (by lia) ?_)
 let j1:=j.pA (by lia) q
 by_cases e:ia+1+1=a.size
 ·rw[if_pos (beq_iff_eq.mpr e)];exact Km (Z.good _ _ _ (j1.lA W e))
 ·rw[if_neg (λq=>e (beq_iff_eq.mp q))]
  let z:=λac bc=>Z.next _ _ _ mg ac bc g ⟨j1,by lia,h2,by lia⟩
  by_cases c:(decide (ac<7)&&decide (bc<7))=V
  ·rw[if_pos c];exact Km (z ac bc).1
  ·rw[if_neg c];exact Km (z ac bc).2
variable(O:OrdK LT) (H:Ans prog w A s κ LT T) (hk:kindOf st=κ) (W:Two LT T a b)
include O H hk W
section
variable(j:IL LT a b n0 out ia ib)
include j
theorem C9 (Z:EndL LT a b st n0 P) (q:∀k,ia<=k->k<a.size->LT (K a k) (K b ib)=Y):
  wpS (model prog w) A E s (loB a b out ia ib mg ac bc) P (au st g):=by
 let⟨j,h1,h2,h3⟩:=j;refine Kk (aD h2 ?_)
 let j1:=j.pB h2 q
 by_cases e:ib+1=b.size
 ·rw[if_pos (beq_iff_eq.mpr e)];exact Km (Z.good _ _ _ (j1.dB e))
 rw[if_neg (λq=>e (beq_iff_eq.mp q))]
 refine Kk (aD (by lia) ?_)
 refine Kk (dE (st:=au st g) O H hk (W.ha _ (by lia)) (by lia) (by lia) (λi hi=>W.hb _ (by lia)) (λp q a1 a2 a3=>W.ub p q (KA _) a2 (by lia)) λk k1 k2 k3=>?_)
 let q2:∀m,ib+1+k<=m->m<b.size->LT (K b m) (K a ia)=Y:=λm m1 m2=>by
  have:=k3 (m - (ib+1)) (by lia) (by lia)
  unfold fB at this
  simpa only[if_true,show ib+1+(m - (ib+1))=m by lia]using this
 dsimp only
 by_cases c:k>0
 ·rw[if_pos c]
  let j2:=j1.cB k λi i1 i2 m m1 m2=>O.tr _ _ _ (O.asym _ _ (by simpa only[fB,if_true]using k2 i i1)) (W.ua ia m (KA _) m1 m2)
  by_cases e2:ib+1+k=b.size
  ·rw[if_pos (beq_iff_eq.mpr e2)];exact Km (Z.good _ _ _ (j2.dB e2))
  ·rw[if_neg (λq=>e2 (beq_iff_eq.mp q))]
   exact DQ W ⟨j2,h1,by lia,by lia⟩ Z q2
 ·rw[if_neg c]
  exact DQ W ⟨j1,h1,by lia,by lia⟩ Z (by rw[show k=0 by lia]at q2;exact q2)
theorem GF (Z:EndL LT a b st n0 P):wpS (model prog w) A E s (loA a b out ia ib mg ac bc) P (au st g):=by
 let⟨j,h1,h2,h3⟩:=j;refine Kk (MN ?_)
 refine Kk (aD h2 ?_)
 refine Kk (dE (st:=au st mg) O H hk (W.hb _ h2) (by lia) (by lia) (λi hi=>W.ha _ (by lia)) (λp q a1 a2 a3=>W.ua p q (KA _) a2 (by lia)) λk k1 k2 k3=>?_)
 let q2:∀m,ia+k<=m->m<a.size->LT (K a m) (K b ib)=Y:=λm m1 m2=>by
  have:=k3 (m - ia) (by lia) (by lia)
  unfold fB at this;simp![Ko,if_false,Pp,show ia+(m - ia)=m by lia]at this
  exact O.asym _ _ this
 dsimp only
 by_cases c:k>0
 ·rw[if_pos c]
  let j2:=j.cA k λi i1 i2 m m1 m2=>O.tr _ _ _ (by simpa only[fB,Ko,if_false,MG]using k2 i i1) (W.ub ib m (KA _) m1 m2)
  by_cases e1:ia+k+1=a.size
  ·rw[if_pos (beq_iff_eq.mpr e1)];exact Km (Z.good _ _ _ (j2.lA W e1))
  ·rw[if_neg (λq=>e1 (beq_iff_eq.mp q))]
   by_cases e2:ia+k=a.size
   ·rw[if_pos (beq_iff_eq.mpr e2)];exact Km (Z.good _ _ _ (j2.dA e2))
   ·rw[if_neg (λq=>e2 (beq_iff_eq.mp q))]
    exact C9 O H hk W ⟨j2,by lia,h2,by lia⟩ Z q2
 ·rw[if_neg c]
  exact C9 O H hk W ⟨j,h1,h2,h3⟩ Z (by rw[show k=0 by lia]at q2;exact q2)
theorem Hh {P:ForInStep WS->K2->Prop}(z1:∀m r,Good LT (a.toList++b.toList) m.toList->P (.done (U m,r)) (au st g)) (z2:∀out ia ib ac bc,IL LT a b n0 out ia ib->P (.done (B,out,ia,ib,ac,bc)) (au st g)/\P (.yield (B,out,ia,ib,ac,bc)) (au st g)):
  wpS (model prog w) A E s (loW a b out ia ib mg ac bc) P (au st g):=by
 let⟨j,i1,i2,i3⟩:=j;refine Kk (aD i2 (Kk (aD (by lia) (Kk (y0 (st:=au st g) H hk (W.hb _ i2) (W.ha _ (by lia)) ?_)))))
 cases hw:LT (K b ib) (K a ia)with
 |true=>
  refine Kk (aD i2 ?_)
  let j1:=j.pB i2 λk k1 k2=>O.tr _ _ _ (O.asym _ _ hw) (W.ua ia k (KA _) k1 k2)
  by_cases e:ib+1=b.size
  ·rw[if_pos (beq_iff_eq.mpr e)];exact Km (z1 _ _ (j1.dB e))
  ·rw[if_neg (λq=>e (beq_iff_eq.mp q))]
   let z:=λac bc=>z2 _ _ _ ac bc ⟨j1,i1,by lia,by lia⟩
   by_cases c:bc+1>=mg
   ·rw[if_pos c];exact Km (z _ _).1
   ·rw[if_neg c];exact Km (z _ _).2
 |false=>
  refine Kk (aD (by lia) ?_)
  let j1:=j.pA (by lia) λk k1 k2=>O.tr _ _ _ hw (W.ub ib k (KA _) k1 k2)
  by_cases e:ia+1+1=a.size
  ·rw[if_pos (beq_iff_eq.mpr e)];exact Km (z1 _ _ (j1.lA W e))
  ·rw[if_neg (λq=>e (beq_iff_eq.mp q))]
   let z:=λac bc=>z2 _ _ _ ac bc ⟨j1,by lia,i2,by lia⟩
   by_cases c:ac+1>=mg
   ·rw[if_pos c];exact Km (z _ _).1
   ·rw[if_neg c];exact Km (z _ _).2
theorem GC (Z:EndL LT a b st n0 P):wpS (model prog w) A E s (loG a b out ia ib mg ac bc) P (au st g):=by
 unfold loG;split<;>exact GF O H hk W j Z
theorem Gh {P:ForInStep OS->K2->Prop}(z1:∀m r g,Good LT (a.toList++b.toList) m.toList->P (.done (U m,r)) (au st g)) (z2:∀out ia ib mg g,IL LT a b (n0+1) out ia ib->P (.yield (B,out,ia,ib,mg)) (au st g)):
  wpS (model prog w) A E s (loO a b out ia ib mg) P (au st g):=by
 refine Kk (MM (LM (I:=λy c st'=>∃out ia ib ac bc,c=(B,out,ia,ib,ac,bc)/\st'=au st g/\IL LT a b n0 out ia ib)
  (Q:=λc st'=>st'=au st g/\((∃m r,c=(U m,r)/\Good LT (a.toList++b.toList) m.toList)\/∃out ia ib ac bc,c=(B,out,ia,ib,ac,bc)/\IL LT a b n0 out ia ib)) ?_ ?_ ⟨out,ia,ib,0,0,rfl,rfl,j⟩) ?_)
 ·intro y c st' _ _ hz;let⟨out,ia,ib,ac,bc,rfl,rfl,j⟩:=hz
  exact Hh O H hk W j (λm r hm=>⟨rfl,.inl ⟨m,r,rfl,hm⟩⟩) λout ia ib ac bc j=>⟨⟨rfl,.inr ⟨_,_,_,_,_,rfl,j⟩⟩,⟨_,_,_,_,_,rfl,rfl,j⟩⟩
 ·intro c st' hz;let⟨out,ia,ib,ac,bc,rfl,rfl,j⟩:=hz
  exact⟨rfl,.inr ⟨_,_,_,_,_,rfl,j⟩⟩
 ·intro c st' hz;let⟨rfl,hz⟩:=hz;rcases hz with hz|hz
  ·let⟨m,r,rfl,hm⟩:=hz;exact Km (z1 m _ g hm)
  ·let⟨out,ia,ib,ac,bc,rfl,j⟩:=hz
   refine Kk (Pq (LA ⟨rfl,?_⟩))
   refine Kk (MM (LM (I:=λy c st'=>∃out ia ib mg ac bc g,c=(B,out,ia,ib,mg,ac,bc)/\st'=au st g/\IL LT a b n0 out ia ib/\(1<=y->n0<ia+ib))
    (Q:=λc st'=>∃g,st'=au st g/\((∃m r,c=(U m,r)/\Good LT (a.toList++b.toList) m.toList)\/∃out ia ib mg ac bc,c=(B,out,ia,ib,mg,ac,bc)/\IL LT a b (n0+1) out ia ib)) ?_ ?_ ⟨out,ia,ib,_,ac,bc,g,rfl,rfl,j,λq=>absurd q (by lia)⟩) ?_)
   ·intro y c st' _ _ hz;let⟨out,ia,ib,mg,ac,bc,g,rfl,rfl,j,_⟩:=hz
    exact GC O H hk W j ⟨λm r g hm=>⟨g,rfl,.inl ⟨m,r,rfl,hm⟩⟩,λout ia ib mg ac bc g j=>⟨⟨g,rfl,.inr ⟨_,_,_,_,_,_,rfl,j⟩⟩,⟨_,_,_,_,_,_,g,rfl,rfl,⟨j.1,j.2.1,j.2.2.1,by lia⟩,λ_=>j.2.2.2⟩⟩⟩
   ·intro c st' hz;let⟨out,ia,ib,mg,ac,bc,g,rfl,rfl,⟨j,i1,i2,i3⟩,i4⟩:=hz
    exact⟨g,rfl,.inr ⟨_,_,_,_,_,_,rfl,j,i1,i2,i4 (by lia)⟩⟩
   ·intro c st' hz;let⟨g,rfl,hz⟩:=hz;rcases hz with hz|hz
    ·let⟨m,r,rfl,hm⟩:=hz;exact Km (z1 m _ g hm)
    ·let⟨out,ia,ib,mg,ac,bc,rfl,j⟩:=hz;exact Kk (MN (Km (z2 _ _ _ _ _ j)))
end
theorem xe {Q:Array Kj->K2->Prop}(h:∀m g,Good LT (a.toList++b.toList) m.toList->Q m (au st g)):wpS (model prog w) A E s (pL a b) Q st:=by
 rw[Ir];refine Kk (Pq (LA ⟨rfl,?_⟩))
 refine Kk (aD W.zb ?_)
 by_cases e1:1=b.size
 ·rw[if_pos (beq_iff_eq.mpr e1)];exact Km (h _ (gallopOf st) (W.j0.dB e1))
 rw[if_neg (λq=>e1 (beq_iff_eq.mp q))]
 by_cases e2:0+1=a.size
 ·rw[if_pos (beq_iff_eq.mpr e2)];exact Km (h _ (gallopOf st) (W.j0.lA W e2))
 rw[if_neg (λq=>e2 (beq_iff_eq.mp q))]
 let za:=W.za;let zb:=W.zb;refine Kk (Oy ?_)
 refine Kk (MM (LM (I:=λx c st'=>∃out ia ib mg g,c=(B,out,ia,ib,mg)/\st'=au st g/\IL LT a b (x+1) out ia ib)
  (Q:=λc st'=>∃m g r,c=(U m,r)/\st'=au st g/\Good LT (a.toList++b.toList) m.toList) ?_ ?_ ⟨_,_,_,_,gallopOf st,rfl,rfl,W.j0,by lia,by lia,by lia⟩) ?_)
 ·intro x c st' g1 g2 hz;let⟨out,ia,ib,mg,g,rfl,rfl,j⟩:=hz
  exact Gh O H hk W j (λm r g hm=>⟨m,g,_,rfl,rfl,hm⟩) λout ia ib mg g j=>⟨_,_,_,_,_,rfl,rfl,j⟩
 ·intro c st' hz;let⟨out,ia,ib,mg,g,rfl,rfl,j,i1,i2,i3⟩:=hz
  exfalso;lia
 ·intro c st' hz;let⟨m,g,r,rfl,rfl,hm⟩:=hz
  exact Km (h m g hm)
end
end SM
namespace SM
open PySem PyProof.Rows
abbrev HS:=Wq (Array Kj)×Nat×Nat×Array Kj×Nat×Nat×Nat
abbrev dh' (a b out:Array Kj) (na nb:Nat):Array Kj:=a.extract 0 na++b.extract 0 nb++out.reverse
abbrev fh' (a b out:Array Kj) (na nb:Nat):Array Kj:=b.extract 0 nb++a.extract 0 na++out.reverse
def hiC (a b out:Array Kj) (na nb mg ac bc:Nat):StateT K2 PZ (ForInStep HS):=do
 let x <-elem' a (na - 1)
 if na - 1==0 then pure (.done (U (dh' a b (out.push x) (na - 1) nb),na - 1,nb,out.push x,mg,ac,bc))
 else if ac<7&&bc<7 then pure (.done (B,na - 1,nb,out.push x,mg,ac,bc)) else pure (.yield (B,na - 1,nb,out.push x,mg,ac,bc))
def hiB (a b out:Array Kj) (na nb mg ac bc:Nat):StateT K2 PZ (ForInStep HS):=do
 let x <-elem' b (nb - 1)
 if nb - 1==1 then pure (.done (U (fh' a b (out.push x) na (nb - 1)),na,nb - 1,out.push x,mg,ac,bc))
 else do
  let y <-elem' a (na - 1)
  match <-fx V y b 0 (nb - 1) (nb - 1 - 1)with
  |some t=>
   if nb - 1 - t>0 then
    if t==1 then pure (.done (U (fh' a b (out.push x++(b.extract t (nb - 1)).reverse) na t),na,t,out.push x++(b.extract t (nb - 1)).reverse,mg,ac,nb - 1 - t))
    else if t==0 then pure (.done (U (dh' a b (out.push x++(b.extract t (nb - 1)).reverse) na t),na,t,out.push x++(b.extract t (nb - 1)).reverse,mg,ac,nb - 1 - t))
    else hiC a b (out.push x++(b.extract t (nb - 1)).reverse) na t mg ac (nb - 1 - t)
   else hiC a b (out.push x) na (nb - 1) mg ac (nb - 1 - t)
  |_=>pure (.done (U (dh' a b (out.push x) na (nb - 1)),na,nb - 1,out.push x,mg,ac,bc))
def hiA (a b out:Array Kj) (na nb mg ac bc:Nat):StateT K2 PZ (ForInStep HS):=do
 cu mg
 let y <-elem' b (nb - 1)
 match <-fx Y y a 0 na (na - 1)with
 |some t=>
  if na - t>0 then
   if t==0 then pure (.done (U (dh' a b (out++(a.extract t na).reverse) t nb),t,nb,out++(a.extract t na).reverse,mg,na - t,bc))
   else hiB a b (out++(a.extract t na).reverse) t nb mg (na - t) bc
  else hiB a b out na nb mg (na - t) bc
 |_=>pure (.done (U (dh' a b out na nb),na,nb,out,mg,ac,bc))
abbrev VS:=Wq (Array Kj)×Nat×Nat×Array Kj×Nat×Nat
abbrev PS:=Wq (Array Kj)×Nat×Nat×Array Kj×Nat
def hiW (a b out:Array Kj) (na nb mg ac bc:Nat):StateT K2 PZ (ForInStep VS):=do
 let x <-elem' b (nb - 1)
 let y <-elem' a (na - 1)
 match <-lt' x y with
 |some t=>
  if t then do
   let x <-elem' a (na - 1)
   if na - 1==0 then pure (.done (U (dh' a b (out.push x) (na - 1) nb),na - 1,nb,out.push x,ac+1,0))
   else if ac+1>=mg then pure (.done (B,na - 1,nb,out.push x,ac+1,0)) else pure (.yield (B,na - 1,nb,out.push x,ac+1,0))
  else do
   let x <-elem' b (nb - 1)
   if nb - 1==1 then pure (.done (U (fh' a b (out.push x) na (nb - 1)),na,nb - 1,out.push x,0,bc+1))
   else if bc+1>=mg then pure (.done (B,na,nb - 1,out.push x,0,bc+1)) else pure (.yield (B,na,nb - 1,out.push x,0,bc+1))
 |_=>pure (.done (U (dh' a b out na nb),na,nb,out,ac,bc))
def hiG (a b out:Array Kj) (na nb mg ac bc:Nat):StateT K2 PZ (ForInStep HS):=if mg>1 then hiA a b out na nb (mg - 1) ac bc else hiA a b out na nb mg ac bc
def hiO (a b out:Array Kj) (na nb mg:Nat):StateT K2 PZ (ForInStep PS):=do
 let d <-forIn [:a.size+b.size] ((B,na,nb,out,0,0):VS) λ_ c=>hiW a b c.2.2.2.1 c.2.1 c.2.2.1 mg c.2.2.2.2.1 c.2.2.2.2.2
 ML (λ_=>StateT K2 PZ (ForInStep PS)) d.1 (λr=>pure (.done (U r,d.2.1,d.2.2.1,d.2.2.2.1,mg))) λ_=>do
  rule "list.sort.gallop"
  let c <-forIn [:a.size+b.size] ((B,d.2.1,d.2.2.1,d.2.2.2.1,mg+1,d.2.2.2.2.1,d.2.2.2.2.2):HS) λ_ c=>hiG a b c.2.2.2.1 c.2.1 c.2.2.1 c.2.2.2.2.1 c.2.2.2.2.2.1 c.2.2.2.2.2.2
  ML (λ_=>StateT K2 PZ (ForInStep PS)) c.1 (λr=>pure (.done (U r,c.2.1,c.2.2.1,c.2.2.2.1,c.2.2.2.2.1))) λ_=>do
   cu (c.2.2.2.2.1+1)
   pure (.yield (B,c.2.1,c.2.2.1,c.2.2.2.1,c.2.2.2.2.1+1))
theorem Jr (a b:Array Kj):pX a b=(do
 rule "list.sort.merge-hi"
 let x <-elem' a (a.size - 1)
 if a.size - 1==0 then pure (dh' a b #[x] (a.size - 1) b.size)
 else if b.size==1 then pure (fh' a b #[x] (a.size - 1) b.size)
 else do
  let s <-get
  let c <-forIn [:a.size+b.size] ((B,a.size - 1,b.size,#[x],gallopOf s):PS) λ_ c=>hiO a b c.2.2.2.1 c.2.1 c.2.2.1 c.2.2.2.2
  ML (λ_=>StateT K2 PZ (Array Kj)) c.1 pure λ_=>unsupported "internal:list.sort.merge-bound"):=rfl
def fl (LT:Kj->Kj->Bool) (x y:Kj):Bool:=LT y x
section
variable{prog:Lw}{w:LY}{A:KH}{E:J4->J5->Prop}{s:J5}{LT:Kj->Kj->Bool}{T:Array Kj}{κ:ND}{st:K2}{a b:Array Kj}
abbrev JH (LT:Kj->Kj->Bool) (a b out:Array Kj) (na nb:Nat):Prop:=J (fl LT) (a.toList++b.toList) out.toList (a.toList.take na).reverse (b.toList.take nb).reverse
def Good.rev {T l:Ww Kj}(h:Good (fl LT) T l):Good LT T l.reverse:=⟨(PE l).trans h.pm,qax.mpr h.so⟩
variable{out:Array Kj}{na nb:Nat}
def JH.dA (j:JH LT a b out na nb) (e:na=0):Good LT (a.toList++b.toList) (dh' a b out na nb).toList:=by
 subst e;have:=j.swap.done.rev
 simp_all
def JH.dB (j:JH LT a b out na nb) (e:nb=0):Good LT (a.toList++b.toList) (dh' a b out na nb).toList:=by
 subst e;have:=j.done.rev
 simp_all
def JH.fB (W:Two LT T a b) (j:JH LT a b out na nb) (e:nb=1):Good LT (a.toList++b.toList) (fh' a b out na nb).toList:=by
 subst e;rw[JH,kz (a:=b) (i:=0) W.zb,List.take_zero,List.reverse_nil,Ls]at j;have:=(j.swap.last λy hy=>?_).rev
 ·let e:=kz (a:=b) (i:=0) W.zb
  simp_all
 ·let⟨k,_,hk,rfl⟩:=fg (qai.mp hy)
  exact W.h0 k hk
def JH.pA (j:JH LT a b out (na+1) nb) (e:na<a.size) (q:∀k,k<nb->k<b.size->LT (K a na) (K b k)=Y):JH LT a b (out.push (K a na)) na nb:=by
 rw[JH,LV];rw[JH,kz e]at j;refine j.push λx hx y hy=>?_
 obtain rfl:=qaa.mp hx;let⟨k,h1,h2,rfl⟩:=fg (qai.mp hy);exact q k h1 h2
def JH.pB (j:JH LT a b out na (nb+1)) (e:nb<b.size) (q:∀k,k<na->k<a.size->LT (K b nb) (K a k)=Y):JH LT a b (out.push (K b nb)) na nb:=by
 rw[JH,LV];rw[JH,kz e]at j;refine(j.swap.push λx hx y hy=>?_).swap
 obtain rfl:=qaa.mp hx;let⟨k,h1,h2,rfl⟩:=fg (qai.mp hy);exact q k h1 h2
def JH.cA {t:Nat}(ht:t<=na) (j:JH LT a b out na nb) (q:∀i,t<=i->i<na->i<a.size->∀j,j<nb->j<b.size->LT (K a i) (K b j)=Y):JH LT a b (out++(a.extract t na).reverse) t nb:=by
 rw[JH,Lg];rw[JH,rV a ht]at j;refine j.push λx hx y hy=>?_
 rw[OY,qai]at hx;let⟨i,h1,h2,h3,rfl⟩:=bx hx;let⟨k,h4,h5,rfl⟩:=fg (qai.mp hy);exact q i h1 h2 h3 k h4 h5
def JH.cB {t:Nat}(ht:t<=nb) (j:JH LT a b out na nb) (q:∀i,t<=i->i<nb->i<b.size->∀j,j<na->j<a.size->LT (K b i) (K a j)=Y):JH LT a b (out++(b.extract t nb).reverse) na t:=by
 rw[JH,Lg];rw[JH,rV b ht]at j;refine(j.swap.push λx hx y hy=>?_).swap
 rw[OY,qai]at hx;let⟨i,h1,h2,h3,rfl⟩:=bx hx;let⟨k,h4,h5,rfl⟩:=fg (qai.mp hy);exact q i h1 h2 h3 k h4 h5
def Two.k0 (W:Two LT T a b):JH LT a b #[K a (a.size - 1)] (a.size - 1) b.size:=by
 let rv:∀{c:Array Kj},Up LT c 0 c.size->(c.toList.take c.size).reverse.Pairwise (R (fl LT)):=λ{c} u=>by
  rw[MT (by simp)];exact qax.mpr (pw_up u)
 let j:JH LT a b #[] a.size b.size:=⟨by
  rw[MT (by simp),MT (by simp)]
  exact((PE _).append (PE _)),rv W.ua,rv W.ub⟩
 let za:=W.za;rw[show a.size=a.size - 1+1 by lia]at j
 exact j.pA (by lia) λk k1 k2=>W.hl k k2
abbrev IH (LT:Kj->Kj->Bool) (a b:Array Kj) (n:Nat) (out:Array Kj) (na nb:Nat):Prop:=JH LT a b out na nb/\1<=na/\na<=a.size/\2<=nb/\nb<=b.size/\na+nb+n<=a.size+b.size
structure EndH (LT:Kj->Kj->Bool) (a b:Array Kj) (st:K2) (n0:Nat) (P:ForInStep HS->K2->Prop):Prop where
 good:∀m r g,Good LT (a.toList++b.toList) m.toList->P (.done (U m,r)) (au st g)
 next:∀out na nb mg ac bc g,IH LT a b (n0+1) out na nb->P (.done (B,na,nb,out,mg,ac,bc)) (au st g)/\P (.yield (B,na,nb,out,mg,ac,bc)) (au st g)
variable{n0 mg ac bc g:Nat}{P:ForInStep HS->K2->Prop}
def C7 (W:Two LT T a b) (j:IH LT a b n0 out na nb) (Z:EndH LT a b st n0 P) (q:∀k,k<nb->k<b.size->LT (K a (na - 1)) (K b k)=Y):
  wpS (model prog w) A E s (hiC a b out na nb mg ac bc) P (au st g):=by
 let⟨j,h1,h1',h2,h2',h3⟩:=j;refine Kk (aD (by lia) ?_)
 let j1:=JH.pA (na:=na - 1) (by rw[show na - 1+1=na by lia];exact j) (by lia) q
 by_cases e:na - 1=0
 ·rw[if_pos (beq_iff_eq.mpr e)];exact Km (Z.good _ _ _ (j1.dA e))
 ·rw[if_neg (λq=>e (beq_iff_eq.mp q))]
  let z:=λac bc=>Z.next _ _ _ mg ac bc g ⟨j1,by lia,by lia,h2,h2',by lia⟩
  by_cases c:(decide (ac<7)&&decide (bc<7))=V
  ·rw[if_pos c];exact Km (z ac bc).1
  ·rw[if_neg c];exact Km (z ac bc).2
variable(O:OrdK LT) (H:Ans prog w A s κ LT T) (hk:kindOf st=κ) (W:Two LT T a b)
include O H hk W
section
variable(j:IH LT a b n0 out na nb)
include j
theorem Dz (Z:EndH LT a b st n0 P) (q:∀k,k<na->k<a.size->LT (K b (nb - 1)) (K a k)=Y):
  wpS (model prog w) A E s (hiB a b out na nb mg ac bc) P (au st g):=by
 let⟨j,h1,h1',h2,h2',h3⟩:=j;refine Kk (aD (by lia) ?_)
 let j1:=JH.pB (nb:=nb - 1) (by rw[show nb - 1+1=nb by lia];exact j) (by lia) q
 by_cases e:nb - 1=1
 ·rw[if_pos (beq_iff_eq.mpr e)];exact Km (Z.good _ _ _ (j1.fB W e))
 rw[if_neg (λq=>e (beq_iff_eq.mp q))]
 refine Kk (aD (by lia) ?_)
 refine Kk (dE (st:=au st g) O H hk (W.ha _ (by lia)) (by lia) (by lia) (λi hi=>W.hb _ (by lia)) (λp q a1 a2 a3=>W.ub p q (KA _) a2 (by lia)) λt k1 k2 k3=>?_)
 let q2:∀m,m<t->m<b.size->LT (K a (na - 1)) (K b m)=Y:=λm m1 m2=>by
  have:=k2 m m1;unfold fB at this;simp![if_true,MH]at this;exact O.asym _ _ this
 dsimp only
 by_cases c:nb - 1 - t>0
 ·rw[if_pos c]
  let j2:=j1.cB (t:=t) (by lia) λi i1 i2 i3 m m1 m2=>O.tr _ _ _ (W.ua m (na - 1) (KA _) (by lia) (by lia)) (by simpa only[fB,if_true,MH]using k3 i i1 i2)
  by_cases e2:t=1
  ·rw[if_pos (beq_iff_eq.mpr e2)];exact Km (Z.good _ _ _ (j2.fB W e2))
  rw[if_neg (λq=>e2 (beq_iff_eq.mp q))]
  by_cases e3:t=0
  ·rw[if_pos (beq_iff_eq.mpr e3)];exact Km (Z.good _ _ _ (j2.dB e3))
  rw[if_neg (λq=>e3 (beq_iff_eq.mp q))]
  exact C7 W ⟨j2,h1,h1',by lia,by lia,by lia⟩ Z q2
 ·rw[if_neg c]
  exact C7 W ⟨j1,h1,h1',by lia,by lia,by lia⟩ Z (by rw[show t=nb - 1 by lia]at q2;exact q2)
theorem Gs (Z:EndH LT a b st n0 P):
  wpS (model prog w) A E s (hiA a b out na nb mg ac bc) P (au st g):=by
 let⟨j,h1,h1',h2,h2',h3⟩:=j;refine Kk (MN ?_)
 refine Kk (aD (by lia) ?_)
 refine Kk (dE (st:=au st mg) O H hk (W.hb _ (by lia)) (by lia) (by lia) (λi hi=>W.ha _ (by lia)) (λp q a1 a2 a3=>W.ua p q (KA _) a2 (by lia)) λt k1 k2 k3=>?_)
 let q2:∀m,m<t->m<a.size->LT (K b (nb - 1)) (K a m)=Y:=λm m1 m2=>by
  have:=k2 m m1;unfold fB at this
  lia
 dsimp only
 by_cases c:na - t>0
 ·rw[if_pos c]
  let j2:=j.cA (t:=t) (by lia) λi i1 i2 i3 m m1 m2=>O.tr _ _ _ (W.ub m (nb - 1) (KA _) (by lia) (by lia)) (O.asym _ _ (by simpa only[fB,Ko,if_false,Pp,MH]using k3 i i1 i2))
  by_cases e1:t=0
  ·rw[if_pos (beq_iff_eq.mpr e1)];exact Km (Z.good _ _ _ (j2.dA e1))
  ·rw[if_neg (λq=>e1 (beq_iff_eq.mp q))]
   exact Dz O H hk W ⟨j2,by lia,by lia,h2,h2',by lia⟩ Z q2
 ·rw[if_neg c]
  exact Dz O H hk W ⟨j,h1,h1',h2,h2',h3⟩ Z (by rw[show t=na by lia]at q2;exact q2)
theorem GG {P:ForInStep VS->K2->Prop}(z1:∀m r,Good LT (a.toList++b.toList) m.toList->P (.done (U m,r)) (au st g)) (z2:∀out na nb ac bc,IH LT a b n0 out na nb->P (.done (B,na,nb,out,ac,bc)) (au st g)/\P (.yield (B,na,nb,out,ac,bc)) (au st g)):
  wpS (model prog w) A E s (hiW a b out na nb mg ac bc) P (au st g):=by
 let⟨j,i1,i1',i2,i2',i3⟩:=j;refine Kk (aD (by lia) (Kk (aD (by lia) (Kk (y0 (st:=au st g) H hk (W.hb _ (by lia)) (W.ha _ (by lia)) ?_)))))
 cases hw:LT (K b (nb - 1)) (K a (na - 1))with
 |true=>
  refine Kk (aD (by lia) ?_)
  let j1:=JH.pA (na:=na - 1) (by rw[show na - 1+1=na by lia];exact j) (by lia) λk k1 k2=>O.tr _ _ _ (W.ub k (nb - 1) (KA _) (by lia) (by lia)) (O.asym _ _ hw)
  by_cases e:na - 1=0
  ·rw[if_pos (beq_iff_eq.mpr e)];exact Km (z1 _ _ (j1.dA e))
  ·rw[if_neg (λq=>e (beq_iff_eq.mp q))]
   let z:=λac bc=>z2 _ _ _ ac bc ⟨j1,by lia,by lia,i2,i2',by lia⟩
   by_cases c:ac+1>=mg
   ·rw[if_pos c];exact Km (z _ _).1
   ·rw[if_neg c];exact Km (z _ _).2
 |false=>
  refine Kk (aD (by lia) ?_)
  let j1:=JH.pB (nb:=nb - 1) (by rw[show nb - 1+1=nb by lia];exact j) (by lia) λk k1 k2=>O.tr _ _ _ (W.ua k (na - 1) (KA _) (by lia) (by lia)) hw
  by_cases e:nb - 1=1
  ·rw[if_pos (beq_iff_eq.mpr e)];exact Km (z1 _ _ (j1.fB W e))
  ·rw[if_neg (λq=>e (beq_iff_eq.mp q))]
   let z:=λac bc=>z2 _ _ _ ac bc ⟨j1,i1,i1',by lia,by lia,by lia⟩
   by_cases c:bc+1>=mg
   ·rw[if_pos c];exact Km (z _ _).1
   ·rw[if_neg c];exact Km (z _ _).2
theorem Hy (Z:EndH LT a b st n0 P):wpS (model prog w) A E s (hiG a b out na nb mg ac bc) P (au st g):=by
 unfold hiG;split<;>exact Gs O H hk W j Z
theorem HD {P:ForInStep PS->K2->Prop}(z1:∀m r g,Good LT (a.toList++b.toList) m.toList->P (.done (U m,r)) (au st g)) (z2:∀out na nb mg g,IH LT a b (n0+1) out na nb->P (.yield (B,na,nb,out,mg)) (au st g)):
  wpS (model prog w) A E s (hiO a b out na nb mg) P (au st g):=by
 refine Kk (MM (LM (I:=λy c st'=>∃na nb out ac bc,c=(B,na,nb,out,ac,bc)/\st'=au st g/\IH LT a b n0 out na nb)
  (Q:=λc st'=>st'=au st g/\((∃m r,c=(U m,r)/\Good LT (a.toList++b.toList) m.toList)\/∃na nb out ac bc,c=(B,na,nb,out,ac,bc)/\IH LT a b n0 out na nb)) ?_ ?_ ⟨na,nb,out,0,0,rfl,rfl,j⟩) ?_)
 ·intro y c st' _ _ hz;let⟨na,nb,out,ac,bc,rfl,rfl,j⟩:=hz
  exact GG O H hk W j (λm r hm=>⟨rfl,.inl ⟨m,r,rfl,hm⟩⟩) λout na nb ac bc j=>⟨⟨rfl,.inr ⟨_,_,_,_,_,rfl,j⟩⟩,⟨_,_,_,_,_,rfl,rfl,j⟩⟩
 ·intro c st' hz;let⟨na,nb,out,ac,bc,rfl,rfl,j⟩:=hz
  exact⟨rfl,.inr ⟨_,_,_,_,_,rfl,j⟩⟩
 ·intro c st' hz;let⟨rfl,hz⟩:=hz;rcases hz with hz|hz
  ·let⟨m,r,rfl,hm⟩:=hz;exact Km (z1 m _ g hm)
  ·let⟨na,nb,out,ac,bc,rfl,j⟩:=hz
   refine Kk (Pq (LA ⟨rfl,?_⟩))
   refine Kk (MM (LM (I:=λy c st'=>∃na nb out mg ac bc g,c=(B,na,nb,out,mg,ac,bc)/\st'=au st g/\IH LT a b n0 out na nb/\(1<=y->na+nb+n0<a.size+b.size))
    (Q:=λc st'=>∃g,st'=au st g/\((∃m r,c=(U m,r)/\Good LT (a.toList++b.toList) m.toList)\/∃na nb out mg ac bc,c=(B,na,nb,out,mg,ac,bc)/\IH LT a b (n0+1) out na nb)) ?_ ?_ ⟨na,nb,out,_,ac,bc,g,rfl,rfl,j,λq=>absurd q (by lia)⟩) ?_)
   ·intro y c st' _ _ hz;let⟨na,nb,out,mg,ac,bc,g,rfl,rfl,j,_⟩:=hz
    exact Hy O H hk W j ⟨λm r g hm=>⟨g,rfl,.inl ⟨m,r,rfl,hm⟩⟩,λout na nb mg ac bc g j=>⟨⟨g,rfl,.inr ⟨_,_,_,_,_,_,rfl,j⟩⟩,⟨_,_,_,_,_,_,g,rfl,rfl,⟨j.1,j.2.1,j.2.2.1,j.2.2.2.1,j.2.2.2.2.1,by lia⟩,λ_=>by lia⟩⟩⟩
   ·intro c st' hz;let⟨na,nb,out,mg,ac,bc,g,rfl,rfl,⟨j,i1,i1',i2,i2',i3⟩,i4⟩:=hz
    exact⟨g,rfl,.inr ⟨_,_,_,_,_,_,rfl,j,i1,i1',i2,i2',i4 (by lia)⟩⟩
   ·intro c st' hz;let⟨g,rfl,hz⟩:=hz;rcases hz with hz|hz
    ·let⟨m,r,rfl,hm⟩:=hz;exact Km (z1 m _ g hm)
    ·let⟨na,nb,out,mg,ac,bc,rfl,j⟩:=hz;exact Kk (MN (Km (z2 _ _ _ _ _ j)))
end
theorem wV {Q:Array Kj->K2->Prop}(h:∀m g,Good LT (a.toList++b.toList) m.toList->Q m (au st g)):wpS (model prog w) A E s (pX a b) Q st:=by
 let za:=W.za;let zb:=W.zb;rw[Jr];refine Kk (Pq (LA ⟨rfl,?_⟩))
 refine Kk (aD (by lia) ?_)
 by_cases e1:a.size - 1=0
 ·rw[if_pos (beq_iff_eq.mpr e1)];exact Km (h _ (gallopOf st) (W.k0.dA e1))
 rw[if_neg (λq=>e1 (beq_iff_eq.mp q))]
 by_cases e2:b.size=1
 ·rw[if_pos (beq_iff_eq.mpr e2)];exact Km (h _ (gallopOf st) (W.k0.fB W e2))
 rw[if_neg (λq=>e2 (beq_iff_eq.mp q))]
 refine Kk (Oy ?_)
 refine Kk (MM (LM (I:=λx c st'=>∃na nb out mg g,c=(B,na,nb,out,mg)/\st'=au st g/\IH LT a b (x+1) out na nb)
  (Q:=λc st'=>∃m g r,c=(U m,r)/\st'=au st g/\Good LT (a.toList++b.toList) m.toList) ?_ ?_ ⟨_,_,_,_,gallopOf st,rfl,rfl,W.k0,by lia,by lia,by lia,by lia,by lia⟩) ?_)
 ·intro x c st' g1 g2 hz;let⟨na,nb,out,mg,g,rfl,rfl,j⟩:=hz
  exact HD O H hk W j (λm r g hm=>⟨m,g,_,rfl,rfl,hm⟩) λout na nb mg g j=>⟨_,_,_,_,_,rfl,rfl,j⟩
 ·intro c st' hz;let⟨na,nb,out,mg,g,rfl,rfl,j,i1,i1',i2,i2',i3⟩:=hz
  exfalso;lia
 ·intro c st' hz;let⟨m,g,r,rfl,rfl,hm⟩:=hz
  exact Km (h m g hm)
end
end SM
namespace SM
open PySem PyProof.Rows
theorem uA (i:Nat):mergeAt' i=(do
 let s <-get
 let (U (sa,na,power),U (sb,nb,_)):=((pendingOf s)[i]?,(pendingOf s)[i+1]?)|unsupported "internal:list.sort.pending"
 set (setPending s (((pendingOf s).setIfInBounds i (sa,na+nb,power)).eraseIdxIfInBounds (i+1)))
 let U k <-fx Y (<-elem' (arrOf s) sb) (arrOf s) sa na 0|return Y
 let (sa,na):=(sa+k,na - k)
 if na==0 then return V
 let U nb <-fx V (<-elem' (arrOf s) (sa+na - 1)) (arrOf s) sb nb (nb - 1)|return Y
 if nb==0 then return V
 let x:=(arrOf s).extract sa sb
 let y:=(arrOf s).extract sb (sb+nb)
 let merged <-if na<=nb then pL x y else pX x y
 modify λs=>setArr s (merged.toList.zipIdx.foldl (λa (p,j)=>a.setIfInBounds (sa+j) p) (arrOf s))
 return (failedOf (<-get)).isNone):=rfl
def j5 {a:Array Kj}{s e i:Nat}(h:s+i<e):K (a.extract s e) i=K a (s+i):=by
 apply F4;rw[Array.getElem?_extract]
 split
 ·rfl
 ·rw[QO];lia
def Et {P L L' S:Ww Kj}{q:Nat}(e:L.length=L'.length) (h:q<P.length\/P.length+L.length<=q):(P++L++S)[q]?=(P++L'++S)[q]?:=by
 grind
theorem CG (m:Ww Kj):∀(mid pre post:Ww Kj) (a:Array Kj) (o st:Nat),a.toList=pre++mid++post->pre.length=o+st->m.length=mid.length->
  ((m.zipIdx st).foldl (λa (p:Kj×Nat)=>a.setIfInBounds (o+p.2) p.1) a).toList=pre++m++post:=by
 induction m with
 |nil=>intro mid pre post a o st h _ h3;rw[List.eq_nil_of_length_eq_zero h3.symm]at h;exact h
 |cons x m ih=>
  intro mid pre post a o st h h2 h3;cases mid with
  |nil=>cases h3
  |cons c mid=>
   rw[List.zipIdx_cons,Ml];have:=ih mid (pre++[x]) post (a.setIfInBounds (o+st) x) o (st+1) (by
    simp_all) (by simp;lia) (Qn h3)
   rw[this];simp
section
variable{prog:Lw}{w:LY}{A:KH}{E:J4->J5->Prop}{s:J5}{LT:Kj->Kj->Bool}{T:Array Kj}{κ:ND}{a:Array Kj}
def vE {i j:Nat}(u:Up LT a i j):(a.extract i j).toList.Pairwise (R LT):=by
 apply pw_up;intro p q _ h1 h2;rw[Po]at h2;rw[j5 (by lia),j5 (by lia)]
 exact u _ _ (by lia) (by lia) (by lia)
def CH (O:OrdK LT) {P L S:Ww Kj}(h:a.toList=P++L++S) (hl:L.Pairwise (R LT)):Up LT a P.length (P.length+L.length):=λp q h1 h2 h3=>by
 let e:∀i (hi:i<L.length),K a (P.length+i)=L[i]:=λi hi=>by
  rw[jS,h,LJ,N9 (by lia),show P.length+i - P.length=i by lia,MC hi];simp[hi]
 obtain⟨p,rfl⟩:∃p',p=P.length+p':=⟨p - P.length,by lia⟩
 obtain⟨q,rfl⟩:∃p',q=P.length+p':=⟨q - P.length,by lia⟩
 rw[e p (by lia),e q (by lia)]
 by_cases c:p=q
 ·subst c;exact O.irr _
 ·exact qas.mp hl p q (by lia) (by lia) (by lia)
def xh (O:OrdK LT) (H:Ans prog w A s κ LT T) {p:Array (Nat×Nat×Nat)}{l1 l2:Ww (Nat×Nat×Nat)}{sa na pw nb pw2 g i:Nat}(hT:a.Perm T) (hp:p.toList=l1++(sa,na,pw)::(sa+na,nb,pw2)::l2) (hi:i=l1.length) (h1:1<=na) (h2:1<=nb)
  (hz:sa+na+nb<=T.size) (u1:Up LT a sa (sa+na)) (u2:Up LT a (sa+na) (sa+na+nb)) {Q:Bool->K2->Prop}
  (h:∀a' p' g,a'.Perm T->(∀k,k<sa\/sa+na+nb<=k->K a' k=K a k)->Up LT a' sa (sa+(na+nb))->p'.toList=l1++(sa,na+nb,pw)::l2->Q V (La κ a' p' g B)):
  wpS (model prog w) A E s (mergeAt' i) Q (La κ a p g B):=by
 let ez:=hT.size_eq;let mT:∀k,k<T.size->K a k∈T:=λk hk=>hT.mem_iff.mp (Ff (by lia))
 subst hi;let g1:p[l1.length]?=U (sa,na,pw):=by rw[<-LG,hp];simp
 let g2:p[l1.length+1]?=U (sa+na,nb,pw2):=by rw[<-LG,hp];simp
 rw[uA];refine Kk (Oy ?_)
 let ea:∀p g,arrOf (La κ a p g B)=a:=λ_ _=>rfl
 simp![ea];rw[g1,g2];dsimp only;let hp':((p.setIfInBounds l1.length (sa,na+nb,pw)).eraseIdxIfInBounds (l1.length+1)).toList=l1++(sa,na+nb,pw)::l2:=by
  rw[Array.toList_eraseIdxIfInBounds,Qk,hp];simp[List.eraseIdx_append_of_length_le]
 generalize ((p.setIfInBounds l1.length (sa,na+nb,pw)).eraseIdxIfInBounds (l1.length+1))=p' at hp'⊢;refine Kk (?_:wpS (model prog w) A E s (set _:StateT K2 PZ PUnit) _ _)
 refine JZ ⟨rfl,?_⟩
 refine Kk (aD (by lia) ?_)
 refine Kk (dE (st:=La κ a p' g B) O H rfl (mT _ (by lia)) (by lia) (by lia) (λj hj=>mT _ (by lia)) u1 λk k1 k2 k3=>?_)
 dsimp only;let whole:∀(e:∀q,q<na->LT (K a (sa+na)) (K a (sa+q))=Y),Up LT a sa (sa+(na+nb)):=λe x y a1 a2 a3=>by
  by_cases c1:y<sa+na
  ·exact u1 x y a1 a2 c1
  ·by_cases c2:x<sa+na
   ·have:=e (x - sa) (by lia)
    rw[show sa+(x - sa)=x by lia]at this
    exact O.tr _ _ _ this (u2 (sa+na) y (Kh _) (by lia) (by lia))
   ·exact u2 x y (by lia) a2 (by lia)
 by_cases c:na - k=0
 ·rw[if_pos (beq_iff_eq.mpr c)]
  exact Km (h a p' g hT (λ_ _=>rfl) (whole λq hq=>by simpa only[fB,Ko,if_false,MG]using k2 q (by lia)) hp')
 rw[if_neg (λq=>c (beq_iff_eq.mp q))]
 let el:sa+k+(na - k) - 1=sa+na - 1:=by lia
 rw[el];refine Kk (aD (by lia) ?_)
 refine Kk (dE (st:=La κ a p' g B) O H rfl (mT _ (by lia)) (by lia) (by lia) (λj hj=>mT _ (by lia)) u2 λnb' n1 n2 n3=>?_)
 dsimp only
 by_cases c':nb'=0
 ·rw[if_pos (beq_iff_eq.mpr c')]
  refine Km (h a p' g hT (λ_ _=>rfl) (whole λq hq=>?_) hp')
  have:=n3 0 (by lia) (by lia)
  exact O.tr _ _ _ (u1 (sa+q) (sa+na - 1) (by lia) (by lia) (by lia)) this
 rw[if_neg (λq=>c' (beq_iff_eq.mp q))]
 let W:Two LT T (a.extract (sa+k) (sa+na)) (a.extract (sa+na) (sa+na+nb')):=by
  let zx:(a.extract (sa+k) (sa+na)).size=na - k:=by rw[Po];lia
  let zy:(a.extract (sa+na) (sa+na+nb')).size=nb':=by rw[Po];lia
  refine⟨λi hi=>?_,λi hi=>?_,λx y a1 a2 a3=>?_,λx y a1 a2 a3=>?_,by lia,by lia,λj hj=>?_,λj hj=>?_⟩
  ·rw[j5 (by lia)];exact mT _ (by lia)
  ·rw[j5 (by lia)];exact mT _ (by lia)
  ·rw[j5 (by lia),j5 (by lia)];exact u1 _ _ (by lia) (by lia) (by lia)
  ·rw[j5 (by lia),j5 (by lia)];exact u2 _ _ (by lia) (by lia) (by lia)
  ·rw[j5 (by lia),j5 (by lia)]
   have:=k3 (k+j) (by lia) (by lia)
   simp![fB,Ko,if_false,Pp]at this;rw[show sa+k+j=sa+(k+j) by lia]
   exact O.asym _ _ this
  ·rw[zx,j5 (by lia),j5 (by lia),show sa+k+(na - k - 1)=sa+na - 1 by lia]
   have:=n2 j (by lia)
   exact O.asym _ _ this
 let fin:∀(m:Array Kj) (g':Nat),Good LT ((a.extract (sa+k) (sa+na)).toList++(a.extract (sa+na) (sa+na+nb')).toList) m.toList->
   wpS (model prog w) A E s (do
    modify λs=>setArr s (m.toList.zipIdx.foldl (λa (p:Kj×Nat)=>a.setIfInBounds (sa+k+p.2) p.1) (arrOf s))
    return (failedOf (<-get)).isNone) Q (La κ a p' g' B):=λm g' hm=>by
  refine Kk (MN (Kk (Oy (Km ?_))))
  let dec:a.toList=a.toList.take sa++((a.extract sa (sa+k)).toList++((a.extract (sa+k) (sa+na)).toList++(a.extract (sa+na) (sa+na+nb')).toList)++(a.extract (sa+na+nb') (sa+na+nb)).toList)++a.toList.drop (sa+na+nb):=by
   let d1:=dw a sa k;let d2:=dw a (sa+k) (na - k);let d3:=dw a (sa+na) nb';let d4:=dw a (sa+na+nb') (nb - nb');rw[show sa+k+(na - k)=sa+na by lia]at d2
   rw[show sa+na+nb'+(nb - nb')=sa+na+nb by lia]at d4
   rw[d2,d3,d4]at d1;have:=(Na sa a.toList).symm;rw[d1]at this
   conv=>lhs;rw[this]
   simp![LJ]
  let ml:m.toList.length=((a.extract (sa+k) (sa+na)).toList++(a.extract (sa+na) (sa+na+nb')).toList).length:=hm.pm.length_eq;let dec':a.toList=a.toList.take sa++(a.extract sa (sa+k)).toList++((a.extract (sa+k) (sa+na)).toList++(a.extract (sa+na) (sa+na+nb')).toList)++((a.extract (sa+na+nb') (sa+na+nb)).toList++a.toList.drop (sa+na+nb)):=by
   conv=>lhs;rw[dec]
   simp![LJ]
  let res:=CG m.toList _ _ _ a (sa+k) 0 dec' (by simp;lia) ml
  let res':(m.toList.zipIdx.foldl (λa (p:Kj×Nat)=>a.setIfInBounds (sa+k+p.2) p.1) a).toList=a.toList.take sa++((a.extract sa (sa+k)).toList++m.toList++(a.extract (sa+na+nb') (sa+na+nb)).toList)++a.toList.drop (sa+na+nb):=by
   rw[res];simp![LJ]
  let pl:(a.toList.take sa).length=sa:=by simp;lia
  let len:((a.extract sa (sa+k)).toList++m.toList++(a.extract (sa+na+nb') (sa+na+nb)).toList).length=na+nb:=by
   rw[K0,K0,ml];simp;lia
  refine h _ p' g' ?_ (λq hq=>?_) ?_ hp'
  ·refine Array.Perm.trans (Array.perm_iff_toList_perm.mpr ?_) hT
   rw[res']
   conv=>rhs;rw[dec]
   exact((((MI _).append hm.pm).append (MI _)).append_left _).append_right _
  ·rw[jS,jS,res']
   conv=>rhs;rw[dec]
   congr 1;exact Et (by simp![K0]at ml⊢;lia) (by rw[pl,len];lia)
  ·have:=CH O res' ?_
   ·rw[pl,len]at this;exact this
   let ux:∀v∈(a.extract (sa+k) (sa+na)).toList,LT (K a (sa+na - 1)) v=Y:=λv hv=>by
    let⟨i,i1,i2,_,rfl⟩:=bx hv;exact u1 i (sa+na - 1) (by lia) (by lia) (by lia)
   let uc:∀v∈(a.extract sa (sa+k)).toList,LT (K a (sa+na - 1)) v=Y:=λv hv=>by
    let⟨i,i1,i2,_,rfl⟩:=bx hv;exact u1 i (sa+na - 1) (by lia) (by lia) (by lia)
   let uz:∀z∈(a.extract (sa+na+nb') (sa+na+nb)).toList,LT z (K a (sa+na - 1))=Y:=λz hz=>by
    let⟨i,i1,i2,_,rfl⟩:=bx hz;have:=n3 (i - (sa+na)) (by lia) (by lia)
    simpa only[fB,if_true,show sa+na+(i - (sa+na))=i by lia]using this
   rw[Mg,Mg];refine⟨⟨vE λx y a1 a2 a3=>u1 x y a1 a2 (by lia),hm.so,λu hu v hv=>?_⟩,vE λx y a1 a2 a3=>u2 x y (by lia) a2 a3,λv hv z hz=>?_⟩
   ·let⟨i,i1,i2,_,rfl⟩:=bx hu
    rcases qac.mp (hm.pm.mem_iff.mp hv)with hv|hv
    ·let⟨j,j1,j2,_,rfl⟩:=bx hv
     exact u1 i j (by lia) (by lia) (by lia)
    ·let⟨j,j1,j2,_,rfl⟩:=bx hv
     have:=k2 (i - sa) (by lia)
     simp![fB,Ko,if_false,MG,show sa+(i - sa)=i by lia]at this
     exact O.tr _ _ _ this (u2 (sa+na) j (Kh _) (by lia) (by lia))
   ·rcases qac.mp hv with hv|hv
    ·exact O.tr _ _ _ (uc v hv) (uz z hz)
    ·rcases qac.mp (hm.pm.mem_iff.mp hv)with hv|hv
     ·exact O.tr _ _ _ (ux v hv) (uz z hz)
     ·let⟨j,j1,j2,_,rfl⟩:=bx hv
      let⟨i,i1,i2,_,rfl⟩:=bx hz;exact u2 j i (by lia) (by lia) (by lia)
 by_cases c3:na - k<=nb'
 ·rw[if_pos c3];exact Kk (xe (st:=La κ a p' g B) O H rfl W λm g' hm=>fin m g' hm)
 ·rw[if_neg c3];exact Kk (wV (st:=La κ a p' g B) O H rfl W λm g' hm=>fin m g' hm)
end
end SM
namespace SM
open PySem PyProof.Rows
abbrev P3:=Nat×Nat×Nat
def Tile:Ww P3->Nat->Nat->Prop
 |[],s,e=>s=e
 |q::r,s,e=>q.1=s/\1<=q.2.1/\Tile r (s+q.2.1) e
theorem Tile.le:∀{l:Ww P3}{s e:Nat},Tile l s e->s+l.length<=e
 |[],_,_,h=>by simp_all [Tile]
 |q::r,s,e,h=>by have:=h.2.2.le;have:=h.2.1;simp;lia
theorem Tile.app:∀{l m:Ww P3}{s e:Nat},Tile (l++m) s e->∃t,Tile l s t/\Tile m t e
 |[],m,s,e,h=>⟨s,rfl,h⟩
 |q::r,m,s,e,h=>by
  let⟨t,a,b⟩:=h.2.2.app;exact⟨t,⟨h.1,h.2.1,a⟩,b⟩
theorem Tile.join:∀{l m:Ww P3}{s t e:Nat},Tile l s t->Tile m t e->Tile (l++m) s e
 |[],m,s,t,e,h,h'=>by simp_all [Tile]
 |q::r,m,s,t,e,h,h'=>⟨h.1,h.2.1,h.2.2.join h'⟩
theorem Tile.bound:∀{l:Ww P3}{s e:Nat},Tile l s e->∀q∈l,s<=q.1/\q.1+q.2.1<=e
 |p::r,s,e,h,q,hq=>by
  have:=h.2.2.le
  rcases on.mp hq with rfl|hq
  ·have:=h.1;lia
  ·have:=h.2.2.bound q hq;lia
section
variable{prog:Lw}{w:LY}{A:KH}{E:J4->J5->Prop}{s:J5}{LT:Kj->Kj->Bool}{T:Array Kj}{κ:ND}{a:Array Kj}
structure Wait (LT:Kj->Kj->Bool) (T a:Array Kj) (p:Array P3) (lo:Nat):Prop where
 pm:a.Perm T
 ti:Tile p.toList 0 lo
 up:∀q∈p.toList,Up LT a q.1 (q.1+q.2.1)
def Wait.merge (O:OrdK LT) (H:Ans prog w A s κ LT T) {p:Array P3}{lo g i:Nat}(hz:lo<=T.size) (h:Wait LT T a p lo) (hi:i+1<p.size) {Q:Bool->K2->Prop}
  (hQ:∀a' p' g,Wait LT T a' p' lo->p'.size+1=p.size->(∀k,lo<=k->K a' k=K a k)->Q V (La κ a' p' g B)):wpS (model prog w) A E s (mergeAt' i) Q (La κ a p g B):=by
 obtain⟨l1,l2,x,y,e,hl⟩:∃l1 l2 x y,p.toList=l1++x::y::l2/\l1.length=i:=by
  let hi':i+1<p.toList.length:=by simpa using hi
  refine⟨p.toList.take i,p.toList.drop (i+2),p.toList[i],p.toList[i+1],?_,by simp;lia⟩
  rw[<-KW hi',<-KW (by lia),Na]
 let⟨sa,na,pw⟩:=x;let⟨sb,nb,pw2⟩:=y;let ti:=h.ti;rw[e]at ti;let⟨t,t1,t2⟩:=ti.app;let⟨r1,r2,r3,r4,r5⟩:=t2;dsimp only at r1 r2 r3 r4 r5;subst r1 r3;let b1:=r5.le;let u1:=h.up (sa,na,pw) (by rw[e];simp)
 let u2:=h.up (sa+na,nb,pw2) (by rw[e];simp)
 refine xh O H h.pm e hl.symm r2 r4 (by lia) u1 u2 λa' p' g hp hk hu he=>hQ a' p' g ⟨hp,?_,λq hq=>?_⟩ ?_ λk hk'=>hk k (by lia)
 ·rw[he]
  exact t1.join ⟨rfl,by dsimp only;lia,by dsimp only;rw[<-QK];exact r5⟩
 ·rw[he]at hq
  let cg:∀q∈p.toList,q.1+q.2.1<=sa\/sa+na+nb<=q.1->Up LT a' q.1 (q.1+q.2.1):=λq hq hd x y a1 a2 a3=>by
   rw[hk x (by lia),hk y (by lia)];exact h.up q hq x y a1 a2 a3
  rcases qac.mp hq with hq|hq
  ·exact cg q (by rw[e];exact Li _ hq) (.inl (t1.bound q hq).2)
  ·rcases on.mp hq with rfl|hq
   ·exact hu
   ·exact cg q (by simp_all) (.inr (r5.bound q hq).1)
 ·let l1:=congrArg LW he
  let l2:=congrArg LW e;simp at l1 l2;lia
def Wait.push {p:Array P3}{lo n z:Nat}(h:Wait LT T a p lo) (hn:1<=n) (hu:Up LT a lo (lo+n)):Wait LT T a (p.push (lo,n,z)) (lo+n):=by
 refine⟨h.pm,by rw[LV];exact h.ti.join ⟨rfl,hn,rfl⟩,λq hq=>?_⟩
 rw[LV]at hq
 rcases qac.mp hq with hq|hq
 ·exact h.up q hq
 simp_all
theorem vV {f:P3->P3}(hf:∀q,(f q).1=q.1/\(f q).2.1=q.2.1):∀{l:Ww P3}{i s e:Nat},Tile l s e->Tile (l.modify i f) s e
 |[],i,s,e,h=>by simpa using h
 |q::r,0,s,e,h=>by
  simp![Q2,Tile,(hf q).1,(hf q).2];exact h
 |q::r,i+1,s,e,h=>by
  simp![Q3];exact⟨h.1,h.2.1,vV hf h.2.2⟩
theorem m9 {f:P3->P3}:∀{l:Ww P3}{i:Nat}{q:P3},q∈l.modify i f->q∈l\/∃r∈l,q=f r
 |[],i,q,h=>by simp at h
 |p::r,0,q,h=>by
  simp![Q2]at h
  rcases on.mp h with rfl|h
  ·exact .inr ⟨p,.head _,rfl⟩
  ·exact .inl (.tail _ h)
 |p::r,i+1,q,h=>by
  simp![Q3]at h
  rcases on.mp h with rfl|h
  ·exact .inl (.head _)
  ·rcases m9 h with h|⟨x,h,e⟩
   ·exact .inl (.tail _ h)
   ·exact .inr ⟨x,.tail _ h,e⟩
def Wait.mod {p:Array P3}{lo i z:Nat}(h:Wait LT T a p lo):Wait LT T a (p.modify i λ(st,len,_)=>(st,len,z)) lo:=by
 refine⟨h.pm,by rw[Re];exact vV (f:=λ(st,len,_)=>(st,len,z)) (λq=>⟨rfl,rfl⟩) h.ti,λq hq=>?_⟩
 rw[Re]at hq
 rcases m9 hq with hq|⟨r,hr,rfl⟩
 ·exact h.up q hq
 ·exact h.up r hr
def sortRuns_wp (O:OrdK LT) (H:Ans prog w A s κ LT T) {g:Nat}(h2:2<=T.size) {Q:Unit->K2->Prop}(hQ:∀a p g,a.Perm T->Up LT a 0 T.size->Q () (La κ a p g B)):wpS (model prog w) A E s sortRuns' Q (La κ T #[] g B):=by
 rw[sortRuns'_eq];refine Kk (Oy ?_)
 let ea:∀a p g,arrOf (La κ a p g B)=a:=λ_ _ _=>rfl
 let ep:∀a p g,pendingOf (La κ a p g B)=p:=λ_ _ _=>rfl
 simp![ea];generalize minRun' T.size T.size 0=mr;refine Kk (MM (LM (I:=λx c st'=>∃a p g lo,c=(B,lo)/\st'=La κ a p g B/\Wait LT T a p lo/\lo<=T.size/\x<=lo)
  (Q:=λc st'=>∃a p g,c=(B,T.size)/\st'=La κ a p g B/\Wait LT T a p T.size) ?_ ?_ ⟨T,#[],g,0,rfl,rfl,⟨Array.Perm.refl _,rfl,λq hq=>nomatch hq⟩,KA _,Kh _⟩) ?_)
 ·intro x c st' _ hx hz;let⟨a,p,g,lo,rfl,rfl,hw,hlo,hxl⟩:=hz
  dsimp only
  by_cases c1:lo>=T.size
  ·rw[if_pos c1]
   have:lo=T.size:=by lia
   exact Km ⟨a,p,g,by rw[this],rfl,by rw[<-this];exact hw⟩
  rw[if_neg c1];refine Kk (tj (st:=La κ a p g B) O H rfl hw.pm (by lia) (by lia) λm a1 m1 m2 C1 U1=>?_)
  let wt:∀a2,Chg T a lo a2->Wait LT T a2 p lo:=λa2 C=>⟨C.perm,hw.ti,λq hq x y h1 h2 h3=>by
   have:=(hw.ti.bound q hq).2;rw[C.keep x (by lia),C.keep y (by lia)];exact hw.up q hq x y h1 h2 h3⟩
  dsimp only
  by_cases c2:m<mr
  all_goals first
   |rw[if_neg c2]
   |(rw[if_pos c2]
     refine Kk (Pq (LA ⟨rfl,?_⟩))
     let C0:=C1;let n0:1<=min (T.size - lo) mr/\min (T.size - lo) mr<=T.size - lo:=by lia
     refine Kk (qb (st:=La κ a1 p g B) O H rfl C1.perm (by lia) (by lia) (by lia) U1 λa1 C2 U1=>?_)
     let C1:Chg T a lo a1:=⟨C2.perm,λk hk=>(C2.keep k hk).trans (C0.keep k hk)⟩
     simp![Mu,Ko,if_false];let⟨m1,m2⟩:=n0;generalize min (T.size - lo) mr=m at U1 m1 m2⊢)
  all_goals
   let W1:=wt a1 C1;clear wt C1;refine Kk (Oy ?_)
   let e0:pendingOf (setArr (La κ a p g B) a1)=p:=rfl;cases hb:(pendingOf (La κ a1 p g B)).back? with
   |none=>
    let hb':p.back?=B:=hb;simp![ep,hb'];exact Kk (MN (Km ⟨_,_,_,_,rfl,rfl,W1.push m1 U1,by lia,by lia⟩))
   |some q=>
    let⟨s1,n1,z⟩:=q;let hb':p.back?=U (s1,n1,z):=hb;simp![ep,hb'];generalize power' T.size (2*s1+n1) (2*s1+n1+n1+m) T.size=pw;refine Kk (MM (LM (I:=λ_ c st'=>c=(B,())/\∃a' p' g',st'=La κ a' p' g' B/\Wait LT T a' p' lo/\∀k,lo<=k->K a' k=K a1 k)
     (Q:=λc st'=>c=(B,())/\∃a' p' g',st'=La κ a' p' g' B/\Wait LT T a' p' lo/\∀k,lo<=k->K a' k=K a1 k) ?_ (λ_ _ h=>h) ⟨rfl,a1,p,g,rfl,W1,λ_ _=>rfl⟩) ?_)
    ·intro x c st' _ _ hz;let⟨rfl,a',p',g',rfl,hw',hk'⟩:=hz
     refine Kk (Oy ?_)
     simp![ep]
     by_cases c:p'.size>1
     ·rw[if_pos c,getElem?_pos p' (p'.size - 2) (by lia)]
      generalize p'[p'.size - 2]=q;let⟨u1,u2,old⟩:=q;dsimp only
      by_cases c2:old<=pw
      ·rw[if_pos c2];exact Km ⟨rfl,a',p',g',rfl,hw',hk'⟩
      ·rw[if_neg c2]
       refine Kk (hw'.merge O H (by lia) (by lia) λa2 p2 g2 hw2 _ hk2=>?_)
       exact Km ⟨rfl,a2,p2,g2,rfl,hw2,λk hk=>(hk2 k hk).trans (hk' k hk)⟩
     ·rw[if_neg c];exact Km ⟨rfl,a',p',g',rfl,hw',hk'⟩
    ·intro c st' hz;let⟨rfl,a',p',g',rfl,hw',hk'⟩:=hz
     let hu':Up LT a' lo (lo+m):=λx y h1 h2 h3=>by rw[hk' x h1,hk' y (by lia)];exact U1 x y h1 h2 h3
     exact Kk (MN (Kk (MN (Km ⟨_,_,_,_,rfl,rfl,hw'.mod.push m1 hu',by lia,by lia⟩))))
 ·intro c st' hz;let⟨a,p,g,lo,rfl,rfl,hw,hlo,hxl⟩:=hz
  have:lo=T.size:=by lia
  exact⟨a,p,g,by rw[this],rfl,by rw[<-this];exact hw⟩
 ·intro c st' hz;let⟨a,p,g,rfl,rfl,hw⟩:=hz
  let hl:=hw.ti.le;refine Kk (MM (LM (I:=λx c st'=>c=(B,())/\∃a p g,st'=La κ a p g B/\Wait LT T a p T.size/\p.size+x<=T.size)
   (Q:=λc st'=>c=(B,())/\∃a p g,st'=La κ a p g B/\Wait LT T a p T.size/\p.size<=1) ?_ ?_ ⟨rfl,a,p,g,rfl,hw,by simp_all⟩) ?_)
  ·intro x c st' _ _ hz;let⟨rfl,a,p,g,rfl,hw,hx⟩:=hz
   refine Kk (Oy ?_)
   by_cases c:p.size<=1
   ·rw[if_pos c];exact Km ⟨rfl,a,p,g,rfl,hw,c⟩
   ·rw[if_neg c]
    refine Kk (hw.merge O H (Kh _) ?_ λa2 p2 g2 hw2 hs _=>?_)
    ·have:∀b:Bool,(if b=V then p.size - 2 - 1 else p.size - 2)+1<p.size:=λb=>by cases b<;>simp<;>lia
     exact this _
    ·exact Km ⟨rfl,a2,p2,g2,rfl,hw2,by lia⟩
  ·intro c st' hz;let⟨rfl,a,p,g,rfl,hw,hx⟩:=hz
   exact⟨rfl,a,p,g,rfl,hw,by lia⟩
  ·intro c st' hz;let⟨rfl,a,p,g,rfl,hw,hx⟩:=hz
   refine Km (hQ a p g hw.pm ?_)
   let ti:=hw.ti;let up:=hw.up;let hx':p.toList.length<=1:=by simpa using hx
   rcases hp:p.toList with _|⟨q,_|⟨r,l⟩⟩
   ·rw[hp]at ti;simp![Tile]at ti;lia
   ·rw[hp]at ti up
    let⟨t1,t2,t3⟩:=ti
    simp_all [Tile,t1,t3]
   simp_all
end
end SM
namespace L2
open PySem PySem.Spec PyProof.Rows PySem.W Md
section
variable{prog:Lw}{w:LY}{A:KH}{E:J4->J5->Prop}{s:J5}{vs:Ww J4}{a:Kp}
def Cw {n:Nat}{P:PySem.Fin->J5->Prop}{κ:ND}{LT:J4->J4->Bool}(ho:s.heap.get? a=U (seqObj "list" vs.toArray n)) (hz:vs.length<=sizeLine) (O:SM.OrdK λx y=>LT x.1 y.1)
  (hk:2<=vs.length->∀h',(∀b o,b≠a->s.heap.get? b=U o->h'.get? b=U o)->∀Q:ND->J5->Prop,Q κ {s with heap:=h'}->wpAny (model prog w) A (keyKind' vs.toArray) Q (λ_ _=>False) {s with heap:=h'})
  (hlt:2<=vs.length->∀h',(∀b o,b≠a->s.heap.get? b=U o->h'.get? b=U o)->∀(u v:J4) (C:Bool->J5->Prop),u∈vs->v∈vs->C (LT u v) {s with heap:=h'}->wpAny (model prog w) A (keyLt' κ u v) C (λ_ _=>False) {s with heap:=h'})
  (h:∀us:Ww J4,us.Perm vs->us.Pairwise (λu v=>LT v u=Y)->∀h' c,(∀b o,b≠a->s.heap.get? b=U o->h'.get? b=U o)->h'.get? a=U (seqObj "list" us.toArray c)->P (.done (.ret .none)) {s with heap:=h'}):
  wpAny (model prog w) A (NK.«list.sort» ⟨[.ref a],[]⟩) P E s:=by
 rw[list_sort_plain];refine JY (NR ho rfl (JY (Ni ho rfl ?_ (by assumption) (KA _))))
 obtain⟨e1,g1⟩:∃e1,(s.heap.update a (Kx λ_=>(#[]:Array J4))).get? a=U (seqObj "list" #[] e1):=⟨_,NF ho λ_=>#[]⟩
 refine JY (QB g1 rfl (JY (Pt ?_ hz)))
 refine JY (OH ?_ (KA _))
 refine KB ?_
 let keep:∀b o,b≠a->s.heap.get? b=U o->(((s.heap.update a (Kx λ_=>(#[]:Array J4))).push (seqObj "tuple" vs.toArray 0)).push (seqObj "list" #[] 0)).get? b=U o:=λb o hb e=>
  J0 _ (J0 _ ((Ki s.heap _ (Kt hb)).trans e))
 let g3:(((s.heap.update a (Kx λ_=>(#[]:Array J4))).push (seqObj "tuple" vs.toArray 0)).push (seqObj "list" #[] 0)).get? a=U (seqObj "list" #[] e1):=J0 _ (J0 _ g1)
 generalize hH:(((s.heap.update a (Kx λ_=>(#[]:Array J4))).push (seqObj "tuple" vs.toArray 0)).push (seqObj "list" #[] 0))=H1 at*
 let fin:∀st:K2,((arrOf st).map (·.2)).toList.Perm vs->((arrOf st).map (·.2)).toList.Pairwise (λu v=>LT v u=Y)->failedOf st=B->
   wpAny (model prog w) A (do
    let touched:=(<-seqEpoch a) != e1
    Builtin.List.listUpdate (.ref a) λ_=>(arrOf st).map (·.2)
    if let U e:=failedOf st then rule "list.sort.comparison-raised";throw e
    if touched then rule "list.sort.modified";raiseError "ValueError" "list modified during sort"
    ret .none) P E {s with heap:=H1}:=λst hp hs hf=>by
  rw[hf];refine JY (QB g3 rfl (JY (Ni g3 rfl ?_ (KA _) ?_)))
  ·simp![bne_self_eq_false,Ko,if_false]
   obtain⟨c,g4⟩:∃c,(H1.update a (Kx λ_=>(arrOf st).map (·.2))).get? a=U (seqObj "list" ((arrOf st).map (·.2)) c):=⟨_,NF g3 λ_=>(arrOf st).map (·.2)⟩
   exact JZ (h _ hp hs _ c (λb o hb e=>(Ki H1 _ (Kt hb)).trans (keep b o hb e)) (by assumption))
  ·have:=hp.length_eq;rw[Lo]at this;lia
 let zs:∀l:Ww J4,(l.toArray.zip l.toArray).map (·.2)=l.toArray:=λl=>by
  rw[show l.toArray.zip l.toArray=(l.zip l).toArray by simp];simp[List.map_snd_zip]
 by_cases h2:vs.toArray.size<2
 ·rw[if_pos h2,if_pos h2]
  let e0:(arrOf (La general' (vs.toArray.zip vs.toArray) #[] 7 B)).map (·.2)=vs.toArray:=zs vs
  refine fin (La general' (vs.toArray.zip vs.toArray) #[] 7 B) (by rw[e0]) ?_ rfl
  rw[e0];clear fin hlt hk h ho keep hH g3 g1 e0
  rcases vs with _|⟨v,_|⟨v',r⟩⟩
  ·exact .nil
  ·exact QL _ _
  ·exact absurd h2 (by simp)
 ·rw[if_neg h2,if_neg h2]
  rw[KO]at h2;refine JY (L5 (hk (by lia) H1 keep _ ?_) (λ_ _ q=>q) λ_ _ x=>x.elim)
  let mz:∀x∈vs.toArray.zip vs.toArray,x.1=x.2/\x.1∈vs:=λx hx=>mem_zip_self (by simp_all)
  let sz:(vs.toArray.zip vs.toArray).size=vs.length:=by simp
  let run:=SM.sortRuns_wp (prog:=prog) (w:=w) (A:=A) (E:=E) (s:={s with heap:=H1}) (κ:=κ) (T:=vs.toArray.zip vs.toArray) (g:=7) (LT:=λx y=>LT x.1 y.1) O
   (λx hx y hy C hC=>hlt (by lia) H1 keep x.1 y.1 C (mz x hx).2 (mz y hy).2 hC) (by lia)
   (Q:=λ_ st=>((arrOf st).map (·.2)).toList.Perm vs/\((arrOf st).map (·.2)).toList.Pairwise (λu v=>LT v u=Y)/\failedOf st=B) (λb p g hp hu=>by
    let he:∀x∈b,x.1=x.2:=λx hx=>(mz x (hp.mem_iff.mp hx)).1
    refine⟨?_,?_,rfl⟩
    ·have:=(Array.perm_iff_toList_perm.mp hp).map (·.2)
     simp_all
    ·rw[Array.toList_map,PF]
     let bz:b.size=vs.length:=by rw[hp.size_eq,sz]
     rw[sz,<-bz]at hu;refine(SM.pw_up hu).imp_of_mem λ{x y} hx hy q=>?_
     rw[<-he x (by simp_all),<-he y (by simp_all)];exact q)
  refine JY (L5 run ?_ λ_ _ e=>e)
  rintro⟨⟨⟩,st'⟩ s' ⟨rfl,hp,hs,hf⟩
  exact fin st' hp hs hf
end
def dC (lt:D->D->Wq Bool):Ww D->Ww D->Wq Bool
 |[],[]=>U Y
 |[],_::_=>U V
 |_::_,[]=>U Y
 |x::xs,y::ys=>if x=y then dC lt xs ys else lt x y
def ltD:Nat->D->D->Wq Bool
 |_,.int i,.int j=>U (decide (i<j))
 |_,.str x,.str y=>U (decide (x.cps.toList<y.cps.toList))
 |n+1,.tup xs,.tup ys=>dC (ltD n) xs ys
 |_,_,_=>B
theorem Ef {x y:Kr}(h:x.cps.toList=y.cps.toList):x=y:=by
 let⟨a⟩:=x;simp_all
section
variable{lt:D->D->Wq Bool}
theorem Av (h:∀x y z,lt x y=U V->lt y z=U V->lt x z=U V) (hi:∀x y,lt x y=U V->lt y x≠U V):∀xs ys zs,dC lt xs ys=U V->dC lt ys zs=U V->dC lt xs zs=U V
 |[],[],_,a,_=>by simp[dC]at a
 |[],_::_,[],_,b=>by assumption
 |[],_::_,_::_,_,_=>by rfl
 |_::_,[],_,a,_=>by simp[dC]at a
 |_::_,_::_,[],_,b=>by assumption
 |x::xs,y::ys,z::zs,a,b=>by
  simp![dC]at a b⊢
  by_cases e1:x=y
  ·subst e1
   rw[if_pos rfl]at a
   by_cases e2:x=z
   ·subst e2
    rw[if_pos rfl]at b⊢;exact Av h hi xs ys zs a b
   lia
  grind
theorem Ak (hi:∀x y,lt x y=U V->lt y x≠U V):∀xs ys,dC lt xs ys=U V->dC lt ys xs≠U V
 |[],[],a=>by simp[dC]at a
 |[],_::_,_=>by simp[dC]
 |_::_,[],a=>by simp[dC]at a
 |x::xs,y::ys,a=>by
  simp![dC]at a⊢
  by_cases e1:x=y
  ·subst e1
   rw[if_pos rfl]at a⊢;exact Ak hi xs ys a
  ·rw[if_neg e1]at a
   rw[if_neg (Kt e1)];exact hi _ _ a
theorem u6 (h:∀x y,lt x y=U Y->x=y\/lt y x=U V):∀xs ys,dC lt xs ys=U Y->xs=ys\/dC lt ys xs=U V
 |[],[],_=>.inl rfl
 |[],_::_,a=>by simp[dC]at a
 |_::_,[],_=>.inr (by rfl)
 |x::xs,y::ys,a=>by
  simp![dC]at a⊢
  by_cases e1:x=y
  ·simp_all [if_pos,u6]
  grind
end
def rh {n:Nat}{d e:D}{r:Bool}(h:ltD n d e=U r):(∃i j,d=.int i/\e=.int j/\r=decide (i<j))\/(∃x y,d=.str x/\e=.str y/\r=decide (x.cps.toList<y.cps.toList))\/∃k xs ys,n=k+1/\d=.tup xs/\e=.tup ys/\dC (ltD k) xs ys=U r:=by
 unfold ltD at h;split at h
 ·cases h;exact .inl ⟨_,_,rfl,rfl,rfl⟩
 ·cases h;exact .inr (.inl ⟨_,_,rfl,rfl,rfl⟩)
 ·exact .inr (.inr ⟨_,_,_,rfl,rfl,rfl,h⟩)
 ·cases h
def Iu (n:Nat) (i j:Int):ltD n (.int i) (.int j)=U (decide (i<j)):=by rw[ltD]
def Jg (n:Nat) (x y:Kr):ltD n (.str x) (.str y)=U (decide (x.cps.toList<y.cps.toList)):=by rw[ltD]
theorem rT (n:Nat):∀(x y:D),ltD n x y=U V->ltD n y x≠U V:=by
 induction n using LB with
 |_ n ih=>
  intro x y h
  rcases rh h with⟨i,j,rfl,rfl,e⟩|⟨a,b,rfl,rfl,e⟩|⟨k,xs,ys,rfl,rfl,rfl,e⟩
  ·rw[Iu];simp at e⊢;lia
  ·rw[Jg];exact λq=>List.lt_asymm (of_decide_eq_true e.symm) (of_decide_eq_true (Lv q))
  ·exact Ak (ih k k.lt_succ_self) _ _ e
theorem CT (n:Nat):∀(x y z:D),ltD n x y=U V->ltD n y z=U V->ltD n x z=U V:=by
 induction n using LB with
 |_ n ih=>
  intro x y z h h'
  rcases rh h with⟨i,j,rfl,rfl,e⟩|⟨a,b,rfl,rfl,e⟩|⟨k,xs,ys,rfl,rfl,rfl,e⟩<;>rcases rh h' with⟨_,_,q,rfl,e'⟩|⟨_,_,q,rfl,e'⟩|⟨_,_,_,q',q,rfl,e'⟩<;>cases q
  ·rw[Iu];simp at e e'⊢;lia
  ·rw[Jg];exact congrArg U (decide_eq_true (List.lt_trans (of_decide_eq_true e.symm) (of_decide_eq_true e'.symm)))
  ·cases q';exact Av (ih k k.lt_succ_self) (rT k) _ _ _ e e'
theorem Ar (n:Nat):∀(x y:D),ltD n x y=U Y->x=y\/ltD n y x=U V:=by
 induction n using LB with
 |_ n ih=>
  intro x y h
  rcases rh h with⟨i,j,rfl,rfl,e⟩|⟨a,b,rfl,rfl,e⟩|⟨k,xs,ys,rfl,rfl,rfl,e⟩
  ·rw[Iu];simp at e⊢;lia
  ·rw[Jg];simp![Mc,decide_eq_true_eq,D.str.injEq];let e:=of_decide_eq_false e.symm;grind [Ef,List.le_antisymm]
  ·exact(u6 (ih k k.lt_succ_self) _ _ e).imp (congrArg _) id
def LtAt (A:KH) (s:J5) (y x:J4) (b:Bool):Prop:=
 ∀(prog:Lw) (w:LY) (E:J4->J5->Prop) (Q:J4->J5->Prop),Q (.bool b) s->wpAny (model prog w) A (richCompare .Lt y x) Q E s
inductive LexAt (A:KH) (s:J5):Ww J4->Ww J4->Bool->Prop
 |none:LexAt A s [] [] Y
 |less {w:J4}{ws:Ww J4}:LexAt A s [] (w::ws) V
 |more {v:J4}{vs:Ww J4}:LexAt A s (v::vs) [] Y
 |eq {v w:J4}{vs ws:Ww J4}{b:Bool}:Mj A s v w V->LexAt A s vs ws b->LexAt A s (v::vs) (w::ws) b
 |ne {v w:J4}{vs ws:Ww J4}{b:Bool}:Mj A s v w Y->LtAt A s v w b->LexAt A s (v::vs) (w::ws) b
section
open PySem.SeqAt
open PySem.AutoSeq1 (wpAny_loadPart')
open PySem.MeetsSeq PySem.MeetsSeq2 PySem.MeetsSeq3
def zj (l b:Kp) (items items2:Array J4) (n n2:Nat) (dd dd2:Wq Kp) (sl sl2:Array (Wq J4)) (r:Bool):
  Meets (NK.«tuple.__lt__» ⟨[.ref l,.ref b],[]⟩)
   (λA R s=>s.heap.get? l=U {cls:=.type "tuple",dict:=dd,data:=.seq items n,slots:=sl}/\s.heap.get? b=U {cls:=.type "tuple",dict:=dd2,data:=.seq items2 n2,slots:=sl2}/\
    LexAt A.in1 s items.toList items2.toList r/\R (.ok (.ret (.bool r))) s):=
 .of_wp λprog w A R s h=>by
  let⟨hp,g,d,tk,os⟩:=s;let⟨hl,hb,hx,h⟩:=h;let f2:=P8
  wp_walk using NE hl,NE hb,MB _ (λrest b s'=>b.1=B/\s'=⟨hp,g,d,tk,os⟩/\∃(vs ws:Ww J4),rest=vs.zip ws/\
   LexAt A.in1 ⟨hp,g,d,tk,os⟩ vs ws r/\vs.length+items2.size=ws.length+items.size) _
  case turn=>
   rintro⟨y,x⟩ rest b s' ⟨hb',rfl,vs,ws,hz,hlex,hlen⟩
   cases hlex with
   |none=>trivial
   |less=>trivial
   |more=>trivial
   |eq he ht=>
    injection hz with hyx hrest
    injection hyx with hy hx'
    subst hy hx';simp![Kl]at hlen;refine JY (he prog w _ _ ?_)
    wp_walk
    exact⟨rfl,rfl,_,_,hrest,ht,by lia⟩
   |ne he hlt=>
    injection hz with hyx hrest
    injection hyx with hy hx'
    subst hy hx';refine JY (he prog w _ _ ?_)
    let hri:=hlt prog w
    wp_walk using hri
    exact⟨_,rfl,by simpa using h⟩
  case fin=>
   rintro⟨b1,b2⟩ s' ⟨hb',rfl,vs,ws,hz,hlex,hlen⟩
   subst hb';let hv:r=decide (items.size<items2.size):=by
    cases hlex with
    |none=>simp![LO]at hlen;exact(decide_eq_false (by lia)).symm
    |less=>simp_all
    |more=>simp![LO,Kl]at hlen;exact(decide_eq_false (by lia)).symm
    |eq _ _=>trivial
    |ne _ _=>trivial
   rw[hv]at h
   wp_walk
   exact⟨_,rfl,by assumption⟩
  case h=>exact⟨rfl,rfl,items.toList,items2.toList,rfl,hx,by simp;lia⟩
end
def LtAt.tuples {A:KH}{s:J5}{l b:Kp}{items items2:Array J4}{r:Bool}(hl:s.heap.IsTuple l items) (hb:s.heap.IsTuple b items2) (hu:A.units<cLine) (hx:LexAt A.in1 s items.toList items2.toList r):LtAt A s (.ref l) (.ref b) r:=λprog w E Q h=>by
 let⟨⟨cls,dd,data,sl⟩,ho,hc,n,hd⟩:=id hl;let⟨⟨cls2,dd2,data2,sl2⟩,ho2,hc2,n2,hd2⟩:=id hb;subst hc hd hc2 hd2;exact richCompare_meets_room (op:=.Lt) ⟨_,ho,rfl⟩ ⟨_,ho2,rfl⟩ PySem.F.slot_tuple_lt PySem.F.entry_tuple_lt (PySem.F.args_tuple_lt_2 _ _) (zj l b items items2 n n2 dd dd2 sl sl2 r)
  ⟨ho,ho2,hx,show L7 r≠QW/\Q (.bool r) s from⟨(λx=>nomatch x),h⟩⟩ hu
def leD (x y:D):Prop:=ltD 15 y x≠U V
def AA (x:D):Ww D->Ww D
 |[]=>[x]
 |y::ys=>if ltD 15 y x=U V then y::AA x ys else x::y::ys
def dh (ds:Ww D):Ww D:=ds.foldr AA []
def eG (ds:Ww D):Bool:=ds.all λx=>okD 15 x&&ds.all λy=>(ltD 15 x y).isSome
def gR {ds:Ww D}(h:eG ds=V) {x y:D}(hx:x∈ds) (hy:y∈ds):∃b,ltD 15 x y=U b:=by
 let h1:=qab.mp h x hx;rw[J9]at h1;exact Option.isSome_iff_exists.mp (qab.mp h1.2 y hy)
def eP {ds:Ww D}(h:eG ds=V) {x:D}(hx:x∈ds):okD 15 x=V:=by
 let h1:=qab.mp h x hx;rw[J9]at h1;exact h1.1
theorem kZ (x:D):∀l:Ww D,(AA x l).Perm (x::l)
 |[]=>MI _
 |y::ys=>by
  unfold AA;split
  ·exact((kZ x ys).cons y).trans (PQ x y ys)
  rfl
theorem aH:∀ds:Ww D,(dh ds).Perm ds
 |[]=>MI _
 |d::ds=>by
  exact(kZ d _).trans ((aH ds).cons d)
def C8 {x y z:D}{ds:Ww D}(h:eG ds=V) (hx:x∈ds) (hy:y∈ds) (hz:z∈ds) (a:leD x y) (b:leD y z):leD x z:=by
 intro c;let⟨r1,e1⟩:=gR h hy hx;let⟨r2,e2⟩:=gR h hz hy;cases r1 with
 |true=>exact a e1
 |false=>
  cases r2 with
  |true=>exact b e2
  |false=>
   grind [Ar,rT,CT]
def Di {x y:D}{ds:Ww D}(h:eG ds=V) (hx:x∈ds) (hy:y∈ds) (a:leD x y) (b:leD y x):x=y:=by
 let⟨r1,e1⟩:=gR h hx hy;cases r1 with
 |true=>trivial
 |false=>
  rcases Ar 15 _ _ e1 with q|q
  ·exact q
  trivial
nonrec theorem me {x:D}{ds:Ww D}(h:eG ds=V) (hx:x∈ds):∀l:Ww D,(∀y∈l,y∈ds)->l.Pairwise leD->(AA x l).Pairwise leD
 |[],_,_=>by simp[AA]
 |y::ys,hm,hp=>by
  unfold AA;let⟨h1,h2⟩:=qaj.mp hp;let hy:=hm y Kg;split
  ·rename_i c
   refine qaj.mpr ⟨λz hz=>?_,me h hx ys (λz hz=>hm z (Kb _ hz)) h2⟩
   rcases on.mp ((kZ x ys).mem_iff.mp hz)with q|q
   ·subst q;exact rT 15 _ _ c
   simp_all
  ·rename_i c
   refine qaj.mpr ⟨λz hz=>?_,hp⟩
   rcases on.mp hz with q|q
   ·subst q;exact c
   ·exact C8 h hx hy (hm z hz) c (h1 z q)
def bG {ds:Ww D}(h:eG ds=V):(dh ds).Pairwise leD:=by
 let key:∀l:Ww D,(∀y∈l,y∈ds)->(dh l).Pairwise leD:=by
  intro l
  induction l with
  |nil=>intro _;exact OP
  |cons y l ih=>
   exact λhm=>me h (hm y Kg) _ (λz hz=>hm z (Kb _ ((aH l).mem_iff.mp hz))) (ih λz hz=>hm z (Kb _ hz))
 exact key ds λ_ h=>h
theorem dt {ds:Ww D}(h:eG ds=V):∀(l1 l2:Ww D),(∀y∈l1,y∈ds)->l1.Perm l2->l1.Pairwise leD->l2.Pairwise leD->l1=l2
 |[],l2,_,hp,_,_=>(List.nil_perm.mp hp).symm
 |a::l1,[],_,hp,_,_=>(List.perm_nil.mp hp)
 |a::l1,b::l2,hm,hp,h1,h2=>by
  let⟨p1,q1⟩:=qaj.mp h1;let⟨p2,q2⟩:=qaj.mp h2;let hm2:=λy hy=>hm y (hp.mem_iff.mpr hy)
  let ab:a=b:=by
   let ha:a∈b::l2:=hp.mem_iff.mp Kg;let hb:b∈a::l1:=hp.mem_iff.mpr Kg
   rcases on.mp ha with z|z
   ·exact z
   ·rcases on.mp hb with y|y
    ·exact y.symm
    ·exact Di h (hm a Kg) (hm2 b Kg) (p1 b y) (p2 a z)
  subst ab;rw[dt h l1 l2 (λy hy=>hm y (Kb _ hy)) (List.perm_cons a |>.mp hp) q1 q2]
inductive KD|st|it|ts|tt
def i9:KD->D->Bool
 |.st,.str _=>V
 |.it,.int _=>V
 |.ts,.tup (.str _::_)=>V
 |.tt,.tup (.tup _::_)=>V
 |_,_=>Y
def tm {d:D}(h:i9 .ts d=V):∃x ds,d=.tup (.str x::ds):=by
 unfold i9 at h;split at h<;>simp_all
def tO {d:D}(h:i9 .tt d=V):∃x ds,d=.tup (.tup x::ds):=by
 unfold i9 at h;split at h<;>simp_all
def DV:KD->ND
 |.st=>oneType'
 |.it=>oneType'
 |.ts=>tuples' V
 |.tt=>tuples' Y
section
variable{prog:Lw}{w:LY}{A:KH}{E:J4->J5->Prop}{s:J5}
def ni {b:Bool}{Q:Bool->J5->Prop}{fin:Bool}{r:Bool}:∀{vs ws:Ww J4}{i:Nat},LexAt A s vs ws r->(b=Y\/1<=i)->(fin=decide (vs.length<ws.length))->Q r s->KatLex prog w A b fin Q (vs.zip ws) i s:=by
 intro vs ws i h
 induction h generalizing i with
 |none=>
  intro hb hf q;subst hf
  assumption
 |less=>
  intro hb hf q;subst hf
  assumption
 |more=>
  intro hb hf q;subst hf
  assumption
 |eq he ht ih=>
  intro hb hf q;refine kat_cons (he prog w _ _ (kat_yes ?_))
  exact ih (.inr (by lia)) (by rw[hf];simp) q
 |ne he hl=>
  intro hb hf q;refine kat_cons (he prog w _ _ (kat_no ?_))
  let hz:(b&&i==0)=Y:=by
   rcases hb with z|z
   ·rw[z,Bool.false_and]
   ·lia
  rw[hz];exact kat_one _ _ (hl prog w _ _ q)
end
def Im {ds:Ww D}(h:eG ds=V) {f:J4->D}(hf:ds≠[]->∀u,f u∈ds) (h0:ds=[]->∀u,f u=.non):SM.OrdK λx y=>decide (ltD 15 (f x.1) (f y.1)=U V):=by
 by_cases hn:ds=[]
 ·let e:=h0 hn
  exact⟨λi j q=>by simp[e,ltD],λi j k _ _=>by simp[e,ltD]⟩
 ·exact⟨λi j q=>decide_eq_false (rT 15 _ _ (of_decide_eq_true q)),λi j k a b=>decide_eq_false (C8 h (hf hn _) (hf hn _) (hf hn _) (of_decide_eq_false a) (of_decide_eq_false b))⟩
variable[Md]
section
variable{M:Mp}{s:J5}{m m':Bool}
theorem Ez (H:Hm M s.heap) {n:Nat}{A:KH}(hA:A.units+n+1<cLine) (ih:∀{d e u v r},okD n d=V->okD n e=V->R m M d u->R m' M e v->ltD n d e=U r->LtAt A s u v r):
  ∀{ds es us vs r},ds.all (okD n)=V->es.all (okD n)=V->Rs m M ds us->Rs m' M es vs->dC (ltD n) ds es=U r->LexAt A s us vs r
 |[],[],us,vs,r,hd,he,r1,r2,h=>by cases r1;cases r2;cases h;exact .none
 |[],e::es,us,vs,r,hd,he,r1,r2,h=>by cases r1;let⟨y,t,rfl,_,_⟩:=r2;cases h;exact .less
 |d::ds,[],us,vs,r,hd,he,r1,r2,h=>by cases r2;let⟨y,t,rfl,_,_⟩:=r1;cases h;exact .more
 |d::ds,e::es,us,vs,r,hd,he,r1,r2,h=>by
  let⟨x,xt,rfl,r1a,r1b⟩:=r1;let⟨y,yt,rfl,r2a,r2b⟩:=r2;rw[KG,J9]at hd he;let q:=(CF H n A hd.1 he.1 hA r1a r2a).2.1;simp![dC]at h
  by_cases c:d=e
  ·rw[if_pos c]at h;rw[decide_eq_true c]at q;exact .eq q (Ez H hA ih hd.2 he.2 r1b r2b h)
  ·rw[if_neg c]at h;rw[decide_eq_false c]at q;exact .ne q (ih hd.1 he.1 r1a r2a h)
def JA (H:Hm M s.heap):∀(n:Nat) {d e u v r} (A:KH),okD n d=V->okD n e=V->A.units+n+1<cLine->R m M d u->R m' M e v->ltD n d e=U r->LtAt A s u v r:=by
 intro n
 induction n using LB with
 |ind n ih=>
 intro d e u v r A hd he hA rd re h
 rcases rh h with⟨i,j,rfl,rfl,rfl⟩|⟨i,j,rfl,rfl,rfl⟩|⟨k,ds,es,rfl,rfl,rfl,h⟩
 ·let⟨t,rfl⟩:=rd;let⟨t',rfl⟩:=re
  exact λprog w E Q hq=>(lt_int hq:wpAny (model prog w) A (compareOp .Lt (.int i t) (.int j t')) Q E s)
 ·let⟨t,rfl⟩:=rd;let⟨t',rfl⟩:=re
  exact λprog w E Q hq=>(lt_str hq:wpAny (model prog w) A (compareOp .Lt (.str i t) (.str j t')) Q E s)
 ·let⟨a,o,us,rfl,q1,t1,r1⟩:=rd
  let⟨b,o',vs,rfl,q2,t2,r2⟩:=re;let hA':A.in1.units+k+1<cLine:=by show A.units+1+k+1<cLine;lia
  exact LtAt.tuples (t1.is H q1) (t2.is H q2) (by lia) (by simpa using Ez H hA' (λo1 o2 r1 r2 hl=>ih k (LD k) A.in1 o1 o2 hA' r1 r2 hl) hd he r1 r2 h)
theorem H3 (H:Hm M s.heap) {A:KH}(hA:A.units+20<cLine) {c:KD}{d e:D}{u v:J4}{r:Bool}(hd:okD 15 d=V) (he:okD 15 e=V) (kd:i9 c d=V) (ke:i9 c e=V) (rd:R m M d u) (re:R m' M e v)
  (h:ltD 15 d e=U r) {C:Bool->J5->Prop}(q:C r s):wpAny (model P w) A (keyLt' (DV c) u v) C (λ_ _=>False) s:=by
 let ll:∀{ds es us vs r},ds.all (okD 14)=V->es.all (okD 14)=V->Rs m M ds us->Rs m' M es vs->dC (ltD 14) ds es=U r->LexAt A s us vs r:=λh1 h2 h3 h4 h5=>Ez H (by lia) (λo1 o2 r1 r2 hl=>JA H 14 A o1 o2 (by lia) r1 r2 hl) h1 h2 h3 h4 h5
 cases c with
 |st=>
  cases d<;>simp![i9,Ko]at kd
  cases e<;>simp![i9,Ko]at ke
  let⟨t,rfl⟩:=rd;let⟨t',rfl⟩:=re;simp![ltD,Mc]at h;subst h;exact oneLt_str q
 |it=>
  cases d<;>simp![i9,Ko]at kd
  cases e<;>simp![i9,Ko]at ke
  let⟨t,rfl⟩:=rd;let⟨t',rfl⟩:=re;simp![ltD,Mc]at h;subst h;exact oneLt_int q
 |ts=>
  let⟨i,ds,rfl⟩:=tm kd;let⟨j,es,rfl⟩:=tm ke;let⟨a,o,us,rfl,q1,t1,r1⟩:=rd;let⟨b,o',vs,rfl,q2,t2,r2⟩:=re;let⟨_,g1,c1,n1,d1⟩:=t1.is H q1;let⟨_,g2,c2,n2,d2⟩:=t2.is H q2;refine kat_lt g1 d1 g2 d2 ?_
  let⟨x,xt,rfl,⟨t,rfl⟩,r1b⟩:=r1;let⟨y,yt,rfl,⟨t',rfl⟩,r2b⟩:=r2;simp![okD,KG,J9]at hd he;simp![ltD,dC,D.str.injEq]at h;let q1:=QC (A:=A) (s:=s) i t j t'
  by_cases cij:i=j
  ·subst cij
   rw[if_pos rfl]at h;rw[beq_self_eq_true]at q1;exact kat_cons (q1 _ _ _ _ (kat_yes (ni (ll hd.2 he.2 r1b r2b h) (.inr (Kh _)) (by simp) q)))
  ·rw[if_neg cij]at h
   let eb:(i==j)=Y:=by simpa using cij
   rw[eb]at q1;refine kat_cons (q1 _ _ _ _ (kat_no ?_))
   simp![Mc]at h;subst h;exact oneLt_str q
 |tt=>
  let⟨i,ds,rfl⟩:=tO kd;let⟨j,es,rfl⟩:=tO ke;let⟨a,o,us,rfl,q1,t1,r1⟩:=rd;let⟨b,o',vs,rfl,q2,t2,r2⟩:=re;let⟨_,g1,c1,n1,d1⟩:=t1.is H q1;let⟨_,g2,c2,n2,d2⟩:=t2.is H q2;refine kat_lt g1 d1 g2 d2 ?_
  exact ni (ll (by assumption) (by assumption) r1 r2 h) (.inl rfl) (by simp) q
theorem yD (H:Hm M s.heap) {T:J4->Prop}(hT:∀{d:D},i9 c d=V->∃z es,d=.tup (z::es)/\∀v,R m M z v->T v):∀{ds:Ww D}{us},ds.all (i9 c)=V->Rs m M ds us->∃fs,KatTups s.heap us fs/\fs.length=us.length/\∀f∈fs,T f
 |[],us,_,r=>by cases r;exact⟨[],.nil,rfl,λ_ h=>nomatch h⟩
 |d::ds,us,hk,r=>by
  let⟨x,xt,rfl,ra,rb⟩:=r;rw[KG,J9]at hk;let⟨fs,f1,f2,f3⟩:=yD H hT hk.2 rb;let⟨z,es,rfl,hz⟩:=hT hk.1;let⟨a,o,vs,rfl,q,t,rs⟩:=ra;let⟨_,g1,c1,n1,d1⟩:=t.is H q;let⟨y,yt,rfl,ry,_⟩:=rs;exact⟨y::fs,.cons g1 c1 d1 (by simp) f1,by simp[f2],λf hf=>by
   grind⟩
theorem BN (H:Hm M s.heap) {A:KH}{c:KD}{ds:Ww D}{us:Ww J4}(h2:2<=us.length) (hk:ds.all (i9 c)=V) (r:Rs m M ds us) {Q:ND->J5->Prop}(q:Q (DV c) s):
  wpAny (model P w) A (keyKind' us.toArray) Q (λ_ _=>False) s:=by
 let each:∀u∈us,∃d,i9 c d=V/\R m M d u:=λu hu=>by
  let⟨d,h1,h2⟩:=r.mem hu;exact⟨d,qab.mp hk d h1,h2⟩
 cases c with
 |st=>
  refine kas_kind (T:=.type "str") h2 (λu hu=>?_) (by decide) (by decide) q
  let⟨d,k1,rd⟩:=each u hu;cases d<;>simp![i9,Ko]at k1
  let⟨t,rfl⟩:=rd;exact .now
 |it=>
  refine kas_kind (T:=.type "int") h2 (λu hu=>?_) (by decide) (by decide) q
  let⟨d,k1,rd⟩:=each u hu;cases d<;>simp![i9,Ko]at k1
  let⟨t,rfl⟩:=rd;exact .now
 |ts=>
  let⟨fs,f1,f2,f3⟩:=yD (c:=.ts) (T:=λv=>∃z t,v=.str z t) H (λh=>by let⟨x,ds,rfl⟩:=tm h;exact⟨_,_,rfl,λv ⟨t,e⟩=>⟨x,t,e⟩⟩) hk r
  refine kat_kind (T:=.type "str") f1 (by lia) (λf hf=>?_) (by decide) q
  let⟨z,t,rfl⟩:=f3 f hf;exact .now
 |tt=>
  let⟨fs,f1,f2,f3⟩:=yD (c:=.tt) (T:=λv=>∃b o,v=.ref b/\s.heap.get? b=U o/\o.cls=.type "tuple") H (λh=>by let⟨x,ds,rfl⟩:=tO h;exact⟨_,_,rfl,λv ⟨b,o,vs,e,q,t,_⟩=>⟨b,o,e,q.heap H,t.2.1⟩⟩) hk r
  refine kat_kind (T:=.type "tuple") f1 (by lia) (λf hf=>?_) (by decide) q
  let⟨b,o,rfl,g,hc⟩:=f3 f hf;rw[<-hc];exact(Looks.ld g).andThen .now
set_option tactic.hygienic true in
open Classical in
theorem Gw {ds:Ww D}{us:Ww J4}(r:Rs m M ds us) (hc:eG ds=V):∃f:J4->D,(ds≠[]->∀u,f u∈ds)/\(ds=[]->∀u,f u=.non)/\us.map f=ds/\∀u∈us,R m M (f u) u:=by
 let val:∀d u,d∈ds->R m M d u->(if h:∃d,d∈ds/\R m M d u then h.choose else ds.headD .non)=d:=λd u hd hr=>by
  let h:∃d,d∈ds/\R m M d u:=⟨d,hd,hr⟩;rw[dif_pos h];exact R.inj (eP hc h.choose_spec.1) (eP hc hd) h.choose_spec.2 hr
 refine⟨λu=>if h:∃d,d∈ds/\R m M d u then h.choose else ds.headD .non,λhn u=>?_,λhn u=>?_,?_,λu hu=>?_⟩
 ·dsimp only
  split
  ·rename_i h;exact h.choose_spec.1
  ·cases ds with
   |nil=>exact absurd rfl hn
   |cons d ds=>exact .head _
 ·simp_all
 ·refine Ng λi=>?_
  rw[Ky]
  cases e:ds[i]? with
  |none=>have:=r.length;simp_all
  |some d=>let⟨u,h1,h2⟩:=r.get e;rw[h1,Option.map_some,val d u (Kv e) h2]
 ·let⟨d,h1,h2⟩:=r.mem hu
  dsimp only;rw[val d u h1 h2];exact h2
theorem Hw {f:J4->D}:∀{us:Ww J4},(∀u∈us,R m M (f u) u)->Rs m M (us.map f) us
 |[],_=>rfl
 |u::us,h=>⟨u,us,rfl,h u (.head _),Hw λu hu=>h u (.tail _ hu)⟩
end
def gM (c:KD) (x:Wq D):Wq D:=match x with|some (.lst ds)=>if(eG ds&&(decide (ds.length<2)||ds.all (i9 c)))=V then U (.lst (dh ds)) else B|_=>B
def iN {c:KD}{ds:Ww D}(h2:eG ds=V) (h3:ds.length<2\/ds.all (i9 c)=V):gM c (U (.lst ds))=U (.lst (dh ds)):=by
 unfold gM
 lia
nonrec theorem nS (h:gM c x=U d):∃ds,x=U (.lst ds)/\eG ds=V/\(decide (ds.length<2)||ds.all (i9 c))=V/\d=.lst (dh ds):=by
 unfold gM at h;split at h<;>try cases h
 split at h<;>cases h
 rename_i z;rw[J9]at z;exact⟨_,rfl,z.1,z.2,rfl⟩
section
variable{X:Cx}{M:Mp}{δ:DEnv}{s:J5}{a b:Expr}{fa fb:DEnv->Wq D}{m m':Bool}{p p2 pos pos2:PA}{t u:Bool}{Q:J4->J5->Prop}
def dH {c:KD}{ds:Ww D}{us:Ww J4}(I:Inv X M δ s) (r:Rs Y M ds us) (hz:us.length<=sizeLine) (hc:eG ds=V) (hk:(decide (ds.length<2)||ds.all (i9 c))=V) (q:PostF X M δ (.lst (dh ds)) Q):
  wpAny (model P w) X.A.in1 (do
   let l <-newList us
   let _ <-holding [l] (call (.builtin "list.sort") [l] [])
   ret l) (λfin s'=>∃w,fin=.done (.ret w)/\Q w s') (λ_ _=>False) s:=by
 let⟨f,f1,f0,f2,f3⟩:=Gw r hc;let hl:=r.length;let un:=I.un;let hk':2<=us.length->ds.all (i9 c)=V:=λh=>by
  rw[OR,decide_eq_true_iff]at hk
  rcases hk with z|z
  ·lia
  ·exact z
 refine JY (OH ?_ hz)
 let g0:(s.heap.push (seqObj "list" us.toArray 0)).get? s.heap.objs.size=U (seqObj "list" us.toArray 0):=J7 _ rfl
 let k2:∀b o,s.heap.get? b=U o->b≠s.heap.objs.size/\(s.heap.push (seqObj "list" us.toArray 0)).get? b=U o:=λb o e=>⟨KF (Kc e),J0 _ e⟩
 refine JY (KB (KU slot_list_sort ⟨_,g0,rfl⟩ entry_list_sort ?_ (args_list_sort _)))
 let hA:X.A.in1.in1.units+20<cLine:=by show X.A.units+1+1+20<cLine;lia
 refine Cw (s:={s with heap:=s.heap.push (seqObj "list" us.toArray 0)}) (vs:=us) (κ:=DV c) (LT:=λu v=>decide (ltD 15 (f u) (f v)=U V)) g0 hz (Im hc f1 f0) (λh2 h' kp Q' q'=>?_) (λh2 h' kp u u' C hu hu' hC=>?_) (λus' hp hs h' cc kp g=>?_)
 ·let I1:Inv X M δ {s with heap:=h'}:=I.kp λb o e=>kp b o (k2 b o e).1 (k2 b o e).2
  exact BN I1.heap h2 (hk' h2) r q'
 ·let I1:Inv X M δ {s with heap:=h'}:=I.kp λb o e=>kp b o (k2 b o e).1 (k2 b o e).2
  let m1:f u∈ds:=by rw[<-f2];exact LU hu
  let m2:f u'∈ds:=by rw[<-f2];exact LU hu'
  let⟨rr,er⟩:=gR hc m1 m2;refine H3 I1.heap hA (eP hc m1) (eP hc m2) (qab.mp (hk' h2) _ m1) (qab.mp (hk' h2) _ m2) (f3 u hu) (f3 u' hu') er ?_
  simp_all
 ·let es:us'.map f=dh ds:=by
   let perm:(us'.map f).Perm ds:=by rw[<-f2];exact hp.map f
   refine dt hc _ _ (λy hy=>perm.mem_iff.mp hy) (perm.trans (aH ds).symm) ?_ (bG hc)
   rw[PF];exact hs.imp λq=>of_decide_eq_false q
  let rz:=Hw (us:=us') λu hu=>f3 u (hp.mem_iff.mp hu)
  rw[es]at rz;exact⟨_,rfl,JZ ⟨_,rfl,q _ _ {s with heap:=h'} M Ext.refl (I.kp λb o e=>kp b o (k2 b o e).1 (k2 b o e).2) (I.fresh (Kh _)) g ⟨us',⟨by rw[hp.length_eq];exact hz,cc,rfl⟩,rz⟩⟩⟩
def fy:bootBuiltins "sorted"=U (.builtin "sorted"):=by rfl
def zJ {c:KD}(g:Bn X "sorted") (ha:DE X Y a fa):DF X (.Call (.Name "sorted" p) [a] [] pos) (λδ=>gM c (fa δ)):=⟨rfl,λI e k=>by
 let⟨ds,e1,h1,h2,rfl⟩:=nS e;refine gN g fy ha I e1 λv s1 M1 x1 I1 r=>?_
 let⟨l,o,vs,rfl,q,t,rs⟩:=r;let z:=t.1;refine No Px O6 O7 (Qf _) ?_
 refine JY (m:=checkCount "sorted" 1 1 _) (JZ (JY (collect_list (t.is I1.heap q) ?_ (by lia))))
 refine dH (I1.kp λb o e=>?_) rs (by simpa using z) h1 h2 (PostF.to k x1)
 exact(Ki _ _ (MV (Kc e))).trans (J0 _ e)⟩
end
end L2
namespace L2
open PySem PySem.Spec PyProof.Rows Md
section
variable{prog:Lw}{w:LY}{A:KH}{E:J4->J5->Prop}{s:J5}
def qh {R:O9->J5->Prop}(hh:A.handled=B) {t u:Bool}{z P O c d p q:Kp}{xs ys:Array J4}(ap:Ap z P O c d p q) (hn:min xs.size ys.size<=sizeLine) {lo:Kp}(bl:∀b∈[z,P,O,c,d],lo<=b) (hlo:lo<=s.heap.objs.size)
  (Z:Zp t u s.heap z P O c d p q 0 .none) (hp:SqAt t s.heap p xs) (hq:SqAt u s.heap q ys)
  (hR:∀(h':LF) (tk:Nat) (acc':Array J4) (c':Nat),(∀b o,b∉[z,P,O,c,d]->s.heap.get? b=U o->h'.get? b=U o)->h'.get? s.heap.objs.size=U {cls:=.type "list",dict:=B,data:=.seq acc' c',slots:=#[]}->acc'.size=min xs.size ys.size->Made h' lo xs ys 0 acc'.toList->R (.ok (.ret (.ref s.heap.objs.size))) {s with heap:=h',toks:=tk}):
  codeAny (model prog w) A (.builtin "proto.collect" ⟨[.ref z],[]⟩) R s:=by
 refine KP F.entry_proto_collect ?_
 refine JY (Le ?_)
 refine JZ ⟨Lh F.plain_list_iadd _,KP F.entry_list_iadd ?_⟩
 let g0:(s.heap.push {cls:=.type "list",data:=.seq ([]:Ww J4).toArray}).get? s.heap.objs.size=U {cls:=.type "list",data:=.seq #[]}:=J7 _ rfl
 let up:∀b ob,s.heap.get? b=U ob->(s.heap.push {cls:=.type "list",data:=.seq ([]:Ww J4).toArray}).get? b=U ob:=λb ob e=>J0 _ e
 let lts:∀b∈[z,P,O,c,d],b<s.heap.objs.size:=λb hb=>by
  let⟨zz,pp,⟨a,b',oo⟩,cc,dd⟩:=Z;simp![KI,K4,or_false]at hb
  rcases hb with rfl|rfl|rfl|rfl|rfl
  ·exact Kc zz
  ·exact Kc pp
  ·exact Kc oo
  ·let⟨o,e,_⟩:=cc.obj;exact Kc e
  ·let⟨o,e,_⟩:=dd.obj;exact Kc e
 let lp:p<s.heap.objs.size:=by cases t<;>(let⟨o,e,_⟩:=hp;exact Kc e)
 let lq:q<s.heap.objs.size:=by cases u<;>(let⟨o,e,_⟩:=hq;exact Kc e)
 let⟨zz,pp,⟨a,b',oo⟩,cc,dd⟩:=Z;refine nG (A:=A) (s:={s with heap:=s.heap.push {cls:=.type "list",data:=.seq ([]:Ww J4).toArray}}) hh ap (λhm=>K3 _ (lts _ hm)) (KF lp) (KF lq) hn bl hlo (.ref s.heap.objs.size) ⟨up _ _ zz,up _ _ pp,⟨a,b',up _ _ oo⟩,cc.to λo e=>up _ o e,dd.to λo e=>up _ o e⟩ (hp.to λo e=>up _ o e) (hq.to λo e=>up _ o e) ?_ g0 λs' acc' e' k1 k2 k3 k4 k5=>?_
 ·simp;lia
 ·let⟨h',tk,rfl⟩:=k5
  exact hR h' tk acc' e' (λb ob hb e=>k1 b ob (λhm=>(on.mp hm).elim (λz=>KF (Kc e) z) hb) (up b ob e)) k2 k3 k4
def Bk {Q:Ww J4->J5->Prop}(hh:A.handled=B) {t u:Bool}{z P O c d p q:Kp}{xs ys:Array J4}(ap:Ap z P O c d p q) (hn:min xs.size ys.size<=sizeLine) {lo:Kp}(bl:∀b∈[z,P,O,c,d],lo<=b) (hlo:lo<=s.heap.objs.size)
  (Z:Zp t u s.heap z P O c d p q 0 .none) (hp:SqAt t s.heap p xs) (hq:SqAt u s.heap q ys)
  (hQ:∀(h':LF) (tk:Nat) (acc':Array J4),(∀b o,b∉[z,P,O,c,d]->s.heap.get? b=U o->h'.get? b=U o)->s.heap.objs.size<=h'.objs.size->acc'.size=min xs.size ys.size->Made h' lo xs ys 0 acc'.toList->Q acc'.toList {s with heap:=h',toks:=tk}):
  wpAny (model prog w) A (collect (.ref z)) Q E s:=by
 refine JY (Ps (qh hh ap hn bl hlo Z hp hq λh' tk acc c' kp hS h3 h4=>?_))
 exact JY (O5 hS (JZ (hQ h' tk acc kp (OO (Kc hS)) h3 h4)))
def tv {l:Kp}{vs:Ww J4}{Q:Ww J4->J5->Prop}(hl:s.heap.IsTuple l vs.toArray)
  (h:Q vs {s with heap:=(s.heap.push (seqObj "list" #[] 0)).update s.heap.objs.size (Kx (· ++vs.toArray))}) (hsz:vs.length<=sizeLine):
  wpAny (model prog w) A (collect (.ref l)) Q E s:=by
 let⟨o,ho,hc,n,hd⟩:=id hl;refine JY (Ps (KP entry_proto_collect' ?_))
 refine JY (OH (JZ ⟨Code.quiet_builtin _ (by decide +kernel),KP entry_list_iadd' ?_⟩))
 show wpAny _ _ (MQ (.ref s.heap.objs.size) (.ref l) (.ref s.heap.objs.size)) _ _ {s with heap:=s.heap.push (seqObj "list" #[] 0)}
 let ho':(s.heap.push (seqObj "list" #[] 0)).get? l=U o:=J0 _ ho
 refine JY (Nc (T:="tuple") ⟨o,ho',hc⟩ ?_)
 let ht:(LP "tuple"==LP "tuple")=V:=by rfl
 rw[if_pos (by rw[ht];simp)]
 refine JY (NR ho' hd ?_)
 refine JY (NR (xs:=#[]) (n:=0) (J7 _ rfl) rfl ?_)
 refine JY (Ni (xs:=#[]) (n:=0) (J7 _ rfl) rfl ?_ (KA _) (by simp;lia))
 refine JZ ?_
 refine JY (O5 (NF (J7 _ rfl) _) ?_)
 grind [JZ]
end
def wB:Ww D->Wq (Ww Int)
 |[]=>U []
 |.int i::ds=>(match wB ds with|some l=>U (i::l)|none=>B)
 |_=>B
nonrec theorem n9:∀{ds} {ns:Ww Int},wB ds=U ns->ds=ns.map D.int
 |[],ns,h=>by cases h;rfl
 |d::ds,ns,h=>by
  cases d<;>simp![wB]at h<;>try cases h
  split at h<;>cases h
  rename_i q;rw[n9 q];rfl
section
variable{prog:Lw}{w:LY}{A:KH}{R:O9->J5->Prop}{I:Kp}{fp wr:Ww Kp}{n:Nat}{P:Nat->J4->Prop}{St:Nat->LF->Prop}{kw:Ww (Kr×J4)}
theorem Bb (W:Qg prog w A.in1 I fp wr n P St) (bt:Nat->Nat->Bool) (hcmp:CmpOf prog w A.in1 .Gt P bt) (S:Kp) (hSf:S∉fp):
  ∀(k j:Nat) (s:J5) (vb:J4) (c:Nat),n - (j+1)=k->j+1<=n->St (j+1) s.heap->P (argBest bt j) vb->
  s.heap.get? S=U {cls:=.type "list",dict:=B,data:=.seq #[vb,vb] c,slots:=#[]}->
  (∀v h' tk,P (argBest bt (n - 1)) v->(∀b o,b∉wr->b≠S->s.heap.get? b=U o->h'.get? b=U o)->R (.ok (.ret v)) {s with heap:=h',toks:=tk})->
  codeAny (model prog w) A (.builtin "max.loop" ⟨[.ref I,.none,.ref S],kw⟩) R s:=by
 let hSw:=λh=>hSf (W.sub _ h)
 let hname:(toString "max"++toString ".loop":String)="max.loop":=by decide
 intro k
 induction k with
 |zero=>
  intro j s vb c hk hj hst hPb hS hR;let hin:j+1=n:=by lia
  refine KP Ot ?_
  refine JY (K9 hS rfl ?_)
  refine JY (Mm (W.done s _ _ (hin▸hst) λh' tk hk'=>?_))
  let hS':=hk' S _ hSw hS;refine JY ?_
  refine Lu hS' rfl (JY (Mo (JZ ?_)))
  refine hR vb _ tk (by rw[<-hin];exact hPb) λb o hbw hbS e=>(Ki _ _ (Kt hbS)).trans (hk' b o hbw e)
 |succ k ih=>
  intro j s vb c hk hj hst hPb hS hR;let hlt:j+1<n:=by lia
  refine KP Ot ?_
  refine JY (K9 hS rfl ?_)
  refine JY (Mm (W.item (j+1) s _ _ hlt hst λv h' tk hP hst' hk'=>?_))
  let hS':=hk' S _ hSw hS;show wpAny _ A.in1 (tryCatch (holding [v,v] (richCompare .Gt v vb >>= _)) _ >>= _) _ _ _;refine JY (Mm (KB (JY (hcmp (j+1) (argBest bt j) v vb _ _ _ hP hPb ?_))))
  refine JY (KB (KR ?_))
  refine JY (Mo (JZ ?_))
  cases hb:bt (j+1) (argBest bt j)with
  |true=>
   refine JY ?_
   refine Lu hS' rfl (JY (Mo ?_))
   refine JZ ⟨Lh NB _,ih (j+1) _ v _ (by lia) hlt (W.frame _ _ _ hst' λb hbf o e=>?_) (by simp![argBest,hb,if_true];exact hP) (Ku _ hS' rfl)
    λv' h'' tk'' hP' hk''=>?_⟩
   ·exact(Ki _ _ (λh:S=b=>hSf (by rw[h];exact hbf))).trans e
   ·exact hR v' h'' tk'' hP' λb o hbw hbS e=>hk'' b o hbw hbS ((Ki _ _ (Kt hbS)).trans (hk' b o hbw e))
  |false=>
   refine JY (Mo ?_)
   refine JZ ⟨Lh NB _,ih (j+1) _ vb c (by lia) hlt hst' (by simp![argBest,hb,Ko,if_false];exact hPb) hS' λv' h'' tk'' hP' hk''=>?_⟩
   exact hR v' h'' tk'' hP' λb o hbw hbS e=>hk'' b o hbw hbS (hk' b o hbw e)
def Az (W:Qg prog w A.in1 I fp wr n P St) (bt:Nat->Nat->Bool) (hcmp:CmpOf prog w A.in1 .Gt P bt) (S:Kp) (hSf:S∉fp) {x:Kr}{d:J4}{s:J5}{c:Nat}(hst:St 0 s.heap)
  (hS:s.heap.get? S=U {cls:=.type "list",dict:=B,data:=.seq #[] c,slots:=#[]})
  (hR:∀v h' tk,(n=0/\v=d\/0<n/\P (argBest bt (n - 1)) v)->(∀b o,b∉wr->b≠S->s.heap.get? b=U o->h'.get? b=U o)->R (.ok (.ret v)) {s with heap:=h',toks:=tk}):
  codeAny (model prog w) A (.builtin "max.loop" ⟨[.ref I,.none,.ref S],[(x,d)]⟩) R s:=by
 let hSw:=λh=>hSf (W.sub _ h)
 let hname:(toString "max"++toString ".loop":String)="max.loop":=by decide
 refine KP Ot ?_
 refine JY (K9 hS rfl ?_)
 by_cases hn:0<n
 ·refine JY (Mm (W.item 0 s _ _ hn hst λv h' tk hP hst' hk'=>?_))
  let hS':=hk' S _ hSw hS;show wpAny _ A.in1 (updateSeq S (λ_=>#[v,v]) >>= _) _ _ _
  refine JY ?_
  refine Lu hS' rfl ?_
  refine JZ ⟨Lh NB _,Bb W bt hcmp S hSf _ 0 _ v _ rfl hn (W.frame _ _ _ hst' λb hbf o e=>?_) hP (Ku _ hS' rfl) λv' h'' tk'' hP' hk''=>?_⟩
  ·exact(Ki _ _ (λh:S=b=>hSf (by rw[h];exact hbf))).trans e
  ·exact hR v' h'' tk'' (.inr ⟨hn,hP'⟩) λb o hbw hbS e=>hk'' b o hbw hbS ((Ki _ _ (Kt hbS)).trans (hk' b o hbw e))
 ·let h0:n=0:=by lia
  refine JY (Mm (W.done s _ _ (h0▸hst) λh' tk hk'=>?_))
  exact JY (LA (JZ (hR d h' tk (.inl ⟨h0,rfl⟩) λb o hbw _ e=>hk' b o hbw e)))
end
def yg (a v:J4):argsOk "max" ⟨[a],[(Lb "default",v)]⟩:=by rfl
section
variable{prog:Lw}{w:LY}{A:KH}{E:J4->J5->Prop}{s:J5}
def zn {x d:J4}{Q:J4->J5->Prop}
  (h:wpAny (model prog w) A.in1 (pyIter x) (λit s₂=>∃I fp wr n P St bt,it=.ref I/\Qg prog w A.in1 I fp wr n P St/\St 0 s₂.heap/\(∀b∈fp,b<s₂.heap.objs.size)/\CmpOf prog w A.in1 .Gt P bt/\
   ∀v h' tk,(n=0/\v=d\/0<n/\P (argBest bt (n - 1)) v)->(∀b o,b∉wr->s₂.heap.get? b=U o->h'.get? b=U o)->Q v {s₂ with heap:=h',toks:=tk}) E s):
  wpAny (model prog w) A (call (.builtin "max") [x] [(Lb "default",d)]) Q E s:=by
 refine kmb_tree PySem.F.kind_max PySem.F.plain_max PySem.F.entry_max (yg _ _) ?_
 refine JY (N4 (show OX "max" ["key","default"] 0 ⟨[],[(Lb "default",d)]⟩=pure [B,U d] from rfl) ?_)
 refine JY (JZ ?_)
 refine JY (L5 h (λit s₂ h₂=>?_) λ_ _ e=>e)
 let⟨I,fp,wr,n,P,St,bt,rfl,W,hst,hfp,hcmp,hQ⟩:=h₂;refine JY (Le ?_)
 let hSf:=λhm=>K3 _ (hfp _ hm)
 refine JZ ⟨Lh NB _,Az W bt hcmp s₂.heap.objs.size hSf (W.frame _ _ _ hst λb _ o e=>J0 _ e) (J7 _ rfl) λv h' tk hP hk=>?_⟩
 exact hQ v h' tk hP λb o hbw e=>hk b o hbw (KF (Kc e)) (J0 _ e)
end
def lT (ns:Ww Int):Int:=ns.getD (argBest (λi j=>decide (ns.getD i 0>ns.getD j 0)) (ns.length - 1)) 0
def mX (x y:Wq D):Wq D:=match x,y with
 |some (.lst ds),U (.int d)=>(match wB ds with|some ns=>U (.int (if ns=[] then d else lT ns))|none=>B)
 |_,_=>B
nonrec theorem nU {x y:Wq D}{d:D}(h:mX x y=U d):∃(ns:Ww Int) (i:Int),x=U (.lst (ns.map D.int))/\y=U (.int i)/\d=.int (if ns=[] then i else lT ns):=by
 unfold mX at h;split at h
 ·split at h
  ·rename_i q
   obtain rfl:=Lv h;obtain rfl:=n9 q;exact⟨_,_,rfl,rfl,rfl⟩
  ·contradiction
 ·contradiction
theorem jr (bt:Nat->Nat->Bool):∀k,argBest bt k<=k
 |0=>Kh _
 |k+1=>by
  unfold argBest;split
  ·exact Kh _
  ·exact Nh (jr bt k)
def C5:bootBuiltins "max"=U (.builtin "max"):=by rfl
def GR:bootBuiltins "min"=U (.builtin "min"):=by rfl
section
variable{prog:Lw}{w:LY}{A:KH}{R:O9->J5->Prop}{I:Kp}{fp wr:Ww Kp}{n:Nat}{P:Nat->J4->Prop}{St:Nat->LF->Prop}{s0:J5}{S:Kp}{bt:Nat->Nat->Bool}
abbrev uN (wr:Ww Kp) (S:Kp) (h0 h:LF):Prop:=∀b o,b∉wr->b≠S->h0.get? b=U o->h.get? b=U o
theorem BC (W:Qg prog w A.in1 I fp wr n P St) (hcmp:∀i j vi vj h tk,uN wr S s0.heap h->P i vi->P j vj->LtAt A.in1 {s0 with heap:=h,toks:=tk} vi vj (bt i j)) (hSf:S∉fp):
  ∀(k j:Nat) (h:LF) (tk:Nat) (vb:J4) (c:Nat),uN wr S s0.heap h->n - (j+1)=k->j+1<=n->St (j+1) h->P (argBest bt j) vb->
  h.get? S=U {cls:=.type "list",dict:=B,data:=.seq #[vb,vb] c,slots:=#[]}->
  (∀v h' tk,P (argBest bt (n - 1)) v->uN wr S s0.heap h'->R (.ok (.ret v)) {s0 with heap:=h',toks:=tk})->
  codeAny (model prog w) A (.builtin "min.loop" ⟨[.ref I,.none,.ref S],[]⟩) R {s0 with heap:=h,toks:=tk}:=by
 let hSw:=λh=>hSf (W.sub _ h)
 let hname:(toString "min"++toString ".loop":String)="min.loop":=by decide
 intro k
 induction k with
 |zero=>
  intro j h tk vb c h0s hk hj hst hPb hS hR;let hin:j+1=n:=by lia
  refine KP Os ?_
  refine JY (K9 hS rfl ?_)
  refine JY (Mm (W.done _ _ _ (hin▸hst) λh' tk' hk'=>?_))
  let hS':=hk' S _ hSw hS;refine JY ?_
  refine Lu hS' rfl (JY (Mo (JZ ?_)))
  exact hR vb _ _ (by rw[<-hin];exact hPb) λb o hbw hbS e=>(Ki _ _ (Kt hbS)).trans (hk' b o hbw (h0s b o hbw hbS e))
 |succ k ih=>
  intro j h tk vb c h0s hk hj hst hPb hS hR;let hlt:j+1<n:=by lia
  refine KP Os ?_
  refine JY (K9 hS rfl ?_)
  refine JY (Mm (W.item (j+1) _ _ _ hlt hst λv h' tk' hP hst' hk'=>?_))
  let hS':=hk' S _ hSw hS;let h0':=λb o hbw hbS e=>hk' b o hbw (h0s b o hbw hbS e)
  show wpAny _ A.in1 (tryCatch (holding [v,v] (richCompare .Lt v vb >>= _)) _ >>= _) _ _ _;refine JY (Mm (KB (JY (hcmp (j+1) (argBest bt j) v vb _ _ h0' hP hPb _ _ _ _ ?_))))
  refine JY (KB (KR ?_))
  refine JY (Mo (JZ ?_))
  cases hb:bt (j+1) (argBest bt j)with
  |true=>
   refine JY ?_
   refine Lu hS' rfl (JY (Mo ?_))
   refine JZ ⟨Lh NA _,ih (j+1) _ _ v _ (λb o hbw hbS e=>(Ki _ _ (Kt hbS)).trans (h0' b o hbw hbS e)) (by lia) hlt (W.frame _ _ _ hst' λb hbf o e=>?_) (by simp![argBest,hb,if_true];exact hP) (Ku _ hS' rfl) hR⟩
   exact(Ki _ _ (λh:S=b=>hSf (by rw[h];exact hbf))).trans e
  |false=>
   refine JY (Mo ?_)
   exact JZ ⟨Lh NA _,ih (j+1) _ _ vb c h0' (by lia) hlt hst' (by simp![argBest,hb,Ko,if_false];exact hPb) hS' hR⟩
def ze (W:Qg prog w A.in1 I fp wr n P St) (hcmp:∀i j vi vj h tk,uN wr S s0.heap h->P i vi->P j vj->LtAt A.in1 {s0 with heap:=h,toks:=tk} vi vj (bt i j)) (hSf:S∉fp) (hn:0<n) {h:LF}{tk:Nat}{c:Nat}(h0s:uN wr S s0.heap h) (hst:St 0 h)
  (hS:h.get? S=U {cls:=.type "list",dict:=B,data:=.seq #[] c,slots:=#[]})
  (hR:∀v h' tk,P (argBest bt (n - 1)) v->uN wr S s0.heap h'->R (.ok (.ret v)) {s0 with heap:=h',toks:=tk}):
  codeAny (model prog w) A (.builtin "min.loop" ⟨[.ref I,.none,.ref S],[]⟩) R {s0 with heap:=h,toks:=tk}:=by
 let hSw:=λh=>hSf (W.sub _ h)
 let hname:(toString "min"++toString ".loop":String)="min.loop":=by decide
 refine KP Os ?_
 refine JY (K9 hS rfl ?_)
 refine JY (Mm (W.item 0 _ _ _ hn hst λv h' tk' hP hst' hk'=>?_))
 let hS':=hk' S _ hSw hS;show wpAny _ A.in1 (updateSeq S (λ_=>#[v,v]) >>= _) _ _ _
 refine JY ?_
 refine Lu hS' rfl ?_
 refine JZ ⟨Lh NA _,BC W hcmp hSf _ 0 _ _ v _ (λb o hbw hbS e=>(Ki _ _ (Kt hbS)).trans (hk' b o hbw (h0s b o hbw hbS e))) rfl hn (W.frame _ _ _ hst' λb hbf o e=>?_) hP (Ku _ hS' rfl) hR⟩
 exact(Ki _ _ (λh:S=b=>hSf (by rw[h];exact hbf))).trans e
end
def btD (ds:Ww D) (i j:Nat):Bool:=decide (ltD 15 (ds.getD i .non) (ds.getD j .non)=U V)
abbrev wu (ds:Ww D):Nat:=argBest (btD ds) (ds.length - 1)
def GD (x:Wq D):Wq D:=match x with|some (.lst ds)=>if(eG ds&&decide (0<ds.length))=V then ds[wu ds]? else B|_=>B
variable[Md]
theorem Rs.ints:∀{ns:Ww Int}{vs},Rs m M (ns.map D.int) vs->∀i v,vs[i]?=U v->∃t,v=.int (ns.getD i 0) t/\i<ns.length
 |[],_,h,i,v,e=>by cases h;simp at e
 |n::ns,_,⟨x,r,rfl,⟨t,e⟩,h2⟩,0,v,e1=>by simp at e1;subst e1;exact⟨t,e,by simp⟩
 |n::ns,_,⟨x,r,rfl,_,h2⟩,i+1,v,e1=>by simpa using Rs.ints h2 i v (by trivial)
def lV (c:KD) (x:Wq D):Wq D:=match x with|some (.tup ds)=>if(eG ds&&(decide (ds.length<2)||ds.all (i9 c)))=V then U (.lst (dh ds)) else B|_=>B
section
variable{X:Cx}{M:Mp}{δ:DEnv}{s:J5}{a b:Expr}{fa fb:DEnv->Wq D}{m m' mm:Bool}{p p2 pos pos2 kp:PA}{t u:Bool}{Q:J4->J5->Prop}
def wG {c:KD}(t u:Bool) (gl:Bn X "sorted") (g:Bn X "zip") (h:DE X Y a fa) (h':DE X Y b fb):DF X (.Call (.Name "sorted" p) [.Call (.Name "zip" p2) [a,b] [] pos2] [] pos) (λδ=>gM c (qw t u (fa δ) (fb δ))):=⟨rfl,λI e k=>by
 let⟨ds,e1,h1,h2,rfl⟩:=nS e;let⟨ls,e0,hl,z⟩:=ny e1;cases z;refine Lx (I.bltn gl fy (LL ?_ rfl rfl))
 refine KZ (xK g h h' I e0 λz Pr O c d p q o1 o2 xs ys ds es h' s1 M1 e x1 I1 ap Z hi kk q1 t1 r1 q2 t2 r2=>LH ?_)
 subst e;let hsz:=Kf (hi z (by simp)) (OO (Kc Z.zz))
 let l1:=r1.length;let l2:=r2.length;rw[iG]at hl;let hl':=ax hl;refine No Px O6 O7 (Qf _) ?_
 refine JY (m:=checkCount "sorted" 1 1 _) (JZ (JY (Bk (A:=X.A.in1) (s:={s1 with heap:=h'}) I.ok.room.hd ap (by simp;lia) (lo:=s1.heap.objs.size) hi hsz Z ((t1.at (q1.heap I1.heap)).to λo e=>kk _ o e) ((t2.at (q2.heap I1.heap)).to λo e=>kk _ o e) λg2 tk acc k1 k2 k3 k4=>?_)))
 let I2:Inv X M1 _ {s1 with heap:=g2,toks:=tk}:=I1.kp λb o e=>k1 b o (λhm=>absurd (MW (Kc e) (hi b hm)) (K3 _)) (kk b o e)
 let⟨M3,x3,I3,n3,r3⟩:=ya (s:={s1 with heap:=g2,toks:=tk}) (is:=xs) (js:=ys) acc.toList 0 M1 ds es I2 k4 (λT hT=>by let⟨T',e,_,lo⟩:=k4.lt _ hT;cases e;exact I1.fresh lo) r1 r2 (by simp_all)
 exact dH I3 r3 (by simp at k3⊢;lia) h1 h2 (PostF.to k (x1.trans x3))⟩
nonrec theorem tZ {c:KD}(g:Bn X "sorted") (ha:DE X Y a fa):DF X (.Call (.Name "sorted" p) [a] [] pos) (λδ=>lV c (fa δ)):=⟨rfl,λ{M δ s d Q} I e k=>by
 unfold lV at e;split at e<;>try cases e
 split at e<;>cases e
 rename_i ds e1 hc;rw[J9]at hc;refine gN g fy ha I e1 λv s1 M1 x1 I1 r=>?_
 let⟨l,o,vs,rfl,q,t,rs⟩:=r;let z:=t.1;refine No Px O6 O7 (Qf _) ?_
 refine JY (m:=checkCount "sorted" 1 1 _) (JZ (JY (tv (t.is I1.heap q) ?_ (by lia))))
 refine dH (I1.kp λb o e=>?_) rs (by simpa using z) hc.1 hc.2 (PostF.to k x1)
 exact(Ki _ _ (MV (Kc e))).trans (J0 _ e)⟩
def FP (g:Bn X "max") (ha:DE X m a fa) (hb:DE X m' b fb):DE X mm (.Call (.Name "max" p) [a] [⟨U "default",b,kp⟩] pos) (λδ=>mX (fa δ) (fb δ)):=⟨rfl,λ{M δ s d Q} I e k=>by
 let⟨ns,i,hfa,hfb,rfl⟩:=nU e;refine Lx (I.bltn g C5 (callWith_kw ((aX ha cW).ev I (ds:=[.lst (ns.map D.int)]) (by rw[hfa];rfl) (λvs s1 M1 x1 I1 r=>?_) pos) ?_ ?_ rfl rfl))
 ·let⟨v,rfl,r1⟩:=r.is1
  refine JY (JY (hb.ev I1 hfb λu s2 M2 x2 I2 r2=>JY (PT (JZ ?_))))
  refine JY (KB (JZ (JZ ?_)))
  let⟨l,o,vs,rfl,q,t,rs⟩:=r1.up x2;let pl:=t.is I2.heap q;let hlen:=rs.length;rw[J8]at hlen;let hlt:=Kc (q.heap I2.heap);refine zn (L4 pl ⟨s2.heap.objs.size,_,_,vs.toArray.size,_,_,λi j=>decide (ns.getD i 0>ns.getD j 0),rfl,Pe (A:=X.A.in1) I.ok.room.hd s2.heap.objs.size l (KF hlt) vs.toArray,⟨⟨_,J7 _ rfl,rfl,rfl⟩,pl.push _⟩,λb hb=>?_,CmpOf.ints_gt (λi=>ns.getD i 0) λi v hi=>?_,λv h' tk hv' hk=>?_⟩)
  ·simp at hb;simp;lia
  ·let⟨t,e,_⟩:=rs.ints i v (by simpa using hi);exact⟨t,e⟩
  ·refine k _ {s2 with heap:=h',toks:=tk} _ (x1.trans x2) (I2.kp (zC hk)) ?_
   rcases hv' with⟨h0,rfl⟩|⟨h0,hP⟩
   ·obtain rfl:ns=[]:=qam.mp (by simp_all)
    exact r2
   ·let⟨t,e,hl⟩:=rs.ints _ v (by rw[<-Mx];exact hP)
    let hn:0<ns.length:=by lia
    rw[if_neg (qag.mp hn)];refine⟨t,?_⟩
    rw[e];unfold lT;rw[KO,<-hlen]
 ·rw[aU ha.pl];rfl
 ·rw[aU ha.pl];rfl⟩
nonrec theorem Hz (g:Bn X "min") (ha:DE X m a fa):DE X m (.Call (.Name "min" p) [a] [] pos) (λδ=>GD (fa δ)):=⟨rfl,λ{M δ s d Q} I e k=>by
 unfold GD at e;split at e<;>try cases e
 split at e<;>try cases e
 rename_i ds e1 hc;rw[J9,decide_eq_true_eq]at hc;refine gN g GR ha I e1 λv s1 M1 x1 I1 r=>?_
 let⟨l,o,vs,rfl,q,t,rs⟩:=r;let pl:=t.is I1.heap q;let hlen:=rs.length;let un:=I1.un;let hlt:=Kc (q.heap I1.heap);let hname:(toString "min"++toString ".loop":String)="min.loop":=by decide
 refine call_function_tree PySem.F.kind_min PySem.F.plain_min PySem.F.entry_min (PySem.F.args_min1 _) ?_
 refine JY (N4 (show OX "min" ["key","default"] 0 ⟨[],[]⟩=pure [B,B] from rfl) ?_)
 refine JY (JZ (JY (L4 pl (JY (Le ?_)))))
 let W:=Pe (prog:=P) (w:=w) (A:=X.A.in1) I.ok.room.hd s1.heap.objs.size l (KF hlt) vs.toArray;let it:∀{i:Nat}{v:J4},vs.toArray[i]?=U v->∃d,ds[i]?=U d/\d∈ds/\R m M1 d v:=λ{i v} hv=>by
  let hv':vs[i]?=U v:=by simpa using hv
  let hi:i<ds.length:=by have:=(List.getElem?_eq_some_iff.mp hv').1;lia
  let⟨v',h1,h2⟩:=rs.get (i:=i) (d:=ds[i]) (by simp[hi])
  rw[hv']at h1;cases h1;exact⟨_,by simp[hi],LC hi,h2⟩
 let kp:∀{h:LF}{tk:Nat}{ob:PC},uN [s1.heap.objs.size] (s1.heap.push ob).objs.size s1.heap h->Inv X M1 δ {s1 with heap:=h,toks:=tk}:=λ{h tk ob} hst=>I1.kp λb o e=>hst b o (λz=>by rw[qaa.mp z]at e;exact absurd (Kc e) (K3 _)) (λz=>by have:=Kc e;rw[z,Lz]at this;lia) e
 refine JZ ⟨Lh NA _,ze (s0:=s1) (bt:=btD ds) W (λi j vi vj h tk hst hi hj=>?_) (λhm=>?_) (by simp;lia) (λb o _ _ e=>?_) ⟨⟨_,J0 _ (J7 _ rfl),rfl,rfl⟩,(pl.push _).push _⟩ (J7 _ rfl) λv h' tk hP hst=>?_⟩
 ·let⟨di,hdi,mi,pi⟩:=it hi
  let⟨dj,hdj,mj,pj⟩:=it hj;let⟨bb,hbb⟩:=gR hc.1 mi mj;have:btD ds i j=bb:=by
   unfold btD;rw[Lk,Lk,hdi,hdj]
   simp![PB,hbb];cases bb<;>rfl
  rw[this];exact JA (s:={s1 with heap:=h,toks:=tk}) (kp (tk:=tk) hst).heap 15 X.A.in1 (eP hc.1 mi) (eP hc.1 mj) (show X.A.units+1+15+1<cLine by lia) pi pj hbb
 ·simp at hm;lia
 ·exact J0 _ (J0 _ e)
 ·rw[KO,<-hlen]at hP
  let⟨d',h1,_,h2⟩:=it hP;rw[h1]at e;cases e;exact k _ _ _ x1 (kp hst) h2⟩
end
end L2
namespace L2
open PySem PySem.Spec PyProof.Rows PySem.W Md
def FW {α:Type}(lt:Nat->Nat->Bool):KasT α->α
 |.ret a=>a
 |.ask i j k=>FW lt (k (lt i j))
def Ee (n:Nat):KasT (Array Nat)->Bool
 |.ret a=>a.toList.isPerm (K1 n)
 |.ask i j k=>decide (i<n)&&decide (j<n)&&(Ee n (k V)&&Ee n (k Y))
theorem lQ {n:Nat}(lt:Nat->Nat->Bool):∀t:KasT (Array Nat),Ee n t=V->(FW lt t).toList.Perm (K1 n)
 |.ret a,h=>qay.mp h
 |.ask i j k,h=>by
  simp![Ee,J9]at h;unfold FW;cases lt i j with
  |true=>exact lQ lt _ h.2.1
  |false=>exact lQ lt _ h.2.2
theorem CV {n:Nat}{lt:Nat->Nat->Bool}{cmp:Nat->Nat->(Bool->J5->Prop)->J5->Prop}{Q:Array Nat->J5->Prop}{s:J5}(hc:∀i j C,i<n->j<n->C (lt i j) s->cmp i j C s):∀t:KasT (Array Nat),Ee n t=V->Q (FW lt t) s->t.kasWp cmp Q s
 |.ret a,_,h=>h
 |.ask i j k,h,h'=>by
  simp![Ee,J9,decide_eq_true_eq]at h;refine hc i j _ h.1.1 h.1.2 (CV hc (k (lt i j)) ?_ h')
  cases lt i j with
  |true=>exact h.2.1
  |false=>exact h.2.2
theorem vN:∀{n:Nat},n<5->Ee n (kas_sort n)=V
 |0,_=>by kernel_rfl
 |1,_=>by kernel_rfl
 |2,_=>by kernel_rfl
 |3,_=>by kernel_rfl
 |4,_=>by kernel_rfl
 |n+5,h=>absurd h (by lia)
def ltK (ks:Ww Int) (i j:Nat):Bool:=decide (ks.getD i 0<ks.getD j 0)
def sO (ks:Ww Int):Ww Nat:=if ks.length<2 then K1 ks.length else(FW (ltK ks) (kas_sort ks.length)).toList
def iV {ks:Ww Int}(h:ks.length<5):(sO ks).Perm (K1 ks.length):=by
 unfold sO;split
 ·rfl
 ·exact lQ _ _ (vN h)
def dU (vs:Ww J4) (p:Ww Nat):Ww J4:=p.map λi=>vs.getD i L6
theorem fu:∀{us:Ww J4}{ks:Ww Int}{i:Nat},IntsAre us ks->i<us.length->∃t,us.getD i L6=.int (ks.getD i 0) t
 |_,_,i,.nil,h=>by simp at h
 |_,_,0,.cons n t h,_=>⟨t,rfl⟩
 |_,_,i+1,.cons n t h,hi=>by simpa using fu (i:=i) h (by simp_all)
def lu (fk:D->Wq D):Ww D->Wq (Ww Int)
 |[]=>U []
 |d::ds=>match fk d,lu fk ds with|some (.int i),U l=>U (i::l)|_,_=>B
nonrec theorem qD {fk:D->Wq D}:∀{ds:Ww D}{ks:Ww Int},lu fk ds=U ks->ds.length=ks.length
 |[],ks,h=>by simp![lu,Mc]at h;subst h;rfl
 |d::ds,ks,h=>by
  simp![lu]at h;split at h
  ·rename_i i l q1 q2
   obtain rfl:=Lv h;simp[qD q2]
  ·contradiction
nonrec theorem qE {fk:D->Wq D}:∀{ds:Ww D}{ks:Ww Int}{i:Nat}{d:D}{k:Int},lu fk ds=U ks->ds[i]?=U d->ks[i]?=U k->fk d=U (.int k)
 |[],ks,i,d,k,h,hd,hk=>by simp at hd
 |d'::ds,ks,i,d,k,h,hd,hk=>by
  simp![lu]at h;split at h
  ·rename_i i' l q1 q2
   obtain rfl:=Lv h;cases i with
   |zero=>simp_all
   |succ i=>simp at hd hk;exact qE q2 hd hk
  ·contradiction
def qU (ds:Ww D) (ks:Ww Int):Ww D:=(sO ks).map λi=>ds.getD i .non
def kH (x:Wq D) (fk:D->Wq D):Wq D:=match x with
 |some (.lst ds)=>if ds.length<5 then(match lu fk ds with|some ks=>U (.lst (qU ds ks))|none=>B) else B
 |_=>B
nonrec theorem uI {x:Wq D}{fk:D->Wq D}{d:D}(h:kH x fk=U d):∃ds ks,x=U (.lst ds)/\ds.length<5/\lu fk ds=U ks/\d=.lst (qU ds ks):=by
 unfold kH at h;split at h
 ·rename_i ds
  split at h
  ·rename_i hl
   split at h
   ·rename_i ks q;obtain rfl:=Lv h;exact⟨ds,ks,rfl,hl,q,rfl⟩
   ·contradiction
  ·contradiction
 ·contradiction
nonrec theorem wC {pos pos':PA}{cv c:J4}(l:Ww J4) (ht:TriplesOk l) (h:codeAmong pos' (l++[rawInt pos.line,rawInt pos.col,c])=U cv):codeAmong pos' l=U cv\/cv=c:=by
 fun_induction TriplesOk l with
 |case1=>
  simp_all [MX,rawInt,codeAmong]
 |case2 a t b u x rest ih=>
  simp![qaz,codeAmong]at h⊢;split at h
  ·rename_i hc;rw[if_pos hc];exact .inl h
  ·rename_i hc;rw[if_neg hc];exact ih ht h
 |case3 l h1 h2=>exact ht.elim
def FT (kA vs:Array J4) (h:kA.size=vs.size):(kA.zip vs).map (·.2)=vs:=by
 apply Array.ext
 ·simp[h]
 ·intro i h1 h2;simp
def nY (h:LF) (vs:Ww J4):LF:=Heap.push (Ra (h.push (seqObj "list" #[] 0)) h.objs.size (Kx (· ++vs.toArray))) (seqObj "list" vs.toArray 0)
def zM (h:LF) (vs:Ww J4):(Ra (h.push (seqObj "list" #[] 0)) h.objs.size (Kx (· ++vs.toArray))).objs.size=h.objs.size+1/\(nY h vs).objs.size=h.objs.size+2/\
  (nY h vs).get? (h.objs.size+1)=U (seqObj "list" vs.toArray 0)/\∀b o,h.get? b=U o->(nY h vs).get? b=U o:=by
 let e:(Ra (h.push (seqObj "list" #[] 0)) h.objs.size (Kx (· ++vs.toArray))).objs.size=h.objs.size+1:=by
  rw[Heap.size_update,size_push']
 refine⟨e,by unfold nY;simp,?_,λb o q=>?_⟩
 ·rw[<-e];exact J7 _ rfl
 ·exact J0 _ ((Heap.get?_update_ne _ _ _ _ (KF (Kc q))).trans (J0 _ q))
def tD (j:Nat) (τ:D->DEnv->Wq DEnv) (fc:DEnv->Wq Bool) (fe:DEnv->Wq D):Ww D->DEnv->Wq Out
 |[],δ=>U (.next δ)
 |d::ds,δ=>ae (τ d δ) λδ1=>match fc δ1 with|some V=>(match aE j (fe δ1) δ1 with|some (.next δ2)=>tD j τ fc fe ds δ2|_=>B)|some Y=>tD j τ fc fe ds δ1|none=>B
def Ct (j:Nat) (τ:D->DEnv->Wq DEnv) (fc:DEnv->Wq Bool) (fe:DEnv->Wq D) (x:Wq (Ww D)) (δ:DEnv):Wq Out:=match x with|some ds=>if D.flats ds=V then tD j τ fc fe ds δ else B|none=>B
variable[Md]
section
variable{X:Cx}{M M':Mp}{δ:DEnv}{s s':J5}{tg iter c e:Expr}{pos p1 p2 p3:PA}{j:Nat}{x:Kr}{fi:DEnv->Wq (Ww D)}{τ:D->DEnv->Wq DEnv}{fc:DEnv->Wq Bool}{fe:DEnv->Wq D}
def CR:∀{ds:Ww D}{i:Nat},D.flats ds=V->(h:i<ds.length)->ds[i].flat=V:=λh hi=>by rw[D.flats_all,Kw]at h;exact h _ (LC hi)
nonrec theorem CL (hi:DI X V tg iter fi) (hg:DG X tg τ) (ht:DT X c fc) (l:Lc X j x) (he:DE X Y e fe) (hw:swapsWith e (U (.Name x p3)) p2.line X.env=pure Y):
  DS X (.For tg iter [.If c [.Assign [.Name x p3] e p2] [] p1] [] pos) (λδ=>Ct j τ fc fe (fi δ) δ):=λ{M δ s o Q} I e k=>by
 unfold Ct at e;dsimp only at e;split at e<;>try cases e
 split at e<;>try cases e
 rename_i ds e1 hf;refine wpAny_For (hi.ev I e1 λit fp tn s1 M1 x1 I1 T t0 f1=>?_) λx=>i8 hi.pl
 refine Oe (λn s'=>∃i δ' M',n=ds.length - i/\i<=ds.length/\Ext M1 M'/\Inv X M' δ' s'/\tn i s'.heap/\(∀b∈fp,Free X M' b)/\tD j τ fc fe (ds.drop i) δ'=U o) ?_ ds.length ⟨0,δ,M1,rfl,KA _,Ext.refl,I1,t0,f1,e⟩
 rintro n s2 ⟨i,δ2,M2,rfl,hi',x2,I2,t2,f2,e3⟩
 let rd2:∀a o,Rd V M1 a o->s2.heap.get? a=U o:=λa o q=>by let⟨k,q,_⟩:=x2.sub a o q;exact I2.heap _ _ _ q
 by_cases hlt:i<ds.length
 ·rw[KW hlt]at e3
  let⟨δ1,q1,q2⟩:=ai e3;refine KN KL (thn (T.item t2 rd2 (d:=ds[i]) (by simp[hlt])) λr s3 hz=>?_)
  let⟨u,rfl,h3⟩:=hz;refine KN KL (thn h3 λ_ s4 hz=>?_)
  let⟨c4,t4,g4⟩:=hz;let⟨M4,x4,I4,r4,f4'⟩:=I2.got x2.sub g4 c4 f2;let f4:∀b∈fp,Free X M4 b:=λb hb=>by let⟨o,e⟩:=T.ex t2 b hb;exact f4' b o (f2 b hb) e
  let r4:=r4.flat I4.own (CR hf hlt);refine KN KL (hg I4.pin (r4.to kT) q1 λs5 I5=>?_)
  let fin:∀{δ6 M6 s6},Ext (pin X M4 s4.heap) M6->Inv X M6 δ6 s6->tD j τ fc fe (ds.drop (i+1)) δ6=U o->∃m,m<ds.length - i/\∃i δ' M',m=ds.length - i/\i<=ds.length/\Ext M1 M'/\Inv X M' δ' s6/\tn i s6.heap/\(∀b∈fp,Free X M' b)/\tD j τ fc fe (ds.drop i) δ'=U o:=λy J e=>by
   let⟨h1,h2,h3,h4,h5,h6⟩:=I4.unp J y.sx;exact⟨ds.length - (i+1),by lia,i+1,_,_,rfl,hlt,(x2.trans x4).trans y.unp,h1,T.keep t4 λb hb o e=>(h6 b o (f4 b hb) e).1,λb hb=>by let⟨o,e⟩:=T.ex t4 b hb;exact(h6 b o (f4 b hb) e).2,e⟩
  split at q2
  ·rename_i qc
   split at q2<;>try cases q2
   rename_i δ7 qs;let⟨d,qe,z⟩:=lj qs;cases z;refine KN KL (K8 (Pu (ht I5 qc λs6 M6 x6 I6=>?_)))
   exact K8 (Mq (he.ev I6 qe λv s7 M7 x7 I7 r=>I7.store l (b:=Y) r λs8 _ I8 _ _=>Ll (Ll (fin (x6.trans x7) I8 q2))) hw)
  ·rename_i qc
   exact KN KL (K8 (Pu (ht I5 qc λs6 M6 x6 I6=>Ll (Ll (fin x6 I6 q2)))))
  ·cases q2
 ·obtain rfl:i=ds.length:=by lia
  rw[Ox]at e3;cases e3;refine KN KL (thn (T.done t2 rd2) λr s3 hz=>?_)
  let⟨rfl,c3⟩:=hz;exact Ll (k _ _ (x1.trans x2).sx (I2.ch c3 f2))
def Inv.tne (I:Inv X M δ s) (hP:q∈tb):X.env.locals≠q.1/\∀x c,X.env.cells.lookup x=U c->c≠q.1:=by
 let⟨_,ps,h,_⟩:=I.tabs q hP;refine⟨λz=>?_,λx c e z=>?_⟩
 ·let⟨_,⟨o,es,ep,h1,h2,_⟩,_⟩:=I.loc;lia
 ·let⟨⟨v,o,h1,h2⟩,_⟩:=I.cell x c e;lia
def Inv.grow {P c':Kp}{lq:Kr}{ps:Array J4}{pos:PA}{h':LF}{t':Nat}(I:Inv X M δ s) (hP:(P,lq)∈tb) (hTu:∀q∈tb,q.1=P->q=(P,lq)) (hps:s.heap.get? P=U {cls:=.none,data:=.fields ps}) (hx:O3 P s.heap h') (hge:s.heap.objs.size<=c') (hoc:h'.get? c'=U oc) (hd:oc.data=.fields vs) (hv:vs[1]?=U (.str lq t))
  (htb:h'.get? P=U (PySem.W.tabObj (ps++#[rawInt pos.line,rawInt pos.col,.ref c']))):Inv X (upd M c' (U (.f,oc))) δ {s with heap:=h',toks:=t'}:=by
 let⟨nl,nc⟩:=I.tne hP;let f:=I.fresh hge;let k:∀b o,b≠P->s.heap.get? b=U o->h'.get? b=U o:=λb o hb e=>hx b o hb e
 let mP:=(I.tabs _ hP).1;let of:∀{b y},M b=U y->upd M c' (U (.f,oc)) b=U y:=λ{b y} e=>by rw[ar (λz=>by simp_all [z,f.m])];exact e
 let no:∀{b},M b=B->b≠c'->upd M c' (U (.f,oc)) b=B:=λ{b} e n=>by rw[ar n];exact e
 let ow:∀{b i o},upd M c' (U (.f,oc)) b=U (.o i,o)->M b=U (.o i,o):=λ{b i o} e=>by
  by_cases z:b=c'
  ·simp_all [ao]
  ·rw[ar z]at e;exact e
 let⟨m,⟨oL,es,ep,hL,hL2⟩,hl⟩:=I.loc;refine⟨I.ok,I.og,λb r o e=>?_,λb o e=>of (I.base b o e),⟨m,⟨oL,es,ep,k _ _ nl hL,hL2⟩,λi x d b e1 e2 e3=>?_⟩,no I.free (Kt f.l),λx c e=>?_,λq hq=>?_,λb i o e=>I.own _ _ _ (ow e),λa b i o o' e e'=>I.uni _ _ _ _ _ (ow e) (ow e'),I.len,λr o e=>?_⟩
 ·by_cases z:b=c'
  ·simp_all [ao]
  ·rw[ar z]at e;exact k b o (λw=>by lia) (I.heap _ _ _ e)
 ·let⟨u,lk,va⟩:=hl i x d b e1 e2 e3
  exact⟨u,pU lk λc o e=>k c o (nc x c e),va.to (dT f.m) λa j o _=>of⟩
 ·let⟨⟨v,o,h1,h2⟩,h3⟩:=I.cell x c e
  exact⟨⟨v,o,k c o (nc x c e) h1,h2⟩,h3.imp (λz=>no z λw=>f.c x (w▸e)) λ⟨g,o,z⟩=>⟨g,o,of z⟩⟩
 ·let⟨h1,qs,h2,h3,h4⟩:=I.tabs q hq
  refine⟨no h1 λw=>f.t q hq w.symm,?_⟩
  by_cases z:q.1=P
  ·obtain rfl:=hTu q hq z
   rw[hps]at h2;cases h2;refine⟨_,htb,by rw[Lg];exact TriplesOk_snoc _ _ _ _ h3,λpos' cv e=>?_⟩
   rw[Lg]at e
   rcases wC _ h3 e with e|e
   ·let⟨c2,o2,v2,t2,z1,z2,z3⟩:=h4 pos' cv e
    exact⟨c2,o2,v2,t2,z1,of z2,z3⟩
   ·exact⟨c',oc,vs,t,e,ao,hd,hv⟩
  ·refine⟨qs,k _ _ z h2,h3,λpos' cv e=>?_⟩
   let⟨c2,o2,v2,t2,z1,z2,z3⟩:=h4 pos' cv e;exact⟨c2,o2,v2,t2,z1,of z2,z3⟩
 ·rw[ar (Kt f.s)]at e;exact I.sys _ _ e
def CO (M:Mp) (s:J5) (f c':Kp) (lq:Kr) (params:OZ) (body:Expr) (scope:MJ) (pm ctv:J4):Prop:=s.heap.get? f=U (PySem.W.kla_obj "<lambda>" lq params body scope [] pm c' ctv)/\∃oc vs t,M c'=U (.f,oc)/\oc.data=.fields vs/\vs[1]?=U (.str lq t)
theorem Cv {E:J4->J5->Prop}{c P:Kp}{lq:Kr}{params:OZ}{body:Expr}{scope:MJ}{pos:PA}{Q:J4->J5->Prop}(I:Inv X M δ s) (hP:(P,lq)∈tb) (hTu:∀q∈tb,q.1=P->q=(P,lq)) (hq:X.env.qual++"<lambda>"=lq)
  (hC:OK base c P) (hcd:X.env.code=.ref c) (hcl:closureFor scope X.env=pure []) (hdef:defaultsOf params X.env=([],[]))
  (h:∀f c' pm ctv s' M',Ext M M'->Inv X M' δ s'->Free X M' f->CO M' s' f c' lq params body scope pm ctv->Q (.ref f) s'):wpAny (model Md.P w) X.A (eval (.Lambda params body scope pos) X.env) Q E s:=by
 refine PySem.W.kla_eval hdef ?_
 rw[hq];let⟨mP,ps,hps,tr,rc⟩:=I.tabs _ hP;let hg:=I.ok.mod.glob.keeps I.bk;let hgP:mainGlobals≠P:=λz=>by
  let⟨o,es,ep,e,d,_⟩:=hg;lia
 let⟨bm,ob,b1,b2,b3,b4,b5,b6⟩:=I.ok.mod.bmain;let b3':=I.bk _ _ b3;let hbP:bm≠P:=λz=>by lia
 let hbG:bm≠mainGlobals:=λz=>by
  let⟨o,es,ep,e,d,_⟩:=hg;lia
 cases hf:codeAmong pos ps.toList with
 |none=>
  refine PySem.W.kla_makeFunction (mg:=mg) hcl I.ok.glob hg hcd (hC.keeps I.bk) hps tr hf hgP ⟨bm,ob,b1,b2,hbG,hbP,b3',b4,b5,b6⟩ λc' ctv h' tk hx hge hlt hrec htb=>?_
  let⟨c2,oc,vs,t,z,hoc,hd,hv⟩:=hrec;cases z;let I1:=I.grow (t':=tk) hP hTu hps hx hge hoc hd hv htb;let f1:=I1.fresh (Kh _);exact h _ c' _ ctv _ _ (cb (I.fresh hge).m) (I1.push (t:=tk)) f1 ⟨J7 _ rfl,oc,vs,t,ao,hd,hv⟩
 |some cv=>
  let⟨c',oc,vs,t,rfl,o1,o2,o3⟩:=rc pos cv hf;refine PySem.W.kla_makeFunctionHit (mg:=mg) hcl I.ok.glob hg hcd (hC.keeps I.bk) hps tr hf ⟨bm,ob,b1,b2,hbG,hbP,b3',b4,b5,b6⟩ λctv h' tk hk hsz=>?_
  let I1:Inv X M δ {s with heap:=h',toks:=tk}:=I.kp hk
  exact h _ c' _ ctv _ _ Ext.refl (I1.push (t:=tk)) (I1.fresh (Kh _)) ⟨J7 _ rfl,oc,vs,t,o1,o2,o3⟩
def Room.in1 {A:KH}{k:Nat}(r:Room (k+1) A):Room k A.in1:=⟨r.hd,by have:=r.dp;show A.depth+_+_<_;lia,by have:=r.un;show A.units+1+_+_<_;lia⟩
def Bw {A:KH}{E:J4->J5->Prop}{k:Nat}{f c':Kp}{lq x:Kr}{params:OZ}{body:Expr}{scope:MJ}{pm ctv:J4}{d y:D}{u:J4}{Q:J4->J5->Prop}{fb:DEnv->Wq D}(I:Inv X M δ s) (hr:Room (k+1) A) (L:CO M s f c' lq params body scope pm ctv) (S:FnScope [x] [x] scope)
  (hb:BindsTo s (OI "<lambda>" lq params body scope [] pm (.ref c') ctv) ⟨[u],[]⟩ [(x,u)]) (r:R Y M d u) (hbody:∀(A:KH) (L:Kp),Room k (A.deeper (envOfC lq scope L f (.ref c')))->DE (cxF [x] lq scope f (.ref c') A L) Y body fb) (e:fb [U (d,Y)]=U y)
  (h:∀v s' M',Ext M M'->Inv X M' δ s'->R Y M' y v->(∀a o,Free X M a->s.heap.get? a=U o->s'.heap.get? a=U o/\Free X M' a)->Q v s'):wpAny (model P w) A (call (.ref f) [u]) Q E s:=by
 let⟨hf,oc,vs,t,e1,e2,e3⟩:=L;let Ri:=I.bas (m:=Y);let rs:Rs Y (cal Y Y M s.heap []) [d] [u]:=.one (r.to oW);let hkind:∀y∈[x].zip [u],scope.names.lookup y.1=U .local\/(scope.names.lookup y.1=U .cell/\((cellsFrom (s.heap.objs.size+1) scope.names []).lookup y.1).isSome=V):=λ⟨n,v⟩ hy=>by
  rcases S.par n (P5 hy).1 with q|q
  ·exact .inl q
  ·exact .inr ⟨q,Op _ _ _ (.inl q)⟩
 refine wpAny_call (PySem.W.kla_callFunE (by have:=hr.dp;lia) hf rfl S.co S.gen rfl ⟨c',oc,vs,t,rfl,I.heap _ _ _ e1,e2,e3⟩ (hb _ _ _ _ ?_))
 refine QU S.kind hkind λenv he s1 x1=>?_
 subst he;refine⟨(I.ok.mod.nolimit.keeps I.bk).keeps x1.toInCall.keep,PySem.W.kla_codeExpr ?_⟩
 let J:=qY (N:=[x]) (ps:=[x]) (cd:=.ref c') (A:=A) (us:=[u]) (ds:=[d]) S ((hr.deeper _).mono (KA _)) I.ok.mod Ri rfl rs x1;refine L5 ((hbody A _ (hr.deeper _)).ev J (d:=y) e (λv s' M1 x2 J1 r1=>?_:Post _ _ _ _ _ (λu s'=>Q u s'))) (λu s' hz=>hz) λ_ _ z=>z.elim
 let⟨I2,sb⟩:=I.ret (ex:=[]) J1 (λ_ z=>nomatch z) (λ_ z=>nomatch z) x2.sx (λa i o z=>absurd z (Ri.own a i o))
 refine h v s' _ sQ I2 (r1.to sb) λa o fa ha=>?_
 let ca:cal Y Y M s.heap [] a=U (.p,o):=by
  unfold cal;rw[fa.m];dsimp only;rw[if_neg (by rintro(z|⟨q,z1,z2⟩);cases z;exact fa.t q z1 z2),ha];rfl
 exact⟨J1.heap _ _ _ (x2.sx.p _ _ ca),by unfold bak;simp[fa.m,ha],fa.l,fa.c,fa.t,fa.s⟩
end
end L2
namespace L2
open PySem PySem.Spec PyProof.Rows PySem.W Md
variable[Md]
theorem Rs.order {vs:Ww J4}(r:Rs m M ds vs):∀(p:Ww Nat),(∀i∈p,i<ds.length)->Rs m M (p.map λi=>ds.getD i .non) (dU vs p)
 |[],_=>rfl
 |i::p,h=>by
  let hi:=h i (Kg ..);let⟨x,hx,rx⟩:=r.get (i:=i) (d:=ds[i]) (by simp[hi])
  refine⟨_,_,rfl,?_,Rs.order r p λj hj=>h j (Kb _ hj)⟩
  show R m M (ds.getD i .non) (vs.getD i L6);rw[Lk,Lk,hx,K7 hi]
  exact rx
section
variable{X:Cx}{M M':Mp}{δ:DEnv}{s:J5}{P:PySem.Fin->J5->Prop}{A:KH}{E:J4->J5->Prop}
def zD {kS D:Kp}{kA:Array J4}{e e1:Nat}{vs:Ww J4}{ks:Ww Int}(I:Inv X M δ s) (gk:s.heap.get? kS=U (seqObj "list" kA e)) (gD:s.heap.get? D=U (seqObj "list" #[] e1)) (fk:Free X M kS) (fD:Free X M D) (hkD:kS≠D) (hk:IntsAre kA.toList ks) (hl:vs.length=ks.length) (h64:vs.length<5)
  (h:∀h' tk c,Inv X M δ {s with heap:=h',toks:=tk}->h'.get? D=U (seqObj "list" (dU vs (sO ks)).toArray c)->P (.done (.ret .none)) {s with heap:=h',toks:=tk}):
  wpAny (model Md.P w) A (ksk_end D Y vs.toArray e1 (.ref kS) kA) P E s:=by
 let hz:(64:Nat)<=sizeLine:=by rw[M5];lia
 let hks:kA.size=vs.length:=by have:=hk.length;rw[Lo]at this;lia
 let s1:=KT s.heap kS (Kx λ_=>(#[]:Array J4))
 let nD1:=(s1.2 D (Kt hkD)).trans gD;let lenO:(dU vs (sO ks)).length=vs.length:=by unfold dU;rw[J8,(iV (ks:=ks) (by lia)).length_eq,Nf];lia
 let tail:∀st:K2,(arrOf st).map (·.2)=(dU vs (sO ks)).toArray->failedOf st=B->wpAny (model Md.P w) A (ksk_tail D Y e1 (.ref kS) st) P E s:=by
  intro st es hf;unfold ksk_tail
  try dsimp only
  refine JY (Ni gk rfl ?_ (by rw[hks];lia) (KA _))
  refine JY (Mo ?_)
  refine JY (QB nD1 rfl ?_)
  rw[es,hf];refine JY (Ni nD1 rfl ?_ (KA _) (by simp![Ko,if_false];rw[KO,lenO];lia))
  simp![bne_self_eq_false,Ko,if_false];let s2:=KT (s.heap.update kS (Kx λ_=>(#[]:Array J4))) D (Kx λ_=>(dU vs (sO ks)).toArray)
  refine JZ (h _ s.toks _ (I.wr [kS,D] (λb hb=>?_) λb o hb q=>(s2.2 b (λz=>hb (by simp[z]))).trans ((s1.2 b (λz=>hb (by simp[z]))).trans q)) (NF nD1 λ_=>(dU vs (sO ks)).toArray))
  simp![KI,K4,or_false]at hb
  rcases hb with rfl|rfl
  ·exact fk
  ·exact fD
 unfold ksk_end;simp![Ko,if_false]
 by_cases h2:vs.toArray.size<2
 ·rw[if_pos h2,if_pos h2]
  refine tail _ ?_ rfl
  rw[KO]at h2;let e0:=FT kA vs.toArray (by trivial)
  rw[e0];unfold sO;rw[if_pos (by lia),<-hl]
  clear tail h lenO e0
  rcases vs with _|⟨v,_|⟨u,r⟩⟩
  ·rfl
  ·rfl
  ·simp![Kl]at h2;lia
 ·rw[if_neg h2,if_neg h2]
  rw[KO]at h2;let h2':2<=vs.length:=by lia
  let hkk:keyKind' kA=pure oneType':=by
   let e0:kA=kA.toList.toArray:=by simp
   rw[e0];let lk:2<=kA.toList.length:=by rw[Lo];lia
   generalize kA.toList=us at hk lk
   rcases us with _|⟨v,_|⟨u,r⟩⟩
   ·simp at lk
   ·simp at lk
   ·exact keyKind_ints hk
  rw[hkk];refine JY (JZ ?_)
  let hkl:kA.toList.length=vs.length:=by rw[Lo];exact hks
  let run:=kat_run (prog:=Md.P) (w:=w) (A:=A) (E:=E) (s:=s) (κ:=oneType') (vs:=vs) (ks:=kA.toList) (Q:=λst' s'=>s'=s/\(arrOf st').map (·.2)=(dU vs (sO ks)).toArray/\failedOf st'=B)
   (G:=λp s'=>s'=s/\p=FW (ltK ks) (kas_sort vs.length)) hkl h2' (by lia) (λp st' s' hp har hf ⟨e1,e2⟩=>⟨e1,by
    rw[kat_snds hkl har,e2];unfold sO dU;rw[if_neg (by lia),<-hl],hf⟩)
   (CV (λi j C hi hj hC=>by
    let⟨t1,q1⟩:=fu hk (i:=i) (by lia)
    let⟨t2,q2⟩:=fu hk (i:=j) (by lia)
    unfold kas_ask;rw[q1,q2,keyLt'_oneType];exact oneLt_int hC) _ (vN h64) ⟨rfl,rfl⟩)
  refine JY (L5 run ?_ λ_ _ e=>e)
  simp_all
end
section
variable{X:Cx}{M:Mp}{δ:DEnv}{s:J5}{a lbody:Expr}{fa fb:DEnv->Wq D}{params:OZ}{lscope:MJ}{lpos kp pos p:PA}{c P:Kp}{lq x:Kr}{k:Nat}{Q:J4->J5->Prop}
def tS {l f c':Kp}{vs:Ww J4}{ds:Ww D}{ks:Ww Int}{pm ctv:J4}(hr:Room (k+3) X.A) (I:Inv X M δ s) (q:Rd Y M l o) (t:LstO o vs) (rs:Rs Y M ds vs) (h64:ds.length<5) (hks:lu (λd=>fb [U (d,Y)]) ds=U ks) (ff:Free X M f) (L:CO M s f c' lq params lbody lscope pm ctv) (S:FnScope [x] [x] lscope)
  (hbind:∀(s:J5) (u pm ctv:J4) (c':Kp),BindsTo s (OI "<lambda>" lq params lbody lscope [] pm (.ref c') ctv) ⟨[u],[]⟩ [(x,u)]) (hb:∀(f c':Kp) (A:KH) (L:Kp),Room k (A.deeper (envOfC lq lscope L f (.ref c')))->DE (cxF [x] lq lscope f (.ref c') A L) Y lbody fb)
  (h:PostF X M δ (.lst (qU ds ks)) Q):WP X (call (.builtin "sorted") [.ref l] [(Lb "key",.ref f)]) Q s:=by
 let hz:(64:Nat)<=sizeLine:=by rw[M5];lia
 let lv:=rs.length;let lk:=qD hks;refine call_function_entry_kw Px O6 O7 (ksk_s1 _ _) ?_
 refine JY (m:=checkCount "sorted" 1 1 _) (JZ ?_)
 refine JY (collect_list (t.is I.heap q) ?_ (by lia))
 refine JY (OH ?_ (by lia))
 let⟨n1,n2,n3,n4⟩:=zM s.heap vs;rw[n1];show wpAny _ _ _ _ _ {s with heap:=nY s.heap vs}
 generalize nY s.heap vs=g at n2 n3 n4⊢;generalize hD:s.heap.objs.size+1=D at n3⊢;let hDs:s.heap.objs.size<=D:=by lia
 refine JY (KB (wpAny_call_entry_kw slot_list_sort ⟨_,n3,rfl⟩ entry_list_sort ?body (ksk_l1 _ _)));rw[ksk_t1];let s1:=KT g D (Kx λ_=>(#[]:Array J4))
 obtain⟨e1,ho1⟩:∃e1,(g.update D (Kx λ_=>(#[]:Array J4))).get? D=U (seqObj "list" #[] e1):=⟨_,NF n3 λ_=>#[]⟩
 refine JY (NR n3 rfl ?_)
 refine JY (Ni n3 rfl ?_ (by simp;lia) (KA _))
 refine JY (QB ho1 rfl ?_)
 refine JY (Pt ?_ (by show vs.length<=_;lia))
 refine JY (OH ?_ (KA _))
 refine KB ?_
 let hgD:(g.update D (Kx λ_=>(#[]:Array J4))).objs.size=s.heap.objs.size+2:=by rw[Heap.size_update,n2]
 let hk0:((g.update D (Kx λ_=>(#[]:Array J4))).push (seqObj "tuple" vs.toArray 0)).objs.size=s.heap.objs.size+3:=by rw[size_push',hgD]
 generalize hkS:((g.update D (Kx λ_=>(#[]:Array J4))).push (seqObj "tuple" vs.toArray 0)).objs.size=kS at hk0
 let gk:(((g.update D (Kx λ_=>(#[]:Array J4))).push (seqObj "tuple" vs.toArray 0)).push (seqObj "list" #[] 0)).get? kS=U (seqObj "list" #[] 0):=by rw[<-hkS];exact J7 _ rfl
 let gD:(((g.update D (Kx λ_=>(#[]:Array J4))).push (seqObj "tuple" vs.toArray 0)).push (seqObj "list" #[] 0)).get? D=U (seqObj "list" #[] e1):=J0 _ (J0 _ ho1)
 let keep2:∀b o,s.heap.get? b=U o->(((g.update D (Kx λ_=>(#[]:Array J4))).push (seqObj "tuple" vs.toArray 0)).push (seqObj "list" #[] 0)).get? b=U o:=λb o q=>
  J0 _ (J0 _ ((s1.2 b (KF (MW (Kc q) hDs))).trans (n4 b o q)))
 generalize hg2:((g.update D (Kx λ_=>(#[]:Array J4))).push (seqObj "tuple" vs.toArray 0)).push (seqObj "list" #[] 0)=g2 at gk gD keep2
 let fk:Free X M kS:=I.fresh (by lia)
 let fD:Free X M D:=I.fresh hDs;let hkD:kS≠D:=λz=>by have:(kS:Nat)=D:=z;lia
 let I1:Inv X M δ {s with heap:=g2}:=I.kp keep2
 refine JY (LA ?_)
 rw[List.forIn_toArray];refine JY (MB _
  (λrest _ s'=>∃(i:Nat) (kA:Array J4) (c:Nat) (M':Mp),rest=vs.drop i/\i<=vs.length/\IntsAre kA.toList (ks.take i)/\Ext M M'/\Inv X M' δ s'/\(Free X M' kS/\Free X M' D/\Free X M' f)/\s'.heap.get? kS=U (seqObj "list" kA c)/\s'.heap.get? D=U (seqObj "list" #[] e1)/\CO M' s' f c' lq params lbody lscope pm ctv) _ ?step ?fin _ _ ⟨0,#[],0,M,by simp,KA _,by simpa using IntsAre.nil,Ext.refl,I1,⟨fk,fD,ff⟩,gk,gD,keep2 _ _ L.1,L.2⟩)
 case step=>
  rintro u rest b s' ⟨i,kA,c,M',hr',hi,hki,x',J,⟨fk',fD',ff'⟩,gk',gD',L'⟩
  let hlt:i<vs.length:=by
   rcases PN i vs.length with q|q
   ·exact q
   ·rw[List.drop_eq_nil_of_le q]at hr';cases hr'
  rw[KW hlt]at hr';let⟨rfl,rfl⟩:=P0 hr';let hid:i<ds.length:=by lia
  let hkz:i<ks.length:=by lia
  let⟨v,hv,rv⟩:=rs.get (i:=i) (d:=ds[i]) (by simp[hid])
  let hv':vs[i]=v:=by simpa[hlt]using hv
  refine JY (MO (L5 (Bw (Q:=λy s''=>∃M'',Ext M' M''/\Inv X M'' δ s''/\R Y M'' (.int ks[i]) y/\∀a o,Free X M' a->s'.heap.get? a=U o->s''.heap.get? a=U o/\Free X M'' a) (E:=λ_ _=>False) J hr.in1.in1 L' S (hbind _ _ _ _ _) (by rw[hv'];exact rv.up x') (λA L h=>hb _ _ A L h) (qE hks (K7 hid) (K7 hkz)) λv s'' M'' x2 J2 r2 fr=>⟨M'',x2,J2,r2,fr⟩) (λy s'' hz=>?_) λ_ _ hF=>hF.elim))
  let⟨M'',x2,J2,⟨t,rfl⟩,fr⟩:=hz;let⟨gk2,fk2⟩:=fr _ _ fk' gk';let⟨gD2,fD2⟩:=fr _ _ fD' gD';let⟨gf2,ff2⟩:=fr _ _ ff' L'.1;let s3:=KT s''.heap kS (Kx (·.push (.int ks[i] t)))
  let hfk:f≠kS:=λz=>by rw[z]at gf2;cases congrArg Obj.data (Lv (gk2.symm.trans gf2))
  let hsz:kA.size=i:=by have:=hki.length;rw[Lo,Nl]at this;lia
  refine JY (Ni gk2 rfl ?_ (by rw[hsz];lia) (by show(kA.push _).size<=_;rw[P2,hsz];lia))
  let J3:Inv X M'' δ {s'' with heap:=s''.heap.update kS (Kx (·.push (.int ks[i] t)))}:=J2.wr [kS] (λb hb=>by rw[qaa.mp hb];exact fk2) λb o hb q=>(s3.2 b (λz=>hb (by simp[z]))).trans q
  refine JZ ⟨i+1,kA.push (.int ks[i] t),_,M'',rfl,hlt,?_,x'.trans x2,J3,⟨fk2,fD2,ff2⟩,NF gk2 (·.push (.int ks[i] t)),(s3.2 D (Kt hkD)).trans gD2,(s3.2 f hfk).trans gf2,?_⟩
  ·rw[LV,PD hkz]
   exact hki.append (.cons _ _ .nil)
  ·let⟨oc,ws,t,w1,w2⟩:=L'.2
   exact⟨oc,ws,t,(x2 c').elim (λz=>z.trans w1) λz=>(by rw[z.1]at w1;cases w1),w2⟩
 case fin=>
  rintro b s' ⟨i,kA,c,M',hr',hi,hki,x',J,⟨fk',fD',ff'⟩,gk',gD',L'⟩
  obtain rfl:i=vs.length:=by
   rcases PN i vs.length with q|q
   ·rw[KW q]at hr';cases hr'
   ·lia
  refine JY (NR gk' rfl ?_)
  rw[show vs.length=ks.length by lia,qaA]at hki
  let hpl:∀i∈sO ks,i<ds.length:=λi hi=>by
   have:=(iV (ks:=ks) (by lia)).mem_iff.mp hi
   rw[qae]at this;lia
  let rO:=(rs.up x').order (sO ks) hpl;exact zD J gk' gD' fk' fD' hkD hki (by lia) (by lia) λh' tk c J3 g3=>⟨_,rfl,JZ ⟨_,rfl,h D _ _ M' x' J3 fD' g3 ⟨_,⟨by
   rw[<-rO.length,J8,(iV (ks:=ks) (by lia)).length_eq,Nf];lia,c,rfl⟩,rO⟩⟩⟩
def uR (hr:Room (k+3) X.A) (g:Bn X "sorted") (hP:(P,lq)∈tb) (hTu:∀q∈tb,q.1=P->q=(P,lq)) (hq:X.env.qual++"<lambda>"=lq) (hC:OK base c P) (hcd:X.env.code=.ref c) (hcl:closureFor lscope X.env=pure []) (hdef:defaultsOf params X.env=([],[]))
  (S:FnScope [x] [x] lscope) (hbind:∀(s:J5) (u pm ctv:J4) (c':Kp),BindsTo s (OI "<lambda>" lq params lbody lscope [] pm (.ref c') ctv) ⟨[u],[]⟩ [(x,u)])
  (hb:∀(f c':Kp) (A:KH) (L:Kp),Room k (A.deeper (envOfC lq lscope L f (.ref c')))->DE (cxF [x] lq lscope f (.ref c') A L) Y lbody fb) (ha:DE X Y a fa):
  DF X (.Call (.Name "sorted" p) [a] [⟨U "key",.Lambda params lbody lscope lpos,kp⟩] pos) (λδ=>kH (fa δ) λd=>fb [U (d,Y)]):=⟨rfl,λ{M δ s d Q} I e kk=>by
 let⟨ds,ks,hfa,hlen,hkey,rfl⟩:=uI e;refine Lx (I.bltn g fy (callWith_kw ((aX ha cW).ev I (ds:=[.lst ds]) (by rw[hfa];rfl) (λvs s1 M1 x1 I1 r=>?_) pos) ?_ ?_ rfl rfl))
 ·let⟨v,rfl,r1⟩:=r.is1
  refine JY (JY (Cv I1 hP hTu hq hC hcd hcl hdef λf c' pm ctv s2 M2 x2 I2 ff L=>JY (PT (JZ ?_))))
  refine JY (KB (JZ (JZ ?_)))
  let⟨l,o,vs,rfl,q,t,rs⟩:=r1.up x2;exact tS hr I2 q t rs hlen hkey ff L S hbind hb (PostF.to kk (x1.trans x2))
 ·rw[aU ha.pl];rfl
 ·rw[aU ha.pl];rfl⟩
end
end L2
namespace L2
open PySem PySem.Spec PyProof.Rows Md
section
variable{prog:Lw}{w:LY}{A:KH}{E:J4->J5->Prop}{s:J5}
theorem uS {R:O9->J5->Prop}{l:Kp}{items:Array J4}{n:Nat}{x:J4}{j:Nat}(hj:j<items.size) (hz:items.size<=sizeLine) (hl:s.heap.get? l=U (seqObj "list" items n)) (hit:Mj A.in1 s items[j] x V)
  (h:R (.ok (.ret .none)) {s with heap:=s.heap.update l (Kx λxs=>xs.eraseIdxIfInBounds j)}):∀(k i:Nat),j - i=k->i<=j->(∀m (hm:m<items.size),i<=m->m<j->Mj A.in1 s items[m] x Y)->
  codeAny (model prog w) A (.builtin "list.remove.loop" ⟨[.ref l,x,rawInt i],[]⟩) R s:=by
 intro k
 induction k with
 |zero=>
  intro i hk hi hno;let e:i=j:=by lia
  subst e;refine KP OE ?_
  refine JY (NR hl rfl ?_)
  simp![Lj];rw[Lq hj]
  refine JY (hit prog w _ _ ?_)
  refine JY (Ni hl rfl (JZ h) hz (by show(items.eraseIdxIfInBounds i).size<=_;exact Kf (by unfold Array.eraseIdxIfInBounds;split<;>simp[Array.size_eraseIdx]) (Nh hz)))
 |succ k ih=>
  intro i hk hi hno;refine KP OE ?_
  refine JY (NR hl rfl ?_)
  simp![Lj];let hi':i<items.size:=by lia
  rw[Lq hi']
  refine JY (hno i hi' (Kh _) (by lia) prog w _ _ ?_)
  exact JZ ⟨Lh OD _,ih (i+1) (by lia) (by lia) λm hm h1 h2=>hno m hm (by lia) h2⟩
def uT {Q:J4->J5->Prop}{l:Kp}{items:Array J4}{n:Nat}{x:J4}{j:Nat}(hj:j<items.size) (hz:items.size<=sizeLine) (hl:s.heap.get? l=U (seqObj "list" items n)) (hit:Mj A.in1 s items[j] x V)
  (hno:∀m (hm:m<items.size),m<j->Mj A.in1 s items[m] x Y) (h:Q .none {s with heap:=s.heap.update l (Kx λxs=>xs.eraseIdxIfInBounds j)}):wpAny (model prog w) A (call (.builtin "list.remove") [.ref l,x]) Q E s:=by
 refine Oo (S:=λA' R s'=>s'=s/\A'=A/\R (.ok (.ret .none)) {s with heap:=s.heap.update l (Kx λxs=>xs.eraseIdxIfInBounds j)}) Qi (show s.TypeIs (.ref l) "list" from⟨_,hl,rfl⟩) PySem.F.entry_list_remove (PySem.F.args_list_remove_2 _ _) ?_ ⟨rfl,rfl,h⟩
 rintro prog w A' R s' ⟨rfl,rfl,hR⟩
 exact JZ ⟨Lh OD _,uS hj hz hl hit hR _ 0 rfl (KA _) λm hm _ h2=>hno m hm h2⟩
end
variable[Md]
theorem Rs.erase:∀{ds vs} (i:Nat),Rs m M ds vs->Rs m M (ds.eraseIdx i) (vs.eraseIdx i)
 |[],_,i,r=>by cases r;rfl
 |d::ds,_,0,⟨x,q,rfl,r1,r2⟩=>r2
 |d::ds,_,i+1,⟨x,q,rfl,r1,r2⟩=>⟨x,_,rfl,r1,Rs.erase i r2⟩
section
variable{X:Cx}{M:Mp}{δ:DEnv}{s:J5}{tg a b:Expr}{fa fb:DEnv->Wq D}{m m':Bool}{pos px apos cpos:PA}
def Gq (h:Nm X i x):DI2 X V Y tg (.Name x pos) (λδ=>bi (aN i δ)):=⟨rfl,λ{M δ s ds Q} I e k=>by
 refine Mh (I.load h (aK (lZ e)) λv r=>?_) h.d
 let⟨c,o,rfl,q,vs,t,rs⟩:=r.own λ_ z=>nomatch z
 exact L4 (t.is I.heap (m:=V) ⟨_,q,rfl⟩) (k _ _ _ _ _ Ext.refl (I.push (t:=s.toks)) (rH (m:=V) I.ok.room.hd ⟨_,q,rfl⟩ t rs) ⟨_,J7 _ rfl,rfl,rfl⟩ (CB I))⟩
def Cs (h:Nm X i x) (hb:DE X m' b fb):DE X m (.Subscript (.Name x px) b pos) (λδ=>ixO (aN i δ) (fb δ)):=⟨rfl,λ{M δ s d Q} I e k=>by
 let⟨x,y,e1,e2,e3⟩:=jg e;split at e3<;>try cases e3
 let⟨ds,e4,e5⟩:=ai e3;refine O8 (Mh (I.load h (aK e1) λv r=>hb.ev I e2 λu s2 M2 x2 I2 r2=>?_) h.d)
 let⟨c,o,rfl,q,cm⟩:=r.own (vh e1);cases x<;>cases e4<;>try exact Pm cm
 let⟨vs,t,rs⟩:=cm;let⟨tk,rfl⟩:=r2;let⟨v,h1,h2⟩:=(rs.up x2).atI e5;exact Hm.item I2.heap (m:=V) ⟨_,(x2 c).elim (λz=>z.trans q) λz=>(by rw[z.1]at q;cases q),rfl⟩ (.inl t) h1 (sd hb.pl) (k _ _ _ x2 I2 (R.weak h2))⟩
end
end L2
namespace L2.G
open PySem
def Ris (xs:Ww Nat):Prop:=xs.Pairwise (· < ·)
def Ris.at {xs:Ww Nat}(h:Ris xs) {i j:Nat}(hij:i<j) (hj:j<xs.length):xs[i]'(Q1 hij hj)<xs[j]:=(qas.mp h) i j (Q1 hij hj) hj hij
theorem pD {xs:Array Nat}(h:Ris xs.toList) (j:Nat):∀(fuel lo hi:Nat),hi - lo<=fuel->lo<=hi->hi<=xs.size->(∀i (hi':i<xs.size),i<lo->xs[i]<j)->(∀i (hi':i<xs.size),hi<=i->j<=xs[i])->
  (∀i (hi':i<xs.size),i<NS xs j fuel lo hi->xs[i]<j)/\(∀i (hi':i<xs.size),NS xs j fuel lo hi<=i->j<=xs[i])/\NS xs j fuel lo hi<=xs.size
 |0,lo,hi,h1,h2,h3,h4,h5=>by
  have:lo=hi:=by lia
  subst this
  trivial
 |fuel+1,lo,hi,h1,h2,h3,h4,h5=>by
  unfold NS
  by_cases hl:lo<hi
  ·rw[if_pos hl]
   let hm1:(lo+hi) / 2<hi:=by lia
   let hm2:lo<=(lo+hi) / 2:=by lia
   let hm:(lo+hi) / 2<xs.size:=by lia
   let hg:xs.getD ((lo+hi) / 2) j=xs[(lo+hi) / 2]:=by simp[Qm,hm]
   dsimp only;rw[hg];let mono:∀a b (ha:a<xs.size) (hb:b<xs.size),a<=b->xs[a]<=xs[b]:=λa b ha hb hab=>by
    rcases Nat.lt_or_eq_of_le hab with q|q
    ·have:=Ris.at h q (by trivial)
     simp![NV]at this;lia
    ·subst q;exact Kh _
   by_cases hq:xs[(lo+hi) / 2]<j
   ·rw[if_pos hq]
    refine pD h j fuel ((lo+hi) / 2+1) hi (by lia) (by lia) h3 (λi hi' q=>?_) h5
    exact Nat.lt_of_le_of_lt (mono i ((lo+hi) / 2) hi' hm (by lia)) hq
   ·rw[if_neg hq]
    refine pD h j fuel lo ((lo+hi) / 2) (by lia) hm2 (by lia) h4 (λi hi' q=>?_)
    exact Kf (by lia) (mono ((lo+hi) / 2) i hm hi' q)
  ·rw[if_neg hl]
   have:lo=hi:=by lia
   subst this;exact⟨λi hi' q=>h4 i hi' q,λi hi' q=>h5 i hi' q,h3⟩
def gW {xs:Array Nat}(h:Ris xs.toList) (j:Nat):(∀i (hi':i<xs.size),i<KJ xs j->xs[i]<j)/\(∀i (hi':i<xs.size),KJ xs j<=i->j<=xs[i])/\KJ xs j<=xs.size:=
 pD h j xs.size 0 xs.size (by lia) (KA _) (Kh _) (λi _ q=>absurd q (N0 i)) λi hi' q=>absurd q (by lia)
def AN {xs:Array Nat}(h:Ris xs.toList) {i:Nat}(hi:i<xs.size):KJ xs xs[i]=i:=by
 let⟨h1,h2,h3⟩:=gW h xs[i]
 rcases Oj (KJ xs xs[i]) i with q|q|q
 ·let hb:KJ xs xs[i]<xs.size:=by lia
  have:=h2 _ hb (Kh _);let q2:=Ris.at h q (by trivial)
  simp![NV]at q2;lia
 ·exact q
 ·have:=h1 i hi q;lia
def xq {xs:Array Nat}(h:Ris xs.toList) {i:Nat}(hi:i<xs.size):KJ xs (xs[i]+1)=i+1:=by
 let⟨h1,h2,h3⟩:=gW h (xs[i]+1)
 rcases Oj (KJ xs (xs[i]+1)) (i+1)with q|q|q
 ·have:=h2 i hi (by lia);lia
 ·exact q
 ·let hb:i+1<xs.size:=by lia
  have:=h1 (i+1) hb q;let q2:=Ris.at h (show i<i+1 by lia) (by trivial)
  simp![NV]at q2;lia
def xE {xs:Array Nat}(h:Ris xs.toList) {j:Nat}(hj:∀i (hi:i<xs.size),xs[i]≠j):Ris (Nx xs (KJ xs j) j).toList:=by
 let⟨h1,h2,h3⟩:=gW h j;rw[N7];generalize KJ xs j=p at h1 h2 h3⊢;unfold Ris;rw[Mg,qaj];let ht:∀a∈xs.toList.take p,a<j:=λa ha=>by
  let⟨i,hi,rfl⟩:=qah.mp ha;rw[Nl]at hi;rw[List.getElem_take];let hi2:i<xs.size:=by have:xs.toList.length=xs.size:=Lo;lia
  have:=h1 i hi2 (by lia)
  simpa using this
 let hd:∀a∈xs.toList.drop p,j<a:=λa ha=>by
  let⟨i,hi,rfl⟩:=qah.mp ha;rw[List.length_drop]at hi;rw[List.getElem_drop];let hi2:p+i<xs.size:=by have:xs.toList.length=xs.size:=Lo;lia
  have:=h2 (p+i) hi2 (by lia)
  have:=hj (p+i) hi2;simp![NV];lia
 refine⟨h.sublist (qau _ _),⟨hd,h.sublist (List.drop_sublist _ _)⟩,λa ha b hb=>?_⟩
 rcases on.mp hb with rfl|hb
 ·exact ht a ha
 ·exact Q1 (ht a ha) (hd b hb)
def eM {t:KS}(h:Ris t.place.toList) {i:Nat}(hi:i<t.place.size):t.slot t.place[i]=.live i:=by
 unfold P4;rw[AN h hi];simp[hi]
def vJ {t:KS}(h:Ris t.place.toList) (hd:t.dummies=#[]) {j:Nat}(hj:∀i (hi:i<t.place.size),t.place[i]≠j):t.slot j=.empty:=by
 unfold P4;dsimp only;have:(t.place[KJ t.place j]?==U j)=Y:=by
  cases q:t.place[KJ t.place j]? with
  |none=>rfl
  |some v=>
   let⟨hi,e⟩:=Array.getElem?_eq_some_iff.mp q
   have:=hj _ hi;rw[e]at this
   simpa using this
 rw[this,hd];rfl
nonrec theorem qQ {t:KS}{j i:Nat}(h:t.slot j=.live i):∃hi:i<t.place.size,t.place[i]=j:=by
 unfold P4 at h;dsimp only at h;split at h
 ·rename_i q
  cases h;let⟨hi,e⟩:=Array.getElem?_eq_some_iff.mp (beq_iff_eq.mp q)
  exact⟨hi,e⟩
 ·split at h<;>cases h
end L2.G
namespace L2.G
open PySem
def cM (t:KS):Nat->LK->LK
 |0,p=>p
 |n+1,p=>cM t n (t.advance p)
def mG (t:KS) (n:Nat) (p:LK):cM t (n+1) p=t.advance (cM t n p):=by
 induction n generalizing p with
 |zero=>rfl
 |succ n ih=>show cM t (n+1) (t.advance p)=_;rw[ih];rfl
def gX (t:KS) (m n:Nat) (p:LK):cM t (m+n) p=cM t n (cM t m p):=by
 induction m generalizing p with
 |zero=>rw[MH];rfl
 |succ m ih=>rw[Nat.succ_add];show cM t (m+n) (t.advance p)=_;rw[ih];rfl
def yN (t:KS) (p:LK):(t.advance p).dummy=p.dummy:=by
 unfold NG;split<;>rfl
def jn (t:KS) (n:Nat) (p:LK):(cM t n p).dummy=p.dummy:=by
 induction n generalizing p with
 |zero=>rfl
 |succ n ih=>show(cM t n (t.advance p)).dummy=_;rw[ih,yN]
def Cp {t u:KS}(h:t.mask=u.mask) (p:LK):t.advance p=u.advance p:=by
 unfold NG;rw[h]
def Ah {t u:KS}(h:t.mask=u.mask) (n:Nat) (p:LK):cM t n p=cM u n p:=by
 induction n generalizing p with
 |zero=>rfl
 |succ n ih=>show cM t n (t.advance p)=cM u n (u.advance p);rw[Cp h,ih]
def wU {t u:KS}(h:t.mask=u.mask) (x:Int):t.probeStart x=u.probeStart x:=by
 unfold QI;rw[h]
def aA (mask:Nat) (h:Int):Nat->Nat×Nat
 |0=>(LR h%(mask+1),LR h)
 |m+1=>OV mask (aA mask h m).1 (aA mask h m).2
def iE (mask:Nat) (b:Nat×Nat):LK:={j:=b.1,more:=KY mask b.1 - b.1,i:=b.1,perturb:=b.2,dummy:=B}
def Do (mask i:Nat):KY mask i - i<=9:=by unfold KY;split<;>lia
theorem ox (t:KS):∀(k:Nat) (p:LK),k<=p.more->cM t k p={p with j:=p.j+k,more:=p.more - k}
 |0,p,_=>rfl
 |k+1,p,h=>by
  show cM t k (t.advance p)=_;have:t.advance p={p with j:=p.j+1,more:=p.more - 1}:=by unfold NG;rw[if_pos (by lia)]
  rw[this,ox t k _ (show k<=p.more - 1 by lia)]
  lia
def Ai (t:KS) (b:Nat×Nat):cM t (KY t.mask b.1 - b.1+1) (iE t.mask b)=iE t.mask (OV t.mask b.1 b.2):=by
 rw[mG,ox t (KY t.mask b.1 - b.1) _ (show KY t.mask b.1 - b.1<=(iE t.mask b).more from Kh _)]
 unfold NG iE;rw[if_neg (by dsimp only;lia)]
theorem xV (t:KS) (h:Int):∀m:Nat,∃n,n<=10*m/\cM t n (t.probeStart h)=iE t.mask (aA t.mask h m)
 |0=>⟨0,Kh _,rfl⟩
 |m+1=>by
  let⟨n,hn,e⟩:=xV t h m;let hr:=Do t.mask (aA t.mask h m).1;refine⟨n+(KY t.mask (aA t.mask h m).1 - (aA t.mask h m).1+1),by lia,?_⟩
  rw[gX,e,Ai];rfl
theorem Jz (mask:Nat) (h:Int):∀m,(aA mask h m).2=LR h / 32 ^ m
 |0=>by simp[aA]
 |m+1=>by
  show(aA mask h m).2 / 32=_;rw[Jz mask h m,Nat.div_div_eq_div_mul,PM]
def E5 (h:Int):LR h<2 ^ 64:=by unfold LR;lia
def IP (mask:Nat) (h:Int) (m:Nat):(aA mask h (13+m)).2=0:=by
 rw[Jz];apply Nat.div_eq_of_lt;refine MW (E5 h) ?_
 grind
def lcg (mask:Nat):Nat->Nat->Nat
 |0,x=>x
 |n+1,x=>(lcg mask n x*5+1)%(mask+1)
def wj (mask:Nat) (h:Int) (m:Nat):(aA mask h (13+m)).1=lcg mask m (aA mask h 13).1:=by
 induction m with
 |zero=>rfl
 |succ m ih=>
  show(OV mask (aA mask h (13+m)).1 (aA mask h (13+m)).2).1=(lcg mask m _*5+1)%(mask+1);rw[IP,ih];rfl
theorem sW (mask:Nat) (h:Int):∀m,(aA mask h m).1<mask+1
 |0=>ON _ (N5 _)
 |m+1=>ON _ (N5 _)
def H8 (mask:Nat):Nat->Nat->Ww Nat
 |0,_=>[]
 |n+1,x=>x::H8 mask n ((x*5+1)%(mask+1))
theorem sg (mask:Nat):∀n x,lcg mask n ((x*5+1)%(mask+1))=lcg mask (n+1) x
 |0,x=>rfl
 |n+1,x=>by
  show(lcg mask n ((x*5+1)%(mask+1))*5+1)%(mask+1)=(lcg mask (n+1) x*5+1)%(mask+1);rw[sg mask n x]
theorem vk {mask j:Nat}:∀{n x:Nat},j∈H8 mask n x->∃k,k<n/\lcg mask k x=j
 |0,x,h=>by simp[H8]at h
 |n+1,x,h=>by
  rcases on.mp h with rfl|h
  ·exact⟨0,N5 _,rfl⟩
  ·let⟨k,hk,e⟩:=vk h
   exact⟨k+1,Nat.succ_lt_succ hk,by rw[<-sg];exact e⟩
def tz (mask:Nat) (m n x:Nat):lcg mask (m+n) x=lcg mask m (lcg mask n x):=by
 induction m with
 |zero=>rw[MH];rfl
 |succ m ih=>rw[Nat.succ_add];show(lcg mask (m+n) x*5+1)%(mask+1)=(lcg mask m (lcg mask n x)*5+1)%(mask+1);rw[ih]
def uB (mask:Nat):Bool:=let l:=H8 mask (mask+1) 0;((K1 (mask+1)).all λj=>l.contains j)&&lcg mask (mask+1) 0==0
def JT:uB 7=V:=by rfl
def Msk (mask:Nat):Prop:=mask=7\/mask=31\/mask=127
def Msk.cov {mask:Nat}(h:Msk mask):uB mask=V:=by
 rcases h with rfl|rfl|rfl
 ·exact JT
 ·rfl
 rfl
def yE {mask x j:Nat}(h:Msk mask) (hx:x<mask+1) (hj:j<mask+1):∃n,n<mask+1/\lcg mask n x=j:=by
 let hc:=h.cov;unfold uB at hc;rw[J9,beq_iff_eq]at hc;let at0:=λy hy=>vk (List.contains_iff_mem.mp (qab.mp hc.1 y (qae.mpr hy)))
 let⟨k0,h0,e0⟩:=at0 x hx;let⟨k1,h1,e1⟩:=at0 j hj
 by_cases hk:k0<=k1
 ·refine⟨k1 - k0,by lia,?_⟩
  rw[<-e0,<-tz,Nat.sub_add_cancel hk,e1]
 ·refine⟨k1+(mask+1) - k0,by lia,?_⟩
  rw[<-e0,<-tz,Nat.sub_add_cancel (by lia),tz,hc.2,e1]
def FA {t:KS}(hm:Msk t.mask) (h:Int) {j:Nat}(hj:j<t.mask+1):∃n,n<10*KQ t.mask/\(cM t n (t.probeStart h)).j=j:=by
 let⟨k,hk,e⟩:=yE hm (sW t.mask h 13) hj;let⟨n,hn,en⟩:=xV t h (13+k);refine⟨n,by unfold KQ;lia,?_⟩
 rw[en];show(aA t.mask h (13+k)).1=j;rw[wj,e]
theorem pT {t:KS}{hashAt:Nat->Int}{h:Int}:∀(n fuel:Nat) (p:LK),n<fuel->(∀m,m<n->∃i,t.slot (cM t m p).j=.live i/\(hashAt i==h)=Y)->
  (t.slot (cM t n p).j=.empty->Mr t hashAt h fuel p=U (.empty (cM t n p).j (cM t n p).dummy))/\
  (∀i,t.slot (cM t n p).j=.live i->(hashAt i==h)=V->Mr t hashAt h fuel p=U (.candidate (cM t n p).j i (t.advance (cM t n p))))
 |0,fuel+1,p,_,_=>by
  refine⟨λe=>?_,λi e q=>?_⟩
  ·unfold Mr
   rw[show t.slot p.j=.empty from e]
   rfl
  ·unfold Mr
   rw[show t.slot p.j=.live i from e]
   dsimp only;rw[if_pos q];rfl
 |n+1,fuel+1,p,hn,hm=>by
  let⟨i,e,q⟩:=hm 0 (N5 _);let ih:=pT (hashAt:=hashAt) (h:=h) n fuel (t.advance p) (by lia) λm hm'=>hm (m+1) (by lia)
  let e0:Mr t hashAt h (fuel+1) p=Mr t hashAt h fuel (t.advance p):=by
   conv=>lhs;unfold Mr
   rw[show t.slot p.j=.live i from e]
   dsimp only;rw[if_neg (by lia)]
  rw[e0];exact ih
end L2.G
namespace L2.G
open PySem
abbrev way (t:KS) (h:Int) (n:Nat):Nat:=(cM t n (t.probeStart h)).j
structure Tab (t:KS) (hs:Ww Int):Prop where
 msk:Msk t.mask
 dum:t.dummies=#[]
 len:t.place.size=hs.length
 ris:Ris t.place.toList
 le:∀j∈t.place.toList,j<=t.mask
 rch:∀(i:Nat) h j,hs[i]?=U h->t.place.toList[i]?=U j->∃n,n<10*KQ t.mask/\way t h n=j/\∀m,m<n->∃k,t.slot (way t h m)=.live k
def Tab.fresh (f m:Nat) (l:Bool):Tab (PV f m l) []:=by
 refine⟨.inl rfl,rfl,rfl,OP,λj hj=>absurd hj (by simp[PV]),λi h j e=>absurd e (by simp)⟩
def Tab.slots {t:KS}{hs:Ww Int}(T:Tab t hs) (j:Nat):t.slot j=.empty\/∃k,t.slot j=.live k:=by
 by_cases h:∃i,∃hi:i<t.place.size,t.place[i]=j
 ·let⟨i,hi,e⟩:=h
  exact .inr ⟨i,by rw[<-e];exact eM T.ris hi⟩
 ·exact .inl (vJ T.ris T.dum λi hi e=>h ⟨i,hi,e⟩)
theorem gap:∀(n:Nat) (xs:Ww Nat),Ris xs->xs.length=n->∃j,j<=n/\j∉xs
 |n,xs,h,hl=>by
  by_cases q:∀i (hi:i<xs.length),xs[i]=i
  ·refine⟨n,Kh _,λm=>?_⟩
   let⟨i,hi,e⟩:=qah.mp m;rw[q i hi]at e;lia
  ·let hex:∃i,∃hi:i<xs.length,xs[i]≠i:=by
    let⟨i,hi⟩:=Classical.not_forall.mp q;let⟨hi,ne⟩:=Classical.not_forall.mp hi;exact⟨i,hi,ne⟩
   obtain⟨i,⟨hi,ne⟩,hmin⟩:∃i,(∃hi:i<xs.length,xs[i]≠i)/\∀k,k<i->¬∃hk:k<xs.length,xs[k]≠k:=by
    let⟨i,hi⟩:=hex
    induction i using LB with
    |_ i ih=>
     by_cases z:∃k,k<i/\∃hk:k<xs.length,xs[k]≠k
     ·let⟨k,hk,hk2⟩:=z
      exact ih k hk hk2
     ·exact⟨i,hi,λk hk hh=>z ⟨k,hk,hh⟩⟩
   let hlow:=λk hk hki=>L0 λz=>hmin k hki ⟨hk,z⟩
   let hgt:i<xs[i]:=by
    rcases Oj i xs[i]with z|z|z
    ·exact z
    ·exact absurd z.symm ne
    ·let e1:=hlow xs[i] (by lia) z
     let e2:=Ris.at h z hi;rw[e1]at e2;lia
   refine⟨i,by lia,λm=>?_⟩
   let⟨k,hk,e⟩:=qah.mp m
   rcases Oj k i with z|z|z
   ·have:=hlow k hk z;lia
   ·subst z;lia
   ·have:=Ris.at h z hk;lia
def Gy {P:Nat->Prop}{n:Nat}(h:P n):∃m,m<=n/\P m/\∀k,k<m->¬P k:=by
 induction n using LB with
 |_ n ih=>
  by_cases z:∃k,k<n/\P k
  ·let⟨k,hk,pk⟩:=z
   let⟨m,hm,r⟩:=ih k hk pk;exact⟨m,by lia,r⟩
  ·exact⟨n,Kh _,h,λk hk pk=>z ⟨k,hk,pk⟩⟩
def Tab.free {t:KS}{hs:Ww Int}(T:Tab t hs) (hf:t.place.size<=t.mask) (h:Int):∃n,n<10*KQ t.mask/\t.slot (way t h n)=.empty/\∀m,m<n->∃k,t.slot (way t h m)=.live k:=by
 let⟨j,hj,nj⟩:=gap t.place.size t.place.toList T.ris (by simp)
 let⟨n,hn,e⟩:=FA T.msk h (show j<t.mask+1 by lia)
 have:t.slot (way t h n)=.empty:=by
  show t.slot (cM t n (t.probeStart h)).j=.empty;rw[e];exact vJ T.ris T.dum λi hi q=>nj (by rw[<-q];simp)
 let⟨m,hm,e1,e2⟩:=Gy (P:=λn=>t.slot (way t h n)=.empty) this
 refine⟨m,by lia,e1,λk hk=>?_⟩
 rcases T.slots (way t h k)with q|q
 ·simp_all
 ·exact q
def cX {t u:KS}(h:t.mask=u.mask) (x:Int) (n:Nat):way t x n=way u x n:=by
 unfold way;rw[wU h,Ah h]
def qC {α:Type}(xs:Array α) (p:Nat) (x:α):(Nx xs p x).size=xs.size+1:=by
 have:=(Oi xs p x).length_eq
 simpa using this
def rq {α:Type}(l:Ww α) (x:α) {p:Nat}(hp:p<=l.length) (i:Nat):(l.take p++x::l.drop p)[i]?=if i<p then l[i]? else if i=p then U x else l[i - 1]?:=by
 by_cases h1:i<p
 ·rw[if_pos h1,MC (by rw[Nl];lia),QF h1]
 ·rw[if_neg h1,N9 (by rw[Nl];lia),Nl,Nat.min_eq_left hp]
  by_cases h2:i=p
  ·simp_all
  ·rw[if_neg h2]
   obtain⟨d,rfl⟩:∃d,i=p+1+d:=⟨i - p - 1,by lia⟩
   rw[show p+1+d - p=d+1 by lia,NC,List.getElem?_drop]
   congr 1;lia
def Tab.put {t:KS}{hs:Ww Int}(T:Tab t hs) {h:Int}{n:Nat}(hn:n<10*KQ t.mask) (he:t.slot (way t h n)=.empty) (hw:∀m,m<n->∃k,t.slot (way t h m)=.live k) (hj:way t h n<=t.mask):
  Tab (t.put (way t h n)).1 (hs.take (t.put (way t h n)).2++h::hs.drop (t.put (way t h n)).2)/\(t.put (way t h n)).2<=hs.length:=by
 generalize hJ:way t h n=J at he hj⊢;let nin:∀i (hi:i<t.place.size),t.place[i]≠J:=λi hi q=>by
  rw[<-q,eM T.ris hi]at he;cases he
 let hp:(t.put J).1.place=Nx t.place (KJ t.place J) J:=rfl;let h2:(t.put J).2=KJ t.place J:=rfl;let hpl:(t.put J).1.place.toList=t.place.toList.take (KJ t.place J)++J::t.place.toList.drop (KJ t.place J):=by rw[hp,N7]
 let hd:(t.put J).1.dummies=#[]:=by
  show(if SetTable.has t.dummies J then SetTable.eraseAt t.dummies (KJ t.dummies J) else t.dummies)=#[]
  rw[T.dum];simp[SetTable.has]
 let hr:Ris (t.put J).1.place.toList:=by rw[hp];exact xE T.ris nin
 let ble:=(gW T.ris J).2.2;let keep:∀j,(∃k,t.slot j=.live k)->∃k,(t.put J).1.slot j=.live k:=λj ⟨k,hk⟩=>by
  let⟨hi,e⟩:=qQ hk;have:j∈(t.put J).1.place.toList:=by
   rw[hp];exact(Oi _ _ _).mem_iff.mpr (by rw[<-e];simp)
  let⟨i,hi,e⟩:=qah.mp this;let hi':i<(t.put J).1.place.size:=by simpa using hi
  exact⟨i,by rw[<-e];simpa using eM hr hi'⟩
 let em:(t.put J).1.mask=t.mask:=rfl;let hll:=T.len;rw[h2];refine⟨⟨T.msk,hd,?_,hr,?_,?_⟩,by lia⟩
 ·rw[hp,qC]
  simp;lia
 ·intro j hj'
  have:=(Oi _ _ _).mem_iff.mp hj';simp![LV,Nw,MU]at this
  rcases this with q|q
  ·exact T.le j q
  ·rw[q];exact hj
 ·intro i h' j' e1 e2
  rw[hpl]at e2;rw[rq _ _ (by rw[<-hll];exact ble)]at e1
  rw[rq _ _ (by trivial)]at e2
  let old:∀k,hs[k]?=U h'->t.place.toList[k]?=U j'->∃n,n<10*KQ (t.put J).1.mask/\way (t.put J).1 h' n=j'/\∀m,m<n->∃q,(t.put J).1.slot (way (t.put J).1 h' m)=.live q:=λk q1 q2=>by
   let⟨n,a1,a2,a3⟩:=T.rch k h' j' q1 q2;refine⟨n,a1,by rw[cX em];exact a2,λm hm=>?_⟩
   rw[cX em];exact keep _ (a3 m hm)
  by_cases z1:i<KJ t.place J
  ·rw[if_pos z1]at e1 e2
   exact old i e1 e2
  ·rw[if_neg z1]at e1 e2
   by_cases z2:i=KJ t.place J
   ·rw[if_pos z2]at e1 e2
    cases e1;cases e2;refine⟨n,hn,by rw[cX em];exact hJ,λm hm=>?_⟩
    rw[cX em];exact keep _ (hw m hm)
   ·rw[if_neg z2]at e1 e2
    exact old (i - 1) e1 e2
end L2.G
namespace L2.G
open PySem
abbrev d7 (mask:Nat):KS:={mask:=mask,place:=#[],dummies:=#[],finger:=0,led:=V,moves:=0,plain:=V}
abbrev BJ (mask:Nat) (h:Int) (n:Nat):Nat:=way (d7 mask) h n
def Own (o:Array (Wq Nat)) (j:Nat):Prop:=∃k,o[j]?=U (U k)
def yd {mask i:Nat}(h:i<mask+1):KY mask i<mask+1:=by unfold KY;split<;>lia
def yu (mask i:Nat):i<=KY mask i:=by unfold KY;split<;>lia
def Gu (mask:Nat) (b:Nat×Nat) (k:Nat) (hk:k<=KY mask b.1 - b.1):(cM (d7 mask) k (iE mask b)).j=b.1+k:=by
 rw[ox (d7 mask) k (iE mask b) hk];rfl
theorem xP {mask:Nat}{o:Array (Wq Nat)}(hs:o.size=mask+1) (h:Int):∀(fuel m n:Nat),n<=10*m->cM (d7 mask) n ((d7 mask).probeStart h)=iE mask (aA mask h m)->(∀q,q<n->Own o (BJ mask h q))->
  (∃j n',L8 mask o fuel (aA mask h m).1 (aA mask h m).2=U j/\n'<10*(m+fuel)/\BJ mask h n'=j/\o[j]?=U B/\∀q,q<n'->Own o (BJ mask h q))\/
  (L8 mask o fuel (aA mask h m).1 (aA mask h m).2=B/\∀k,k<fuel->Own o (aA mask h (m+k)).1)
 |0,m,n,_,_,_=>.inr ⟨rfl,λk hk=>absurd hk (N0 k)⟩
 |fuel+1,m,n,hn,e,hq=>by
  let hb:=sW mask h m;let hr:=yd hb;let hg:=yu mask (aA mask h m).1;let h9:=Do mask (aA mask h m).1;let inb:∀k,k<=KY mask (aA mask h m).1 - (aA mask h m).1->BJ mask h (n+k)=(aA mask h m).1+k:=λk hk=>by
   show(cM (d7 mask) (n+k) ((d7 mask).probeStart h)).j=_;rw[gX,e,Gu mask _ k hk]
  let own:∀k,k<=KY mask (aA mask h m).1 - (aA mask h m).1->(o.getD ((aA mask h m).1+k) (U 0)).isNone=Y->Own o ((aA mask h m).1+k):=λk hk q=>by
   let hlt:(aA mask h m).1+k<o.size:=by lia
   have:o.getD ((aA mask h m).1+k) (U 0)=o[(aA mask h m).1+k]:=by simp[Qm,hlt]
   cases z:o[(aA mask h m).1+k]with
   |none=>simp_all
   |some v=>exact⟨v,by rw[Lq hlt,z]⟩
  unfold L8;cases hf:(K1 (KY mask (aA mask h m).1+1 - (aA mask h m).1)).find? λk=>(o.getD ((aA mask h m).1+k) (U 0)).isNone with
  |some k=>
   let⟨pk,as,bs,eab,hall⟩:=List.find?_eq_some_iff_append.mp hf
   let hkr:k<KY mask (aA mask h m).1+1 - (aA mask h m).1:=qae.mp (by simp_all)
   let has:as.length=k:=by
    let h1:(K1 (KY mask (aA mask h m).1+1 - (aA mask h m).1))[as.length]?=U k:=by rw[eab];simp
    let h2:=(List.getElem?_eq_some_iff.mp h1)
    let⟨hl,e2⟩:=h2
    simpa using e2
   let hlow:∀q,q<k->(o.getD ((aA mask h m).1+q) (U 0)).isNone=Y:=λq hqk=>by
    have:q∈as:=by
     let h1:(K1 (KY mask (aA mask h m).1+1 - (aA mask h m).1))[q]?=U q:=by rw[List.getElem?_range (by lia)]
     rw[eab,MC (by lia)]at h1
     exact Kv h1
    simp_all
   refine .inl ⟨(aA mask h m).1+k,n+k,rfl,by lia,inb k (by lia),?_,λq hqn=>?_⟩
   ·let hlt:(aA mask h m).1+k<o.size:=by lia
    simp_all
   ·by_cases z:q<n
    ·exact hq q z
    ·obtain⟨d,rfl⟩:∃d,q=n+d:=⟨q - n,by lia⟩
     rw[inb d (by lia)]
     exact own d (by lia) (hlow d (by lia))
  |none=>
   let hall:=List.find?_eq_none.mp hf
   let hown:=λk hk=>own k hk (by
    have:=hall k (qae.mpr (by lia))
    exact Bool.not_eq_true _▸this)
   let hstep:cM (d7 mask) (n+(KY mask (aA mask h m).1 - (aA mask h m).1+1)) ((d7 mask).probeStart h)=iE mask (aA mask h (m+1)):=by
    rw[gX,e];exact Ai (d7 mask) _
   let ih:=xP hs h fuel (m+1) (n+(KY mask (aA mask h m).1 - (aA mask h m).1+1)) (by lia) hstep λq hqn=>by
    by_cases z:q<n
    ·exact hq q z
    ·obtain⟨d,rfl⟩:∃d,q=n+d:=⟨q - n,by lia⟩
     rw[inb d (by lia)]
     exact hown d (by lia)
   rcases ih with⟨j,n',a1,a2,a3,a4,a5⟩|⟨a1,a2⟩
   ·exact .inl ⟨j,n',a1,by lia,a3,a4,a5⟩
   ·refine .inr ⟨a1,λk hk=>?_⟩
    cases k with
    |zero=>exact hown 0 (by lia)
    |succ k=>
     have:=a2 k (by lia)
     rwa[show m+(k+1)=m+1+k by lia]
def EI {mask:Nat}{o:Array (Wq Nat)}(hm:Msk mask) (hs:o.size=mask+1) (h:Int) {j:Nat}(hj:j<mask+1) (hfree:o[j]?=U B):
  ∃J n,L8 mask o (KQ mask) (LR h%(mask+1)) (LR h)=U J/\n<10*KQ mask/\BJ mask h n=J/\o[J]?=U B/\∀q,q<n->Own o (BJ mask h q):=by
 rcases xP hs h (KQ mask) 0 0 (Kh _) rfl (λq hq=>absurd hq (N0 q))with⟨J,n,a1,a2,a3⟩|⟨a1,a2⟩
 ·exact⟨J,n,a1,by lia,a3⟩
 ·let⟨k,hk,e⟩:=yE hm (sW mask h 13) hj
  let⟨v,hv⟩:=a2 (13+k) (by unfold KQ;lia)
  rw[MH,wj,e,hfree]at hv;cases hv
end L2.G
namespace L2.G
open PySem
structure Lain (mask:Nat) (hs:Ww Int) (o:Array (Wq Nat)):Prop where
 sz:o.size=mask+1
 cnt:o.toList.countP (·.isSome)=hs.length
 lt:∀(j:Nat) v,o[j]?=U (U v)->v<hs.length
 inj:∀(j j':Nat) v,o[j]?=U (U v)->o[j']?=U (U v)->j=j'
 at':∀(v:Nat) h,hs[v]?=U h->∃j n,o[j]?=U (U v)/\n<10*KQ mask/\BJ mask h n=j/\∀q,q<n->Own o (BJ mask h q)
def Lain.nil (mask:Nat):Lain mask [] (Array.replicate (mask+1) B):=by
 refine⟨by simp,?_,λj v e=>?_,λj j' v e=>?_,λv h e=>by simp at e⟩
 ·simp
 ·simp_all [Qy]
 ·simp[Qy]
def Lain.hole {mask:Nat}{hs:Ww Int}{o:Array (Wq Nat)}(L:Lain mask hs o) (h:hs.length<=mask):∃j,j<mask+1/\o[j]?=U B:=by
 apply L0;intro hn;have:∀x∈o.toList,x.isSome=V:=λx hx=>by
  let⟨i,hi,e⟩:=qah.mp hx;let hi':i<o.size:=by simpa using hi
  cases x with
  |some v=>rfl
  |none=>simp_all [L.sz]
 let e:=List.countP_eq_length.mpr this;let e2:=L.cnt;let e3:=L.sz;rw[e]at e2;simp![Lo]at e2;lia
def Lain.step {mask:Nat}{hs:Ww Int}{o:Array (Wq Nat)}(hm:Msk mask) (L:Lain mask hs o) (h:Int) (hl:hs.length<=mask):
  ∃J,L8 mask o (KQ mask) (LR h%(mask+1)) (LR h)=U J/\Lain mask (hs++[h]) (o.setIfInBounds J (U hs.length)):=by
 let⟨j,hj,hf⟩:=L.hole hl;let⟨J,n,a1,a2,a3,a4,a5⟩:=EI hm L.sz h hj hf;let⟨hJ,eJ⟩:=Array.getElem?_eq_some_iff.mp a4
 let keep:∀(i:Nat),Own o i->Own (o.setIfInBounds J (U hs.length)) i:=λi ⟨v,hv⟩=>by
  refine⟨v,?_⟩
  rw[NY,if_neg (by lia)]
  exact hv
 let at0:(o.setIfInBounds J (U hs.length))[J]?=U (U hs.length):=by rw[NY,if_pos rfl,if_pos hJ]
 let atn:∀i,i≠J->(o.setIfInBounds J (U hs.length))[i]?=o[i]?:=λi hi=>by rw[NY,if_neg (λe=>hi e.symm)]
 refine⟨J,a1,⟨by simp[L.sz],?_,λi v e=>?_,λi i' v e e'=>?_,λv h' e=>?_⟩⟩
 ·rw[Qk,List.countP_set (by trivial),L.cnt]
  simp_all
 ·by_cases z:i=J
  ·rw[z,at0]at e;cases e;simp
  ·rw[atn i z]at e
   have:=L.lt i v e;simp;lia
 ·by_cases z:i=J<;>by_cases z':i'=J
  ·rw[z,z']
  ·rw[z,at0]at e;cases e
   rw[atn i' z']at e';exact absurd (L.lt i' _ e') (K3 _)
  ·rw[z',at0]at e';cases e'
   rw[atn i z]at e;exact absurd (L.lt i _ e) (K3 _)
  ·rw[atn i z]at e
   rw[atn i' z']at e';exact L.inj i i' v e e'
 ·by_cases z:v<hs.length
  ·rw[MC z]at e
   let⟨j,n,b1,b2,b3,b4⟩:=L.at' v h' e;refine⟨j,n,?_,b2,b3,λq hq=>keep _ (b4 q hq)⟩
   rw[atn j (by lia)]
   exact b1
  ·let hv:v=hs.length:=by
    have:=(List.getElem?_eq_some_iff.mp e).1
    simp at this;lia
   subst hv;simp at e;subst e;exact⟨J,n,at0,a2,a3,λq hq=>keep _ (a5 q hq)⟩
theorem vC {mask:Nat}(hm:Msk mask):∀(post pre:Ww Int) (o:Array (Wq Nat)),Lain mask pre o->(pre++post).length<=mask->
  ∃o',post.foldl (λ(acc:Wq (Array (Wq Nat)×Nat)) h=>do
   let (owner,k) <-acc
   let j <-L8 mask owner (KQ mask) (LR h%(mask+1)) (LR h)
   pure (owner.setIfInBounds j (U k),k+1)) (U (o,pre.length))=U (o',(pre++post).length)/\Lain mask (pre++post) o'
 |[],pre,o,L,_=>⟨o,by simp,by simpa using L⟩
 |h::post,pre,o,L,hl=>by
  rw[K0,Kl]at hl;let⟨J,e,L1⟩:=L.step hm h (by lia)
  let⟨o',e',L'⟩:=vC hm post (pre++[h]) _ L1 (by simp;lia)
  simp_all
def Gf {mask:Nat}(hm:Msk mask) (hs:Ww Int) (hl:hs.length<=mask):∃o,QX mask hs.toArray=U o/\Lain mask hs o:=by
 let⟨o,e,L⟩:=vC hm hs [] _ (Lain.nil mask) (by trivial)
 unfold QX
 simp_all
theorem qi {β:Type}(g:Nat->Wq β):∀l:Ww Nat,(l.filterMap λj=>(g j).map (j,·)).map (·.1)=l.filter λj=>(g j).isSome
 |[]=>rfl
 |x::l=>by
  rw[Nt,qaB];cases e:g x with
  |none=>simpa using qi g l
  |some v=>simpa using qi g l
theorem oG {β:Type}(g:Nat->Wq β):∀l:Ww Nat,(l.filterMap λj=>(g j).map (j,·)).map (·.2)=l.filterMap g
 |[]=>rfl
 |x::l=>by
  rw[Nt,Nt];cases e:g x with
  |none=>simpa using oG g l
  |some v=>simpa using oG g l
def FU {mask:Nat}(hm:Msk mask) (hs:Ww Int) (hl:hs.length<=mask) (finger moves:Nat) (led plain:Bool):∃t order,SetTable.laid mask finger moves led plain hs.toArray=U (t,order)/\
  order.toList.Perm (K1 hs.length)/\Tab t (order.toList.map λi=>hs.getD i 0)/\t.mask=mask/\t.led=led/\t.plain=plain/\t.place.size=hs.length:=by
 let⟨o,e,L⟩:=Gf hm hs hl;unfold SetTable.laid;rw[e];refine⟨_,_,rfl,?_⟩
 let gd:∀j v,o.getD j B=U v↔o[j]?=U (U v):=λj v=>by
  by_cases h:j<o.size
  ·simp[h]
  ·simp[h]
 generalize hlive:((K1 (mask+1)).filterMap λj=>(o.getD j B).map (j,·))=live
 let hf:live.map (·.1)=(K1 (mask+1)).filter λj=>(o.getD j B).isSome:=by rw[<-hlive];exact qi (λj=>o.getD j B) _
 let hsn:live.map (·.2)=(K1 (mask+1)).filterMap λj=>o.getD j B:=by rw[<-hlive];exact oG (λj=>o.getD j B) _
 let mem:∀j v,(j,v)∈live↔o[j]?=U (U v):=λj v=>by
  rw[<-hlive,qal];constructor
  ·simp_all
  ·intro h
   refine⟨j,qae.mpr ?_,by simp_all⟩
   have:=(Array.getElem?_eq_some_iff.mp h).1
   simp_all [L.sz]
 let nd:(live.map (·.2)).Nodup:=by
  rw[hsn];unfold List.Nodup;rw[List.pairwise_filterMap];refine List.Pairwise.imp ?_ (qaC (n:=mask+1))
  intro a b hab x hx y hy hxy;subst hxy;exact hab (L.inj a b x ((gd a x).mp hx) ((gd b x).mp hy))
 let perm:(live.map (·.2)).Perm (K1 hs.length):=by
  refine(Mw nd qaC).mpr λv=>?_
  rw[qae];constructor
  ·intro h
   let⟨⟨j,u⟩,hp,rfl⟩:=mt.mp h;exact L.lt j u ((mem j u).mp hp)
  ·intro h
   let⟨j,n,a1,_⟩:=L.at' v hs[v] (by simp[h])
   exact mt.mpr ⟨(j,v),(mem j v).mpr a1,rfl⟩
 let ris:Ris (live.map (·.1)):=by
  rw[hf];exact List.Pairwise.filter _ (QP (n:=mask+1))
 let llen:live.length=hs.length:=by have:=perm.length_eq;simpa using this
 refine⟨by simpa using perm,⟨hm,rfl,?_,by simpa using ris,?_,?_⟩,rfl,rfl,rfl,by simpa using llen⟩
 ·simp
 ·grind
 ·intro i h j e1 e2
  obtain⟨⟨j',v⟩,hp,rfl⟩:∃p,live[i]?=U p/\p.1=j:=by
   rw[Ky]at e2
   cases q:live[i]? with
   |none=>simp_all
   |some p=>simp_all
  let ho:=(mem j' v).mp (Kv hp);let hv:=L.lt j' v ho;let eh:h=hs[v]:=by
   rw[Ky,Ky,hp]at e1
   simp[hv]at e1;exact e1.symm
  subst eh;let⟨j2,n,b1,b2,b3,b4⟩:=L.at' v hs[v] (by simp[hv])
  have:j2=j':=L.inj j2 j' v b1 ho;subst this;refine⟨n,b2,?_,λm hm'=>?_⟩
  ·exact(cX (t:={mask:=mask,place:=(live.map (·.1)).toArray,dummies:=#[],finger:=finger,led:=led,moves:=moves,plain:=plain}) (u:=d7 mask) rfl _ _).trans b3
  ·rw[cX (t:={mask:=mask,place:=(live.map (·.1)).toArray,dummies:=#[],finger:=finger,led:=led,moves:=moves,plain:=plain}) (u:=d7 mask) rfl]
   let⟨u,hu⟩:=b4 m hm';let hmem:BJ mask hs[v] m∈live.map (·.1):=mt.mpr ⟨(_,u),(mem _ u).mpr hu,rfl⟩
   let⟨k,hk,ek⟩:=qah.mp hmem;let hk2:k<((live.map (·.1)).toArray).size:=by simpa using hk
   have:=eM (t:={mask:=mask,place:=(live.map (·.1)).toArray,dummies:=#[],finger:=finger,led:=led,moves:=moves,plain:=plain}) (by simpa using ris) hk2
   simp_all
end L2.G
namespace L2.G
open PySem PySem.Spec PyProof.Rows
def Tab.fits {t:KS}{hs:Ww Int}(T:Tab t hs) (hf:t.place.size<=t.mask):t.fits hs.length=V:=by
 unfold SetTable.fits SetTable.fill
 simp_all [T.dum,T.len,hf]
def Tab.odd {t:KS}{hs:Ww Int}(T:Tab t hs):t.gaveWay=Y:=by
 unfold SetTable.gaveWay
 rcases T.msk with h|h|h<;>rw[h]<;>rfl
section
variable{prog:Lw}{w:LY}{A:KH}{E:J4->J5->Prop}{s:J5}{a:Kp}{o:PC}{es:Ww (Int×J4)}{ep:Nat}{t:KS}{x:J4}{hx:Int}
theorem lL (ho:s.heap.get? a=U o) (hd:o.data=.set es.toArray ep t) (T:Tab t (es.map (·.1))) (hf:t.place.size<=t.mask) (eqb:J4->Bool) (hrefs:∀e∈es,∃b,e.2=.ref b)
  (heq:∀e∈es,e.1=hx->Mj A s e.2 x (eqb e.2)) (hquiet:∀l:Ww J4,(∀y∈l,∃e∈es,e.2=y)->∀Q:Bool->J5->Prop,Q Y s->wpAny (model prog w) A (searchCouldBeSeen x l) Q E s)
  {Q:SetFound->J5->Prop}{N:Nat}(hN:N<10*KQ t.mask) (hw:∀m,m<N->∃k,t.slot (way t hx m)=.live k)
  (hend:(t.slot (way t hx N)=.empty/\(∀e∈es,e.1=hx->eqb e.2=Y)/\Q (.free (way t hx N) Y) s)\/(∃i e,t.slot (way t hx N)=.live i/\es[i]?=U e/\e.1=hx/\eqb e.2=V)/\Q (.there B) s)
  (hthere:(∃e∈es,e.1=hx/\eqb e.2=V)->Q (.there B) s):
  ∀(fuel m:Nat) (st:Wq LK),m<=N->N - m<fuel->st.getD (t.probeStart hx)=cM t m (t.probeStart hx)->wpAny (model prog w) A (setSearchFrom a x hx V fuel st) Q E s:=by
 intro fuel
 induction fuel with
 |zero=>lia
 |succ fuel ih=>
  intro m st hm hfu hst;let hfit:t.fits es.toArray.size=V:=by simpa using T.fits hf
  refine JY (LN ho hd hfit ?_)
  dsimp only;rw[T.odd];simp![Ko,if_false];rw[hst]
  letI hashAt:Nat->Int:=λi=>(es.toArray[i]?.map (·.1)).getD 0
  let hat:∀i e,es[i]?=U e->hashAt i=e.1:=λi e h=>by show(es.toArray[i]?.map (·.1)).getD 0=_;simp[h]
  let tellsN:t.slot (way t hx N)=.empty\/∃i,t.slot (way t hx N)=.live i/\(hashAt i==hx)=V:=by
   rcases hend with⟨h,_⟩|⟨⟨i,e,h1,h2,h3,_⟩,_⟩
   ·exact .inl h
   ·exact .inr ⟨i,h1,by rw[hat i e h2,h3];lia⟩
  let⟨n,hn,tell,before⟩:=Gy (P:=λk=>t.slot (way t hx (m+k))=.empty\/∃i,t.slot (way t hx (m+k))=.live i/\(hashAt i==hx)=V) (n:=N - m) (by simp_all)
  let hadd:∀k,(cM t k (cM t m (t.probeStart hx))).j=way t hx (m+k):=λk=>by rw[<-gX]
  let live:∀k,k<n->∃i,t.slot (way t hx (m+k))=.live i:=λk hk=>hw (m+k) (by lia)
  let⟨go1,go2⟩:=pT (t:=t) (hashAt:=hashAt) (h:=hx) n (10*KQ t.mask) (cM t m (t.probeStart hx)) (by lia) λk hk=>by
   let⟨i,hi⟩:=live k hk;refine⟨i,by simp_all,?_⟩
   cases q:(hashAt i==hx)with
   |false=>rfl
   |true=>exact absurd (.inr ⟨i,hi,q⟩) (before k hk)
  rw[hadd]at go1 go2;let dum0:(cM t n (cM t m (t.probeStart hx))).dummy=B:=by rw[jn,jn];rfl
  rw[dum0]at go1
  rcases tell with te|⟨i,ti,hi⟩
  ·-- an empty one:it is the last
   let hnN:m+n=N:=by
    rcases PN (m+n) N with z|z
    ·let⟨k,hk⟩:=hw (m+n) z;lia
    ·lia
   let hp:∀f:Nat->Int,f=hashAt->t.probe f hx (cM t m (t.probeStart hx))=U (.empty (way t hx (m+n)) B):=λf e=>by rw[e];exact go1 te
   rw[hp]
   rotate_left
   ·rfl
   rcases hend with⟨_,_,h⟩|⟨⟨i,e,h1,_⟩,_⟩
   ·rw[hnN];exact JZ h
   lia
  ·let hp:∀f:Nat->Int,f=hashAt->t.probe f hx (cM t m (t.probeStart hx))=U (.candidate (way t hx (m+n)) i (t.advance (cM t n (cM t m (t.probeStart hx))))):=λf e=>by rw[e];exact go2 i ti hi
   rw[hp]
   rotate_left
   ·rfl
   let⟨hil,hpl⟩:=qQ ti;let hie:i<es.length:=by have:=T.len;simp at this;lia
   let hes:es[i]?=U es[i]:=by simp[hie]
   let hh:es[i].1=hx:=by
    have:=hat i _ hes;rw[this]at hi;exact beq_iff_eq.mp hi
   let hmem:=LC hie;let⟨b,hb⟩:=hrefs _ hmem;let tail:wpAny (model prog w) A (do
     let U (_,y):=es.toArray[i]?|unsupported "internal:set-entry"
     let equal <-holding [y] (eqBool y x)
     let (es',_,t') <-setState a
     if V&&equal then return .there B
     let U same:=t'.sameMemory t.moves t.mask|unsupported "set.changed-during-lookup:is-the-new-block-at-the-old-address"
     let still <-match(if same then t'.slot (way t hx (m+n)) else .empty)with
      |.live i'=>match es'[i']? with
       |some (_,y')=>do pure (if <-isSame y' y then U i' else B)
       |none=>pure B
      |_=>pure B
     match still with
     |none=>rule "set.search.anew";setSearchFrom a x hx V fuel B
     |some i'=>if equal then return .there (U i') else setSearchFrom a x hx V fuel (U (t.advance (cM t n (cM t m (t.probeStart hx)))))) Q E s:=by
    let e1:es.toArray[i]?=U es[i]:=by simp[hie]
    rw[e1];dsimp only;refine JY (KB (heq _ hmem hh _ _ _ _ ?_))
    refine JY (LN ho hd hfit ?_)
    dsimp only;cases hq:eqb es[i].2 with
    |true=>
     exact JZ (hthere ⟨_,hmem,hh,hq⟩)
    |false=>
     let sm:t.sameMemory t.moves t.mask=U V:=by unfold SetTable.sameMemory;rw[if_pos (beq_self_eq_true _)]
     rw[sm];simp![if_true];rw[ti];dsimp only;rw[e1];dsimp only;rw[hb];let e3:isSame (.ref b) (.ref b)=pure V:=by unfold isSame;dsimp only;rw[if_pos (beq_self_eq_true _)]
     rw[e3]
     ·let h1:m+n+1<=N:=by
       rcases PN (m+n) N with z|z
       ·lia
       ·let zN:m+n=N:=by lia
        rcases hend with⟨h,_⟩|⟨⟨i',e,h1,h2,h3,h4⟩,_⟩
        ·lia
        ·lia
      refine ih (m+n+1) _ h1 (by lia) ?_
      simp[gX,mG]
   cases hled:t.led with
   |true=>
    assumption
   |false=>
    refine JY (hquiet _ (λy hy=>?_) _ ?_)
    ·let⟨e,he,rfl⟩:=mt.mp hy
     refine⟨e,?_,rfl⟩
     have:e∈(es.toArray.filter λz=>z.1==hx).toList:=he
     simp at this;exact this.1
    assumption
end
end L2.G
namespace L2.G
open PySem PySem.Spec PyProof.Rows
def SetAt (h:LF) (a:Kp) (es:Ww (Int×J4)) (led:Bool):Prop:=
 ∃o ep t,h.get? a=U o/\o.ExactSet/\o.data=.set es.toArray ep t/\Tab t (es.map (·.1))/\t.place.size*5<t.mask*3/\t.led=led
def Tab.plain {t:KS}{hs:Ww Int}(T:Tab t hs) (b:Bool):Tab {t with plain:=b} hs:=by
 refine⟨T.msk,T.dum,T.len,T.ris,T.le,λi h j e1 e2=>?_⟩
 let⟨n,a1,a2,a3⟩:=T.rch i h j e1 e2;refine⟨n,a1,(cX (t:={t with plain:=b}) (u:=t) rfl _ _).trans a2,λm hm=>?_⟩
 rw[cX (t:={t with plain:=b}) (u:=t) rfl]
 exact a3 m hm
def vo {es:Ww (Int×J4)}{order:Ww Nat}(h:order.Perm (K1 es.length)):(order.filterMap (es[·]?)).Perm es/\(order.filterMap (es[·]?)).map (·.1)=order.map λi=>(es.map (·.1)).getD i 0:=by
 constructor
 ·let h1:=h.filterMap (es[·]?)
  simp_all [List.filterMap_getElem?_range_length]
 ·let hl:∀i∈order,i<es.length:=λi hi=>qae.mp (h.mem_iff.mp hi)
  clear h
  induction order with
  |nil=>rfl
  |cons i order ih=>
   simp_all
section
variable{prog:Lw}{w:LY}{A:KH}{E:J4->J5->Prop}{s:J5}{a:Kp}
theorem Bl (a:Kp) (wanted:Nat):setRelay a wanted=(do
  let (es,_,t) <-setState a
  if O1 wanted>sizeLine then unsupported "set:memory"
  let (es,t) <-(do
   let U (t,order):=t.relaid (es.map (·.1)) wanted|unsupported "internal:set-table-without-room"
   let es':=order.filterMap (es[·]?)
   if es'.size != es.size then unsupported "internal:set-table-lost-an-element"
   pure (es',t))
  storeSet a es t):=rfl
def iI {h:LF}{o:PC}{es es':Array (Int×J4)}{ep:Nat}{t t':KS}(ho:h.get? a=U o) (hd:o.data=.set es ep t):(h.update a (NT es' t')).get? a=U {o with data:=.set es' (ep+1) t'}:=by
 have:=Ku (NT es' t') ho (by rw[putSet_of es' t' hd];rfl)
 rw[putSet_of es' t' hd]at this;exact this
def G1 {t:KS}{p:LK}(h:p.j+p.more<=t.mask):(t.advance p).j+(t.advance p).more<=t.mask:=by
 unfold NG;split
 ·dsimp only;lia
 ·unfold OV
  dsimp only;let h1:(p.i*5+1+p.perturb / 32)%(t.mask+1)<t.mask+1:=ON _ (N5 _);have:=yd h1;have:=yu t.mask ((p.i*5+1+p.perturb / 32)%(t.mask+1));lia
def Hc (t:KS) (hx:Int) (n:Nat):∃m,m<=t.mask/\way t hx n=m:=by
 have:∀n,(cM t n (t.probeStart hx)).j+(cM t n (t.probeStart hx)).more<=t.mask:=λn=>by
  induction n with
  |zero=>
   show(t.probeStart hx).j+(t.probeStart hx).more<=t.mask;unfold QI;dsimp only;let h1:LR hx%(t.mask+1)<t.mask+1:=ON _ (N5 _);have:=yd h1;have:=yu t.mask (LR hx%(t.mask+1));lia
  |succ n ih=>rw[mG];exact G1 ih
 exact⟨_,by have:=this n;show(cM t n (t.probeStart hx)).j<=t.mask;lia,rfl⟩
def wh {es:Ww (Int×J4)}(T:Tab t (es.map (·.1))) (hg:t.mask*3<=es.length*5) (hl:es.length*5<t.mask*3+5) (h76:es.length<=76):∃(es2:Ww (Int×J4)) (t2:KS) (order:Array Nat),t.relaid (es.toArray.map (·.1)) (L9 es.length)=U (t2,order)/\O1 (L9 es.length)<=128/\
  order.filterMap (es.toArray[·]?)=es2.toArray/\order.toList.Perm (K1 es.length)/\es2.Perm es/\Tab t2 (es2.map (·.1))/\t2.place.size*5<t2.mask*3/\t2.led=t.led:=by
 obtain⟨m,e2,e3,e4⟩:∃m,O1 (L9 es.length)=m+1/\Msk m/\es.length*5<m*3:=by
  rcases T.msk with z|z|z
  ·let h5:es.length=5:=by lia
   exact⟨31,by rw[h5];decide,.inr (.inl rfl),by lia⟩
  ·let h5:es.length=19:=by lia
   exact⟨127,by rw[h5];decide,.inr (.inr rfl),by lia⟩
  ·lia
 let⟨t',order,q1,q2,q3,q4,q5,q6,q7⟩:=FU e3 (es.map (·.1)) (by simp;lia) t.finger (t.movedTo m) t.led t.plain
 rw[J8]at q2 q7;let⟨p1,p2⟩:=vo q2;refine⟨order.toList.filterMap (es[·]?),t',order,?_,by rcases e3 with h|h|h<;>lia,by apply Array.ext';simp,q2,p1,by rw[p2];exact q3,by rw[q7,q4];exact e4,q5⟩
 unfold SetTable.relaid
 simp_all
def CD (ho:s.heap.get? a=U o) (hex:o.ExactSet) (hd:o.data=.set es.toArray ep t) (T:Tab t (es.map (·.1))) (hf:t.place.size<=t.mask) (hg:t.mask*3<=es.length*5) (hl:es.length*5<t.mask*3+5) (h76:es.length<=76) (h:∀es' t',es'.Perm es->SetAt (s.heap.update a (NT es'.toArray t')) a es' t.led->Q () {s with heap:=s.heap.update a (NT es'.toArray t')}):
  wpAny (model prog w) A (setRelay a (L9 es.length)) Q E s:=by
 let⟨es2,t2,order,e1,e2,e3,e4,p1,e5,e6,e7⟩:=wh T hg hl h76;let hlen:=p1.length_eq;rw[Bl];refine JY (LN ho hd (by simpa using T.fits hf) ?_)
 dsimp only;rw[if_neg (by rw[M5];lia),e1]
 dsimp only;rw[e3,show(es2.toArray.size != es.toArray.size)=Y by simp[hlen]]
 exact JY (JZ (Oz ho hd (h _ t2 p1 ⟨_,ep+1,t2,iI ho hd,hex,rfl,e5,e6,e7⟩) (by rw[M5];simp[hlen];lia)))
def zh {es:Ww (Int×J4)}(T:Tab t (es.map (·.1))) (hn:n<10*KQ t.mask) (he:t.slot (way t hx n)=.empty) (hw:∀m,m<n->∃k,t.slot (way t hx m)=.live k) (x:J4):∃(t1:KS) (p:Nat) (es1:Ww (Int×J4)),t.put (way t hx n)=(t1,p)/\t1.mask=t.mask/\t1.led=t.led/\
  Nx es.toArray p (hx,x)=es1.toArray/\es1.Perm ((hx,x)::es)/\Tab t1 (es1.map (·.1)):=by
 let⟨m,hm,e⟩:=Hc t hx n;refine⟨_,_,es.take _++(hx,x)::es.drop _,rfl,rfl,rfl,Array.ext' (by rw[N7]),?_,?_⟩
 ·grind [qan,Na]
 ·rw[Kn,Ka,Pj,Pk];exact(T.put hn he hw (by lia)).1
def Tab.full (T:Tab t hs):t.tooFull=decide (t.place.size*5>=t.mask*3):=by
 unfold SetTable.tooFull SetTable.fill;rw[T.dum];rfl
theorem B2 {o:PC}{es:Ww (Int×J4)}{ep:Nat}{t:KS}{x:J4}{hx:Int}{n:Nat}{Q:Bool->J5->Prop}(ho:s.heap.get? a=U o) (hex:o.ExactSet) (hd:o.data=.set es.toArray ep t) (T:Tab t (es.map (·.1)))
  (hf:t.place.size*5<t.mask*3) (h75:es.length<=75) (hn:n<10*KQ t.mask) (he:t.slot (way t hx n)=.empty) (hw:∀m,m<n->∃k,t.slot (way t hx m)=.live k)
  (hbv:∀R:Bool->J5->Prop,(∀b,R b s)->wpAny (model prog w) A (hashByValue 8 x) R E s) {J:Nat}(hJ:way t hx n=J)
  (h:∀h' es',Ln a s.heap h'->es'.Perm ((hx,x)::es)->SetAt h' a es' t.led->Q V {s with heap:=h'}):
  wpAny (model prog w) A (do
   let (es,_,t) <-setState a
   let (t,p):=t.put J
   let byValue <-if t.plain then hashByValue 8 x else pure V
   let t:=if byValue then t else{t with plain:=Y}
   storeSet a (Nx es p (hx,x)) t
   if !Y&&t.tooFull then setRelay a (L9 (es.size+1))
   return V) Q E s:=by
 subst hJ;let hl:=T.len;rw[J8]at hl;refine JY (LN ho hd (by simpa using T.fits (by lia)) ?_)
 dsimp only;let⟨t1,p,es1,ep1,hm1,hl1,ei,eperm,T1⟩:=zh T hn he hw x;let elen:=eperm.length_eq;rw[Kl]at elen;rw[ep1];dsimp only;rw[ei];let core:∀tb:KS,Tab tb (es1.map (·.1))->tb.mask=t.mask->tb.led=t.led->wpAny (model prog w) A (do
   storeSet a es1.toArray tb
   if(!Y&&tb.tooFull)=V then do
     setRelay a (L9 (es.toArray.size+1))
     pure V
    else pure V) Q E s:=λtb Tb mb lb=>by
  let plb:=Tb.len;rw[J8]at plb;refine JY (Oz ho hd ?_ (by rw[M5];simp[elen];lia))
  let hst:=iI (es':=es1.toArray) (t':=tb) ho hd;let hsb:Ln a s.heap (s.heap.update a (NT es1.toArray tb)):=KT s.heap a _;let tf:=Tb.full;cases hfull:tb.tooFull with
  |false=>
   rw[hfull]at tf;have:=of_decide_eq_false tf.symm;exact JZ (h _ es1 hsb eperm ⟨_,ep+1,tb,hst,hex,rfl,Tb,by lia,lb⟩)
  |true=>
   rw[hfull]at tf;let hge:=of_decide_eq_true tf.symm;rw[KO,<-elen];refine JY (CD (s:={s with heap:=s.heap.update a (NT es1.toArray tb)}) (o:={o with data:=.set es1.toArray (ep+1) tb}) hst hex rfl Tb (by lia) (by lia) (by lia) (by lia) λes2 t2 p2 S2=>?_)
   rw[lb]at S2;exact JZ (h _ es2 (hsb.trans (KT _ a _)) (p2.trans eperm) S2)
 cases hpl:t1.plain with
 |true=>
  exact JY (hbv _ λb=>by cases b;exact core _ (T1.plain Y) hm1 hl1;exact core _ T1 hm1 hl1)
 |false=>
  simp![Ko,if_false];exact JY (JZ (core _ T1 hm1 hl1))
end
end L2.G
namespace L2.G
open PySem PySem.Spec PyProof.Rows
section
variable{prog:Lw}{w:LY}{A:KH}{E:J4->J5->Prop}{s:J5}{a:Kp}
def EP {es:Ww (Int×J4)}{led:Bool}{b:Kp}{hx:Int}{Q:Bool->J5->Prop}(S:SetAt s.heap a es led) (h75:es.length<=75) (eqb:J4->Bool) (hrefs:∀e∈es,∃b,e.2=.ref b)
  (heq:∀e∈es,e.1=hx->Mj A s e.2 (.ref b) (eqb e.2)) (himp:∀e∈es,eqb e.2=V->e.1=hx)
  (hquiet:∀l:Ww J4,(∀y∈l,∃e∈es,e.2=y)->∀Q:Bool->J5->Prop,Q Y s->wpAny (model prog w) A (searchCouldBeSeen (.ref b) l) Q E s)
  (hbv:∀R:Bool->J5->Prop,(∀b,R b s)->wpAny (model prog w) A (hashByValue 8 (.ref b)) R E s)
  (h1:(∃e∈es,eqb e.2=V)->Q Y s)
  (h2:(∀e∈es,eqb e.2=Y)->∀h' es',Ln a s.heap h'->es'.Perm ((hx,.ref b)::es)->SetAt h' a es' led->Q V {s with heap:=h'}):
  wpAny (model prog w) A (setAddHashed a (.ref b) hx) Q E s:=by
 let⟨o,ep,t,ho,hex,hd,T,hf,hled⟩:=S;let hl:=T.len;rw[J8]at hl;let hfm:t.place.size<=t.mask:=by lia
 let hfit:t.fits es.toArray.size=V:=by simpa using T.fits hfm
 refine KB (JY (LN ho hd hfit ?_))
 by_cases hyes:∃e∈es,eqb e.2=V
 ·let⟨e,hem,heb⟩:=hyes
  let⟨i,hi,rfl⟩:=qah.mp hem;let hh:=himp _ hem heb;let hip:i<t.place.size:=by lia
  let⟨N,n1,n2,n3⟩:=T.rch i es[i].1 t.place[i] (by simp[hi]) (by simp[hip])
  rw[hh]at n2 n3;refine JY (lL ho hd T hfm eqb hrefs heq hquiet n1 n3 (.inr ⟨⟨i,es[i],by rw[n2];exact eM T.ris hip,by simp[hi],hh,heb⟩,?_⟩) (λ_=>?_) 100000 0 B (KA _) ?_ rfl)
  ·exact JZ (h1 ⟨_,hem,heb⟩)
  ·exact JZ (h1 ⟨_,hem,heb⟩)
  ·have:KQ t.mask<=142:=by unfold KQ;rcases T.msk with z|z|z<;>lia
   lia
 ·let hno:∀e∈es,eqb e.2=Y:=λe he=>by
   grind
  let⟨N,n1,n2,n3⟩:=T.free hfm hx;refine JY (lL ho hd T hfm eqb hrefs heq hquiet n1 n3 (.inl ⟨n2,λe he _=>hno e he,?_⟩) (λ⟨e,he,_,q⟩=>absurd ⟨e,he,q⟩ hyes) 100000 0 B (KA _) ?_ rfl)
  ·exact B2 ho hex hd T hf h75 n1 n2 n3 hbv rfl λh' es' k p S'=>h2 hno h' es' k p (hled▸S')
  ·have:KQ t.mask<=142:=by unfold KQ;rcases T.msk with z|z|z<;>lia
   lia
def uU {t:KS}{hs:Ww Int}(T:Tab t hs) {hx:Int}{n:Nat}(hn:n<10*KQ t.mask) (he:t.slot (way t hx n)=.empty) (hw:∀m,m<n->∃k,t.slot (way t hx m)=.live k):
  t.freeSlot hx=U (way t hx n,Y):=by
 unfold SetTable.freeSlot;have:=(pT (t:=t) (hashAt:=λ_=>hx+1) (h:=hx) n (10*KQ t.mask) (t.probeStart hx) hn λm hm=>by
  grind).1 he
 let e:t.probe (λ_=>hx+1) hx (t.probeStart hx)=U (.empty (way t hx n) B):=by
  unfold SetTable.probe;rw[this,jn];rfl
 rw[e];rfl
theorem BY {es:Ww (Int×J4)}{led:Bool}{K:Type}[DecidableEq K] {knd:KeyKind prog w K}{k:K}{x:J4}{Q:Bool->J5->Prop}(S:SetAt s.heap a es led) (h75:es.length<=75) (hkey:knd.is k x=V) (hsc:x.scannable=V) (hel:ElemsOf knd es)
  (h1:(∃e∈es,knd.is k e.2=V)->Q Y s)
  (h2:(∀e∈es,knd.is k e.2=Y)->∀h' es',Ln a s.heap h'->es'.Perm ((knd.hash k,x)::es)->SetAt h' a es' led->Q V {s with heap:=h'}):
  wpAny (model prog w) A (setAddHashed a x (knd.hash k)) Q E s:=by
 let⟨o,ep,t,ho,hex,hd,T,hf,hled⟩:=S;let hl:=T.len;rw[J8]at hl;let hfm:t.place.size<=t.mask:=by lia
 let hfit:t.fits es.toArray.size=V:=by simpa using T.fits hfm
 let hel':ElemsOf knd es.toArray.toList:=by simpa using hel
 refine KB (JY (LN ho hd hfit ?_))
 dsimp only;rw[byScan_of hsc (by unfold scanBound;simp;lia) hel']
 refine JY ?_
 refine JY (LA ?_)
 refine JY (wpAny_setScan_of hkey ho hd hfit hel' ?_)
 cases hr:List.findIdx? (λe=>knd.is k e.2) es.toArray.toList with
 |some j=>
  let⟨hj,hpj,_⟩:=List.findIdx?_eq_some_iff_getElem.mp hr
  refine JZ (JZ (h1 ⟨es[j]'(by simpa using hj),LC _,by simpa using hpj⟩))
 |none=>
  let hno:=λe he=>List.findIdx?_eq_none_iff.mp hr e (by trivial)
  let⟨n,n1,n2,n3⟩:=T.free hfm (knd.hash k);generalize hhx:knd.hash k=hx at n1 n2 n3 h2⊢;let⟨t1,p,es1,ep1,hm1,hl1,ei,eperm,T1⟩:=zh T n1 n2 n3 x;let elen:=eperm.length_eq;rw[Kl]at elen;let pl1:=T1.len;rw[J8]at pl1;let elay:layNew t es.toArray hx x=(es1.toArray,t1,Y,Y):=by
   unfold layNew;rw[uU T n1 n2 n3];dsimp only;rw[ep1];dsimp only;rw[ei];unfold SetTable.orStandIn;rw[show t1.fits es1.toArray.size=V by simpa using T1.fits (by lia)]
   rfl
  rw[elay];dsimp only;let core:∀tb:KS,Tab tb (es1.map (·.1))->tb.mask=t.mask->tb.led=t.led->wpAny (model prog w) A (do
    storeSet a es1.toArray tb
    if(!Y&&tb.tooFull)=V then do
      (match(relayAll tb es1.toArray (L9 es1.toArray.size)).2.2 with|true=>rule "set.scan.the-table-gave-way"|false=>pure ())
      storeSet a (relayAll tb es1.toArray (L9 es1.toArray.size)).1 (relayAll tb es1.toArray (L9 es1.toArray.size)).2.1
      pure (U V)
     else pure (U V)) (λr s'=>wpAny (model prog w) A (match r with|some added=>pure added|none=>setAddHashedIn a x hx 99999) Q E s') E s:=λtb Tb mb lb=>by
   let plb:=Tb.len;rw[J8]at plb;refine JY (Oz ho hd ?_ (by rw[M5];simp[elen];lia))
   let hst:=iI (es':=es1.toArray) (t':=tb) ho hd;let hsb:Ln a s.heap (s.heap.update a (NT es1.toArray tb)):=KT s.heap a _;let tf:=Tb.full;cases hfull:tb.tooFull with
   |false=>
    rw[hfull]at tf;have:=of_decide_eq_false tf.symm;exact JZ (JZ (h2 hno _ es1 hsb eperm ⟨_,ep+1,tb,hst,hex,rfl,Tb,by lia,lb.trans hled⟩))
   |true=>
    rw[hfull]at tf;let hge:=of_decide_eq_true tf.symm;let⟨es2,t2,order,e1,e2,e3,e4,p1,e5,e6,e7⟩:=wh Tb (by lia) (by lia) (by lia)
    let c2:=e5.fits (by lia)
    let er:relayAll tb es1.toArray (L9 es1.toArray.size)=(es2.toArray,t2,Y):=by
     unfold relayAll;rw[KO,e1];dsimp only;rw[e3,show coversAll order es1.length=V by unfold coversAll;rw[qay];exact e4,show t2.fits es2.toArray.size=V by simpa using c2]
     rfl
    rw[er];refine JY (JZ ?_)
    refine JY (Oz (s:={s with heap:=s.heap.update a (NT es1.toArray tb)}) (o:={o with data:=.set es1.toArray (ep+1) tb}) hst rfl ?_ (by rw[M5];have:=p1.length_eq;simp[this,elen];lia))
    exact JZ (JZ (h2 hno _ es2 (hsb.trans (KT _ a _)) (p1.trans eperm) ⟨_,ep+2,t2,iI (o:={o with data:=.set es1.toArray (ep+1) tb}) hst rfl,hex,rfl,e5,e6,e7.trans (lb.trans hled)⟩))
  split
  ·refine JY ?_
   rw[hashByValue_scannable 8 hsc];refine JZ ?_
   cases plainKind x with
   |true=>exact core _ T1 hm1 hl1
   |false=>exact core _ (T1.plain Y) hm1 hl1
  ·exact JY (JZ (core _ T1 hm1 hl1))
end
end L2.G
namespace L2.G
open PySem PySem.Spec PyProof.Rows
abbrev fY (w:LY):Bool:=!w.params.followText "set-order"
abbrev gu (led:Bool):PC:={cls:=.type "set",dict:=B,data:=.set #[] 0 (.fresh 0 0 led)}
section
variable{prog:Lw}{w:LY}{A:KH}{E:J4->J5->Prop}{s:J5}
def qF (a:J4) {Q₁:J4->J5->Prop}(h:Q₁ (.ref s.heap.objs.size) {s with heap:=s.heap.push (gu (fY w))}):
  codeAny (model prog w) A (.call (.builtin "set.__new__") ⟨[.type "set",a],[]⟩) (wants Q₁ E) s:=by
 refine codeAny_of_tree ?_
 refine JY (N4 (F.newCall_set_1 a) (JZ ⟨Lh F.plain_set_new _,KP F.entry_set_new ?_⟩))
 let hsub:=sub_set_self
 wp_walk
 refine Qs (JZ ?_)
 refine JY (wpAny_alloc (JZ ?_))
 exact JZ h
end
end L2.G
namespace L2.G
open PySem PySem.Spec PyProof.Rows
def az:Slot "set_iterator" "__next__" "set_iterator.__next__":=
 .of (owner:="set_iterator") (n:="__next__") (by rfl) (by rfl) (by rfl) (by rfl)
  (by trivial) (by rfl)
def cy:entryFor table "set_iterator.__next__"=U NK.«set_iterator.__next__»:=entryFor_of_tree (by kernel_rfl)
def jx:Slot "set_iterator" "__iter__" "set_iterator.__iter__":=
 .of (owner:="set_iterator") (n:="__iter__") (by rfl) (by rfl) (by rfl) (by rfl)
  (by trivial) (by rfl)
def pe:entryFor table "set_iterator.__iter__"=U NK.«dict_keyiterator.__iter__»:=
 entryFor_alias (id':="dict_keyiterator.__iter__") (by kernel_rfl) rfl (by decide +kernel) (by kernel_rfl)
def l7:entryFor table "set.__iter__"=U NK.«frozenset.__iter__»:=
 entryFor_alias (id':="frozenset.__iter__") (by kernel_rfl) rfl (by decide +kernel) (by kernel_rfl)
def cU (a:J4):argsOk "set_iterator.__next__" ⟨[a],[]⟩:=by
 rfl
def qr (a:J4):argsOk "set_iterator.__iter__" ⟨[a],[]⟩:=by
 rfl
def dy {α:Type}{l:Ww α}{i:Nat}(h:i<l.length):(l[i]::l.eraseIdx i).Perm l:=by
 rw[NP];refine qan.symm.trans ?_
 simp
theorem oj {prog:Lw}{w:LY}{A:KH}{E:J4->J5->Prop}{α:Type}:∀(n:Nat) (xs:Ww α) (s:J5) (Q:Ww α->J5->Prop),xs.length=n->
  (∀ys d,ys.Perm xs->Q ys {s with drawn:=d})->wpAny (model prog w) A (drawOrder n xs) Q E s
 |0,xs,s,Q,hl,hQ=>by
  have:xs=[]:=qam.mp hl;subst this;exact JZ (hQ [] s.drawn (MI _))
 |n+1,[],s,Q,hl,hQ=>by cases hl
 |n+1,x::xs,s,Q,hl,hQ=>by
  unfold drawOrder;refine JY (Q:=Q) ?_
  intro Γ p hΓ;refine⟨by simp,?_⟩
  generalize hd:s.drawn.bump .order=d1;generalize hi:(model prog w).w.draws .order (s.drawn.get .order)%(x::xs).length=i;let hlt:i<(x::xs).length:=by rw[<-hi];exact ON _ (by simp)
  let key:wpAny (model prog w) A (match(x::xs)[i]? with|some y=>(do return y::(<-drawOrder n ((x::xs).eraseIdx i)))|none=>unsupported "internal:drawOrder") Q E {s with drawn:=d1}:=by
   rw[K7 hlt]
   dsimp only;refine JY (oj n ((x::xs).eraseIdx i) _ _ (by rw[Qo hlt,hl];rfl) λys d hp=>?_)
   refine JZ (hQ _ d ?_)
   exact(List.Perm.cons _ hp).trans (dy hlt)
  exact key
theorem zH {α:Type}(f:Nat->Nat):∀(fuel k:Nat) (left:Ww α) (out:Array α),fuel=left.length->(Qb f fuel k left out).toList.Perm (out.toList++left)
 |0,k,left,out,h=>by
  have:left=[]:=qam.mp h.symm;subst this;unfold Qb;simp
 |fuel+1,k,left,out,h=>by
  unfold Qb;let hlt:f k%left.length<left.length:=ON _ (by lia)
  rw[K7 hlt]
  dsimp only;refine(zH f fuel (k+1) _ _ (by rw[Qo hlt];lia)).trans ?_
  rw[LV,LJ];exact Qp _ (dy hlt)
theorem lG {α:Type}(f:Nat->Nat) (xs:Array α):(pickOrder f xs).toList.Perm xs.toList:=by
 unfold pickOrder
 simpa using zH f xs.size 0 xs.toList #[] (by simp)
end L2.G
namespace L2.G
open PySem PySem.Spec PyProof.Rows
structure SetIs (h:LF) (S:Kp) (es:Ww (Int×J4)) (ep:Nat) (t:KS):Prop where
 ob:∃o,h.get? S=U o/\o.ExactSet/\o.data=.set es.toArray ep t
 tab:Tab t (es.map (·.1))
 few:t.place.size<=t.mask
def SetIs.fits {h:LF}{S:Kp}{es:Ww (Int×J4)}{ep:Nat}{t:KS}(x:SetIs h S es ep t):t.fits es.toArray.size=V:=by simpa using x.tab.fits x.few
def SetIs.at {h h':LF}{S:Kp}{es:Ww (Int×J4)}{ep:Nat}{t:KS}(x:SetIs h S es ep t) (k:∀o,h.get? S=U o->h'.get? S=U o):SetIs h' S es ep t:=by
 let⟨⟨o,ho,r⟩,a,b⟩:=x;exact⟨⟨o,k o ho,r⟩,a,b⟩
def IterAt (h:LF) (I:Kp) (first:J4) (i:Nat) (S:Kp) (n ep:Nat):Prop:=∃o,h.get? I=U o/\o.cls=.type "set_iterator"/\o.data=.fields #[first,rawInt i,.ref S,rawInt n,rawInt ep]
def IterAt.typeIs {s:J5}{I S:Kp}{first:J4}{i n ep:Nat}(x:IterAt s.heap I first i S n ep):s.TypeIs (.ref I) "set_iterator":=by
 let⟨o,ho,hc,_⟩:=x;exact⟨o,ho,hc⟩
def IterAt.at {h h':LF}{I S:Kp}{first:J4}{i n ep:Nat}(x:IterAt h I first i S n ep) (k:∀o,h.get? I=U o->h'.get? I=U o):IterAt h' I first i S n ep:=by
 let⟨o,ho,r⟩:=x;exact⟨o,k o ho,r⟩
section
variable{prog:Lw}{w:LY}{A:KH}{E:J4->J5->Prop}{s:J5}{I S:Kp}{es:Ww (Int×J4)}{ep:Nat}{t:KS}{i:Nat}
def jy {sl nx:Nat}{v:J4}{Q:Wq J4->J5->Prop}(hne:S≠I) (it:IterAt s.heap I (rawInt sl) i S es.length ep) (st:SetIs s.heap S es ep t)
  (hn:∀(s:J5) (R:Wq (J4×Nat)->J5->Prop) (E:J4->J5->Prop),SetIs s.heap S es ep t->R (U (v,nx)) s->wpAny (model prog w) A.in1 (setNext S sl i ep) R E s)
  (hQ:∀h',IterAt h' I (rawInt nx) (i+1) S es.length ep->(∀b o,b≠I->s.heap.get? b=U o->h'.get? b=U o)->Q (U v) {s with heap:=h'}):wpAny (model prog w) A (pyNext (.ref I)) Q E s:=by
 let hT:=it.typeIs;let⟨o,ho,hc,hd⟩:=it;refine JY (MO (Lf (name:=Lb "__next__") hT az (KU az hT cy ?_ (cU _))))
 refine JY (m:=slotArgs "__next__" 0 _) (JZ ?_)
 refine JY (Om ho hd ?_)
 let⟨os,hos,hex,hds⟩:=st.ob;refine JY (Nz hos hds st.fits ?_)
 rw[if_neg (by simp)]
 refine JY (hn s _ _ st ?_)
 refine JY (Mn ho hd (by simp) ?_)
 let g1:=Ku (NW (·.setIfInBounds 0 (rawInt nx))) ho (Mz (Ld hd _))
 refine JY (Mn g1 (Ld hd _) (by simp) ?_)
 let g2:=Ku (NW (·.setIfInBounds 1 (rawInt ((i:Int)+1)))) g1 (Mz (Ld (Ld hd _) _))
 refine JZ ⟨_,rfl,JZ (hQ _ ?_ ?_)⟩
 ·exact⟨_,g2,(NN ..).trans ((NN ..).trans hc),by rw[Ld (Ld hd _)];rfl⟩
 ·exact λb o' hb e=>(Ki _ _ (Kt hb)).trans ((Ki _ _ (Kt hb)).trans e)
def oQ {T:Kp}{ps:Ww Nat}{p:Nat}{e:Int×J4}{Q:Wq J4->J5->Prop}(hne:S≠I) (it:IterAt s.heap I (.ref T) i S es.length ep) (st:SetIs s.heap S es ep t) (ht:∃o n,s.heap.get? T=U o/\o.data=.seq (ps.map λ(k:Nat)=>rawInt k).toArray n)
  (hp:ps[i]?=U p) (he:es[p]?=U e)
  (hQ:∀h',IterAt h' I (.ref T) (i+1) S es.length ep->(∀b o,b≠I->s.heap.get? b=U o->h'.get? b=U o)->Q (U e.2) {s with heap:=h'}):wpAny (model prog w) A (pyNext (.ref I)) Q E s:=by
 let hT:=it.typeIs;let⟨o,ho,hc,hd⟩:=it;refine JY (MO (Lf (name:=Lb "__next__") hT az (KU az hT cy ?_ (cU _))))
 refine JY (m:=slotArgs "__next__" 0 _) (JZ ?_)
 refine JY (Om ho hd ?_)
 let⟨os,hos,hex,hds⟩:=st.ob;refine JY (Nz hos hds st.fits ?_)
 rw[if_neg (by simp)]
 simp![Lj];let⟨oT,nT,hoT,hdT⟩:=ht;refine JY (K9 hoT hdT ?_)
 dsimp only;let e1:(ps.map λ(k:Nat)=>rawInt k).toArray[i]?=U (rawInt p):=by simp[hp]
 rw[e1];dsimp only[rawInt];simp![Lj];refine JY ?_
 refine JY (LN hos hds st.fits ?_)
 dsimp only;rw[if_neg (by simp)]
 let e2:es.toArray[p]?=U e:=by simp[he]
 rw[e2];refine JZ ?_
 refine JY (Mn ho hd (by simp) ?_)
 let g2:=Ku (NW (·.setIfInBounds 1 (rawInt ((i:Int)+1)))) ho (Mz (Ld hd _))
 refine JZ ⟨_,rfl,JZ (hQ _ ?_ ?_)⟩
 ·exact⟨_,g2,(NN ..).trans hc,by rw[Ld hd];rfl⟩
 ·exact λb o' hb e=>(Ki _ _ (Kt hb)).trans e
def kX {sl:Nat}{Q:Wq J4->J5->Prop}(hh:A.handled=B) (it:IterAt s.heap I (rawInt sl) i S es.length ep) (st:SetIs s.heap S es ep t)
  (hn:∀(s:J5) (R:Wq (J4×Nat)->J5->Prop) (E:J4->J5->Prop),SetIs s.heap S es ep t->R B s->wpAny (model prog w) A.in1 (setNext S sl i ep) R E s)
  (hQ:∀h',(∀b o,b≠I->s.heap.get? b=U o->h'.get? b=U o)->Q B {s with heap:=h'}):wpAny (model prog w) A (pyNext (.ref I)) Q E s:=by
 let hT:=it.typeIs;let⟨o,ho,hc,hd⟩:=it;refine JY (MO (Lf (name:=Lb "__next__") hT az (KU az hT cy ?_ (cU _))))
 refine JY (m:=slotArgs "__next__" 0 _) (JZ ?_)
 refine JY (Om ho hd ?_)
 let⟨os,hos,hex,hds⟩:=st.ob;refine JY (Nz hos hds st.fits ?_)
 rw[if_neg (by simp)]
 refine JY (hn s _ _ st ?_)
 refine JY (Mn ho hd (by simp) ?_)
 refine JY ?_
 refine JY (m:=firstArgMember _ _) (N4 (a:=L6) (by rfl) ?_)
 refine Le ?_ (by size_fits)
 refine JY (PU ?_)
 rw[show A.in1.handled=B from hh]
 refine JY (JZ (Qz ?_))
 refine JY (MA (T:="StopIteration") (b:=V) ⟨_,J7 _ rfl,rfl⟩ On ?_)
 exact JZ (hQ _ λb o' hb e=>J0 _ (J0 _ ((Ki _ _ (Kt hb)).trans e)))
def qV {T:Kp}{ps:Ww Nat}{Q:Wq J4->J5->Prop}(hh:A.handled=B) (it:IterAt s.heap I (.ref T) i S es.length ep) (st:SetIs s.heap S es ep t) (ht:∃o n,s.heap.get? T=U o/\o.data=.seq (ps.map λ(k:Nat)=>rawInt k).toArray n)
  (hp:ps[i]?=B) (hQ:∀h',(∀b o,b≠I->s.heap.get? b=U o->h'.get? b=U o)->Q B {s with heap:=h'}):wpAny (model prog w) A (pyNext (.ref I)) Q E s:=by
 let hT:=it.typeIs;let⟨o,ho,hc,hd⟩:=it;refine JY (MO (Lf (name:=Lb "__next__") hT az (KU az hT cy ?_ (cU _))))
 refine JY (m:=slotArgs "__next__" 0 _) (JZ ?_)
 refine JY (Om ho hd ?_)
 let⟨os,hos,hex,hds⟩:=st.ob;refine JY (Nz hos hds st.fits ?_)
 rw[if_neg (by simp)]
 simp![Lj];let⟨oT,nT,hoT,hdT⟩:=ht;refine JY (K9 hoT hdT ?_)
 dsimp only;let e1:(ps.map λ(k:Nat)=>rawInt k).toArray[i]?=B:=by simpa using hp
 rw[e1];refine JY (Mn ho hd (by simp) ?_)
 let g1:=Ku (NW (·.setIfInBounds 0 (rawInt 0))) ho (Mz (Ld hd _))
 refine JY (Mn g1 (Ld hd _) (by simp) ?_)
 refine JY ?_
 refine JY (m:=firstArgMember _ _) (N4 (a:=L6) (by rfl) ?_)
 refine Le ?_ (by size_fits)
 refine JY (PU ?_)
 rw[show A.in1.handled=B from hh]
 refine JY (JZ (Qz ?_))
 refine JY (MA (T:="StopIteration") (b:=V) ⟨_,J7 _ rfl,rfl⟩ On ?_)
 exact JZ (hQ _ λb o' hb e=>J0 _ (J0 _ ((Ki _ _ (Kt hb)).trans ((Ki _ _ (Kt hb)).trans e))))
def uC {first:J4}{n:Nat}{Q:J4->J5->Prop}(it:IterAt s.heap I first i S n ep) (hQ:Q (.ref I) s):wpAny (model prog w) A (pyIter (.ref I)) Q E s:=by
 refine Qa it.typeIs jx (KU jx it.typeIs pe ?_ (qr _))
 exact JZ ⟨_,rfl,"set_iterator",_,it.typeIs,az.lookup,hQ⟩
end
end L2.G
namespace L2.G
open PySem PySem.Spec PyProof.Rows
section
variable{prog:Lw}{w:LY}{A:KH}{E:J4->J5->Prop}{s:J5}{S:Kp}{es:Ww (Int×J4)}{ep:Nat}{t:KS}{i sl:Nat}
theorem xw (a:Kp) (slot given epochThen:Nat):setNext a slot given epochThen=(do
  let (es,epoch,t) <-setState a
  if <-setsByText then
   if epoch != epochThen then unsupported "set_iterator.__next__:elements-changed"
   return ((<-setWalk a)[given]?).map λe=>(e.2,slot)
  if !t.plain&&es.size>1 then unsupported "set_iterator.__next__:the-table-is-plain-no-more"
  (if(!t.led&&!es.isEmpty)=V then unsupported "set:maker-not-led" else pure ():PZ Unit)
  let i:=KJ t.place slot
  return match es[i]?,t.place[i]? with
   |some (_,x),U j=>U (x,j+1)
   |_,_=>B):=rfl
def r9 (hb:w.params.followText "set-order"=V) (st:SetIs s.heap S es ep t) {R:Wq (J4×Nat)->J5->Prop}
  (h:R (((pickOrder (w.params.setOrder S ep) es.toArray)[i]?).map λe=>(e.2,sl)) s):wpAny (model prog w) A (setNext S sl i ep) R E s:=by
 let⟨os,hos,hex,hds⟩:=st.ob;refine JY (LN hos hds st.fits ?_)
 show wpAny _ _ (if w.params.followText "set-order"=V then _ else _) _ _ _
 rw[if_pos hb,if_neg (by simp)]
 refine JY ?_
 refine JY (LN hos hds st.fits ?_)
 show wpAny _ _ (if w.params.followText "set-order"=V then _ else _) _ _ _
 rw[if_pos hb];refine JY (Qs (JZ ?_))
 exact JZ h
def rW (hb:w.params.followText "set-order"=Y) (st:SetIs s.heap S es ep t) (hled:t.led=V) (hpl:(!t.plain&&decide (es.toArray.size>1))=Y) {R:Wq (J4×Nat)->J5->Prop}
  (h:R (match es.toArray[KJ t.place sl]?,t.place[KJ t.place sl]? with|some (_,x),U j=>U (x,j+1)|_,_=>B) s):wpAny (model prog w) A (setNext S sl i ep) R E s:=by
 let⟨os,hos,hex,hds⟩:=st.ob;rw[xw];refine JY (LN hos hds st.fits ?_)
 show wpAny _ _ (if w.params.followText "set-order"=V then _ else _) _ _ _
 rw[if_neg (by rw[hb];exact Ny),if_neg (by rw[hpl];exact Ny),if_neg (by rw[hled];simp)]
 exact JZ h
end
def qM (t:KS) (i:Nat):Nat:=match i with|0=>0|k+1=>t.place.getD k 0+1
def wA {t:KS}{hs:Ww Int}(T:Tab t hs):KJ t.place 0=0:=by
 let⟨h1,h2,h3⟩:=gW T.ris 0
 rcases Nat.eq_zero_or_pos (KJ t.place 0)with z|z
 ·exact z
 ·have:=h1 0 (by lia) z
  exact absurd this (N0 _)
def jK {t:KS}{hs:Ww Int}(T:Tab t hs) {i:Nat}(hi:i<=t.place.size):KJ t.place (qM t i)=i:=by
 cases i with
 |zero=>exact wA T
 |succ k=>
  let hk:k<t.place.size:=by lia
  show KJ t.place (t.place.getD k 0+1)=k+1;have:t.place.getD k 0=t.place[k]:=by simp[Qm,hk]
  rw[this];exact xq T.ris hk
section
variable{prog:Lw}{w:LY}{A:KH}{E:J4->J5->Prop}{s:J5}{I S:Kp}{es:Ww (Int×J4)}{ep:Nat}{t:KS}
def wz (hb:w.params.followText "set-order"=V) (hh:A.handled=B) (hne:S≠I):Qg prog w A I [I,S] [I] es.length (λi v=>((pickOrder (w.params.setOrder S ep) es.toArray).toList.map (·.2))[i]?=U v)
  (λi h=>IterAt h I (rawInt 0) i S es.length ep/\SetIs h S es ep t) where
 sub:=λb hb=>by simp_all
 frame:=λ_ _ _ st hk=>⟨st.1.at λo e=>hk I (by simp) o e,st.2.at λo e=>hk S (by simp) o e⟩
 item:=λi s Q E hi st hQ=>by
  let hl:(pickOrder (w.params.setOrder S ep) es.toArray).toList.length=es.length:=by have:=(lG (w.params.setOrder S ep) es.toArray).length_eq;simpa using this
  let hi':i<(pickOrder (w.params.setOrder S ep) es.toArray).size:=by rw[<-Lo];lia
  exact jy (sl:=0) (nx:=0) (v:=((pickOrder (w.params.setOrder S ep) es.toArray)[i]).2) hne st.1 st.2 (λs R E st' hR=>r9 hb st' (by simp_all)) λh' it' k=>(hQ _ h' s.toks (by simp[hi']) ⟨it',st.2.at λo e=>k S o hne e⟩ λb o hb e=>k b o (λz=>hb (by simp[z])) e)
 done:=λs Q E st hQ=>by
  let hl:(pickOrder (w.params.setOrder S ep) es.toArray).size=es.length:=by have:=(lG (w.params.setOrder S ep) es.toArray).length_eq;simpa using this
  exact kX hh st.1 st.2 (λs R E st' hR=>r9 hb st' (by simp_all)) λh' k=>hQ h' s.toks λb o hb e=>k b o (λz=>hb (by simp[z])) e
 self:=λ_ _ _ _ st hQ=>uC st.1 hQ
def wK (hb:w.params.followText "set-order"=Y) (hled:t.led=V) (hpl:(!t.plain&&decide (es.toArray.size>1))=Y) (hh:A.handled=B) (hne:S≠I):Qg prog w A I [I,S] [I] es.length (λi v=>(es.map (·.2))[i]?=U v)
  (λi h=>IterAt h I (rawInt (qM t i)) i S es.length ep/\SetIs h S es ep t) where
 sub:=λb hb=>by simp_all
 frame:=λ_ _ _ st hk=>⟨st.1.at λo e=>hk I (by simp) o e,st.2.at λo e=>hk S (by simp) o e⟩
 item:=λi s Q E hi st hQ=>by
  let hl:=st.2.tab.len;rw[J8]at hl;let hip:i<t.place.size:=by lia
  refine jy (sl:=qM t i) (nx:=qM t (i+1)) (v:=es[i].2) hne st.1 st.2 (λs R E st' hR=>rW hb st' hled hpl (by
   rw[jK st.2.tab (by lia)]
   rw[show es.toArray[i]?=U es[i] by simp[hi],Lq hip]
   have:qM t (i+1)=t.place[i]+1:=by show t.place.getD i 0+1=_;simp[Qm,hip]
   rw[this]at hR;exact hR)) λh' it' k=>?_
  exact hQ _ h' s.toks (by simp[hi]) ⟨it',st.2.at λo e=>k S o hne e⟩ λb o hb e=>k b o (λz=>hb (by simp[z])) e
 done:=λs Q E st hQ=>by
  let hl:=st.2.tab.len;rw[J8]at hl;exact kX hh st.1 st.2 (λs R E st' hR=>rW hb st' hled hpl (by
   rw[jK st.2.tab (by lia)]
   simp;lia)) λh' k=>hQ h' s.toks λb o hb e=>k b o (λz=>hb (by simp[z])) e
 self:=λ_ _ _ _ st hQ=>uC st.1 hQ
def uE {T:Kp}{ps:Ww Nat}(hp:ps.Perm (K1 es.length)) (hh:A.handled=B) (hne:S≠I) (hTI:T≠I):Qg prog w A I [I,S,T] [I] es.length (λi v=>((ps.filterMap (es[·]?)).map (·.2))[i]?=U v)
  (λi h=>IterAt h I (.ref T) i S es.length ep/\SetIs h S es ep t/\∃o n,h.get? T=U o/\o.data=.seq (ps.map λ(k:Nat)=>rawInt k).toArray n) where
 sub:=λb hb=>by simp_all
 frame:=λ_ _ _ st hk=>⟨st.1.at λo e=>hk I (by simp) o e,st.2.1.at λo e=>hk S (by simp) o e,by let⟨o,n,e,r⟩:=st.2.2;exact⟨o,n,hk T (by simp) o e,r⟩⟩
 item:=λi s Q E hi st hQ=>by
  let hpl:=hp.length_eq;rw[Nf]at hpl;let hip:i<ps.length:=by lia
  let hpe:=qae.mp (hp.mem_iff.mp (LC hip));refine oQ (ps:=ps) (p:=ps[i]) (e:=es[ps[i]]) hne st.1 st.2.1 st.2.2 (by simp[hip]) (by simp[hpe]) λh' it' k=>?_
  refine hQ _ h' s.toks ?_ ⟨it',st.2.1.at λo e=>k S o hne e,by let⟨o,n,e,r⟩:=st.2.2;exact⟨o,n,k T o hTI e,r⟩⟩ λb o hb e=>k b o (λz=>hb (by simp[z])) e
  let e1:ps.filterMap (es[·]?)=ps.map λk=>es.getD k (0,.none):=by
   let hall:∀k∈ps,k<es.length:=λk hk=>qae.mp (hp.mem_iff.mp hk)
   clear hpl hip hpe hp hi hQ st
   induction ps with
   |nil=>rfl
   |cons k ps ih=>
    simp_all
  rw[e1];simp[hip,hpe]
 done:=λs Q E st hQ=>by
  let hpl:=hp.length_eq;rw[Nf]at hpl;exact qV hh st.1 st.2.1 st.2.2 (by rw[List.getElem?_eq_none (by lia)]) λh' k=>hQ h' s.toks λb o hb e=>k b o (λz=>hb (by simp[z])) e
 self:=λ_ _ _ _ st hQ=>uC st.1 hQ
end
end L2.G
namespace L2.G
open PySem PySem.Spec PyProof.Rows
def xY:typeLookup (.type "set") "__len__"=pure (U (.builtin "set.__len__")):=F.slot_set_len.lookup
section
variable{prog:Lw}{w:LY}{A:KH}{E:J4->J5->Prop}{s:J5}{S:Kp}{es:Ww (Int×J4)}{ep:Nat}{t:KS}
def Cu (st:SetIs s.heap S es ep t) (hled:t.led=fY w) (hn:es.length<=1000) {Q:J4->J5->Prop}
  (hQ:∀(I:Kp) (vs:Ww J4) (fp:Ww Kp) (St:Nat->LF->Prop) (h':LF) (d:Drawn),vs.Perm (es.map (·.2))->(∀A':KH,A'.handled=B->Qg prog w A' I fp [I] es.length (λi v=>vs[i]?=U v) St)->St 0 h'->
   (∀b o,s.heap.get? b=U o->h'.get? b=U o)->s.heap.objs.size<=I->I∈fp->(∀b∈fp,b=S\/s.heap.objs.size<=b)->Q (.ref I) {s with heap:=h',drawn:=d}):wpAny (model prog w) A (pyIter (.ref S)) Q E s:=by
 let⟨os,hos,hex,hds⟩:=id st.ob;let hT:s.TypeIs (.ref S) "set":=⟨os,hos,hex.1⟩;let hSlt:=Kc hos;refine Qa hT F.slot_set_iter (KU F.slot_set_iter hT l7 ?_ (F.args_set_iter_1 _))
 unfold NK.«frozenset.__iter__» Builtin.Frozenset.slot0 slotArgs;simp![List.isEmpty_nil,Mu,Ko,↓reduceIte,bind_assoc,LO,bne_self_eq_false];refine JY (JZ ?_)
 refine JY (JZ ?_)
 refine JY (JY (Nz hos hds st.fits (JZ ?_)))
 refine JY ?_
 refine JY (LN hos hds st.fits ?_)
 refine JY ?_
 refine JY (Qs (JZ ?_))
 refine JZ ?_
 let hsz:es.toArray.size=es.length:=by simp
 show wpAny _ _ (if(!w.params.followText "set-order"&&(!t.plain&&decide (es.toArray.size>1)))=V then _ else _) _ _ _
 by_cases hdr:(!w.params.followText "set-order"&&(!t.plain&&decide (es.toArray.size>1)))=V
 ·rw[if_pos hdr]
  refine JY (oj es.toArray.size (K1 es.toArray.size) s _ (by simp) λps d hp=>?_)
  rw[hsz]at hp⊢;let hpl:=hp.length_eq;rw[Nf]at hpl;refine JY (Le ?_ (by show(ps.map λ(i:Nat)=>rawInt i).toArray.size<=sizeLine;rw[M5];simp;lia))
  let g1:(s.heap.push {cls:=.type "tuple",data:=.seq (ps.map λ(i:Nat)=>rawInt i).toArray}).get? S=U os:=J0 _ hos
  refine JY (wpAny_setEpoch_of (s:={s with heap:=s.heap.push {cls:=.type "tuple",data:=.seq (ps.map λ(i:Nat)=>rawInt i).toArray},drawn:=d}) g1 hds st.fits ?_)
  refine JY (Le ?_ (by size_fits))
  refine JZ ⟨_,rfl,"set_iterator",_,⟨_,J7 _ rfl,rfl⟩,az.lookup,?_⟩
  let sz1:(s.heap.push {cls:=.type "tuple",data:=.seq (ps.map λ(i:Nat)=>rawInt i).toArray}).objs.size=s.heap.objs.size+1:=Lz ..
  refine hQ (s.heap.push {cls:=.type "tuple",data:=.seq (ps.map λ(i:Nat)=>rawInt i).toArray}).objs.size ((ps.filterMap (es[·]?)).map (·.2)) [(s.heap.push {cls:=.type "tuple",data:=.seq (ps.map λ(i:Nat)=>rawInt i).toArray}).objs.size,S,s.heap.objs.size] _ _ d ((vo hp).1.map _)
   (λA' hA'=>uE (T:=s.heap.objs.size) (ps:=ps) (es:=es) (S:=S) (ep:=ep) (t:=t) hp hA' ?_ ?_) ?_ (λb o e=>J0 _ (J0 _ e)) ?_ (by simp) ?_
  ·rw[sz1];exact KF (Ol hSlt)
  ·lia
  ·exact⟨⟨_,J7 _ rfl,rfl,rfl⟩,st.at λo e=>J0 _ (J0 _ e),_,_,J0 _ (J7 _ rfl),rfl⟩
  ·rw[sz1];exact NX _
  simp
 ·rw[if_neg hdr]
  refine JY (JZ ?_)
  refine JY (wpAny_setEpoch_of hos hds st.fits ?_)
  refine JY (Le ?_ (by size_fits))
  refine JZ ⟨_,rfl,"set_iterator",_,⟨_,J7 _ rfl,rfl⟩,az.lookup,?_⟩
  let fin:∀(vs:Ww J4) (St:Nat->LF->Prop),vs.Perm (es.map (·.2))->(∀A':KH,A'.handled=B->Qg prog w A' s.heap.objs.size [s.heap.objs.size,S] [s.heap.objs.size] es.length (λi v=>vs[i]?=U v) St)->
    St 0 (s.heap.push {cls:=.type "set_iterator",data:=.fields [rawInt 0,rawInt 0,.ref S,rawInt es.length,rawInt ep].toArray})->
    Q (.ref s.heap.objs.size) {s with heap:=s.heap.push {cls:=.type "set_iterator",data:=.fields [rawInt 0,rawInt 0,.ref S,rawInt es.length,rawInt ep].toArray}}:=λvs St hp W h0=>by
   refine hQ s.heap.objs.size vs [s.heap.objs.size,S] St _ s.drawn hp W h0 (λb o e=>J0 _ e) (Kh _) (by simp) λb hb=>?_
   grind
  cases hbt:w.params.followText "set-order" with
  |true=>
   refine fin _ _ ?_ (λA' hA'=>wz (S:=S) (es:=es) (ep:=ep) (t:=t) hbt hA' (KF hSlt)) ⟨⟨_,J7 _ rfl,rfl,rfl⟩,st.at λo e=>J0 _ e⟩
   grind [lG]
  |false=>
   let hpl:(!t.plain&&decide (es.toArray.size>1))=Y:=by
    rw[hbt]at hdr
    simpa using hdr
   exact fin _ _ (MI _) (λA' hA'=>wK (S:=S) (es:=es) (ep:=ep) (t:=t) hbt (by lia) hpl hA' (KF hSlt)) ⟨⟨_,J7 _ rfl,rfl,rfl⟩,st.at λo e=>J0 _ e⟩
def ut (hh:A.handled=B) (st:SetIs s.heap S es ep t) (hled:t.led=fY w) (hn:es.length<=1000) {Q:Ww J4->J5->Prop}
  (hQ:∀(vs:Ww J4) (h':LF) (d:Drawn) (tk:Nat),vs.Perm (es.map (·.2))->(∀b o,s.heap.get? b=U o->h'.get? b=U o)->s.heap.objs.size<=h'.objs.size->Q vs {s with heap:=h',drawn:=d,toks:=tk}):wpAny (model prog w) A (collect (.ref S)) Q E s:=by
 let⟨os,hos,hex,hds⟩:=id st.ob;let hSlt:=Kc hos;refine JY (Ps (KP F.entry_proto_collect ?_))
 refine JY (Le ?_)
 refine JZ ⟨Lh F.plain_list_iadd _,KP F.entry_list_iadd ?_⟩
 generalize hL:s.heap.objs.size=L;let hst1:SetIs (s.heap.push {cls:=.type "list",data:=.seq ([]:Ww J4).toArray}) S es ep t:=st.at λo e=>J0 _ e
 let g0:(s.heap.push {cls:=.type "list",data:=.seq ([]:Ww J4).toArray}).get? L=U {cls:=.type "list",data:=.seq ([]:Ww J4).toArray}:=by rw[<-hL];exact J7 _ rfl
 let hS1:(s.heap.push {cls:=.type "list",data:=.seq ([]:Ww J4).toArray}).get? S=U os:=J0 _ hos
 let hT1:Nr {s with heap:=s.heap.push {cls:=.type "list",data:=.seq ([]:Ww J4).toArray}} (.ref S) "set":=⟨os,hS1,hex.1⟩
 show wpAny _ A.in1 (MQ (.ref L) (.ref S) (.ref L)) _ _ _;refine JY (Nc hT1 ?_)
 let h1:L3 (.ref L) (.ref S)=Y:=by simp[L3];rw[<-hL];exact MV hSlt
 let h2:(LP "set"==LP "list")=Y:=by decide
 let h3:(LP "set"==LP "tuple")=Y:=by decide
 simp![h1,h2,h3,QG,Ko,if_false];refine JY (Cu (s:={s with heap:=s.heap.push {cls:=.type "list",data:=.seq ([]:Ww J4).toArray}}) hst1 hled hn λI vs fp St h' d hp W hS0 hk hI hIf hfp=>?_)
 let hT2:Nr {s with heap:=h',drawn:=d} (.ref S) "set":=⟨os,hk S os hS1,hex.1⟩
 let gL:h'.get? L=U {cls:=.type "list",data:=.seq ([]:Ww J4).toArray}:=hk L _ g0;refine JY (KB ?_)
 refine JY (Ms hT2 xY ?_)
 generalize hid:("set.__len__":String)=id0;subst hid;refine JY (MA (b:=V) hT2 (by rfl) ?_)
 refine JY (Nc hT2 ?_)
 refine JZ ?_
 refine JY (LA ?_)
 refine JY ?_
 refine JY (Lu gL rfl ?_)
 let gL2:=Ku (Kx (·.push L6)) gL rfl
 refine Lu gL2 rfl ?_
 let gL3:=Ku (Kx (·.pop)) gL2 rfl
 let oth:∀b o,b≠L->h'.get? b=U o->((h'.update L (Kx (·.push L6))).update L (Kx (·.pop))).get? b=U o:=
  λb o hb e=>(Ki _ _ (Kt hb)).trans ((Ki _ _ (Kt hb)).trans e)
 let WS:=(W A.in1 (by simp[hh])).toS
 let hLS:L≠S:=by rw[<-hL];exact MV hSlt
 let hLf:L∉fp:=λhm=>by
  rcases hfp L hm with e|e
  ·exact hLS e
  ·let e2:s.heap.objs.size+1<=L:=by have:=e;rwa[Lz]at this
   rw[hL]at e2;exact K3 _ e2
 refine JZ ⟨Lh Oa _,codeAny_extend_loopS WS (by rw[M5];lia) L hLf _ es.length 0 _ _ _ rfl (KA _)
  (WS.frame 0 ({s with heap:=h',drawn:=d}:J5) _ s.toks hS0 (Kh _) λb hb o e=>oth b o (λh=>hLf (h▸hb)) e) gL3 (ItemsOf.nil _) λs' acc' c' hm hS' hacc=>?_⟩
 refine JY (O5 hS' ?_)
 let e1:=hm.gens;let e2:=hm.drawn;let e3:=hm.os;let⟨hh',gg',dd',tt',oo'⟩:=s';simp only at e1 e2 e3;subst e1;subst e3;refine JZ (hQ acc'.toList hh' dd' tt' ?_ (λb o e=>?_) (by rw[hL];exact OO (Kc hS')))
 ·have:acc'.toList=vs:=by
   let hvl:=hp.length_eq;rw[J8]at hvl;apply Ng;intro j
   by_cases hj:j<acc'.size
   ·have:=hacc.2 j acc'[j] (by simp[hj])
    simp_all
   ·simp_all [hvl,hacc.1]
  rw[this];exact hp
 ·let hbL:b≠L:=by rw[<-hL];exact KF (Kc e)
  let hbI:b≠I:=λz=>by
   let h5:s.heap.objs.size+1<=I:=by have:=hI;rwa[Lz]at this
   have:=Kc e;rw[z]at this;exact absurd (MW (Ol this) h5) (K3 _)
  refine hm.heap b o (by simp;lia) (oth b o hbL (hk b o (J0 _ e)))
end
end L2.G
namespace L2.G
open PySem PySem.Spec PyProof.Rows Md
def cx {α β:Type}(f:α->β):∀{l1 l2:Ww β},l1.Perm l2->∀l:Ww α,l2=l.map f->∃l':Ww α,l'.Perm l/\l1=l'.map f:=by
 intro l1 l2 p
 induction p with
 |nil=>simp
 |cons x p ih=>
  intro l h;cases l with
  |nil=>cases h
  |cons a l=>
   simp![Ka,MP]at h;let⟨l',p',e'⟩:=ih l h.2;exact⟨a::l',List.Perm.cons a p',by rw[Ka,h.1,e']⟩
 |swap x y l0=>
  intro l h;cases l with
  |nil=>cases h
  |cons a l=>
   cases l with
   |nil=>cases h
   |cons b l=>
    simp![Ka,MP]at h;exact⟨b::a::l,PQ a b l,by rw[Ka,Ka,h.1,h.2.1,h.2.2]⟩
 |trans p q ih1 ih2=>
  intro l h;let⟨l2,p2,e2⟩:=ih2 l h;let⟨l1,p1,e1⟩:=ih1 l2 e2;exact⟨l1,p1.trans p2,e1⟩
def SetAt.same {h h':LF}{a:Kp}{es:Ww (Int×J4)}{led:Bool}(S:SetAt h a es led) (k:∀o,h.get? a=U o->h'.get? a=U o):SetAt h' a es led:=by
 let⟨o,ep,t,ho,r⟩:=S;exact⟨o,ep,t,k o ho,r⟩
def vP {l m:Ww D}(hl:l.Nodup) (h:∀x∈l,x∈m):l.length<=m.length:=by
 induction l generalizing m with
 |nil=>simp
 |cons x l ih=>
  let hx:=h x (Kg ..);let⟨h1,h2⟩:=qaf.mp hl;have:=ih (m:=m.erase x) h2 λy hy=>(List.mem_erase_of_ne (λ(e:y=x)=>h1 (e▸hy))).mpr (h y (Kb _ hy))
  rw[List.length_erase_of_mem hx]at this;have:0<m.length:=List.length_pos_of_mem hx;rw[Kl];lia
def eC:Ww D->Ww D
 |[]=>[]
 |d::ds=>if d∈ds then eC ds else d::eC ds
nonrec theorem uniqD_mem (x:D):∀ds:Ww D,x∈eC ds↔x∈ds
 |[]=>Iff.rfl
 |d::ds=>by
  unfold eC;split
  ·rename_i h
   rw[uniqD_mem x ds,KI]
   lia
  ·rw[KI,KI,uniqD_mem x ds]
nonrec theorem uniqD_nodup:∀ds:Ww D,(eC ds).Nodup
 |[]=>LX
 |d::ds=>by
  unfold eC;split
  ·exact uniqD_nodup ds
  ·rename_i h
   exact qaf.mpr ⟨λz=>h ((uniqD_mem d ds).mp z),uniqD_nodup ds⟩
def il (ds:Ww D):(eC ds).length<=ds.length:=vP (uniqD_nodup ds) λx hx=>(uniqD_mem x ds).mp hx
def sortD_same {ds es:Ww D}(hc:eG ds=V) (hp:es.Perm ds):dh es=dh ds/\eG es=V:=by
 let hc2:eG es=V:=by
  unfold eG;rw[Kw];intro x hx;rw[J9];let hx':=hp.mem_iff.mp hx;refine⟨eP hc hx',?_⟩
  rw[Kw];intro y hy;let⟨b,e⟩:=gR hc hx' (hp.mem_iff.mp hy);rw[e];rfl
 exact⟨dt hc _ _ (λy hy=>hp.mem_iff.mp ((aH es).mem_iff.mp hy)) ((aH es).trans (hp.trans (aH ds).symm)) (bG hc2) (bG hc),hc2⟩
def cmpD_sub {ds es:Ww D}(hc:eG ds=V) (h:∀x∈es,x∈ds):eG es=V:=by
 unfold eG;rw[Kw];intro x hx;rw[J9];refine⟨eP hc (h x hx),?_⟩
 rw[Kw];intro y hy;let⟨b,e⟩:=gR hc (h x hx) (h y hy);rw[e];rfl
def scD:D->Bool
 |.int _=>V
 |.str _=>V
 |_=>Y
abbrev El:=D×J4
variable[Md]
structure ElOk (M:Mp) (sc:Bool) (t:El):Prop where
 rep:R Y M t.1 t.2
 has:dn 8 t.1=V
 sc:scD t.1=sc
abbrev elE (w:LY) (t:El):Int×J4:=(dR w t.1,t.2)
def yY:∀(n:Nat) {d u} {A:KH}{s:J5}{Q:Bool->J5->Prop}{E:J4->J5->Prop},Hm M s.heap->dn n d=V->R m M d u->Q Y s->wpAny (model P w) A (ofAClassStatement n u) Q E s:=by
 intro n
 induction n using LB with
 |ind n ih=>
 intro d u A s Q E H hd r hQ
 rcases shh hd r with⟨i,t,rfl,rfl⟩|⟨i,t,rfl,rfl⟩|⟨ds,a,o,vs,k,rfl,rfl,rfl,hd',q,t,rs⟩
 ·unfold ofAClassStatement;exact JZ hQ
 ·unfold ofAClassStatement;exact JZ hQ
 ·let⟨o,ho,hc,m,hdat⟩:=t.is H q
  unfold ofAClassStatement;refine JY (Nc ⟨o,ho,hc⟩ (JY (JZ (JY (K9 ho hdat ?_)))))
  dsimp only;rw[<-N6];refine JY (MB _ (λrest b s'=>b.1=B/\s'=s/\∃left,left.all (dn k)=V/\Rs _ M left rest) _ ?_ ?_ _ _ ⟨rfl,rfl,ds,hd',by trivial⟩)
  ·rintro v rest b s' ⟨hb,rfl,left,hall,hl⟩
   cases left with
   |nil=>cases hl
   |cons d' left'=>
    let⟨v',r',e',r1,r2⟩:=hl;cases e';rw[KG,J9]at hall;exact JY (ih k (by lia) H hall.1 r1 (JZ ⟨rfl,rfl,left',hall.2,r2⟩))
  ·rintro⟨b1,b2⟩ s' ⟨hb,rfl,_⟩
   simp only at hb;subst hb;exact JZ hQ
def Eo:∀(n:Nat) {d u} {A:KH}{s:J5}{Q:Bool->J5->Prop}{E:J4->J5->Prop},Hm M s.heap->dn n d=V->R m M d u->(∀b,Q b s)->wpAny (model P w) A (hashByValue n u) Q E s:=by
 intro n
 induction n using LB with
 |ind n ih=>
 intro d u A s Q E H hd r hQ
 rcases shh hd r with⟨i,t,rfl,rfl⟩|⟨i,t,rfl,rfl⟩|⟨ds,a,o,vs,k,rfl,rfl,rfl,hd',q,t,rs⟩
 ·unfold hashByValue;exact JZ (hQ _)
 ·unfold hashByValue;exact JZ (hQ _)
 ·let⟨o,ho,hc,m,hdat⟩:=t.is H q
  refine JY (Ms ⟨o,ho,hc⟩ F.slot_tuple_hash.lookup (JY (K9 ho hdat (JY ?_))))
  rw[<-N6];refine MB _ (λrest b s'=>s'=s/\∃left,left.all (dn k)=V/\Rs _ M left rest) _ ?_ ?_ _ _ ⟨rfl,ds,hd',by trivial⟩
  ·rintro v rest b s' ⟨rfl,left,hall,hl⟩
   cases left with
   |nil=>cases hl
   |cons d' left'=>
    let⟨v',r',e',r1,r2⟩:=hl;cases e';rw[KG,J9]at hall;refine JY (ih k (by lia) H hall.1 r1 λb=>?_)
    cases b with
    |true=>exact JZ ⟨rfl,left',hall.2,r2⟩
    |false=>exact JZ (by first|exact JZ (hQ _)|exact hQ _|exact rfl)
  ·rintro⟨b1,b2⟩ s' ⟨rfl,_⟩
   cases b1<;>exact JZ (hQ _)
section
variable{M:Mp}{s:J5}{A:KH}{E:J4->J5->Prop}{a:Kp}{sc led:Bool}
def vz {t:El}(h:ElOk M Y t):∃b,t.2=.ref b:=by
 let⟨d,u⟩:=t
 rcases shh h.has h.rep with⟨i,t,e,_⟩|⟨i,t,e,_⟩|⟨ds,a,o,vs,k,e,e',_⟩
 ·cases e;cases h.sc
 ·cases e;cases h.sc
 ·exact⟨a,e'⟩
def Ih (h:ElOk M V t):kOk Y t.1=V:=by
 have:=h.sc;let⟨d,u⟩:=t;cases d<;>first|rfl|cases this
def GN (h:ElOk M V t):xn t.1 t.2=V/\t.2.scannable=V:=by
 refine⟨by rw[G0 (Ih h) (Ih h) h.rep];simp,?_⟩
 have:=h.sc;let r:=h.rep;let⟨d,u⟩:=t;cases d<;>first|(let⟨t,e⟩:=r;simp only at e;rw[e];rfl)|cases this
def Hg (H:Hm M s.heap) {t:El}(ht:ElOk M Y t) (l:Ww J4) (hl:∀y∈l,∃t':El,ElOk M Y t'/\t'.2=y) {Q:Bool->J5->Prop}(hQ:Q Y s):wpAny (model P w) A (searchCouldBeSeen t.2 l) Q E s:=by
 refine JY ?_
 refine MB _ (λrest b s'=>b.1=B/\s'=s/\∀y∈rest,∃t':El,ElOk M Y t'/\t'.2=y) _ ?_ ?_ _ _ ⟨rfl,rfl,hl⟩
 ·rintro y rest b s' ⟨hb,rfl,hr⟩
  let hr':=λz hz=>hr z (Kb _ hz)
  let⟨t',h',rfl⟩:=hr y (Kg ..);let⟨c,hc⟩:=vz ht;let⟨c',hc'⟩:=vz h';let q1:=ht.rep;let q2:=h'.rep;rw[hc]at q1⊢;rw[hc']at q2⊢;dsimp only;split
  ·exact JZ ⟨rfl,rfl,hr'⟩
  ·exact JY (tu 8 H ht.has q1 (JY (tu 8 H h'.has q2 (JY (yY 8 H ht.has q1 (JY (yY 8 H h'.has q2 (JZ ⟨rfl,rfl,hr'⟩))))))))
 ·rintro⟨b1,b2⟩ s' ⟨hb,rfl,_⟩
  subst hb;exact JZ hQ
open Classical in
theorem Jh (H:Hm M s.heap) (hA:A.units+32<cLine) {ts:Ww El}{t:El}{Q:Bool->J5->Prop}(S:SetAt s.heap a (ts.map (elE w)) led) (h75:ts.length<=75) (hts:∀t∈ts,ElOk M sc t) (ht:ElOk M sc t)
  (h:∀h' ts' tk,s.toks<=tk->Ln a s.heap h'->(ts'=ts/\t.1∈ts.map (·.1)\/ts'.Perm (t::ts)/\t.1∉ts.map (·.1))->SetAt h' a (ts'.map (elE w)) led->∀b,Q b {s with heap:=h',toks:=tk}):
  wpAny (model P w) A (setAdd a t.2) Q E s:=by
 refine KB (JY ?_)
 refine qW 8 H ht.has (by lia) ht.rep ?_
 let htk:=Nat.le_add_right s.toks (cF t.1);generalize s.toks+cF t.1=tk at htk⊢;let new:t.1∉ts.map (·.1)->∀h' es',Ln a s.heap h'->es'.Perm ((dR w t.1,t.2)::ts.map (elE w))->SetAt h' a es' led->Q V {s with heap:=h',toks:=tk}:=λhno h' es' hsb hp S2=>by
  let⟨ts',pt,rfl⟩:=cx (elE w) hp (t::ts) rfl;exact h h' ts' tk htk hsb (.inr ⟨pt,hno⟩) S2 V
 let old:t.1∈ts.map (·.1)->Q Y {s with toks:=tk}:=λhm=>h s.heap ts tk htk (Heap.SameBut.refl a s.heap) (.inl ⟨rfl,hm⟩) S Y
 cases sc with
 |false=>
  let⟨b,hb⟩:=vz ht;let ht':=ht.rep;rw[hb]at new ht'⊢;let inj:∀t1∈ts,∀t2∈ts,t1.2=t2.2->t1.1=t2.1:=λt1 h1 t2 h2 e=>R.inj (eR (hts t1 h1).has) (eR (hts t2 h2).has) (hts t1 h1).rep (e▸(hts t2 h2).rep)
  let dec:∀t1∈ts,decide (∃t2∈ts,t2.2=t1.2/\t2.1=t.1)=decide (t1.1=t.1):=λt1 h1=>decide_eq_decide.mpr ⟨λ⟨t2,h2,e1,e2⟩=>by rw[<-inj t2 h2 t1 h1 e1];exact e2,λe=>⟨t1,h1,rfl,e⟩⟩
  refine EP (s:={s with toks:=tk}) (led:=led) (es:=ts.map (elE w)) S (by simpa using h75) (λv=>decide (∃t1∈ts,t1.2=v/\t1.1=t.1)) ?_ ?_ ?_ ?_ ?_ ?_ ?_
  ·intro e he
   let⟨t1,h1,rfl⟩:=mt.mp he;exact vz (hts t1 h1)
  ·intro e he _
   let⟨t1,h1,rfl⟩:=mt.mp he;have:=(CF (s:={s with toks:=tk}) H 8 A (eR (hts t1 h1).has) (eR ht.has) (by lia) (hts t1 h1).rep ht').2.1
   rw[<-dec t1 h1]at this;exact this
  ·grind
  ·intro l hl Q' hQ'
   have:=Hg (A:=A) (E:=E) (s:={s with toks:=tk}) H ht l (λy hy=>by
    let⟨e,he,rfl⟩:=hl y hy;let⟨t1,h1,rfl⟩:=mt.mp he;exact⟨t1,hts t1 h1,rfl⟩) hQ'
   rw[hb]at this;exact this
  ·exact λR hR=>Eo (s:={s with toks:=tk}) 8 H ht.has ht' hR
  ·grind
  ·intro hno
   exact new λhm=>by
    let⟨t2,h2,e2⟩:=mt.mp hm;have:=hno (elE w t2) (mt.mpr ⟨t2,h2,rfl⟩);exact absurd ⟨t2,h2,rfl,e2⟩ (of_decide_eq_false this)
 |true=>
  let⟨k1,k2⟩:=GN ht;let eq:∀t1∈ts,xn t.1 t1.2=decide (t1.1=t.1):=λt1 h1=>G0 (Ih (hts t1 h1)) (Ih ht) (hts t1 h1).rep
  refine BY (knd:=DM) (k:=t.1) (s:={s with toks:=tk}) (led:=led) (es:=ts.map (elE w)) S (by simpa using h75) k1 k2 ?_ ?_ ?_
  ·intro e he
   let⟨t1,h1,rfl⟩:=mt.mp he;let⟨a1,a2⟩:=GN (hts t1 h1);exact⟨⟨_,a1,rfl⟩,a2⟩
  ·rintro⟨e,he,hq⟩
   let⟨t1,h1,rfl⟩:=mt.mp he;exact old (mt.mpr ⟨t1,h1,of_decide_eq_true ((eq t1 h1).symm.trans hq)⟩)
  ·intro hno
   exact new λhm=>by
    let⟨t1,h1,e1⟩:=mt.mp hm;let hq:=(eq t1 h1).symm.trans (hno (elE w t1) (mt.mpr ⟨t1,h1,rfl⟩))
    lia
structure Fill (M:Mp) (sc led:Bool) (h:LF) (a:Kp) (done:Ww D) (ts:Ww El):Prop where
 at':SetAt h a (ts.map (elE w)) led
 ok:∀t∈ts,ElOk M sc t
 nd:(ts.map (·.1)).Nodup
 mem:∀d,d∈ts.map (·.1)↔d∈done
variable{R':O9->J5->Prop}{It:Kp}{fp wr:Ww Kp}{G:Array GenState->Array GenState->Prop}{n:Nat}{Pv:Nat->J4->Prop}{St:Nat->J5->Prop}
theorem By (H:Hm M s.heap) (hA:A.units+40<cLine) (W:WalksS P w A.in1 It fp wr G n Pv St) (hG:∀a b,G a b->b=a) (S:Kp) (hSf:S∉fp) (hS0:s.heap.get? S=B) (hwr:∀b∈wr,s.heap.get? b=B) (ds:Ww D) (hn:ds.length=n) (h76:(eC ds).length<=75)
  (hval:∀i v d,Pv i v->ds[i]?=U d->ElOk M sc (d,v)):
  ∀(k i:Nat) (h:LF) (tk:Nat) (ts:Ww El),n - i=k->i<=n->St i {s with heap:=h,toks:=tk}->(∀b o,s.heap.get? b=U o->h.get? b=U o)->Fill M sc led h S (ds.take i) ts->
   (∀h' tk' ts',(∀b o,s.heap.get? b=U o->h'.get? b=U o)->Fill M sc led h' S ds ts'->R' (.ok (.ret .none)) {s with heap:=h',toks:=tk'})->
   codeAny (model P w) A (.builtin "set.update.loop" ⟨[.ref S,.ref It],[]⟩) R' {s with heap:=h,toks:=tk}:=by
 let hSw:=λh=>hSf (W.sub _ h)
 let back:∀{h:LF}{tk:Nat}{s':J5},(∀b o,s.heap.get? b=U o->h.get? b=U o)->Moved wr G {s with heap:=h,toks:=tk} s'->s'={s with heap:=s'.heap,toks:=s'.toks}/\∀b o,s.heap.get? b=U o->s'.heap.get? b=U o:=λ{h tk s'} hk hm=>by
  let e1:=hG _ _ hm.gens;let e2:=hm.drawn;let e3:=hm.os;refine⟨?_,λb o e=>?_⟩
  ·let⟨h',g',d',t',o'⟩:=s'
   lia
  ·refine hm.heap b o (λhb=>?_) (hk b o e)
   simp_all
 intro k
 induction k with
 |zero=>
  intro i h tk ts hk hi hst hkeep hF hR;let hin:i=n:=by lia
  subst hin;refine KP Rb ?_
  refine JY (W.done _ _ _ hst λs' hm=>?_)
  let⟨es,hkeep'⟩:=back hkeep hm;rw[es];refine JZ (hR s'.heap s'.toks ts hkeep' ⟨hF.at'.same λo e=>hm.heap S o hSw e,hF.ok,hF.nd,λd=>?_⟩)
  rw[hF.mem d,<-hn,qaA]
 |succ k ih=>
  intro i h tk ts hk hi hst hkeep hF hR;let hlt:i<n:=by lia
  refine KP Rb ?_
  refine JY (W.item i _ _ _ hlt hst λv s' hP hst' hm=>?_)
  let⟨es,hkeep'⟩:=back hkeep hm;let hil:i<ds.length:=by lia
  let hx:=hval i v ds[i] hP (by simp[hil])
  let hat:=hF.at'.same λo e=>hm.heap S o hSw e
  let h75:ts.length<=75:=by
   have:=vP hF.nd λd hd=>(uniqD_mem d ds).mpr (Nj ((hF.mem d).mp hd))
   rw[J8]at this;lia
  refine JY (KB ?_)
  rw[es]at hst'⊢;refine Jh (s:={s with heap:=s'.heap,toks:=s'.toks}) (t:=(ds[i],v)) (λa k o e=>hkeep' _ _ (H _ _ _ e)) (by show A.units+1+32<cLine;lia) hat h75 hF.ok hx λh' ts' tk' htk hsb hor hS' b=>?_
  let keep2:∀b o,s.heap.get? b=U o->h'.get? b=U o:=λb o e=>by
   rw[hsb.2 b (λz=>by lia)]
   exact hkeep' b o e
  let F':Fill M sc led h' S (ds.take (i+1)) ts':=by
   let htake:ds.take (i+1)=ds.take i++[ds[i]]:=by rw[List.take_succ];simp[hil]
   rcases hor with⟨rfl,hm'⟩|⟨hp,hm'⟩
   ·refine⟨hS',hF.ok,hF.nd,λd=>?_⟩
    rw[hF.mem d,htake,Nw,MU];constructor
    ·exact .inl
    ·rintro(h|rfl)
     ·exact h
     ·exact(hF.mem _).mp hm'
   ·let hp2:=hp.map (·.1)
    rw[Ka]at hp2;refine⟨hS',λt ht=>?_,?_,λd=>?_⟩
    ·rcases on.mp (hp.mem_iff.mp ht)with rfl|h
     ·exact hx
     ·exact hF.ok t h
    ·rw[hp2.nodup_iff,NZ];exact⟨hm',hF.nd⟩
    ·rw[hp2.mem_iff,KI,hF.mem d,htake,Nw,MU]
     exact Or.comm
  refine JZ ⟨Lh F.plain_set_update_loop _,ih (i+1) h' tk' ts' (by lia) hlt ?_ keep2 F' hR⟩
  exact W.frame _ {s with heap:=s'.heap,toks:=s'.toks} _ _ hst' htk λb hb o e=>by
   rw[hsb.2 b (λh:b=S=>hSf (by lia))];exact e
def BU {h:LF}{a:Kp}(e:h.get? a=U (gu (fY w))):Fill M sc (fY w) h a [] []:=
 ⟨⟨_,0,_,e,⟨rfl,rfl,rfl⟩,rfl,Tab.fresh _ _ _,by simp[PV],rfl⟩,λt ht=>by simp at ht,LX,λd=>Iff.rfl⟩
theorem w0 (H:Hm M s.heap) (hh:A.handled=B) (hA:A.units+50<cLine) {l:Kp}{items:Array J4}{Q:J4->J5->Prop}(hl:s.heap.IsList l items) (ds:Ww D) (hlen:ds.length=items.size) (h76:(eC ds).length<=75)
  (hel:∀(i:Nat) v d,items[i]?=U v->ds[i]?=U d->ElOk M sc (d,v))
  (h:∀(h':LF) (tk:Nat) ts,(∀b o,s.heap.get? b=U o->h'.get? b=U o)->Fill M sc (fY w) h' s.heap.objs.size ds ts->Q (.ref s.heap.objs.size) {s with heap:=h',toks:=tk}):
  wpAny (model P w) A (call (.type "set") [.ref l]) Q E s:=by
 let⟨c,tl,hmro⟩:=F.called_set.mro;let hmade:=F.called_set.made;let hsub:=F.called_set.sub;refine wpAny_call (codeAny_of_tree ?_)
 show wpAny _ _ (callAny (.type "set") _) _ _ _;refine JZ ⟨Code.quiet_builtin _ (by decide +kernel),KP F.entry_type_call ?_⟩
 rw[Around.under_plain (weight_type_call_type "set" [.ref l] []) rfl];let h1:=F.called_set.notType;let h2:=F.called_set.canCreate;let hct:=F.typeCall_set_1 (.ref l)
 repeat (any_goals (first|assumption|wp_step))
 refine Qe (qF (.ref l) (E:=E) (Q₁:=λobj s₁=>obj=.ref s.heap.objs.size/\s₁={s with heap:=s.heap.push (gu (fY w))}) ⟨rfl,rfl⟩) λr s₁ hr=>?_
 cases r with
 |error e=>exact hr
 |ok fl=>
  cases fl with
  |ret obj=>
   let⟨rfl,rfl⟩:=hr;let hS:(s.heap.push (gu (fY w))).get? s.heap.objs.size=U (gu (fY w)):=J7 _ rfl
   let hT:Nr {s with heap:=s.heap.push (gu (fY w))} (.ref s.heap.objs.size) "set":=⟨_,hS,rfl⟩
   let hli:=F.called_set.init.lookup;let hbi:=F.called_set.init.bind (.ref s.heap.objs.size)
   repeat (any_goals (first|assumption|wp_step))
   refine Qe (codeAny_call_builtin (R:=wants (λr s₂=>r=.none/\∃h' tk ts,s₂={s with heap:=h',toks:=tk}/\Fill M sc (fY w) h' s.heap.objs.size ds ts/\
     (∀b o,s.heap.get? b=U o->h'.get? b=U o)) E) F.called_set.init.plain F.entry_set_init (check_set_init_1 hT ?_)) λr₂ s₂ hr₂=>?_
   ·let⟨ol,hol,hcl,nl,hdl⟩:=hl
    let⟨ocls,odict,odata,oslots⟩:=ol;simp only at hcl hdl;subst hcl;subst hdl;let hol':(s.heap.push (gu (fY w))).get? l=U {cls:=.type "list",dict:=odict,data:=.seq items nl,slots:=oslots}:=J0 _ hol
    let hsls:=F.sub_list_set;let hslf:=F.sub_list_frozenset;let hne:(LP "list"==LP "dict")=Y:=by decide
    let hl1:(s.heap.push (gu (fY w))).IsList l items:=⟨_,hol',rfl,nl,rfl⟩;unfold NK.«set.__init__» noKeywords Builtin.Frozenset.updateFrom;generalize hPI:pyIter=PI
    wp_walk
    subst hPI;refine L4 hl1 ?_
    refine JY (Ps ?_)
    let hlS:=Kc hol;let hh3:A.in1.in1.in1.handled=B:=by simp[hh]
    let hneI:l≠(s.heap.push (gu (fY w))).objs.size:=by
     rw[Lz];exact KF (Ol hlS)
    let hSf:s.heap.objs.size∉[(s.heap.push (gu (fY w))).objs.size,l]:=by
     rw[Lz];simp![KI,MU,K4,or_false,not_or];exact⟨KF (LD _),MV hlS⟩
    let hnone:∀b,s.heap.objs.size<=b->s.heap.get? b=B:=λb hb=>by
     cases q:s.heap.get? b with
     |none=>rfl
     |some o=>exact absurd (Kc q) (Nat.not_lt.mpr hb)
    refine By (s:=s) (M:=M) (sc:=sc) (led:=fY w) H ?_ ((Pe hh3 _ l hneI items).toS) ?_ s.heap.objs.size
     hSf (hnone _ (Kh _)) ?_ ds hlen h76 (λi v d hv hd=>hel i v d hv hd) (items.size - 0) 0 _ s.toks [] (by lia) (KA _)
     ⟨⟨_,J7 _ rfl,rfl,rfl⟩,(hl1.push _)⟩ (λb o e=>J0 _ (J0 _ e)) ?_ ?_
    ·show A.units+1+1+40<cLine;lia
    ·intro a b e;exact e
    ·simp_all
    ·exact BU (J0 _ hS)
    ·intro h' tk' ts hk hF
     refine JZ ?_
     exact JZ ⟨rfl,h',tk',ts,rfl,hF,hk⟩
   ·cases r₂ with
    |error e=>exact hr₂
    |ok fl₂=>
     cases fl₂ with
     |ret r=>
      let⟨rfl,h',tk,ts,rfl,hF,hk⟩:=hr₂
      repeat (any_goals (first|assumption|wp_step))
      exact h _ _ _ hk hF
     |_=>exact hr₂.elim
  |_=>exact hr.elim
end
theorem Ds:∀{ts:Ww El},(∀t∈ts,ElOk M sc t)->Rs Y M (ts.map (·.1)) (ts.map (·.2))
 |[],_=>rfl
 |t::ts,h=>⟨_,_,rfl,(h t (Kg ..)).rep,Ds λz hz=>h z (Kb _ hz)⟩
def G2:bootBuiltins "set"=U (.type "set"):=by rfl
def _root_.L2.sortSetO (c:KD) (sc:Bool) (x:Wq D):Wq D:=match x with
 |some (.lst ds)=>if(decide ((eC ds).length<64)&&eG ds&&ds.all (i9 c)&&ds.all (dn 8)&&ds.all λd=>scD d==sc)=V then U (.lst (dh (eC ds))) else B
 |_=>B
nonrec theorem _root_.L2.df_sortedSet {X:Cx}{a:Expr}{fa:DEnv->Wq D}{pos pos2 p p2:PA}{c:KD}{sc:Bool}(g:Bn X "sorted") (g2:Bn X "set") (ha:DE X Y a fa):DF X (.Call (.Name "sorted" p) [.Call (.Name "set" p2) [a] [] pos2] [] pos) (λδ=>sortSetO c sc (fa δ)):=⟨rfl,λ{M δ s d Q} I e k=>by
 unfold sortSetO at e;split at e<;>try cases e
 split at e<;>cases e
 rename_i ds qd cc;simp![J9,decide_eq_true_eq]at cc;let⟨⟨⟨⟨c1,c2⟩,c3⟩,c4⟩,c5⟩:=cc;refine Lx (I.bltn g fy (LL ?_ rfl rfl))
 refine KZ (fH g2 G2 ha I qd λv s1 M1 x1 I1 r=>?_)
 let⟨l,o,vs,rfl,q,t,rs⟩:=r;let un:=I1.un;let hl:=rs.length;refine w0 (sc:=sc) I1.heap I.ok.room.hd (by lia) (t.is I1.heap q) ds (by simp;lia) (by lia) (λi v d hv hd=>?_) λh' tk ts hk hF=>LH ?_
 ·let⟨v',h1,h2⟩:=rs.get hd
  simp![Mx]at hv
  rw[h1]at hv;cases hv;let hm:=Kv hd;exact⟨h2,qab.mp c4 d hm,beq_iff_eq.mp (qab.mp c5 d hm)⟩
 ·let⟨o,ep,tb,ho,hex,hdt,T,hf,hled⟩:=hF.at'
  let hp:(ts.map (·.1)).Perm (eC ds):=(Mw hF.nd (uniqD_nodup ds)).mpr λx=>(hF.mem x).trans (uniqD_mem x ds).symm
  let hl1:=hp.length_eq;let hl2:=T.len;simp![J8]at hl1 hl2;let⟨es1,hcm⟩:=sortD_same (cmpD_sub c2 λx hx=>(uniqD_mem x ds).mp hx) hp
  let st:SetIs h' s1.heap.objs.size (ts.map (elE w)) ep tb:=⟨⟨o,ho,hex,hdt⟩,T,by lia⟩
  refine No Px O6 O7 (Qf _) ?_
  refine JY (m:=checkCount "sorted" 1 1 _) (JZ (JY (ut (s:={s1 with heap:=h',toks:=tk}) (by simp[I.ok.room.hd]) st hled (by rw[J8];lia) λvs h2 d tk2 hp2 hk2 hsz=>?_)))
  rw[K6]at hp2;let⟨ts2,p2,rfl⟩:=cx (λt:El=>t.2) hp2 ts rfl
  let⟨es2,hcm2⟩:=sortD_same hcm (p2.map (·.1))
  rw[<-es1,<-es2]at k;let hl3:=p2.length_eq;refine dH (c:=c) (I1.kp (s':={s1 with heap:=h2,drawn:=d,toks:=tk2}) λb o e=>hk2 _ _ (hk _ _ e)) (Ds λt ht=>hF.ok t (p2.mem_iff.mp ht)) (by rw[J8,M5];lia) hcm2 ?_ (PostF.to k x1)
  rw[OR];right;rw[Kw]at c3⊢;exact λx hx=>c3 x ((hF.mem x).mp ((p2.map (·.1)).mem_iff.mp hx))⟩
end L2.G
namespace L2
open PySem PySem.Spec PyProof.Rows Md
def bL:Ww (D×Ww D)->D->D->Ww (D×Ww D)
 |[],k,e=>[(k,[e])]
 |p::r,k,e=>if p.1=k then(p.1,if e∈p.2 then p.2 else p.2++[e])::r else p::bL r k e
def AD (g:Ww (D×Ww D)):D:=.dD (g.map (·.1)) (g.map λp=>.dD p.2 (p.2.map λ_=>.bl V))
def HP (δ:DEnv):Bool:=δ.all λo=>match o with|some (_,V)=>Y|_=>V
def fK (ib ik ir:Nat) (fk fe:DEnv->Wq D):Ww D->DEnv->Ww (D×Ww D)->Wq (Ww (D×Ww D))
 |[],_,g=>U g
 |d::ds,δ,g=>match fk (δ.set ib (U (d,Y)))with
  |some k=>(match fe (((δ.set ib (U (d,Y))).set ik (U (k,Y))).set ir B)with
   |some e=>if(dn 8 k&&isTD k&&(dn 8 e&&isTD e))=V then fK ib ik ir fk fe ds (((δ.set ib (U (d,Y))).set ik (U (k,Y))).set ir B) (bL g k e) else B
   |none=>B)
  |none=>B
def HQ (ig ib ik ir:Nat) (fi:DEnv->Wq (Ww D)) (fk fe:DEnv->Wq D) (δ:DEnv):Wq Out:=
 if HP δ=V/\ig<δ.length/\ib<δ.length/\ik<δ.length/\ir<δ.length then
  (match fi (δ.set ig B)with
  |some ds=>if ds.length<lim then(match fK ib ik ir fk fe ds (δ.set ig B) []with|some g=>U (.ret (AD g) V)|none=>B) else B
  |none=>B) else B
theorem kQ:∀{g:Ww (D×Ww D)}{k e:D},¬k∈g.map (·.1)->bL (g++[(k,[])]) k e=bL g k e
 |[],k,e,_=>by simp[bL]
 |p::r,k,e,h=>by
  simp![Ka,KI,not_or]at h;show bL (p::(r++[(k,[])])) k e=_;unfold bL;rw[if_neg (λz=>h.1 z.symm),if_neg (λz=>h.1 z.symm),kQ h.2]
theorem vm {n:Nat}{k e:D}:∀{g:Ww (D×Ww D)},(∀q∈g,q.2.length<=n)->∀q∈bL g k e,q.2.length<=n+1
 |[],h,q,hq=>by unfold bL at hq;rw[qaa.mp hq];simp
 |p::r,h,q,hq=>by
  unfold bL at hq;split at hq
  ·rcases on.mp hq with rfl|hq
   ·have:=h p (Kg ..)
    dsimp only;split
    ·lia
    ·rw[K0,Nb];lia
   ·have:=h q (Kb _ hq);lia
  ·rcases on.mp hq with rfl|hq
   ·have:=h q (Kg ..);lia
   ·exact vm (λq' hq'=>h q' (Kb _ hq')) q hq
nonrec theorem An {ig ib ik ir:Nat}{fi:DEnv->Wq (Ww D)}{fk fe:DEnv->Wq D}{δ:DEnv}{o:Out}(h:HQ ig ib ik ir fi fk fe δ=U o):(ig<δ.length/\ib<δ.length/\ik<δ.length/\ir<δ.length)/\∃ds g,fi (δ.set ig B)=U ds/\ds.length<lim/\fK ib ik ir fk fe ds (δ.set ig B) []=U g/\o=.ret (AD g) V:=by
 unfold HQ at h;split at h<;>try cases h
 split at h<;>try cases h
 split at h<;>try cases h
 split at h<;>cases h
 rename_i c _ ds q1 hl _ g q2;exact⟨c.2,ds,g,q1,hl,q2,rfl⟩
def er (ig ir:Nat) (δ:DEnv):DEnv:=(δ.set ig B).set ir B
def gA {δ:DEnv}{x:Wq (D×Bool)}(h1:ig≠i) (h2:i≠ir):er ig ir (δ.set i x)=(er ig ir δ).set i x:=by
 unfold er;rw[Pi _ _ h1.symm,Pi _ _ h2]
def Ci {δ:DEnv}{x:Wq (D×Bool)}(h:ig≠ir):er ig ir (δ.set ir x)=er ig ir δ:=by
 unfold er;rw[Pi _ _ h.symm,N2]
def AZ {δ:DEnv}{x:Wq (D×Bool)}:er ig ir (δ.set ig x)=er ig ir δ:=by
 unfold er;simp
def Ind {α:Type}(n ig ir:Nat) (f:DEnv->Wq α):Prop:=∀δ:DEnv,δ.length=n->f δ=f (er ig ir δ)
variable[Md]
def KpF (X:Cx) (M:Mp) (s:J5) (M':Mp) (s':J5):Prop:=∀a o,Free X M a->s.heap.get? a=U o->s'.heap.get? a=U o/\Free X M' a
def KpF.trans (a:KpF X M s M1 s1) (b:KpF X M1 s1 M2 s2):KpF X M s M2 s2:=λc o f e=>by let⟨h1,h2⟩:=a c o f e;exact b c o h2 h1
structure GI (X:Cx) (M:Mp) (s:J5) (l:Kp) (n:Nat) (g:Ww (D×Ww D)) (as:Ww Kp):Prop where
 fl:Free X M l
 ob:∃o us,s.heap.get? l=U o/\DcO V o (g.map (·.1)) us (as.map O0)/\Rs Y M (g.map (·.1)) us
 len:as.length=g.length
 inn:∀(j:Nat) (a:Kp) p,as[j]?=U a->g[j]?=U p->a≠l/\Free X M a/\∃o us,s.heap.get? a=U o/\DcO V o p.2 us (p.2.map λ_=>L7 V)/\Rs Y M p.2 us
 nd:as.Nodup
 few:g.length<=n
 fews:∀q∈g,q.2.length<=n
section
variable{X:Cx}{M M':Mp}{δ:DEnv}{s s':J5}{l:Kp}{n:Nat}{g:Ww (D×Ww D)}{as:Ww Kp}
def GI.to (G:GI X M s l n g as) (x:Sub Y M Y M') (k:∀a o,a=l\/a∈as->Free X M a->s.heap.get? a=U o->s'.heap.get? a=U o/\Free X M' a):GI X M' s' l n g as:=by
 let⟨o,us,h1,h2,h3⟩:=G.ob;let⟨h1,h1'⟩:=k _ _ (.inl rfl) G.fl h1;refine⟨h1',⟨o,us,h1,h2,h3.to x⟩,G.len,λj a p e1 e2=>?_,G.nd,G.few,G.fews⟩
 let⟨q1,q2,o,us,q3,q4,q5⟩:=G.inn j a p e1 e2;let⟨q3,q2⟩:=k _ _ (.inr (Kv e1)) q2 q3;exact⟨q1,q2,o,us,q3,q4,q5.to x⟩
def DE.evF {a:Expr}{fa:DEnv->Wq D}{Q:J4->J5->Prop}(h:DE X Y a fa) (I:Inv X M δ s) (e:fa δ=U d) (k:∀v s' M',Ext M M'->Inv X M' δ s'->R Y M' d v->KpF X M s M' s'->Q v s'):WP X (eval a X.env) Q s:=
 h.ev I.pin e λv s1 M1 x1 J r=>by let⟨h1,h2,h3,h4,h5,h6⟩:=I.unp J x1.sx;exact k v s1 _ x1.unp h1 (r.to h3) h6
def Inv.storeF {Q:Unit->J5->Prop}(I:Inv X M δ s) (hx:Lc X i x) (r:R Y M d u) (h:∀s',Inv X M (δ.set i (U (d,Y))) s'->KpF X M s M s'->Q () s'):WP X (storeName X.env x u) Q s:=
 I.store hx (b:=Y) r λs' c I' sb hc=>h s' I' λa o f e=>⟨(sb.2 a (by rintro rfl;rcases hc with z|z;exact f.l z;exact f.c _ z)).trans e,f⟩
theorem GI.done:∀{g:Ww (D×Ww D)}{as:Ww Kp}{M:Mp},Inv X M δ s->as.length=g.length->as.Nodup->(∀(j:Nat) (a:Kp) p,as[j]?=U a->g[j]?=U p->Free X M a/\∃o us,s.heap.get? a=U o/\DcO V o p.2 us (p.2.map λ_=>L7 V)/\Rs Y M p.2 us)->
  ∃M',Ext M M'/\Inv X M' δ s/\(∀c,c∉as->M' c=M c)/\Rs Y M' (g.map λp=>.dD p.2 (p.2.map λ_=>.bl V)) (as.map O0)
 |[],as,M,I,hl,_,_=>by
  cases as with
  |nil=>exact⟨M,Ext.refl,I,λ_ _=>rfl,rfl⟩
  |cons _ _=>simp at hl
 |p::g,[],M,I,hl,_,_=>by simp at hl
 |p::g,a::as,M,I,hl,nd,h=>by
  let⟨fa,o,us,h1,h2,h3⟩:=h 0 a p rfl rfl;let nd':=qaf.mp nd;let xa:=cb (o:=o) fa.m;let⟨M',x',I',n',r'⟩:=GI.done (g:=g) (as:=as) (I.put (k:=.f) fa h1) (by simpa using hl) nd'.2 (λj b q e1 e2=>by
   let⟨fb,ob,ub,q1,q2,q3⟩:=h (j+1) b q (by simpa using e1) (by simpa using e2)
   let ne:b≠a:=λz=>nd'.1 (z▸Kv e1)
   exact⟨⟨by rw[ar ne];exact fb.m,fb.l,fb.c,fb.t,fb.s⟩,ob,ub,q1,q2,q3.up xa⟩)
  let trues:∀l:Ww D,Rs Y M' (l.map λ_=>.bl V) (l.map λ_=>L7 V):=λl=>by
   induction l with
   |nil=>rfl
   |cons _ l ih=>exact⟨_,_,rfl,rfl,ih⟩
  refine⟨M',xa.trans x',I',λc hc=>?_,⟨_,_,rfl,⟨a,o,us,_,rfl,rdf.mpr (by rw[n' a nd'.1];exact ao),h2,h3.up (xa.trans x'),trues _⟩,r'⟩⟩
  rw[n' c (λz=>hc (.tail _ z)),ar (λz=>hc (by rw[z];exact .head _))]
variable{ig ib ik ir:Nat}{xg xb xk xr:Kr}{iter ke ve:Expr}{fi:DEnv->Wq (Ww D)}{fk fe:DEnv->Wq D}{p1 p2 p3 p4 p5 p6 p7 p8 p9 p10 p11 p12 p13 p14 p15 p16 p17 p18 ap cp:PA}{kk:Nat}
def Free.to (f:Free X M a) (e:M' a=B):Free X M' a:=⟨e,f.l,f.c,f.t,f.s⟩
nonrec theorem grp_get {Q:J4->J5->Prop}(ng:Nm X ig xg) (nk:Nm X ik xk) (line:(ap.endLine==cp.line)=V) (I:Inv X M δ s) (G:GI X M s l n g as) (eg:δ[ig]?=U (U (.ptr l,Y))) (ek:δ[ik]?=U (U (k,Y))) (hk:kOk V k=V) (hn:n<lim)
  (h:∀(a:Kp) s' g' as' (j:Nat) (p:D×Ww D),Inv X M δ s'->GI X M s' l (n+1) g' as'->as'[j]?=U a->g'[j]?=U p->p.1=k->(∀q∈g',q.2.length<=n)->(∀e,bL g' k e=bL g k e)->(∀b∈as',b∈as\/s.heap.objs.size<=b)->(∀b o,b≠l->s.heap.get? b=U o->s'.heap.get? b=U o)->Q (.ref a) s'):
  WP X (eval (.Call (.Attribute (.Name xg p8) "setdefault" ap) [.Name xk p9,.Dict [] [] p10] [] cp) X.env) Q s:=by
 refine wpAny_Call_method_late (Ax rfl) rfl line rfl (Mh (I.load ng eg λv r=>?_) ng.d)
 obtain rfl:v=.ref l:=r;let⟨o,us,ho,dc,rk⟩:=G.ob;let hS:(l==sysModules)=Y:=beq_eq_false_iff_ne.mpr G.fl.s;refine⟨"dict",_,Of,PL,PK,dc.ty ho,λb e=>by cases e;exact⟨o,ho,dc.2.1.2.1⟩,?_⟩
 refine QN rfl (Q8 (KZ (Mh (I.load nk ek λu ru=>KZ (OU (LH ?_))) nk.d)))
 let un:=I.un;let lt:=Kc ho;let hl':l≠s.heap.objs.size:=KF lt;let ho1:(s.heap.push {cls:=.type "dict",data:=.dict #[]}).get? l=U o:=J0 _ ho
 let I1:Inv X M δ {s with heap:=s.heap.push {cls:=.type "dict",data:=.dict #[]}}:=I.push (t:=s.toks)
 let hlim:=ax (Kh lim);refine KU F.slot_dict_setdefault (dc.ty ho1) Rc ?_ (Q7 _ _ _)
 refine JY (JY (MF (dc.ty ho1) (JZ ?_)))
 change wpAny _ _ (if(l==sysModules)=V then _ else(dictSetDefault l u (.ref s.heap.objs.size) >>= _)) _ _ _
 rw[if_neg (by rw[hS];exact Ny)]
 let few:=G.few;let kl:(g.map (·.1)).length=g.length:=by simp
 refine JY (IE (s:={s with heap:=s.heap.push {cls:=.type "dict",data:=.dict #[]}}) (show X.A.units+1+30<cLine by lia) I1.heap ho1 dc rk hk (show R Y M k u from ru) (λ_=>by lia) (λx tk z=>?_) λh' tk o' z sb g' dc'=>?_)
 ·-- it is there
  let hm:k∈g.map (·.1):=L0 λhm=>by rw[dx hm]at z;cases z
  let⟨j,hj⟩:=List.mem_iff_getElem?.mp hm;rw[kt dc.2.2.1 hj,Ky]at z
  rw[Ky]at hj
  let⟨p,hp,rfl⟩:=Option.map_eq_some_iff.mp hj;let⟨a,ha,rfl⟩:=Option.map_eq_some_iff.mp z;refine JZ ⟨_,rfl,h a _ g as j p I1.tok ?_ ha hp rfl G.fews (λ_=>rfl) (λb hb=>.inl hb) λb o _ e=>J0 _ e⟩
  let G':=G.to (M':=M) (s':={s with heap:=s.heap.push {cls:=.type "dict",data:=.dict #[]},toks:=tk}) (λ_ _ h=>h) λb o _ f e=>⟨J0 _ e,f⟩
  exact⟨G'.fl,G'.ob,G'.len,G'.inn,G'.nd,Nh G'.few,λq hq=>Nh (G'.fews q hq)⟩
 ·-- a new one
  let hf:=I.fresh (Kh _);let keep:∀b o,b≠l->s.heap.get? b=U o->h'.get? b=U o:=λb o hb e=>(sb.2 b hb).trans (J0 _ e)
  let hnew:h'.get? s.heap.objs.size=U {cls:=.type "dict",data:=.dict #[]}:=(sb.2 _ (Kt hl')).trans (J7 _ rfl)
  let lts:∀b∈as,b<s.heap.objs.size:=λb hb=>by
   let⟨j,hj⟩:=List.mem_iff_getElem?.mp hb;let hjl:j<g.length:=by rw[<-G.len];exact(List.getElem?_eq_some_iff.mp hj).1
   let⟨_,_,o,_,e,_⟩:=G.inn j b g[j] hj (by simp[hjl])
   exact Kc e
  refine JZ ⟨_,rfl,h s.heap.objs.size _ (g++[(k,[])]) (as++[s.heap.objs.size]) as.length (k,[]) (I1.wr (s':={s with heap:=h',toks:=tk}) [l] (λb hb=>by rw[qaa.mp hb];exact G.fl) λb o hb e=>(sb.2 b (λw=>hb (by simp[w]))).trans e) ⟨G.fl,⟨o',DP k u (g.map (·.1)) us,g',?_,?_⟩,by simp[G.len],λj a p e1 e2=>?_,?_,by simp;lia,λq hq=>?_⟩ (by simp) (by rw[G.len];simp) rfl (λq hq=>?_) (λe=>kQ z) (λb hb=>?_) keep⟩
  ·unfold bK kK at dc';rw[if_neg z,if_neg z]at dc'
   rw[Kn,Kn];exact dc'
  ·have:=qj rk ((show R Y M k u from ru))
   unfold bK at this;rw[if_neg z]at this;rw[Kn];exact this
  ·rw[List.getElem?_append]at e1 e2
   split at e1
   ·rename_i hj
    rw[if_pos (by rw[<-G.len];exact hj)]at e2
    let⟨q1,q2,o,us,q3,q4⟩:=G.inn j a p e1 e2;exact⟨q1,q2,o,us,keep _ _ q1 q3,q4⟩
   ·rename_i hj
    rw[if_neg (by rw[<-G.len];exact hj)]at e2
    rw[List.getElem?_singleton]at e1 e2
    split at e1<;>cases e1
    split at e2<;>cases e2
    exact⟨Kt hl',hf,_,[],hnew,sI,rfl⟩
  ·rw[Nd]
   exact⟨G.nd,by simp,λb hb c hc w=>by rw[qaa.mp hc]at w;exact absurd (lts b hb) (by rw[w];exact K3 _)⟩
  ·rcases qac.mp hq with hq|hq
   ·exact Nh (G.fews q hq)
   simp_all
  ·rcases qac.mp hq with hq|hq
   ·exact G.fews q hq
   simp_all
  ·rcases qac.mp hb with hb|hb
   ·exact .inl hb
   ·simp_all
end
end L2
namespace L2
open PySem PySem.Spec PyProof.Rows Md
theorem qT:∀{g:Ww (D×Ww D)}{j:Nat}{p:D×Ww D},(g.map (·.1)).Nodup->g[j]?=U p->∀e,bL g p.1 e=g.set j (p.1,bK e p.2)
 |[],j,p,_,h,e=>by simp at h
 |q::g,0,p,nd,h,e=>by simp at h;subst h;unfold bL bK;simp
 |q::g,j+1,p,nd,h,e=>by
  let nd':=qaf.mp (show(q.1::g.map (·.1)).Nodup from nd)
  unfold bL;rw[if_neg λ(z:q.1=p.1)=>nd'.1 (by rw[z];exact LU (Kv h)),qT nd'.2 h];rfl
def A9 (e:D):∀l:Ww D,kK e (L7 V) l (l.map λ_=>L7 V)=(bK e l).map λ_=>L7 V:=λl=>by
 let g:∀l:Ww D,eY e (L7 V) l (l.map λ_=>L7 V)=l.map λ_=>L7 V:=λl=>by
  induction l with
  |nil=>rfl
  |cons x l ih=>simp![Ka,eY,ih,ite_self]
 unfold kK bK;split
 ·exact g l
 ·simp
variable[Md]
section
variable{X:Cx}{M M':Mp}{δ:DEnv}{s s':J5}{l:Kp}{n:Nat}{g:Ww (D×Ww D)}{as:Ww Kp}{ig ib ik ir:Nat}{xg xb xk xr:Kr}{iter ke ve:Expr}{fi:DEnv->Wq (Ww D)}{fk fe:DEnv->Wq D}{p1 p2 p3 p4 p5 p6 p7 p8 p9 p10 p11 p12 p13 p14 p15 p16 p17 p18 ap cp:PA}{kk:Nat}
def ES {a:Kp}{j:Nat}{p:D×Ww D}{e:D}{u:J4}{Q:Unit->J5->Prop}(I:Inv X M δ s) (G:GI X M s l (n+1) g as) (fews:∀q∈g,q.2.length<=n) (hn:n<lim) (ha:as[j]?=U a) (hp:g[j]?=U p) (re:R Y M e u) (hk:kOk V e=V)
  (h:∀s',Inv X M δ s'->GI X M s' l (n+1) (bL g p.1 e) as->(∀b o,b≠a->s.heap.get? b=U o->s'.heap.get? b=U o)->Q () s'):WP X (setItem (.ref a) u (.bool V)) Q s:=by
 let⟨q1,q2,o,us,ho,dc,rk⟩:=G.inn j a p ha hp;let⟨ol,ul,hol,dl,rl⟩:=G.ob;let un:=I.un;let hl:=ax (Kh lim);let hz:=fews p (Kv hp);let hj:=(List.getElem?_eq_some_iff.mp hp).1
 unfold setItem
 try with_reducible refine KB ?_
 refine JY (P9 (dc.ty ho) (by decide) ?_)
 refine JY (Lf (name:=Lb "__setitem__") (dc.ty ho) OC (KU OC (dc.ty ho) entry_dict_setitem ?_ (args_dict_setitem _ _ _)))
 refine JY (MF (dc.ty ho) ?_)
 show wpAny _ _ (dictSet a u (.bool V) >>= _) _ _ _;refine JY (IN (show X.A.units+1+30<cLine by lia) I.heap ho dc rk hk re (by lia) λh' tk o' sb g' dc'=>JZ ⟨.none,rfl,JZ ?_⟩)
 let keep:∀b o,b≠a->s.heap.get? b=U o->h'.get? b=U o:=λb o hb e=>(sb.2 b hb).trans e
 rw[A9]at dc';let eq:=qT dl.2.2.1 hp e;let km:(g.set j (p.1,bK e p.2)).map (·.1)=g.map (·.1):=by
  rw[List.map_set];refine Ng λi=>?_
  by_cases z:i=j
  ·simp_all
  ·rw[KM (Kt z)]
 refine h {s with heap:=h',toks:=tk} (I.wr [a] (λb hb=>by simp_all) λb o hb e=>keep b o (λw=>hb (by simp[w])) e) ?_ keep
 rw[eq];refine⟨G.fl,⟨ol,ul,keep _ _ (Kt q1) hol,by rw[km];exact dl,by rw[km];exact rl⟩,by simp[G.len],λi b q e1 e2=>?_,G.nd,by simpa using G.few,by rw[<-eq];exact vm fews⟩
 by_cases z:i=j
 ·subst z
  rw[ha]at e1;cases e1;rw[Kz hj]at e2;cases e2
  exact⟨q1,q2,o',_,g',dc',qj rk re⟩
 ·rw[KM (Kt z)]at e2
  let⟨w1,w2,o2,us2,w3,w4⟩:=G.inn i b q e1 e2;let ne:b≠a:=λw=>z ((List.getElem?_inj (List.getElem?_eq_some_iff.mp e1).1 G.nd).mp (by rw[e1,ha,w]))
  exact⟨w1,w2,o2,us2,keep _ _ ne w3,w4⟩
nonrec theorem zY (hN:X.N.length=n) (ng:Nm X ig xg) (lg:Lc X ig xg) (lb:Lc X ib xb) (nk:Nm X ik xk) (lk:Lc X ik xk) (nr:Nm X ir xr) (lr:Lc X ir xr) (h1:ig≠ib) (h2:ig≠ik) (h3:ig≠ir) (h4:ib≠ir) (h5:ik≠ir) (h6:ib≠ik)
  (di:Ind n ig ir fi) (dk:Ind n ig ir fk) (de:Ind n ig ir fe) (hi:DI X Y (.Name xb p4) iter fi) (hk:DE X Y ke fk) (he:DE X Y ve fe)
  (hsw1:swapsWith (.Dict [] [] p2) (U (.Name xg p1)) p3.line X.env=pure Y)
  (hsw2:swapsWith ke (U (.Name xk p5)) p6.line X.env=pure Y)
  (hsw3:swapsWith (.Call (.Attribute (.Name xg p8) "setdefault" ap) [.Name xk p9,.Dict [] [] p10] [] cp) (U (.Name xr p7)) p11.line X.env=pure Y)
  (hsw4:swapsWith (.Constant (.bool V) kk p14) (U (.Subscript (.Name xr p12) ve p13)) p15.line X.env=pure Y)
  (line:(ap.endLine==cp.line)=V):
  DSs X (.Assign [.Name xg p1] (.Dict [] [] p2) p3::
   .For (.Name xb p4) iter (.Assign [.Name xk p5] ke p6::
    .Assign [.Name xr p7] (.Call (.Attribute (.Name xg p8) "setdefault" ap) [.Name xk p9,.Dict [] [] p10] [] cp) p11::
    .Assign [.Subscript (.Name xr p12) ve p13] (.Constant (.bool V) kk p14) p15::[]) [] p16::
   .Return (U (.Name xg p17)) p18::[]) (HQ ig ib ik ir fi fk fe):=λ{M δ s o Q} I e k=>by
 let⟨⟨q1,q2,q3,q4⟩,ds,g,hds,hlim,hg,rfl⟩:=An e;let hδ:δ.length=n:=by rw[I.len,hN]
 refine K8 (Mq (OU ?_) hsw1)
 let fl:=I.fresh (Kh s.heap.objs.size);generalize hl:s.heap.objs.size=l at fl⊢;let hol:(s.heap.push {cls:=.type "dict",data:=.dict #[]}).get? l=U {cls:=.type "dict",data:=.dict #[]}:=by rw[<-hl];exact J7 _ rfl
 refine(I.push (t:=s.toks)).storeF lg (d:=.ptr l) (by exact rfl) λs2 I2 kp2=>?_
 let⟨hol2,_⟩:=kp2 l _ fl hol;let ei:fi (δ.set ig (U (.ptr l,Y)))=U ds:=by rw[di _ (by simpa using hδ),AZ,<-AZ (x:=B),<-di _ (by simpa using hδ)];exact hds
 refine K8 (wpAny_For (hi.ev I2.pin ei λit fp tn s3 M3 x3 J3 T t0 f3=>?_) λx=>i8 hi.pl)
 let⟨I3,sx3,sb3,nn3,_,kp3⟩:=I2.unp J3 x3.sx;let⟨hol3,fl3⟩:=kp3 l _ fl hol2;let nfp:∀b∈fp,b≠l:=λb hb z=>by
  have:pin X M s2.heap l=U (.p,{cls:=.type "dict",data:=.dict #[]}):=by unfold pin;rw[if_pos fl,hol2];rfl
  let w:=(f3 b hb).m;rw[z]at w
  rcases x3 l with y|y
  ·lia
  ·rw[y.1]at this;cases this
 let gg:∀{z:Wq (D×Bool)}{i:Nat}{δ':DEnv},ig≠i->δ'[ig]?=U (U (D.ptr l,Y))->(δ'.set i z)[ig]?=U (U (D.ptr l,Y)):=λh w=>by simp_all [Kt]
 refine Oe (λm s'=>∃i δ' δm g' as' M',m=ds.length - i/\i<=ds.length/\Sub Y M3 Y M'/\Sx M M'/\Inv X M' δ' s'/\tn i s'.heap/\(∀b∈fp,Free X M' b/\b≠l/\b∉as')/\GI X M' s' l i g' as'/\δ'[ig]?=U (U (.ptr l,Y))/\er ig ir δ'=er ig ir δm/\δ'.length=n/\fK ib ik ir fk fe (ds.drop i) δm g'=U g) ?_ ds.length
  ⟨0,_,δ.set ig B,[],[],_,rfl,KA _,sb3,sx3,I3,t0,λb hb=>⟨⟨nn3 b (f3 b hb).m,(f3 b hb).l,(f3 b hb).c,(f3 b hb).t,(f3 b hb).s⟩,nfp b hb,by simp⟩,⟨fl3,⟨_,[],hol3,sI,rfl⟩,rfl,λj a p z=>by simp at z,LX,Kh _,λq hq=>nomatch hq⟩,Kz q1,by rw[AZ,AZ],by simpa using hδ,hg⟩
 rintro m s4 ⟨i,δ4,δm,g4,as4,M4,rfl,hi',sb4,sx4,I4,t4,f4,G4,eg4,er4,ln4,e4⟩
 let rd4:∀a o,Rd Y M3 a o->s4.heap.get? a=U o:=λa o q=>I4.heap _ _ _ (rdf.mp (sb4 _ _ q))
 by_cases hlt:i<ds.length
 ·rw[KW hlt]at e4
  simp![fK]at e4;split at e4<;>try cases e4
  rename_i k1 ek;split at e4<;>try cases e4
  rename_i e1 ee;split at e4<;>try cases e4
  rename_i h8;simp![J9]at h8;let ok1:kOk V k1=V:=lF (by rw[J9];exact h8.1)
  let oe1:kOk V e1=V:=lF (by rw[J9];exact h8.2)
  refine KN KL (thn (T.item t4 rd4 (d:=ds[i]) (by simp[hlt])) λr s5 hz=>?_)
  let⟨u,rfl,h5'⟩:=hz;refine KN KL (thn h5' λ_ s6 hz=>?_)
  let⟨c6,t6,g6⟩:=hz;let⟨M6,x6,I6,r6,f6'⟩:=I4.got sb4 g6 c6 λb hb=>(f4 b hb).1
  let ex4:=T.ex t4;let f6:∀b∈fp,Free X M6 b:=λb hb=>by let⟨o,e⟩:=ex4 b hb;exact f6' b o (f4 b hb).1 e
  let G6:GI X M6 s6 l i g4 as4:=G4.to x6.sub λa o ha f e=>⟨c6.2 a o (λz=>by simp_all) e,f6' a o f e⟩
  let car:∀{M7 s7 M8 s8},(∀b∈fp,Free X M7 b)->tn (i+1) s7.heap->KpF X M7 s7 M8 s8->(∀b∈fp,Free X M8 b)/\tn (i+1) s8.heap:=λf t kp=>⟨λb hb=>by let⟨o,e⟩:=T.ex t b hb;exact(kp b o (f b hb) e).2,T.keep t λb hb o e=>(kp b o (f b hb) e).1⟩
  refine KN KL (OB (I6.storeF lb r6 λs7 I7 kp7=>?_))
  let⟨f7,t7⟩:=car f6 t6 kp7;let G7:=G6.to (λ_ _ h=>h) λa o _ f e=>kp7 a o f e
  let ek':fk (δ4.set ib (U (ds[i],Y)))=U k1:=by rw[dk _ (by simpa using ln4),gA h1 h4,er4,<-gA h1 h4,<-dk _ (by have:=congrArg LW er4;simp[er]at this;simp;lia)];exact ek
  refine KN KL (K8 (Mq (hk.evF I7 ek' λv s8 M8 x8 I8 r8 kp8=>I8.storeF lk r8 λs9 I9 kp9=>?_) hsw2))
  let⟨f8,t8⟩:=car f7 t7 kp8;let⟨f9,t9⟩:=car f8 t8 kp9;let G9:=(G7.to x8.sub λa o _ f e=>kp8 a o f e).to (λ_ _ h=>h) λa o _ f e=>kp9 a o f e
  let eg9:((δ4.set ib (U (ds[i],Y))).set ik (U (k1,Y)))[ig]?=U (U (.ptr l,Y)):=gg h2 (gg h1 eg4);let ek9:((δ4.set ib (U (ds[i],Y))).set ik (U (k1,Y)))[ik]?=U (U (k1,Y)):=Kz (by rw[Mk];lia)
  refine K8 (Mq (grp_get ng nk line I9 G9 eg9 ek9 ok1 (by lia) λa s10 g10 as10 j p I10 G10 ha hp hpk fews eqg asub keep10=>I10.storeF lr (d:=.ptr a) (by exact rfl) λs11 I11 kp11=>?_) hsw3)
  let t10:tn (i+1) s10.heap:=T.keep t9 λb hb o e=>keep10 b o (f4 b hb).2.1 e
  let⟨f11,t11⟩:=car f9 t10 kp11;let G11:=G10.to (λ_ _ h=>h) λa o _ f e=>kp11 a o f e
  let lts:∀b∈fp,b∉as10:=λb hb z=>by
   rcases asub b z with z|z
   ·simp_all
   ·let⟨o,e⟩:=T.ex t9 b hb;exact absurd (Kc e) (Nat.not_lt.mpr z)
  let ee':fe (((δ4.set ib (U (ds[i],Y))).set ik (U (k1,Y))).set ir (U (.ptr a,Y)))=U e1:=by
   rw[de _ (by simpa using ln4),Ci h3,gA h2 h5,gA h1 h4,er4,<-gA h1 h4,<-gA h2 h5,<-Ci h3 (x:=B),<-de _ (by have:=congrArg LW er4;simp[er]at this;simp;lia)];exact ee
  refine K8 (wpAny_Assign_Subscript (Constant_bool (Mh (I11.load nr (Kz (by simp;lia)) λv rv=>he.evF I11 ee' λw s12 M12 x12 I12 r12 kp12=>?_) nr.d)) hsw4)
  obtain rfl:v=.ref a:=rv;let⟨f12,t12⟩:=car f11 t11 kp12;let G12:=G11.to x12.sub λa o _ f e=>kp12 a o f e
  refine ES I12 G12 fews (by lia) ha hp r12 oe1 λs13 I13 G13 keep13=>Ll ?_
  refine⟨ds.length - (i+1),by lia,i+1,_,((δm.set ib (U (ds[i],Y))).set ik (U (k1,Y))).set ir B,bL g4 k1 e1,as10,M12,rfl,hlt,λa o q=>x12.sub _ _ (x8.sub _ _ (x6.sub _ _ (sb4 a o q))),((sx4.trans x6.sx).trans x8.sx).trans x12.sx,I13,T.keep t12 λb hb o e=>keep13 b o (λw=>lts b hb (by rw[w];exact Kv ha)) e,λb hb=>⟨f12 b hb,(f4 b hb).2.1,lts b hb⟩,?_,gg h3 eg9,?_,by simpa using ln4,e4⟩
  ·simp_all
  ·rw[Ci h3,Ci h3,gA h2 h5,gA h1 h4,er4,<-gA h1 h4,<-gA h2 h5]
 ·obtain rfl:i=ds.length:=by lia
  rw[Ox]at e4;cases e4;refine KN KL (thn (T.done t4 rd4) λr s5 hz=>?_)
  let⟨rfl,c5⟩:=hz;refine Ll ?_
  let I5:=I4.ch c5 λb hb=>(f4 b hb).1
  let G5:GI X M4 s5 l _ g as4:=G4.to (λ_ _ h=>h) λa o ha f e=>⟨c5.2 a o (λz=>by simp_all) e,f⟩
  refine K8 (NQ (Mh (I5.load ng eg4 λv r=>?_) ng.d))
  obtain rfl:v=.ref l:=r;let⟨M6,x6,I6,n6,r6⟩:=GI.done I5 G5.len G5.nd λj a p e1 e2=>(G5.inn j a p e1 e2).2
  let⟨o,us,ho,dc,rk⟩:=G5.ob;let nl:l∉as4:=λz=>by
   let⟨j,hj⟩:=List.mem_iff_getElem?.mp z;let hjl:j<g.length:=by rw[<-G5.len];exact(List.getElem?_eq_some_iff.mp hj).1
   exact(G5.inn j l g[j] hj (by simp[hjl])).1 rfl
  exact k _ _ _ _ (sx4.trans x6.sx) I6 (.inl ⟨l,o,rfl,ho,⟨us,_,dc,rk.up x6,r6⟩,.inl (G5.fl.to (by rw[n6 l nl];exact G5.fl.m))⟩)
end
end L2
namespace L2
open PySem PySem.Spec PyProof.Rows Md
def IS:Wq Nu->Bool
 |some .local=>V|some .cell=>V|some .free=>V|_=>Y
def IG:Wq Nu->Bool
 |some .local=>V|some .cell=>V|_=>Y
def nmB (N:Ww Kr) (sc:MJ) (i:Nat) (x:Kr):Bool:=decide (N[i]?=U x)&&IS (sc.names.lookup x)&&!(x==("__debug__":Kr))&&!(x==("__classdict__":Kr))
def lcB (N:Ww Kr) (sc:MJ) (i:Nat) (x:Kr):Bool:=decide (N[i]?=U x)&&IG (sc.names.lookup x)
def JK (N:Ww Kr) (sc:MJ) (i:Nat) (x:Kr):Bool:=decide (N[i]?=U x)&&decide (sc.names.lookup x=U .local)
def gbB (sc:MJ) (x:Kr):Bool:=decide (sc.names.lookup x=U .globalImplicit)&&!(x==("__debug__":Kr))
nonrec theorem Bq {sc:MJ}{x:Kr}(h:IS (sc.names.lookup x)=V):Vis sc x:=by
 unfold IS at h;split at h
 ·rename_i e;exact .inl e
 ·rename_i e;exact .inr (.inl e)
 ·rename_i e;exact .inr (.inr e)
 ·cases h
nonrec theorem AJ {sc:MJ}{x:Kr}(h:IG (sc.names.lookup x)=V):Loc sc x:=by
 unfold IG at h;split at h
 ·rename_i e;exact .inl e
 ·rename_i e;exact .inr e
 ·cases h
def JG (scope sc:MJ):MJ:=
 {scope with names:=scope.names.map λ(n,k)=>if(k==.free&&sc.kind==.function&&sc.names.lookup n==U .cell) then(n,.cell) else(n,k)}
def Fy {scope sc:MJ}{env:Env}(h:env.scope=sc):relabel scope env=JG scope sc:=by subst h;rfl
def swB (sc scope:MJ) (t:Kr) (l1 l2:Nat):Bool:=
 ((if sc.kind.isAnnotationScope then ScopeKind.function else sc.kind)==.function)&&sc.names.lookup t==U .local&&l1==l2&&!(scope.names.any λ(n,k)=>n==t&&(k==.local||k==.cell))
def zp (osc:MJ) (scope:MJ) (N:Ww Kr) (bs:Ww Bool):Bool:=
 decide (scope.kind=.function)&&scope.names.all (λy=>!decide (y.2=.cell))&&scope.names.all (λy=>!decide (y.2=.local)||decide (scope.names.lookup y.1=U .local))&&
 scope.names.all (λy=>!decide (y.2=.free)||(decide (scope.names.lookup y.1=U .free)&&(decide (osc.names.lookup y.1=U .cell)||decide (osc.names.lookup y.1=U .free))))&&
 decide (bs.length=N.length)&&(N.zip bs).all (λp=>!p.2||decide (scope.names.lookup p.1=U .free))
variable[Md]
structure Has (X:Cx) (N:Ww Kr) (sc:MJ):Prop where
 n:X.N=N
 sc:X.env.scope=sc
 nd:X.N.Nodup
section
variable{X:Cx}{N:Ww Kr}{sc scope:MJ}{i:Nat}{x:Kr}
def Has.nm (h:Has X N sc) (b:nmB N sc i x=V):Nm X i x:=by
 unfold nmB at b;simp![J9,decide_eq_true_eq,MG]at b;exact⟨by rw[h.n];exact b.1.1.1,by rw[h.sc];exact Bq b.1.1.2,b.1.2,b.2⟩
def Has.nmI (h:Has X N sc) (b:nmB N sc i (N.getD i "")=V):∃x,Nm X i x:=⟨_,h.nm b⟩
def Has.lc (h:Has X N sc) (hf:X.fn=V) (b:lcB N sc i x=V):Lc X i x:=by
 unfold lcB at b;simp![J9,decide_eq_true_eq]at b;exact⟨by rw[h.n];exact b.1,h.nd,by rw[h.sc];exact(AJ b.2).imp id λz=>⟨z,hf⟩⟩
def Has.lcl (h:Has X N sc) (b:JK N sc i x=V):Lc X i x:=by
 unfold JK at b;simp![J9,decide_eq_true_eq]at b;exact⟨by rw[h.n];exact b.1,h.nd,.inl (by rw[h.sc];exact b.2)⟩
def Has.gb (h:Has X N sc) (b:gbB sc x=V):Gb X x:=by
 unfold gbB at b;simp![J9,decide_eq_true_eq,MG]at b;refine⟨?_,b.2⟩
 unfold Env.kindOf;rw[h.sc];exact b.1
def Has.comp (h:Has X N sc) (scope:MJ) (cl:Ww (Kr×Kp)) (C:Kp):Has (cxC X scope cl C) N (JG scope sc):=⟨h.n,Fy h.sc,h.nd⟩
def CompScope.of' {bs:Ww Bool}(h:Has X N sc) (b:zp sc scope N bs=V):CompScope X scope bs:=by
 let⟨h2,h1,_⟩:=h;unfold zp at b;simp![J9,decide_eq_true_eq]at b;let⟨⟨⟨⟨⟨a,b⟩,c⟩,d⟩,e⟩,f⟩:=b;refine⟨a,λy hy z=>?_,λy hy z=>?_,λy hy z=>?_,by rw[h2];exact e,λi x hx hb=>?_⟩
 ·grind
 ·grind
 ·have:=qab.mp d y hy
  rw[decide_eq_true z]at this;simp![Mu,Bool.false_or,J9,OR,decide_eq_true_eq]at this;refine⟨this.1,?_⟩
  unfold Env.kindOf;rw[h1];exact this.2
 ·rw[h2]at hx
  let hz:(N.zip bs)[i]?=U (x,V):=by rw[List.getElem?_zip_eq_some];exact⟨hx,hb⟩
  have:=qab.mp f _ (Kv hz)
  simpa using this
def w9 {c:Bool}{elt:Expr}{gens:Ww Comprehension}{pos pos':PA}{l:Nat}(h:Has X N sc) (q:swB sc scope x pos'.line pos.line=c):swapsWith (.ListComp elt gens scope pos) (U (.Name x pos')) l X.env=pure c:=by
 subst q;rw[<-h.sc];rfl
end
def Txb (bl:Ww Kr):Prop:=∀x∈bl,mg x=B
def Txb.bn {X:Cx}{bl:Ww Kr}{N:Ww Kr}{sc:MJ}{x:Kr}(T:Txb bl) (h:Has X N sc) (b:(gbB sc x&&decide (x∈bl)&&decide (x≠"__name__"))=V):Bn X x:=by
 simp![J9,decide_eq_true_eq]at b;exact⟨h.gb b.1.1,T x b.1.2,b.2⟩
theorem us0 {P:Ww J4->Prop}(h:P []):∀us:Ww J4,us.length=0->P us
 |[],_=>h
theorem usS {n:Nat}{P:Ww J4->Prop}(h:∀a us,us.length=n->P (a::us)):∀us:Ww J4,us.length=n+1->P us
 |a::us,e=>h a us (Qn e)
def Df (x:Kr) (st:Lr):Prop:=∃f fd,Fun K x x st f fd/\mg x=U (.ref f)
def DfC (x:Kr) (st:Lr) (c:Kp):Prop:=∃f fd,Fun K x x st f fd/\mg x=U (.ref f)/\fd.code=.ref c
section
variable{x:Kr}{st:Lr}{f:Kp}
abbrev HB (x:Kr) (st:Lr) (N:Ww Kr) (n:Nat):Prop:=∀(kV doc pm:J4) (an:Wq Kp) (cdv ct:J4) (us:Ww J4),us.length=(N.take n).length->bindArgs (PySem.W.fnOf x x (defArgs st) (defBody st) (defScope st) .none kV doc pm an cdv ct) ⟨us,[]⟩=pure ((N.take n).zip us)
abbrev HY (N:Ww Kr) (st:Lr) (k:Nat) (J:Cx->Prop):Prop:=∀X:Cx,Has X N (defScope st)->X.fn=V->Room k X.A->J X
def Fun.binds {fd:Q6}(F:Fun K x x st f fd) (hb:HB x st N n):HR fd (N.take n):=by
 let⟨oc,od,kV,doc,pm,an,cdv,ct,osl,rfl,_⟩:=F.ex;exact λs us hl=>.of_eq (hb kV doc pm an cdv ct us hl)
def mk {k:Nat}(n:Nat) (N:Ww Kr) (g:DEnv->Wq Out) (D:Df x st) (S:FnScope N (N.take n) (defScope st):=by walk_at "sc")
  (hb:HB x st N n:=by walk_at "bi") (body:HY N st k (λX=>DSs X (defBody st) g):=by walk_at "mk"):FnM (k+1) x (bh N.length (N.take n).length g):=by
 let⟨f,fd,F,hm⟩:=D;exact CZ F S (F.binds hb) hm λA L hr=>body (cxF N x (defScope st) f fd.code A L) ⟨rfl,rfl,S.nd⟩ rfl hr
def mkC {k:Nat}{c:Kp}{lq:Kr}(n:Nat) (N:Ww Kr) (g:DEnv->Wq Out) (D:DfC x st c) (hq:∀L f cd,(envOfC x (defScope st) L f cd).qual++"<lambda>"=lq) (S:FnScope N (N.take n) (defScope st)) (hb:HB x st N n) (body:∀X:Cx,Has X N (defScope st)->X.fn=V->Room k X.A->X.env.qual++"<lambda>"=lq->X.env.code=.ref c->DSs X (defBody st) g):FnM (k+1) x (bh N.length (N.take n).length g):=by
 let⟨f,fd,F,hm,hc⟩:=D;exact CZ F S (F.binds hb) hm λA L hr=>body (cxF N x (defScope st) f fd.code A L) ⟨rfl,rfl,S.nd⟩ rfl hr (hq L f fd.code) hc
end
def uM {X:Cx}{a lbody:Expr}{fa fb:DEnv->Wq D}{params:OZ}{lscope:MJ}{lpos kp pos p:PA}{c P:Kp}{lq x:Kr}(hx:params.args.map (·.arg)=[x]) (hr:Room 3 X.A) (g:Bn X "sorted") (hP:(P,lq)∈tb) (hTu:∀q∈tb,q.1=P->q=(P,lq)) (hq:X.env.qual++"<lambda>"=lq) (hC:OK base c P) (hcd:X.env.code=.ref c) (hcl:closureFor lscope X.env=pure []) (hdef:defaultsOf params X.env=([],[]))
  (S:FnScope [x] [x] lscope) (hbind:∀(s:J5) (u pm ctv:J4) (c':Kp),BindsTo s (OI "<lambda>" lq params lbody lscope [] pm (.ref c') ctv) ⟨[u],[]⟩ [(x,u)]) (hb:∀X':Cx,Has X' [x] lscope->DE X' Y lbody fb) (ha:DE X Y a fa):
  DF X (.Call (.Name "sorted" p) [a] [⟨U "key",.Lambda params lbody lscope lpos,kp⟩] pos) (λδ=>kH (fa δ) λd=>fb [U (d,Y)]):=
 uR (k:=0) hr g hP hTu hq hC hcd hcl hdef S hbind (λf c' A L _=>hb _ ⟨rfl,rfl,by simp⟩) ha
end L2
namespace L2
open PySem PySem.Spec PyProof.Rows Md
section
open PySem.SeqAt
open PySem.AutoSeq1 (wpAny_loadPart')
open PySem.MeetsSeq PySem.MeetsSeq2 PySem.MeetsSeq3
def yn (l b:Kp) (v w:J4) (vs ws:Ww J4) (n n2:Nat) (dd dd2:Wq Kp) (sl sl2:Array (Wq J4)):
  Meets (NK.«tuple.__eq__» ⟨[.ref l,.ref b],[]⟩)
   (λA R s=>s.heap.get? l=U {cls:=.type "tuple",dict:=dd,data:=.seq (v::vs).toArray n,slots:=sl}/\s.heap.get? b=U {cls:=.type "tuple",dict:=dd2,data:=.seq (w::ws).toArray n2,slots:=sl2}/\
    EqAt A.in1 s v w Y/\R (.ok (.ret (.bool Y))) s):=
 .of_wp λprog w' A R s h=>by
  let⟨hp,g,d,tk,os⟩:=s;let⟨hl,hb,he,h⟩:=h;let f2:=P8
  wp_walk using NE hl,NE hb,MB _ (λrest b s'=>b.1=B/\s'=⟨hp,g,d,tk,os⟩/\rest=(v::vs).zip (w::ws)) _
  case turn=>
   rintro⟨y,x⟩ rest b s' ⟨hb',rfl,hz⟩
   injection hz with hyx hrest
   injection hyx with hy hx'
   subst hy hx';refine JY (he prog w' _ _ ?_)
   wp_walk
   exact⟨_,rfl,by simpa using h⟩
  case fin=>
   simp
  case h=>exact⟨rfl,rfl,rfl⟩
end
def EqAt.firsts {A:KH}{s:J5}{l b:Kp}{v w:J4}{vs ws:Ww J4}(hne:l≠b) (hl:s.heap.IsTuple l (v::vs).toArray) (hb:s.heap.IsTuple b (w::ws).toArray) (hu:A.units<cLine) (he:Mj A.in1 s v w Y):Mj A s (.ref l) (.ref b) Y:=by
 refine QD hne λprog w' E Q h=>?_
 let⟨⟨cls,dd,data,sl⟩,ho,hc,n,hd⟩:=id hl;let⟨⟨cls2,dd2,data2,sl2⟩,ho2,hc2,n2,hd2⟩:=id hb;subst hc hd hc2 hd2;exact richCompare_meets_room (op:=.Eq) ⟨_,ho,rfl⟩ ⟨_,ho2,rfl⟩ PySem.F.slot_tuple_eq PySem.F.entry_tuple_eq (PySem.F.args_tuple_eq_2 _ _) (yn l b v w vs ws n n2 dd dd2 sl sl2)
  ⟨ho,ho2,he,show L7 Y≠QW/\Q (.bool Y) s from⟨(λx=>nomatch x),h⟩⟩ hu
def fM {α:Type}:Ww α->Ww Bool->Ww α
 |x::xs,b::bs=>if b=V then x::fM xs bs else fM xs bs
 |_,_=>[]
def cO (f:D->Wq Bool):Ww D->Wq (Ww Bool)
 |[]=>U []
 |d::ds=>match f d,cO f ds with|some b,U bl=>U (b::bl)|_,_=>B
nonrec theorem nI {f:D->Wq Bool}:∀{ds:Ww D}{bl:Ww Bool},cO f ds=U bl->bl.length=ds.length
 |[],bl,h=>by simp_all [cO,Mc]
 |d::ds,bl,h=>by
  simp![cO]at h;split at h
  ·rename_i b l q1 q2;obtain rfl:=Lv h;simp[nI q2]
  ·contradiction
def bu (bl:Ww Bool):Nat:=if V∈bl then bl.idxOf V else 0
theorem sM {α:Type}:∀{xs:Ww α}{bl:Ww Bool},bl.length=xs.length->(V∈bl->(fM xs bl)[0]?=xs[bu bl]?)/\(V∉bl->fM xs bl=[])
 |[],bl,h=>by cases bl with
  |nil=>exact⟨λh=>(by rfl),λ_=>rfl⟩
  |cons _ _=>simp at h
 |x::xs,bl,h=>by
  cases bl with
  |nil=>simp at h
  |cons b bl=>
   let ih:=sM (xs:=xs) (bl:=bl) (by simpa using h)
   cases b with
   |true=>exact⟨λ_=>by rfl,λn=>absurd (Kg ..) n⟩
   |false=>
    refine⟨λm=>?_,λn=>?_⟩
    ·let m':V∈bl:=by simpa using m
     have:=ih.1 m';unfold fM;simp![Ko,if_false];rw[this];unfold bu
     simp_all [P6]
    ·unfold fM
     simp_all
def v0 {α:Type}{xs:Ww α}{x:α}(h:xs[0]?=U x):atI xs 0=U x:=by
 let hl:=(List.getElem?_eq_some_iff.mp h).1
 simp_all [atI,ixN,hl]
def F1:D->Bool
 |.tup [x,.lst _]=>okD 15 x
 |_=>Y
def cY (d e:D):Bool:=match d,e with|.tup (a::_),.tup (b::_)=>okD 15 a&&okD 15 b&&decide (a≠b)|_,_=>Y
def Aw (r iL iT j:Nat) (bs:Ww Bool) (ft:DEnv->Wq Bool) (δ:DEnv) (gr:DEnv->Wq Out):Wq Out:=match δ[r]? with
 |some (U (.lst ds,V))=>(match cO (λd=>ft ((aF Y bs δ).set j (U (d,Y)))) ds,ds[0]? with
  |some bl,U _=>if(iL<δ.length/\iT<δ.length/\j<δ.length/\ds.length<=lim)/\(ds.all F1&&(ds.take (bu bl)).all λd=>cY d (ds.getD (bu bl) .non))=V then
    gr (((δ.set iL (U (.lst (fM ds bl),V))).set iT (U (ds.getD (bu bl) .non,Y))).set r (U (.lst (ds.eraseIdx (bu bl)),V))) else B
  |_,_=>B)
 |_=>B
nonrec theorem wI {r iL iT j:Nat}{bs:Ww Bool}{ft:DEnv->Wq Bool}{gr:DEnv->Wq Out}{δ:DEnv}{o:Out}(h:Aw r iL iT j bs ft δ gr=U o):∃ds bl,δ[r]?=U (U (.lst ds,V))/\cO (λd=>ft ((aF Y bs δ).set j (U (d,Y)))) ds=U bl/\0<ds.length/\(iL<δ.length/\iT<δ.length/\j<δ.length/\ds.length<=lim)/\
  ds.all F1=V/\((ds.take (bu bl)).all λd=>cY d (ds.getD (bu bl) .non))=V/\
  gr (((δ.set iL (U (.lst (fM ds bl),V))).set iT (U (ds.getD (bu bl) .non,Y))).set r (U (.lst (ds.eraseIdx (bu bl)),V)))=U o:=by
 unfold Aw at h;split at h
 ·rename_i ds e
  split at h
  ·rename_i bl x eb ex
   split at h
   ·rename_i c
    rw[J9]at c;exact⟨ds,bl,e,eb,(List.getElem?_eq_some_iff.mp ex).1,c.1,c.2.1,c.2.2,h⟩
   ·contradiction
  ·contradiction
 ·contradiction
def bj (b:Nat->Kp):Nat->Ww D->Ww D
 |_,[]=>[]
 |i,d::ds=>(match d with|.tup [x,_]=>.tup [x,.ptr (b i)]|d=>d)::bj b (i+1) ds
theorem ro {b:Nat->Kp}:∀{ds:Ww D}{i m:Nat},(bj b i ds)[m]?=(ds[m]?).map λd=>(match d with|.tup [x,_]=>.tup [x,.ptr (b (i+m))]|d=>d)
 |[],_,_=>rfl
 |d::ds,i,0=>rfl
 |d::ds,i,m+1=>by
  have:=ro (b:=b) (ds:=ds) (i:=i+1) (m:=m);simp![bj,NC,this]
  rw[show i+1+m=i+(m+1) by lia]
theorem kI {b:Nat->Kp}:∀{ds:Ww D}{i:Nat},(bj b i ds).length=ds.length
 |[],_=>rfl
 |d::ds,i=>by simp[bj,kI]
def o9 {d:D}(h:F1 d=V):∃x y,d=.tup [x,.lst y]/\okD 15 x=V:=by
 unfold F1 at h;split at h
 ·exact⟨_,_,rfl,h⟩
 ·cases h
variable[Md]
def Gp (i:Nat) (x:Wq D) (δ:DEnv):Wq Out:=match aN i δ,x with
 |some (.lst ds),U (.tup [p,.ptr b])=>if(okD 15 p&&decide (ds[(ds.idxOf (.tup [p,.ptr b]))]?=U (.tup [p,.ptr b]))&&(ds.take (ds.idxOf (.tup [p,.ptr b]))).all (λd=>cY d (.tup [p,.ptr b]))&&decide (ds.length<=lim))=V then U (.next (δ.set i (U (.lst (ds.eraseIdx (ds.idxOf (.tup [p,.ptr b]))),V)))) else B
 |_,_=>B
section
variable{X:Cx}{M:Mp}{δ:DEnv}{s:J5}{a b:Expr}{fa fb:DEnv->Wq D}{m m':Bool}{pos px apos cpos:PA}
def yp {A:KH}{u v:J4}{d e:D}(H:Hm M s.heap) (hu:A.units+18<cLine) (h:cY d e=V) (r:R m M d u) (q:R m' M e v):Mj A s u v Y:=by
 unfold cY at h;split at h
 ·simp![J9,decide_eq_true_eq]at h
  let⟨⟨h1,h2⟩,h3⟩:=h;let⟨l,o,vs,rfl,r1,t1,v1,vs,rfl,r2,_⟩:=r;let⟨l',o',ws,rfl,q1,t2,w1,ws,rfl,q2,_⟩:=q;refine EqAt.firsts (λz=>?_) (t1.is H r1) (t2.is H q1) (by lia) ?_
  ·subst z
   let⟨k,e1,_⟩:=r1;let⟨k',e2,_⟩:=q1;rw[e1]at e2;cases e2;let⟨_,_,n,e1⟩:=t1;let⟨_,_,n',e2⟩:=t2;rw[e1]at e2;injection e2 with e2
   have:=congrArg Array.toList e2;simp at this;exact h3 (R.inj h1 h2 r2 (this.1▸q2))
  ·have:=(CF H 15 A.in1 h1 h2 (show A.units+1+15+1<cLine by lia) r2 q2).2.1
   rwa[decide_eq_false h3]at this
 ·cases h
def E4 {A:KH}{u v:J4}{p:D}{c:Kp}(H:Hm M s.heap) (hu:A.units+18<cLine) (hp:okD 15 p=V) (r:R m M (.tup [p,.ptr c]) u) (q:R m' M (.tup [p,.ptr c]) v):Mj A s u v V:=by
 let⟨l,o,vs,rfl,r1,t1,v1,vs,rfl,r2,v2,vs,rfl,r3,rfl⟩:=r;let⟨l',o',ws,rfl,q1,t2,w1,ws,rfl,q2,w2,ws,rfl,q3,rfl⟩:=q
 by_cases z:l=l'
 ·subst z;exact QY _
 ·refine QD z ?_
  have:=SeqAt.RcAt.tuples (e:=λ_=>V) (t1.is H r1) (t2.is H q1) (show A.units<cLine by lia) λi h1 h2=>by
   match i with
   |0=>
    have:=(CF H 15 A.in1 hp hp (show A.units+1+15+1<cLine by lia) r2 q2).2.1
    rwa[decide_eq_true rfl]at this
   |1=>cases r3;cases q3;exact QY _
   |i+2=>simp at h1;lia
  assumption
nonrec theorem Eb (h:Nm X i x) (nd:X.N.Nodup) (ha:DE X m a fa) (l:(apos.endLine==cpos.line)=V):DS X (.Expr (.Call (.Attribute (.Name x px) "remove" apos) [a] [] cpos) pos) (λδ=>Gp i (fa δ) δ):=λ{M δ s o Q} I e k=>by
 unfold Gp at e;dsimp only at e;split at e<;>try cases e
 split at e<;>cases e
 rename_i ds p b e1 e2 hc;simp![J9,decide_eq_true_eq]at hc;let⟨⟨⟨od,hm⟩,oa⟩,hl⟩:=hc;generalize hj':ds.idxOf (.tup [p,.ptr b])=j at*;let hj:=(List.getElem?_eq_some_iff.mp hm).1
 refine Pw (B9 MK Qi PySem.F.type_list_remove l h (aX ha cW) (by decide) I (aK e1) (ds:=[.tup [p,.ptr b]]) (by rw[e2];rfl) uV λa o us s1 M1 x1 I1 q c r=>?_) I.quiet rfl
 let⟨u,rfl,r1⟩:=r.is1;let⟨vs,⟨z,n,rfl⟩,rs⟩:=c;let hq:=I1.heap _ _ _ q;let hlen:=rs.length;let un:=I1.un;let at':∀(m:Nat) (hm:m<vs.toArray.size),R Y M1 (ds[m]'(by simp_all)) vs.toArray[m]:=λm hm=>by
  simp at hm;let⟨v,h1,h2⟩:=rs.get (i:=m) (d:=ds[m]'(by lia)) (by simp)
  simp_all
 let⟨M2,I2,x2⟩:=I1.lset (f:=λxs=>xs.eraseIdxIfInBounds j) (us:=vs.eraseIdx j) (t:=s1.toks) h nd (aK e1) q (by simp) (rs.erase j) (by have:=List.length_eraseIdx_le ds j;lia)
 refine uT (j:=j) (items:=vs.toArray) (n:=n) (by simp;lia) (by trivial) hq ?_ (λm hm hmj=>?_) (k _ _ (x1.sx.trans x2) I2)
 ·have:=at' j (by simp;lia)
  rw[(List.getElem?_eq_some_iff.mp hm).2]at this
  exact E4 I1.heap (show X.A.units+1+18<cLine by lia) od this r1
 ·let hm':m<ds.length:=by simp at hm;lia
  let q:=qab.mp oa (ds[m]) (qar.mpr ⟨m,by lia,rfl⟩)
  exact yp I1.heap (show X.A.units+1+18<cLine by lia) q (at' m hm) r1
end
def Inv.view {X:Cx}{M:Mp}{δ δ2:DEnv}{s:J5}(I:Inv X M δ s) (hl:δ2.length=δ.length) (h:∀(i:Nat) d ow,δ2[i]?=U (U (d,ow))->∃d',δ[i]?=U (U (d',ow))/\(∀v,R Y M d' v->R Y M d v)/\(∀o,C M d' o->C M d o)/\(ow=V->∀ds,d'=.tup ds->d=d')):Inv X M δ2 s:=by
 refine⟨I.ok,I.og,I.heap,I.base,?_,I.free,I.cell,I.tabs,I.own,I.uni,hl.trans I.len,I.sys⟩
 let⟨m,hn,hv⟩:=I.loc;refine⟨m,hn,λi x d b e1 e2 e3=>?_⟩
 let⟨d',e4,h1,h2,h3⟩:=h i d b e2;let⟨u,l,v⟩:=hv i x d' b e1 e4 e3;refine⟨u,l,?_⟩
 cases b with
 |false=>exact h1 u v
 |true=>exact v.imp (λ⟨a,o,e,q,c⟩=>⟨a,o,e,q,h2 o c⟩) λ⟨ds,t,o,vs,e,z⟩=>⟨ds,t,o,vs,(h3 rfl ds e).trans e,z⟩
theorem Dp {M:Mp}:∀{ds:Ww D}{vs:Ww J4}(i:Nat),ds.all F1=V->Rs Y M ds vs->∃b:Nat->Kp,Rs Y M (bj b i ds) vs/\∀m x y,ds[m]?=U (.tup [x,y])->R Y M y (.ref (b (i+m)))
 |[],_,i,_,r=>⟨λ_=>0,r,λm x y e=>by simp at e⟩
 |d::ds,_,i,h,⟨v,r,rfl,h1,h2⟩=>by
  rw[KG,J9]at h;let⟨x,y,rfl,_⟩:=o9 h.1;let⟨b,hb,hc⟩:=Dp (i+1) h.2 h2;let⟨a,o,us,rfl,q,t,u1,us,rfl,r1,u2,us,rfl,r2,rfl⟩:=h1;let⟨c,_,_,rfl,_⟩:=id r2;let cg:∀{ds:Ww D}{k:Nat},i<k->bj (λn=>if n=i then c else b n) k ds=bj b k ds:=λ{ds k} hk=>by
   induction ds generalizing k with
   |nil=>rfl
   |cons e ds ih=>simp![bj,if_neg (show k≠i by lia),ih (show i<k+1 by lia)]
  refine⟨λn=>if n=i then c else b n,⟨_,_,rfl,⟨a,o,_,rfl,q,t,u1,_,rfl,r1,_,_,rfl,by simp[R],rfl⟩,?_⟩,λm x' y' e=>?_⟩
  ·simp_all
  ·cases m with
   |zero=>simp_all
   |succ m=>
    grind
def qu {M:Mp}{b:Kp}{x y:D}(h:R Y M y (.ref b)) {v:J4}(r:R Y M (.tup [x,.ptr b]) v):R Y M (.tup [x,y]) v:=by
 let⟨a,o,us,rfl,q,t,u1,us,rfl,r1,u2,us,rfl,r2,rfl⟩:=r;cases r2;exact⟨a,o,_,rfl,q,t,u1,_,rfl,r1,_,_,rfl,h,rfl⟩
theorem Rs.of_get {M:Mp}{m:Bool}:∀{ds ds':Ww D}{vs:Ww J4},ds.length=ds'.length->(∀(i:Nat) d d' v,ds[i]?=U d->ds'[i]?=U d'->R m M d' v->R m M d v)->Rs m M ds' vs->Rs m M ds vs
 |[],[],vs,_,_,r=>r
 |d::ds,d'::ds',_,hl,h,⟨v,r,rfl,h1,h2⟩=>⟨v,r,rfl,h 0 d d' v rfl rfl h1,Rs.of_get (by simpa using hl) (λi d d' v a b=>h (i+1) d d' v (by trivial) (by trivial)) h2⟩
theorem vF {P:D->D->Prop}:∀{ds ds':Ww D}{bl:Ww Bool},ds.length=ds'.length->(∀(i:Nat) d d',ds[i]?=U d->ds'[i]?=U d'->P d d')->(fM ds bl).length=(fM ds' bl).length/\∀(i:Nat) d d',(fM ds bl)[i]?=U d->(fM ds' bl)[i]?=U d'->P d d'
 |[],[],bl,_,_=>⟨rfl,λi d d' e=>by trivial⟩
 |x::ds,y::ds',[],_,_=>⟨rfl,λi d d' e=>by trivial⟩
 |x::ds,y::ds',b::bl,hl,h=>by
  let⟨h1,h2⟩:=vF (P:=P) (bl:=bl) (ds:=ds) (ds':=ds') (by simpa using hl) λi d d' a b=>h (i+1) d d' (by trivial) (by trivial)
  cases b with
  |false=>trivial
  |true=>
   simp![fM,if_true,Kl,h1,true_and];intro i d d' a b;cases i with
   |zero=>exact h 0 d d' (by trivial) (by trivial)
   |succ i=>exact h2 i d d' (by trivial) (by trivial)
def BH {bs:Ww Bool}{δ:DEnv}{r:Nat}{d d':D}(h:δ[r]?=U (U (d,V))):aF Y bs (δ.set r (U (d',V)))=aF Y bs δ:=by
 apply Ng;intro i;unfold aF;simp![Q4]
 by_cases q:r=i
 ·subst q
  rw[Kz (List.getElem?_eq_some_iff.mp h).1,h]
  cases bs[r]?<;>simp
 ·rw[KM q]
nonrec theorem vq {ft:DEnv->Wq Bool}{μ:DEnv}{j:Nat}(hj:j<μ.length):∀{ds:Ww D}{bl:Ww Bool},cO (λd=>ft (μ.set j (U (d,Y)))) ds=U bl->aO (aC (af j) ft (λδ=>rd Y j δ) μ) ds=U (fM ds bl)
 |[],bl,h=>by simp[cO]at h;subst h;rfl
 |d::ds,bl,h=>by
  simp![cO]at h;split at h
  ·rename_i b l q1 q2
   cases h;let ih:=vq hj q2;let e:aC (af j) ft (λδ=>rd Y j δ) μ d=U (if b=V then U d else B):=by
    simp![aC,af,if_pos hj,ae,q1];cases b with
    |false=>rfl
    |true=>simp[rd,hj]
   simp![aO,e,ih];cases b<;>rfl
  ·cases h
theorem sA {f:D->Wq Bool}{b:Nat->Kp}(hf:∀x y y',f (.tup [x,y])=f (.tup [x,y'])):∀{ds:Ww D}{i:Nat},cO f (bj b i ds)=cO f ds
 |[],_=>rfl
 |d::ds,i=>by
  let e:f (match d with|.tup [x,_]=>.tup [x,.ptr (b i)]|d=>d)=f d:=by
   split
   ·exact hf _ _ _
   ·rfl
  simp![bj,cO,e,sA hf]
def wR {b:Nat->Kp}{ds:Ww D}{k:Nat}{d:D}(hp:ds.all F1=V) (e:ds[k]?=U (.tup [x,y])) (h:((ds.take k).all λd=>cY d (.tup [x,y]))=V):
  (bj b 0 ds).idxOf (.tup [x,.ptr (b k)])=k/\(((bj b 0 ds).take k).all λd=>cY d (.tup [x,.ptr (b k)]))=V:=by
 let at':∀{m d},m<k->(bj b 0 ds)[m]?=U d->cY d (.tup [x,.ptr (b k)])=V:=λ{m d} hm e=>by
  rw[ro]at e;let⟨d0,e0,rfl⟩:=Option.map_eq_some_iff.mp e;let q:=qab.mp h d0 (List.mem_iff_getElem?.mpr ⟨m,by simp_all⟩)
  let⟨x',y',rfl,_⟩:=o9 (qab.mp hp d0 (List.mem_iff_getElem?.mpr ⟨m,e0⟩));exact q
 let ek:(bj b 0 ds)[k]?=U (.tup [x,.ptr (b k)]):=by rw[ro,e];simp
 refine⟨?_,qab.mpr λd hd=>?_⟩
 ·let⟨hk,ek⟩:=List.getElem?_eq_some_iff.mp ek
  refine List.findIdx_eq hk |>.mpr ⟨by simp[ek],λm hm=>?_⟩
  have:=at' hm (K7 (by lia))
  refine beq_eq_false_iff_ne.mpr λz=>?_
  rw[z]at this;simp[cY]at this
 ·let⟨m,hm⟩:=List.mem_iff_getElem?.mp hd
  rw[List.getElem?_take]at hm
  split at hm
  ·exact at' (by assumption) hm
  ·cases hm
nonrec theorem Cj {X:Cx}{s1 s2 s3:Lr}{rest:Ww Lr}{r iL iT j n:Nat}{bs:Ww Bool}{ft:DEnv->Wq Bool}{gr:DEnv->Wq Out}{x:Kr}(hN:X.N.length=n) (hb:bs.length=n) (hr:Nm X r x) (hrL:r≠iL) (hrT:r≠iT) (hLT:iL≠iT)
  (hf:∀δ:DEnv,δ.length=n->∀x y y',ft (δ.set j (U (.tup [x,y],Y)))=ft (δ.set j (U (.tup [x,y'],Y))))
  (h1:DS X s1 λδ=>dF iL (aq (ae (bi (aN r δ)) (bJ Y bs (af j) ft (λδ=>rd Y j δ) δ))) δ)
  (h2:DS X s2 λδ=>aE iT (ifV (AB (rd V iL δ)) (ixO (aN iL δ) (U (.int 0))) (ixO (aN r δ) (U (.int 0)))) δ)
  (h3:DS X s3 λδ=>Gp r (rd Y iT δ) δ) (h4:DSs X rest gr):DSs X (s1::s2::s3::rest) (λδ=>Aw r iL iT j bs ft δ gr):=λ{M δ s o Q} I e k=>by
 let⟨ds,bl,e1,e2,e3,⟨l1,l2,l3,l4⟩,e4,e5,e6⟩:=wI e;let hlen:δ.length=n:=I.len.trans hN;let⟨m,hn,hv⟩:=id I.loc;let⟨u,_,va⟩:=hv r x _ V hr.n e1 hr.v;let⟨a,ob,rfl,q,vs,t,rs⟩:=va.own λ_ h=>nomatch h
 let⟨b,rb,hb'⟩:=Dp 0 e4 rs;simp![MH]at hb';let hrl:r<δ.length:=(List.getElem?_eq_some_iff.mp e1).1
 let hlb:=nI e2;let hfk:bu bl<ds.length:=by
  unfold bu;split
  ·rename_i z;rw[<-hlb];exact LI z
  ·exact e3
 generalize hK:bu bl=K at*;let⟨px,py,hpr,hok⟩:=o9 (qab.mp e4 _ (LC hfk));let hK0:ds[K]?=U (.tup [px,.lst py]):=by rw[K7 hfk,hpr]
 let hgD:ds.getD K .non=.tup [px,.lst py]:=by rw[Lk,hK0];rfl
 rw[hgD]at e5 e6;let hKt:(bj b 0 ds)[K]?=U (.tup [px,.ptr (b K)]):=by rw[ro,hK0];simp
 let⟨u1,u2⟩:=wR (b:=b) (d:=.non) e4 hK0 e5;let I0:Inv X M (δ.set r (U (.lst (bj b 0 ds),V))) s:=by
  refine⟨I.ok,I.og,I.heap,I.base,⟨m,hn,λi y d bb z1 z2 z3=>?_⟩,I.free,I.cell,I.tabs,I.own,I.uni,by simpa using I.len,I.sys⟩
  by_cases hi:r=i
  ·subst hi
   rw[Kz hrl]at z2;cases z2
   let⟨u,hl,va⟩:=hv r y _ V z1 e1 z3;let⟨a',ob',rfl,q',_⟩:=va.own λ_ h=>nomatch h
   obtain rfl:=I.uni _ _ _ _ _ q q';exact⟨_,hl,.inl ⟨a,ob,rfl,q,vs,t,rb⟩⟩
  ·rw[KM hi]at z2;exact hv i y d bb z1 z2 z3
 let g1:dF iL (aq (ae (bi (aN r (δ.set r (U (.lst (bj b 0 ds),V))))) (bJ Y bs (af j) ft (λδ=>rd Y j δ) (δ.set r (U (.lst (bj b 0 ds),V)))))) (δ.set r (U (.lst (bj b 0 ds),V)))=U (.next ((δ.set r (U (.lst (bj b 0 ds),V))).set iL (U (.lst (fM (bj b 0 ds) bl),V)))):=by
  let hml:(aF Y bs δ).length=n:=by simp[aF,hb,hlen]
  let z1:aN r (δ.set r (U (.lst (bj b 0 ds),V)))=U (.lst (bj b 0 ds)):=by simp[aN,hrl]
  let z2:bJ Y bs (af j) ft (λδ=>rd Y j δ) (δ.set r (U (.lst (bj b 0 ds),V))) (bj b 0 ds)=U (fM (bj b 0 ds) bl):=by
   unfold bJ;rw[if_pos (by rw[kI];exact l4),BH e1]
   exact vq (by lia) ((sA λx y y'=>hf _ hml x y y').trans e2)
  rw[z1];simp![bi,ae,z2,aq,dF,Mk,if_pos l1]
 let hph:=sM (xs:=bj b 0 ds) (bl:=bl) (by rw[kI];exact hlb)
 let g2:aE iT (ifV (AB (rd V iL ((δ.set r (U (.lst (bj b 0 ds),V))).set iL (U (.lst (fM (bj b 0 ds) bl),V))))) (ixO (aN iL ((δ.set r (U (.lst (bj b 0 ds),V))).set iL (U (.lst (fM (bj b 0 ds) bl),V)))) (U (.int 0))) (ixO (aN r ((δ.set r (U (.lst (bj b 0 ds),V))).set iL (U (.lst (fM (bj b 0 ds) bl),V)))) (U (.int 0)))) ((δ.set r (U (.lst (bj b 0 ds),V))).set iL (U (.lst (fM (bj b 0 ds) bl),V)))=U (.next (((δ.set r (U (.lst (bj b 0 ds),V))).set iL (U (.lst (fM (bj b 0 ds) bl),V))).set iT (U (.tup [px,.ptr (b K)],Y)))):=by
  let z1:rd V iL ((δ.set r (U (.lst (bj b 0 ds),V))).set iL (U (.lst (fM (bj b 0 ds) bl),V)))=U (.lst (fM (bj b 0 ds) bl)):=by simp[rd,l1]
  let z2:aN iL ((δ.set r (U (.lst (bj b 0 ds),V))).set iL (U (.lst (fM (bj b 0 ds) bl),V)))=U (.lst (fM (bj b 0 ds) bl)):=by simp[aN,l1]
  let z3:aN r ((δ.set r (U (.lst (bj b 0 ds),V))).set iL (U (.lst (fM (bj b 0 ds) bl),V)))=U (.lst (bj b 0 ds)):=by unfold aN;rw[KM (Kt hrL),Kz hrl]
  let z4:ifV (AB (U (.lst (fM (bj b 0 ds) bl)))) (ixO (U (.lst (fM (bj b 0 ds) bl))) (U (.int 0))) (ixO (U (.lst (bj b 0 ds))) (U (.int 0)))=U (.tup [px,.ptr (b K)]):=by
   by_cases ht:V∈bl
   ·let w:=hph.1 ht
    rw[hK,hKt]at w;cases hp:fM (bj b 0 ds) bl with
    |nil=>rw[hp]at w;cases w
    |cons d0 dr=>rw[hp]at w;simp at w;subst w;exact(show atI (_::dr) 0=_ from v0 rfl)
   ·let w:=hph.2 ht
    have:K=0:=by rw[<-hK];unfold bu;rw[if_neg ht]
    subst this;rw[w];cases hp:bj b 0 ds with
    |nil=>simp_all
    |cons d0 dr=>rw[hp]at hKt;simp at hKt;subst hKt;exact(show atI (_::dr) 0=_ from v0 rfl)
  rw[z1,z2,z3,z4];simp![aE,Mk,if_pos l2]
 let g3:Gp r (rd Y iT (((δ.set r (U (.lst (bj b 0 ds),V))).set iL (U (.lst (fM (bj b 0 ds) bl),V))).set iT (U (.tup [px,.ptr (b K)],Y)))) (((δ.set r (U (.lst (bj b 0 ds),V))).set iL (U (.lst (fM (bj b 0 ds) bl),V))).set iT (U (.tup [px,.ptr (b K)],Y)))=U (.next ((((δ.set r (U (.lst (bj b 0 ds),V))).set iL (U (.lst (fM (bj b 0 ds) bl),V))).set iT (U (.tup [px,.ptr (b K)],Y))).set r (U (.lst ((bj b 0 ds).eraseIdx K),V)))):=by
  let z1:rd Y iT (((δ.set r (U (.lst (bj b 0 ds),V))).set iL (U (.lst (fM (bj b 0 ds) bl),V))).set iT (U (.tup [px,.ptr (b K)],Y)))=U (.tup [px,.ptr (b K)]):=by simp[rd,l2]
  let z2:aN r (((δ.set r (U (.lst (bj b 0 ds),V))).set iL (U (.lst (fM (bj b 0 ds) bl),V))).set iT (U (.tup [px,.ptr (b K)],Y)))=U (.lst (bj b 0 ds)):=by unfold aN;rw[KM (Kt hrT),KM (Kt hrL),Kz hrl]
  unfold Gp;rw[z1,z2];simp![u1,hKt,hok,u2,kI,l4,decide_true,MY,if_true]
 refine K8 (h1 I0 g1 λs1 M1 x1 I1=>K8 (h2 I1 g2 λs2 M2 x2 I2=>K8 (h3 I2 g3 λs3 M3 x3 I3=>?_)))
 let xx:=x1.trans (x2.trans x3);let un1:∀m d d' v,ds[m]?=U d->(bj b 0 ds)[m]?=U d'->R Y M3 d' v->R Y M3 d v:=λm d d' v w1 w2 w3=>by
  let⟨x',y',rfl,_⟩:=o9 (qab.mp e4 d (List.mem_iff_getElem?.mpr ⟨m,w1⟩));rw[ro,w1]at w2;simp at w2;subst w2;exact qu ((hb' m _ _ w1).to xx.f) w3
 let hle:(bj b 0 ds).length=ds.length:=kI;refine h4 (I3.view (by simp) λi d ow w=>?_) e6 (k.to xx)
 by_cases hir:r=i
 ·subst hir
  rw[Kz (by simpa using hrl)]at w;cases w
  refine⟨_,Kz (by simpa using hrl),λv z=>?_,λo z=>?_,λ_ _ z=>nomatch z⟩
  ·let⟨a,o,vs,rfl,z1,z2,z3⟩:=z
   exact⟨a,o,vs,rfl,z1,z2,z3.of_get (by simp[Q9,hle]) λi d d' v w1 w2=>by
    rw[QR]at w1 w2
    split at w1
    ·rw[if_pos (by assumption)]at w2;exact un1 _ _ _ _ w1 w2
    ·rw[if_neg (by assumption)]at w2;exact un1 _ _ _ _ w1 w2⟩
  ·let⟨vs,z2,z3⟩:=z
   exact⟨vs,z2,z3.of_get (by simp[Q9,hle]) λi d d' v w1 w2=>by
    rw[QR]at w1 w2
    split at w1
    ·rw[if_pos (by assumption)]at w2;exact un1 _ _ _ _ w1 w2
    ·rw[if_neg (by assumption)]at w2;exact un1 _ _ _ _ w1 w2⟩
 ·rw[KM hir]at w
  rw[KM hir]
  by_cases hiT:iT=i
  ·subst hiT
   rw[Kz (by simpa using l2)]at w;cases w
   refine⟨_,Kz (by simpa using l2),λv z=>qu ((hb' K _ _ hK0).to xx.f) z,λo z=>z,λz=>nomatch z⟩
  ·rw[KM hiT]at w
   rw[KM hiT]
   by_cases hiL:iL=i
   ·subst hiL
    rw[Kz (by simpa using l1)]at w;cases w
    let⟨p1,p2⟩:=vF (P:=λd d'=>∀v,R Y M3 d' v->R Y M3 d v) (bl:=bl) hle.symm λm d d' w1 w2 v=>un1 m d d' v w1 w2
    refine⟨_,Kz (by simpa using l1),λv z=>?_,λo z=>?_,λ_ _ z=>nomatch z⟩
    ·let⟨a,o,vs,rfl,z1,z2,z3⟩:=z
     exact⟨a,o,vs,rfl,z1,z2,z3.of_get p1 λi d d' v w1 w2=>p2 i d d' w1 w2 v⟩
    ·let⟨vs,z2,z3⟩:=z
     exact⟨vs,z2,z3.of_get p1 λi d d' v w1 w2=>p2 i d d' w1 w2 v⟩
   simp_all
end L2
namespace L2
open PySem PySem.Spec PyProof.Rows Md
variable[Md]
section
variable{X:Cx}{M:Mp}{δ:DEnv}{s:J5}{tg a b:Expr}{fa fb:DEnv->Wq D}{m m' mm:Bool}{p pos:PA}
end
end L2
namespace L2
open PySem PySem.Spec PyProof.Rows Md
def flP:D->Bool|.lst es=>D.flats es|d=>d.flat
def flT:D->Bool|.tup ds=>ds.all flP|d=>d.flat
def Bf (m:Bool) (i:Nat) (x:Wq (D×Bool)) (δ:DEnv):Wq Out:=match x with
 |some (d,b)=>if(decide (i<δ.length)&&(!b||isTD d)&&(!m||(b&&flT d)||(!b&&d.flat)))=V then U (.next (δ.set i (U (d,b)))) else B
 |none=>B
def Cb (ix iy j:Nat) (δ:DEnv):Wq Out:=match δ[ix]? with
 |some (U (.tup ds,V))=>(match ds[j]? with
  |some (.lst es)=>if(decide (ix≠iy)&&decide (iy<δ.length)&&decide (j<1000)&&((ds.set j .any).all λd=>!sN d))=V then U (.next ((δ.set ix (U (.tup (ds.set j .any),Y))).set iy (U (.lst es,V)))) else B
  |_=>B)
 |_=>B
def vr (ix ip:Nat) (δ:DEnv):Wq Out:=match δ[ix]? with
 |some (U (.tup ds,V))=>if(decide (ip<δ.length)&&decide (ip≠ix)&&decide (ds.length<=1000)&&ds.all λd=>match d with|.lst es=>decide (es.length<=lim)|.str _=>V|.int _=>V|_=>Y)=V then U (.next ((δ.set ix B).set ip B)) else B
 |_=>B
variable[Md]
section
variable{X:Cx}{M M' M0:Mp}{δ:DEnv}{s:J5}{a b:Expr}{es:Ww Expr}{fa:DEnv->Wq D}{fs:DEnv->Wq (Ww D)}{m:Bool}{p px pos pos' cpos apos:PA}{f:Ww D->Wq (D×Bool)}
def disP (n i:Nat) (M:Mp):Mp:=λa=>match M a with|some (.o j,o)=>if j%n=i then B else U (.o j,o)|x=>x
def kJ {n i:Nat}{c:Kp}(h:M c=U (k,o)) (hk:∀j,k=.o j->j%n≠i):disP n i M c=U (k,o):=by unfold disP;cases k<;>simp_all
def gV {n i:Nat}{c:Kp}(h:disP n i M c=U (k,o)):M c=U (k,o)/\∀j,k=.o j->j%n≠i:=by
 unfold disP at h;split at h
 ·lia
 ·simp_all
def dz {n i:Nat}{c:Kp}(h:M c=B):disP n i M c=B:=by unfold disP;rw[h]
def gY {n i:Nat}:Sub Y M Y (disP n i M):=λ_ _ q=>rdf.mpr (kJ (rdf.mp q) λ_ z=>nomatch z)
def pq {n i:Nat}:Sx M (disP n i M):=⟨gY,λ_ _ q=>kJ q λ_ z=>(nomatch z),λ_ _ q=>(gV q).1⟩
def Inv.forget {i:Nat}(I:Inv X M δ s):Inv X (disP X.N.length i M) (δ.set i B) s:=by
 refine⟨I.ok,I.og,λa k o e=>I.heap a k o (gV e).1,λa o e=>kJ (I.base a o e) λ_ z=>(nomatch z),?_,dz I.free,λx c e=>⟨(I.cell x c e).1,(I.cell x c e).2.imp dz λ⟨f,o,q⟩=>⟨f,o,kJ q λ_ z=>(nomatch z)⟩⟩,I.tabs.to gY (λq h=>dz (I.tabs q h).1) λ_ _ _ h=>h,λa j o e=>I.own a j o (gV e).1,λa b j o o' e e'=>I.uni a b j o o' (gV e).1 (gV e').1,by simpa using I.len,λk o e=>I.sys k o (gV e).1⟩
 let⟨m,hn,hl⟩:=I.loc;refine⟨m,hn,λj x d b e1 e2 e3=>?_⟩
 let hj:j≠i:=λz=>by subst z;rw[PG]at e2;split at e2<;>simp_all
 rw[KM (Kt hj)]at e2
 let⟨u,l,v⟩:=hl j x d b e1 e2 e3;let hjn:=(List.getElem?_eq_some_iff.mp e1).1
 refine⟨u,l,v.to gY λa k o hk q=>kJ q λk' z=>?_⟩
 injection z with z;subst z
 rcases hk with rfl|hk
 ·rw[Np hjn];exact hj
 ·rw[hk];exact hj
def Inv.addO {j:Nat}{c:Kp}(I:Inv X M δ s) (hf:Free X M c) (e:s.heap.get? c=U o) (hw:Ow o) (hj:∀b o',M b≠U (.o j,o')):Inv X (upd M c (U (.o j,o))) δ s:=by
 let ne:∀{b x},M b=U x->b≠c:=λh q=>by simp_all [hf.m]
 let of:∀{b x},M b=U x->upd M c (U (.o j,o)) b=U x:=λh=>by rw[ar (ne h)];exact h
 let no:∀{b},M b=B->b≠c->upd M c (U (.o j,o)) b=B:=λh z=>by rw[ar z];exact h
 let hs:Sub Y M Y (upd M c (U (.o j,o))):=λb ob q=>rdf.mpr (of (rdf.mp q))
 let ow:∀{b k ob},upd M c (U (.o j,o)) b=U (.o k,ob)->(b=c/\k=j/\ob=o)\/(k≠j/\M b=U (.o k,ob)):=λ{b k ob} z=>by
  grind [ao,ar]
 refine⟨I.ok,I.og,λb r ob z=>?_,λb ob z=>of (I.base b ob z),?_,no I.free (Kt hf.l),λy d z=>⟨(I.cell y d z).1,(I.cell y d z).2.imp (λq=>no q λw=>hf.c y (w▸z)) λ⟨g,o,q⟩=>⟨g,o,of q⟩⟩,I.tabs.to hs (λq h=>no (I.tabs q h).1 (Kt (hf.t q h))) λ_ _ _ h=>h,λb k ob z=>?_,λb d k ob od z z'=>?_,I.len,λr ob z=>by rw[ar (Kt hf.s)]at z;exact I.sys _ _ z⟩
 ·by_cases z2:b=c
  ·simp_all [ao]
  ·rw[ar z2]at z;exact I.heap b r ob z
 ·let⟨m,hn,hl⟩:=I.loc
  refine⟨m,hn,λk y d b' e1 e2 e3=>?_⟩
  let⟨v,l,r⟩:=hl k y d b' e1 e2 e3;exact⟨v,l,r.to hs λb _ ob _=>of⟩
 ·rcases ow z with⟨_,_,rfl⟩|⟨_,z⟩
  ·exact hw
  ·exact I.own _ _ _ z
 ·rcases ow z with⟨rfl,rfl,_⟩|⟨h1,z⟩<;>rcases ow z' with⟨rfl,h2,_⟩|⟨h3,z'⟩
  ·rfl
  ·exact absurd rfl h3
  ·exact absurd h2 h1
  ·exact I.uni _ _ _ _ _ z z'
def II (c:Cm m M d o):Ow o:=by
 cases d with
 |lst ds=>let⟨vs,⟨_,n,rfl⟩,_⟩:=c;exact⟨by simp,λ_ z=>(nomatch z)⟩
 |dK ks ds=>let⟨us,vs,⟨_,h1,_,_,es,ep,h2,_⟩,_⟩:=c;exact⟨by rw[h1.1];simp,λ_ z=>by lia⟩
 |dD ks ds=>let⟨us,vs,⟨_,h1,_,_,es,ep,h2,_⟩,_⟩:=c;exact⟨by rw[h1.1];simp,λ_ z=>by lia⟩
 |_=>exact Pm c
theorem Tf.own {n i:Nat}(hi:i<n):∀{ds vs} {M:Mp}(k:Nat),Inv X M δ s->Sub Y M0 Y M->(∀b,M b=M0 b\/∃j o,j%n=i/\M b=U (.o j,o))->(∀b j o,M b=U (.o j,o)->j%n=i->j<n*k+i)->Tf X M0 s Y ds vs->
  ∃M',Inv X M' δ s/\Sub Y M Y M'/\Sx M M'/\(∀b j o,M b=U (.o j,o)->M' b=U (.o j,o))/\Ti M' n i ds vs
 |[],vs,M,k,I,hs,h1,h2,h=>⟨M,I,λ_ _ z=>z,Sx.refl,λ_ _ _ z=>z,h⟩
 |d::ds,_,M,k,I,hs,h1,h2,⟨v,r,rfl,h,t⟩=>by
  rcases h with⟨hd,h⟩|⟨hd,c,o,rfl,f,e,cc⟩
  ·let⟨M',I',s1,x1,o1,t1⟩:=Tf.own hi k I hs h1 h2 t
   exact⟨M',I',s1,x1,o1,v,r,rfl,.inl ⟨hd,(h.to hs).to s1⟩,t1⟩
  ·rcases h1 c with z|⟨j,o',hj,z⟩
   ·let f':Free X M c:=⟨z.trans f.m,f.l,f.c,f.t,f.s⟩
    let hm:(n*k+i)%n=i:=by rw[Nat.mul_add_mod,Np hi]
    let nj:∀b o',M b≠U (.o (n*k+i),o'):=λb o' w=>K3 _ (h2 b _ o' w hm)
    let I1:=I.addO f' e (II cc) nj;let su:Sub Y M Y (upd M c (U (.o (n*k+i),o))):=λb ob q=>by
     rw[rdf]at q⊢;rw[ar λw=>by simp_all [f'.m]];exact q
    let⟨M',I',s1,x1,o1,t1⟩:=Tf.own hi (k+1) I1 (λb o q=>su b o (hs b o q)) (λb=>by
     by_cases w:b=c
     ·subst w;exact .inr ⟨_,o,hm,ao⟩
     ·rw[ar w];exact h1 b) (λb j o' w hw=>by
     by_cases w2:b=c
     ·subst w2;rw[ao]at w;cases w;rw[OM];lia
     ·rw[ar w2]at w;have:=h2 b j o' w hw;rw[OM];lia) t
    refine⟨M',I',λb o q=>s1 b o (su b o q),⟨λb o q=>s1 b o (su b o q),λb ob q=>x1.p _ _ (by rw[ar λw=>by simp_all [f'.m]];exact q),λb ob q=>?_⟩,λb j ob q=>o1 b j ob (by rw[ar λw=>by simp_all [f'.m]];exact q),_,r,rfl,.inr ⟨hd,c,o,_,rfl,hm,o1 _ _ _ ao,(cc.to hs).to λb o q=>s1 b o (su b o q)⟩,t1⟩
    have:=x1.n b ob q
    grind [ao,ar]
   ·let⟨M',I',s1,x1,o1,t1⟩:=Tf.own hi k I hs h1 h2 t
    have:=I.heap _ _ _ z;rw[e]at this;cases this;exact⟨M',I',s1,x1,o1,_,r,rfl,.inr ⟨hd,c,o,j,rfl,hj,o1 _ _ _ z,(cc.to hs).to s1⟩,t1⟩
theorem Tf.to (hs:Sub Y M Y M') (hn:∀a,M a=B->M' a=B):∀{ds vs},Tf X M s Y ds vs->Tf X M' s Y ds vs
 |[],_,h=>h
 |d::ds,_,⟨v,r,e,h,t⟩=>⟨v,r,e,h.imp (λz=>⟨z.1,z.2.to hs⟩) λ⟨z,c,o,e,f,g,cc⟩=>⟨z,c,o,e,⟨hn _ f.m,f.l,f.c,f.t,f.s⟩,g,cc.to hs⟩,Tf.to hs hn t⟩
theorem Tf.flat (ho:∀a i o,M a=U (.o i,o)->Ow o):∀{ds vs},ds.all flP=V->Tf X M s m ds vs->Tf X M s Y ds vs
 |[],_,_,h=>h
 |d::ds,_,hf,⟨v,r,e,h,t⟩=>by
  rw[KG,J9]at hf;refine⟨v,r,e,?_,Tf.flat ho hf.2 t⟩
  rcases h with⟨hd,h⟩|⟨hd,c,o,e,f,g,cc⟩
  ·refine .inl ⟨hd,R.flat ho ?_ h⟩
   cases d<;>first|exact hf.1|cases hd
  ·refine .inr ⟨hd,c,o,e,f,g,?_⟩
   cases d<;>try cases hd
   let⟨vs,h1,h2⟩:=cc;exact⟨vs,h1,Rs.flat ho hf.1 h2⟩
nonrec theorem FR {i k:Nat}{x y:Kr}(hx:Lc X i x) (F:FnM k y f) (hr:Room k X.A) (g:Gb X y) (ha:DA X m (a::es) fs) (hs:swapsWith (.Call (.Name y p) (a::es) [] cpos) (U (.Name x pos')) pos.line X.env=pure Y):DS X (.Assign [.Name x pos'] (.Call (.Name y p) (a::es) [] cpos) pos) (λδ=>Bf m i (ae (fs δ) f) δ):=λ{M δ s o Q} I e k=>by
 unfold Bf at e;dsimp only at e;split at e<;>try cases e
 split at e<;>cases e
 rename_i d b q hz;simp![J9,OR,MG,decide_eq_true_eq]at hz;let⟨⟨hi,hb⟩,hm⟩:=hz;let hm:m=V->(b=V/\flT d=V)\/(b=Y/\d.flat=V):=λz=>by subst z;simpa using hm
 let⟨ds,e1,e2⟩:=ai q;refine Mq (oM F hr g ha I e1 e2 λv s1 M1 x1 I1 h1 h2=>?_) hs
 let hiN:=(List.getElem?_eq_some_iff.mp hx.n).1
 cases b with
 |false=>
  let r:R Y M1 d v:=by
   cases m with
   |false=>exact h1 rfl
   |true=>
    exact R.flat I1.own ((hm rfl).elim (λz=>nomatch z.1) λz=>z.2) (h1 rfl)
  exact I1.store hx (b:=Y) r λs2 _ I2 _ _=>k _ _ x1.sx I2
 |true=>
  let I2:=I1.forget (i:=i)
  rcases h2 rfl with⟨c,o,_,_,_,cc⟩|⟨ds,t,o,vs,rfl,rfl,q,h4,h5⟩
  ·rcases hb with hb|hb
   ·cases hb
   ·cases d<;>first|exact Pm cc|cases hb
  let h5:Tf X M1 s1 Y ds vs:=by
   cases m with
   |false=>exact h5
   |true=>
    exact h5.flat I1.own ((hm rfl).elim (λz=>z.2) λz=>nomatch z.1)
  let ht:M1 t=U (.f,o):=by
   let⟨kk,e,z⟩:=q;cases kk with
   |f=>exact e
   |p=>cases z
   |o j=>exact absurd h4.2.1 (I1.own _ _ _ e).1
  let⟨M3,I3,s3,x3,o3,t3⟩:=Tf.own (X:=X) hiN 1 I2 (λ_ _ z=>z) (λ_=>.inl rfl) (λb j o w hw=>absurd hw ((gV w).2 j rfl)) (h5.to gY λ_=>dz)
  refine I3.store hx (d:=.tup ds) (b:=V) (.inr ⟨ds,t,o,vs,rfl,rfl,rdf.mp (s3 _ _ (gY _ _ (rdf.mpr ht))),h4,t3⟩) λs2 _ I4 _ _=>k _ _ ((x1.sx.trans pq).trans x3) ?_
  simp_all
end
end L2
namespace L2
open PySem PySem.Spec PyProof.Rows Md
def noL (x:Wq D):Wq D:=match x with|some d=>if sN d=V then B else U d|none=>B
def A3 (i:Nat) (δ:DEnv):Wq D:=match aN i δ with|some (.lst ds)=>U (.lst ds)|_=>B
variable[Md]
section
variable{X:Cx}{M M' M0:Mp}{δ:DEnv}{s:J5}{a b:Expr}{es:Ww Expr}{fa:DEnv->Wq D}{fs:DEnv->Wq (Ww D)}{m:Bool}{p px pos pos' cpos apos:PA}{x y:Kr}{n i:Nat}
def Ti.get {l:Ww D}{ds vs} {j:Nat}(h:Ti M n i ds vs) (e:ds[j]?=U (.lst l)):∃c o k,vs[j]?=U (.ref c)/\k%n=i/\M c=U (.o k,o)/\C M (.lst l) o:=by
 induction ds generalizing vs j with
 |nil=>simp at e
 |cons d ds ih=>
  let⟨v,r,rfl,h,t⟩:=h;cases j with
  |zero=>
   simp at e;subst e
   rcases h with⟨h,_⟩|⟨_,c,o,k,rfl,h1,h2,h3⟩
   ·cases h
   ·exact⟨c,o,k,rfl,h1,h2,h3⟩
  |succ j=>
   let⟨c,o,k,h1,h2⟩:=ih t e;exact⟨c,o,k,h1,h2⟩
def Ti.rest (hs:Sub Y M Y M') {ds vs} {j:Nat}{c:Kp}(H:Ti M n i ds vs) (hd:((ds.set j .any).all λd=>!sN d)=V) (e:vs[j]?=U (.ref c)):Rs Y M' (ds.set j .any) vs:=by
 let one:∀{d v},((sN d=Y/\R Y M d v)\/(sN d=V/\∃a o j,v=.ref a/\j%n=i/\M a=U (.o j,o)/\C M d o))->(!sN d)=V->R Y M' d v:=λh hd=>by
  rcases h with⟨_,h⟩|⟨h,_⟩
  ·exact h.to hs
  ·rw[h]at hd;cases hd
 induction ds generalizing vs j with
 |nil=>exact H
 |cons d ds ih=>
  let⟨v,r,rfl,h,t⟩:=H;cases j with
  |zero=>
   simp at e;subst e;simp![Kd,KG,J9]at hd⊢;refine⟨_,r,rfl,⟨c,rfl⟩,?_⟩
   clear ih h
   induction ds generalizing r with
   |nil=>exact t
   |cons d ds ih2=>
    let⟨v,r,rfl,h,t⟩:=t;let hd2:=hd.2;rw[KG,J9]at hd2;exact⟨v,r,rfl,one h hd2.1,ih2 r t ⟨rfl,hd2.2⟩⟩
  |succ j=>
   simp![Ke,KG,J9]at hd⊢;exact⟨v,r,rfl,one h hd.1,ih t hd.2 e⟩
def Inv.part {ds:Ww D}{j k:Nat}{c:Kp}(I:Inv X M δ s) (hx:X.N[i]?=U x) (nd:X.N.Nodup) (e:δ[i]?=U (U (.tup ds,V))) (ej:ds[j]?=U (.lst l)) (hd:((ds.set j .any).all λd=>!sN d)=V) (hk:k%X.N.length=i) (q:M c=U (.o k,o)):
  Inv X (upd M c B) (δ.set i (U (.tup (ds.set j .any),Y))) s/\Free X (upd M c B) c/\Sx M (upd M c B):=by
 let ne:∀{b r ob},M b=U (r,ob)->(∀k,r≠.o k)->b≠c:=λh h' w=>by subst w;rw[q]at h;cases h;lia
 let of:∀{b r ob},M b=U (r,ob)->(∀k,r≠.o k)->upd M c B b=U (r,ob):=λh h'=>by rw[ar (ne h h')];exact h
 let no:∀{b},M b=B->upd M c B b=B:=λ{b} h=>by
  by_cases z:b=c
  ·lia
  ·rw[ar z];exact h
 let un:∀{b x},upd M c B b=U x->M b=U x/\b≠c:=λ{b x} h=>by
  by_cases z:b=c
  ·simp_all [ao]
  ·rw[ar z]at h;exact⟨h,z⟩
 let hs:Sub Y M Y (upd M c B):=λb ob z=>rdf.mpr (of (rdf.mp z) λ_ w=>nomatch w)
 let hi:i<δ.length:=(List.getElem?_eq_some_iff.mp e).1
 refine⟨⟨I.ok,I.og,λb r ob z=>I.heap _ _ _ (un z).1,λb ob z=>of (I.base b ob z) λ_ w=>(nomatch w),?_,no I.free,λy d z=>⟨(I.cell y d z).1,(I.cell y d z).2.imp no λ⟨g,o,q⟩=>⟨g,o,of q λ_ w=>(nomatch w)⟩⟩,I.tabs.to hs (λq h=>no (I.tabs q h).1) λ_ _ _ h=>h,λb k ob z=>I.own _ _ _ (un z).1,λb d k ob od z z'=>I.uni _ _ _ _ _ (un z).1 (un z').1,by simpa using I.len,λr ob z=>I.sys _ _ (un z).1⟩,⟨ao,λz=>?_,λy z=>?_,λt ht z=>?_,λz=>?_⟩,⟨hs,λb ob z=>of z λ_ w=>(nomatch w),λb ob z=>(un z).1⟩⟩
 ·let⟨m,hn,hl⟩:=I.loc
  refine⟨m,hn,λj' y d b' e1 e2 e3=>?_⟩
  by_cases hj:j'=i
  ·subst hj
   rw[Kz hi]at e2;cases e2
   let⟨u,l,va⟩:=hl j' y _ V e1 e e3
   rcases va with⟨_,_,_,_,z⟩|⟨ds',t,ot,vs,z1,z2,z3,z4,z5⟩
   ·trivial
   ·cases z1
    let⟨c',_,_,w,_⟩:=z5.get ej;exact⟨u,l,t,ot,vs,z2,hs _ _ (rdf.mpr z3),z4,z5.rest hs hd w⟩
  ·rw[KM (Kt hj)]at e2
   let⟨v,l,r⟩:=hl j' y d b' e1 e2 e3;refine⟨v,l,r.to hs λb k' ob hk' z=>?_⟩
   rw[ar λw=>?_];exact z
   subst w;rw[q]at z;cases z
   rcases hk' with rfl|w
   ·exact hj (by rw[<-hk,Np (List.getElem?_eq_some_iff.mp e1).1])
   ·exact hj (w.symm.trans hk)
 ·have:=I.free;lia
 ·rcases(I.cell y c z).2 with w|⟨_,_,w⟩<;>rw[q]at w<;>cases w
 ·have:=(I.tabs t ht).1;lia
 ·rw[z]at q;exact nomatch I.sys _ _ q
nonrec theorem CE {ix iy j jj:Nat}{z:Int}(hnx:Nm X ix x) (hy:Lc X iy y) (hz:z=(j:Int)) (hs:swapsWith (.Subscript (.Name x px) (.Constant (.int z) jj cpos) p) (U (.Name y pos')) pos.line X.env=pure Y):DS X (.Assign [.Name y pos'] (.Subscript (.Name x px) (.Constant (.int z) jj cpos) p) pos) (Cb ix iy j):=λ{M δ s o Q} I e k=>by
 subst hz;unfold Cb at e;split at e<;>try cases e
 split at e<;>try cases e
 split at e<;>cases e
 rename_i ds e1 _ l e2 hz;simp![J9,decide_eq_true_eq]at hz;let⟨⟨⟨h1,h2⟩,h3⟩,h4⟩:=hz;let hb:DE X Y (.Constant (.int (j:Int)) jj cpos) (λ_=>U (.int (j:Int))):=DJ
 refine Mq (O8 (Mh (I.load hnx e1 λv r=>hb.ev I rfl λu s2 M2 x2 I2 r2=>?_) hnx.d)) hs
 rcases r with⟨_,_,_,_,z⟩|⟨ds',t,ot,vs,z1,rfl,z3,z4,z5⟩
 ·trivial
 cases z1;let keep:∀{b k ob},M b=U (k,ob)->M2 b=U (k,ob):=λ{b k ob} z=>by
  rcases x2 b with w|w
  ·rw[w];exact z
  lia
 let z5:=z5.to x2.sub λb k ob _=>keep
 let⟨c,oc,kk,w1,w2,w3,w4⟩:=z5.get e2;let⟨tk,rfl⟩:=r2;refine Hm.item I2.heap (m:=V) ⟨.f,keep z3,rfl⟩ (.inr z4) (x:=.ref c) (uw w1) (sd hb.pl) ?_
 let⟨I3,f3,x3⟩:=I2.part hnx.n hy.nd e1 e2 h4 w2 w3;refine I3.setOwn (d:=.lst l) f3 (I2.heap _ _ _ w3) (w4.to x3.f) hy λs4 M4 _ I4 g1 g2 _ _ _=>k _ _ ((x2.sx.trans x3).trans ⟨g1,λa o q=>(g2 a o).mp q,λa o q=>(g2 a o).mpr q⟩) I4
structure DN (X:Cx) (es:Ww Expr) (f:DEnv->Wq (Ww D)):Prop where
 pl:es.all plE=V
 ev:∀{M δ s ds} {Q:Ww J4->J5->Prop},Inv X M δ s->f δ=U ds->(∀vs s' M',Ext M M'->Inv X M' δ s'->Tr X M' s' ds vs->Q vs s')->∀pos,WP X (spliced (backTo pos (starEach es X.env))) Q s
def BI {z:Wq D}(h:noL z=U d):z=U d/\sN d=Y:=by
 unfold noL at h;split at h<;>try cases h
 split at h<;>simp_all
def yz (h:A3 i δ=U d):aN i δ=U d/\sN d=V:=by
 unfold A3 at h;split at h<;>cases h
 trivial
def Ext.keep (x:Ext M M') {c:Kp}(z:M c=U (k,o)):M' c=U (k,o):=by
 rcases x c with w|w
 ·rw[w];exact z
 lia
theorem Hj:DN X [] (λ_=>U []):=⟨rfl,λI e k pos=>by cases e;exact LH (k [] _ _ Ext.refl I rfl)⟩
theorem IU (ha:DE X Y a fa) (hr:DN X es fs):DN X (a::es) (λδ=>aa (noL (fa δ)) (fs δ)):=⟨by simp[ha.pl,hr.pl],λI e k pos=>by
 let⟨d,ds,e1,e2,rfl⟩:=fW e;let⟨e1,hd⟩:=BI e1;rw[aU ha.pl];exact KZ (ha.ev I e1 λv s1 M1 x1 I1 r1=>hr.ev I1 e2 (λvs s2 M2 x2 I2 r2=>k (v::vs) _ _ (x1.trans x2) I2 ⟨v,vs,rfl,.inl ⟨hd,r1.up x2⟩,r2⟩) pos)⟩
theorem Gc (h:Nm X i x) (hr:DN X es fs):DN X (.Name x px::es) (λδ=>aa (A3 i δ) (fs δ)):=⟨by rw[KG,hr.pl];rfl,λI e k pos=>by
 let⟨d,ds,e1,e2,rfl⟩:=fW e;let⟨e1,hd⟩:=yz e1;refine KZ (Mh (I.load h (aK e1) λv r=>?_) h.d)
 let⟨c,o,rfl,q,cc⟩:=r.own (vh e1);exact hr.ev I e2 (λvs s2 M2 x2 I2 r2=>k (.ref c::vs) _ _ x2 I2 ⟨_,vs,rfl,.inr ⟨hd,c,o,rfl,I2.heap _ _ _ (x2.keep q),cc.to x2.sub,.inr ⟨i,x2.keep q⟩⟩,r2⟩) pos⟩
theorem Tr.to {s':J5}(hs:Sub Y M Y M') (hh:∀c o,s.heap.get? c=U o->s'.heap.get? c=U o) (hn:∀c o,s.heap.get? c=U o->M c=B->M' c=B) (ho:∀c k o,M c=U (.o k,o)->M' c=U (.o k,o)):∀{ds vs},Tr X M s ds vs->Tr X M' s' ds vs
 |[],_,h=>h
 |d::ds,_,⟨v,r,e,h,t⟩=>⟨v,r,e,h.imp (λz=>⟨z.1,z.2.to hs⟩) λ⟨z,c,o,e,g,cc,w⟩=>⟨z,c,o,e,hh _ _ g,cc.to hs,w.imp (λf=>⟨hn _ _ g f.m,f.l,f.c,f.t,f.s⟩) λ⟨i,w⟩=>⟨i,ho _ _ _ w⟩⟩,Tr.to hs hh hn ho t⟩
theorem EL {x1:Nat}(h:DN X es fs):DS X (.Return (U (.Tuple es x1 pos)) pos') (λδ=>bH (bw (fs δ))):=λ{M δ s o Q} I e k=>by
 cases q:bw (fs δ)with
 |none=>simp[bH,q]at e
 |some d=>
  simp![bH,q]at e;cases e;let⟨ds,e1,e2⟩:=ai q;let⟨hl,rfl⟩:=eN e2;refine NQ (wpAny_Tuple_spliced (h.ev I e1 (λvs s1 M1 x1 I1 tr=>?_) pos))
  let f:=I1.fresh (Kh _);let len:∀{ds vs},Tr X M1 s1 ds vs->ds.length=vs.length:=by
   intro ds
   induction ds with
   |nil=>rintro _ rfl;rfl
   |cons d ds ih=>rintro _ ⟨v,r,rfl,_,t⟩;simp[ih t]
  let hv:vs.length<=sizeLine:=by rw[<-len tr];exact ax (of_decide_eq_true hl)
  refine⟨hv,k _ _ _ _ (x1.sx.trans (cb f.m).sx) I1.new (.inr ⟨ds,_,_,vs,rfl,rfl,ao,⟨hv,rfl,_,rfl⟩,?_⟩)⟩
  exact tr.to (dT f.m) (λc o e=>J0 _ e) (λc o e z=>by rw[ar λw=>by subst w;exact absurd (Kc e) (K3 _)];exact z) λc k o z=>by rw[ar λw=>by simp_all [f.m]];exact z
end
end L2
namespace L2
open PySem PySem.Spec PyProof.Rows Md
variable[Md]
section
variable{X:Cx}{M M':Mp}{δ:DEnv}{s:J5}{x y:Kr}{ix ip:Nat}{q1 q2 q3 q4 q5 q6 q7 q8 px pp pos apos cpos:PA}
def zk {Q:J4->J5->Prop}{bb:Bool}(np:Nm X ip y) (g:Bn X "isinstance") (gl:Bn X "list") (I:Inv X M δ s) (e:δ[ip]?=U (U (d,Y))) (hk:∀v,R Y M d v->∃T H,PySem.W.KitX K v (.type T) H/\H s.heap/\OJ K (.type T) (.type "list")=U bb/\v≠Qu "__main__.__loader__#opaque") (k:∀tk,Q (.bool bb) {s with toks:=tk}):WP X (eval (.Call (.Name "isinstance" q1) [.Name y q2,.Name "list" q3] [] q4) X.env) Q s:=by
 let pl:=(nv (X:=X) V np (pos:=q2)).pl;refine Lx (I.bltn g (by rfl:bootBuiltins "isinstance"=U (.builtin "isinstance")) (LL ?_ (aU pl) rfl))
 refine KZ (Mh (I.load np e λv r=>KZ (I.bltn gl (by rfl:bootBuiltins "list"=U (.type "list")) (LH ?_))) np.d)
 let⟨T,H,h1,h2,h3,h4⟩:=hk v r;exact My h1 I.kIn h2 h3 h4 k
def Lp (X:Cx) (M:Mp) (s:J5) (b:Nat):D->J4->Prop
 |.lst _,v=>∃c us n,v=.ref c/\Free X M c/\s.heap.get? c=U {cls:=.type "list",data:=.seq us n}/\us.size<=lim+b
 |.str w,v=>∃t,v=.str w t
 |.int z,v=>∃t,v=.int z t
 |_,_=>False
def Lp.to {s':J5}(h:Lp X M s b d v) (hb:b<=b') (hf:∀c o,v=.ref c->Free X M c->s.heap.get? c=U o->Free X M' c/\s'.heap.get? c=U o):Lp X M' s' b' d v:=by
 cases d<;>try exact h
 let⟨c,us,n,e,f,g,l⟩:=h;let⟨f',g'⟩:=hf c _ e f g;exact⟨c,us,n,e,f',g',by lia⟩
def Free.disP {c:Kp}(f:Free X M c):Free X (disP n i M) c:=⟨dz f.m,f.l,f.c,f.t,f.s⟩
def EA (G:J5->Prop):Flow->J5->Prop|.next,s=>G s|_,_=>False
nonrec theorem AG (hx:Nm X ix x) (hp:Lc X ip y) (np:Nm X ip y) (g:Bn X "isinstance") (gl:Bn X "list") (l:(apos.endLine==cpos.line)=V) {jj:Nat}:
  DS X (.For (.Name y pp) (.Name x px) [.If (.Call (.Name "isinstance" q1) [.Name y q2,.Name "list" q3] [] q4) [.Expr (.Call (.Attribute (.Name y q5) "append" apos) [.Constant .none jj q6] [] cpos) q7] [] q8] [] pos) (vr ix ip):=λ{M δ s o Q} I e k=>by
 unfold vr at e;split at e<;>try cases e
 split at e<;>cases e
 rename_i ds e1 hz;simp![J9,decide_eq_true_eq]at hz;let⟨⟨⟨hip,hne⟩,hdl⟩,hds⟩:=hz;let hln:lim+1001<=sizeLine:=by decide +kernel
 refine wpAny_For (Mh (I.load hx e1 λv r=>?_) hx.d) λ_=>i8 (nv (X:=X) V hx (pos:=px)).pl
 rcases r with⟨_,_,_,_,z⟩|⟨ds',t,ot,vs,z1,rfl,ht,hT,ti⟩
 ·trivial
 cases z1;let hin:=(List.getElem?_eq_some_iff.mp hx.n).1
 let len:=ti.rep.length;let I2:=(I.forget (i:=ix)).forget (i:=ip);let lp:∀{ds vs},Ti M X.N.length ix ds vs->(ds.all λd=>match d with|.lst es=>decide (es.length<=lim)|.str _=>V|.int _=>V|_=>Y)=V->∀(k:Nat) d v,ds[k]?=U d->vs[k]?=U v->Lp X (disP X.N.length ip (disP X.N.length ix M)) s 0 d v:=by
  intro ds
  induction ds with
  |nil=>intro vs _ _ k d v e;simp at e
  |cons d ds ih=>
   rintro _ ⟨v,r,rfl,h,t⟩ hd k d' v' e e'
   rw[KG,J9]at hd;cases k with
   |succ k=>exact ih t hd.2 k d' v' (by trivial) (by trivial)
   |zero=>
    simp at e e';subst e e'
    rcases h with⟨hl,h⟩|⟨hl,c,o,j,rfl,hj,q,cc⟩
    ·cases d<;>first|exact h|(cases hd.1;done)|trivial
    ·cases d<;>try cases hl
     let⟨us,⟨_,n,rfl⟩,rs⟩:=cc;let hm:disP X.N.length ip (disP X.N.length ix M) c=B:=by
      refine dz ?_
      unfold disP;rw[q];simp![hj,if_true]
     refine⟨c,us.toArray,n,rfl,⟨hm,λz=>?_,λy z=>?_,λt ht z=>?_,λz=>?_⟩,I.heap _ _ _ q,by have:=of_decide_eq_true hd.1;simp[<-rs.length];lia⟩
     ·have:=I.free;rw[<-z,q]at this;cases this
     ·rcases(I.cell y c z).2 with w|⟨_,_,w⟩<;>rw[q]at w<;>cases w
     ·have:=(I.tabs t ht).1;rw[<-z,q]at this;cases this
     ·rw[z]at q;exact nomatch I.sys _ _ q
 let lp0:=lp ti hds;refine PY (hT.is I.heap (m:=Y) (rdf.mpr ht)) ?_
 let lt:∀{c o},s.heap.get? c=U o->c≠s.heap.objs.size:=λe z=>by subst z;exact absurd (Kc e) (K3 _)
 refine Oe (λn s'=>∃i M',n=ds.length - i/\i<=ds.length/\Sx M M'/\Inv X M' ((δ.set ix B).set ip B) s'/\s'.heap.IsTupleIter s.heap.objs.size t i/\Free X M' s.heap.objs.size/\∀(k:Nat) d v,ds[k]?=U d->vs[k]?=U v->Lp X M' s' i d v/\v≠.ref s.heap.objs.size) ?_ ds.length ⟨0,_,rfl,KA _,pq.trans pq,I2.push (t:=s.toks),⟨_,J7 _ rfl,rfl,rfl⟩,I2.fresh (Kh _),λk d v w1 w2=>⟨(lp0 k d v w1 w2).to (Kh _) λc o _ f g=>⟨f,J0 _ g⟩,λz=>?_⟩⟩
 rotate_left
 ·have:=lp0 k d v w1 w2
  subst z;cases d<;>first|exact this.elim|skip
  ·let⟨_,z⟩:=this;cases z
  ·let⟨_,z⟩:=this;cases z
  ·let⟨c,_,_,z,_,g,_⟩:=this;cases z;exact lt g rfl
 rintro n s2 ⟨i,M2,rfl,hi',x2,J2,t2,f2,l2⟩
 let tup:s2.heap.IsTuple t vs.toArray:=⟨ot,J2.heap _ _ _ (rdf.mp (x2.f _ _ (rdf.mpr ht))),hT.2⟩
 by_cases hlt:i<ds.length
 ·obtain⟨u,hu⟩:∃u,vs[i]?=U u:=⟨vs[i]'(by lia),by simp⟩
  let hd:ds[i]?=U ds[i]:=by simp[hlt]
  refine KN KL (wpAny_pyNext_tuple_item t2 tup (x:=u) (by simpa using hu) λh' st' sb=>?_)
  let⟨oi,ei,ci,di⟩:=id st';refine KN KL (yq (s:={s2 with heap:=h'}) ei ci di (by decide) ?_)
  let I3:Inv X M2 ((δ.set ix B).set ip B) {s2 with heap:=h'}:=J2.ch (mD (t:=s2.toks) sb) λb hb=>by rw[qaa.mp hb];exact f2
  let⟨lpi,neq⟩:=l2 i _ u hd hu;obtain⟨G,hG⟩:∃G:J5->Prop,∀s₃,G s₃↔∃m,m<ds.length - i/\∃i M',m=ds.length - i/\i<=ds.length/\Sx M M'/\Inv X M' ((δ.set ix B).set ip B) s₃/\s₃.heap.IsTupleIter s.heap.objs.size t i/\Free X M' s.heap.objs.size/\∀(k:Nat) d v,ds[k]?=U d->vs[k]?=U v->Lp X M' s₃ i d v/\v≠.ref s.heap.objs.size:=⟨_,λ_=>.rfl⟩
  let fin:∀{M6 s6 z},Sx M M6->Inv X M6 (((δ.set ix B).set ip B).set ip z) s6->s6.heap.IsTupleIter s.heap.objs.size t (i+1)->Free X M6 s.heap.objs.size->(∀(k:Nat) d v,ds[k]?=U d->vs[k]?=U v->Lp X M6 s6 (i+1) d v)->G s6:=λx6 J6 t6 f6 l6=>(hG _).mpr (by
   let J:=J6.forget (i:=ip);rw[N2,N2]at J;exact⟨ds.length - (i+1),by lia,i+1,_,rfl,hlt,x6.trans pq,J,t6,f6.disP,λk d v w1 w2=>⟨(l6 k d v w1 w2).to (Kh _) λc o _ f g=>⟨f.disP,g⟩,(l2 k d v w1 w2).2⟩⟩)
  let store:∀{dd},R Y M2 dd u->(∀s5,Inv X M2 (((δ.set ix B).set ip B).set ip (U (dd,Y))) s5->s5.heap.IsTupleIter s.heap.objs.size t (i+1)->(∀c o,Free X M2 c->c≠s.heap.objs.size->s2.heap.get? c=U o->s5.heap.get? c=U o)->wpAny (model P w) X.A (execs [.If (.Call (.Name "isinstance" q1) [.Name y q2,.Name "list" q3] [] q4) [.Expr (.Call (.Attribute (.Name y q5) "append" apos) [.Constant .none jj q6] [] cpos) q7] [] q8] X.env) (EA G) (λ_ _=>False) s5)->WP X (assign (.Name y pp) X.env u) (λ_ s5=>wpAny (model P w) X.A (execs [.If (.Call (.Name "isinstance" q1) [.Name y q2,.Name "list" q3] [] q4) [.Expr (.Call (.Attribute (.Name y q5) "append" apos) [.Constant .none jj q6] [] cpos) q7] [] q8] X.env) (EA G) (λ_ _=>False) s5) {s2 with heap:=h'}:=λr kk=>by
   refine OB (I3.store hp (b:=Y) r λs5 c5 I5 sb5 hc5=>kk s5 I5 ?_ ?_)
   ·refine st'.at λo e=>(sb5.2 _ λz=>?_).trans e
    rcases hc5 with rfl|hc5
    ·exact f2.l z
    ·exact f2.c y (z▸hc5)
   ·intro c o f hc e
    refine(sb5.2 c λz=>?_).trans ((sb.2 c hc).trans e)
    rcases hc5 with rfl|hc5
    ·exact f.l z
    ·exact f.c y (z▸hc5)
  let e5:∀{dd:D},(((δ.set ix B).set ip B).set ip (U (dd,Y)))[ip]?=U (U (dd,Y)):=Kz (by simpa using hip)
  let flatly:∀{dd:D},R Y M2 dd u->(∀{M s} v,R Y M dd v->∃T H,PySem.W.KitX K v (.type T) H/\H s/\OJ K (.type T) (.type "list")=U Y/\v≠Qu "__main__.__loader__#opaque")->_:=λr hk=>store r λs5 I5 t5 k5=>by
   refine K8 (Pu (Qc (zk np g gl I5 e5 (λv r=>hk v r) λtk=>KR ?_) (pW rfl)))
   exact Ll (Ll (fin x2 I5.tok t5 f2 λk d v w1 w2=>(l2 k d v w1 w2).1.to (NX _) λc o z f e=>⟨f,k5 c o f (λw=>(l2 k d v w1 w2).2 (by rw[z,w])) e⟩))
  suffices main:WP X (assign (.Name y pp) X.env u) (λ_ s5=>wpAny (model P w) X.A (execs [.If (.Call (.Name "isinstance" q1) [.Name y q2,.Name "list" q3] [] q4) [.Expr (.Call (.Attribute (.Name y q5) "append" apos) [.Constant .none jj q6] [] cpos) q7] [] q8] X.env) (EA G) (λ_ _=>False) s5) {s2 with heap:=h'} from
   KN KL (thn main λ_ s5 hz=>KN KL (thn hz λf s6 hz=>by
    cases f<;>first|exact(hG _).mp hz|exact hz.elim))
  generalize ds[i]=di at lpi;cases di with
  |str w=>
   let⟨tt,rfl⟩:=lpi;exact flatly (dd:=.str w) ⟨tt,rfl⟩ λv ⟨t',e⟩=>⟨_,_,by subst e;exact PySem.W.kitx_str,trivial,rfl,by subst e;exact λz=>nomatch z⟩
  |int w=>
   let⟨tt,rfl⟩:=lpi;exact flatly (dd:=.int w) ⟨tt,rfl⟩ λv ⟨t',e⟩=>⟨_,_,by subst e;exact PySem.W.kitx_int,trivial,rfl,by subst e;exact λz=>nomatch z⟩
  |lst es=>
   let⟨c,us,nn,rfl,fc,gc,hus⟩:=lpi;let hcit:c≠s.heap.objs.size:=λz=>neq (by rw[z])
   refine store (dd:=.ptr c) rfl λs5 I5 t5 k5=>?_
   let g5:=k5 c _ fc hcit gc;refine K8 (Pu (Qc (zk np g gl I5 e5 (λv r=>⟨"list",PySem.W.KitAt c "list",by cases (r:v=.ref c);exact Pf,⟨_,g5,rfl⟩,rfl,by cases (r:v=.ref c);exact λz=>nomatch z⟩) λtk=>KR ?_) (pW rfl)))
   let I6:=I5.tok (t:=tk);let pc:pin X M2 s5.heap c=U (.p,{cls:=.type "list",data:=.seq us nn}):=by unfold pin;rw[if_pos fc,g5];rfl
   refine K8 (Pw (zQ (M:=pin X M2 s5.heap) (a:=.Name y q5) (Z:=λM v=>v=.ref c/\M c=U (.p,{cls:=.type "list",data:=.seq us nn})) MK PR Qh l rfl (aX (m:=Y) Dc cW) (by decide) (ds:=[.non]) rfl (λkk=>Mh (I6.pin.load np e5 λv r=>kk v _ _ Ext.refl I6.pin ⟨r,pc⟩) np.d) (λH z=>?_) (λx z=>⟨z.1,x.keep z.2⟩) λv vs s7 M7 x7 I7 z r=>?_) I5.quiet rfl)
   ·let⟨rfl,z⟩:=z
    exact⟨⟨_,H _ _ _ z,rfl⟩,λa e=>by cases e;exact⟨_,H _ _ _ z,rfl⟩⟩
   ·let⟨rfl,z⟩:=z
    let⟨u1,rfl,r1⟩:=r.is1;let hq:=I7.heap _ _ _ z;let⟨h1,h2,h3,h4,h5,h6⟩:=I6.unp I7 x7.sx;refine Oo PR ⟨_,hq,rfl⟩ Pz (Pn _ _) (Py c us nn u1 (by lia)) ⟨hq,?_⟩
    let f7:=(h6 c _ fc g5).2;let⟨oit,eit,_⟩:=id t5;let k7:∀{b o},b≠c->s7.heap.get? b=U o->(s7.heap.update c (Kx λx=>x.push u1)).get? b=U o:=λ{b o} hb e=>(Ki _ _ (Kt hb)).trans e
    refine Ll (Ll (fin (x2.trans h2) (h1.wr [c] (λb hb=>by rw[qaa.mp hb];exact f7) λb o hb e=>k7 (λz=>hb (by simp[z])) e) (t5.at λo e=>k7 (Kt hcit) (h6 _ o f2 e).1) (h6 _ oit f2 eit).2 λk d v w1 w2=>?_))
    let lq:=(l2 k d v w1 w2).1
    by_cases hv:v=.ref c
    ·subst hv
     cases d with
     |lst es'=>
      exact⟨c,us.push u1,_,rfl,f7,Pg hq (λx=>x.push u1),by simp;lia⟩
     |str _=>assumption
     |int _=>assumption
     |_=>exact lq.elim
    ·exact lq.to (NX _) λb o z f e=>⟨(h6 b o f (k5 b o f (λw=>(l2 k d v w1 w2).2 (by rw[z,w])) e)).2,k7 (λw=>hv (by rw[z,w])) (h6 b o f (k5 b o f (λw=>(l2 k d v w1 w2).2 (by rw[z,w])) e)).1⟩
  |_=>exact lpi.elim
 ·obtain rfl:i=ds.length:=by lia
  refine KN KL (wpAny_pyNext_tuple_end I.ok.room.hd t2 tup (by simp[len]) λh' eb=>?_)
  exact Ll (k _ _ x2 (J2.ch (nL eb) λb hb=>by rw[qaa.mp hb];exact f2))
end
end L2
namespace L2
open PySem PySem.Spec PyProof.Rows Md
def FY (x:Wq D):Wq D:=if x=U (.lst []) then B else mX x (U (.int 0))
def chO (x y z:Wq D):Wq Bool:=match x,y,z with
 |some (.int i),U (.int j),U (.int l)=>U (decide (i<=j)&&decide (j<l))
 |_,_,_=>B
def tyA:D->Wq String
 |.tup _=>U "tuple"|.lst _=>U "list"|.str _=>U "str"|.int _=>U "int"|.bl _=>U "bool"|_=>B
def IT (t c:String):Bool:=t==c||(t=="bool"&&c=="int")
def CJ (c:String) (x:Wq D):Wq D:=ae x λd=>ae (tyA d) λt=>U (.bl (IT t c))
def lsL (x:Wq D):Wq D:=match x with|some (.lst ds)=>U (.lst ds)|_=>B
variable[Md]
section
variable{X:Cx}{M M':Mp}{δ:DEnv}{s:J5}{a b c:Expr}{fa fb fc:DEnv->Wq D}{m m' m'' mm:Bool}{p pos:PA}
nonrec theorem yU {x:Wq D}{d:D}(h:FY x=U d):∃ns:Ww Int,ns≠[]/\x=U (.lst (ns.map D.int))/\d=.int (lT ns):=by
 unfold FY at h;split at h
 ·cases h
 ·rename_i hx
  let⟨ns,i,e1,_,e3⟩:=nU h;let hn:ns≠[]:=λz=>hx (by rw[e1,z];rfl)
  exact⟨ns,hn,e1,by rw[if_neg hn]at e3;exact e3⟩
theorem GU (g:Bn X "max") (ha:DE X m a fa):DE X mm (.Call (.Name "max" p) [a] [] pos) (λδ=>FY (fa δ)):=⟨rfl,λ{M δ s d Q} I e k=>by
 let⟨ns,hne,hfa,rfl⟩:=yU e;refine gN g C5 ha I hfa λv s1 M1 x1 I1 r=>?_
 let⟨l,o,vs,rfl,q,t,rs⟩:=r;let pl:=t.is I1.heap q;let hlen:=rs.length;rw[J8]at hlen;let hlt:=Kc (q.heap I1.heap);let hn:0<ns.length:=qag.mpr hne;refine call_max_walk (L4 pl ⟨s1.heap.objs.size,_,_,vs.toArray.size,_,_,λi j=>decide (ns.getD i 0>ns.getD j 0),rfl,Pe (A:=X.A.in1) I.ok.room.hd s1.heap.objs.size l (KF hlt) vs.toArray,⟨⟨_,J7 _ rfl,rfl,rfl⟩,pl.push _⟩,λb hb=>?_,by simp;lia,CmpOf.ints_gt (λi=>ns.getD i 0) λi v hi=>?_,λv h' tk hv' hk=>?_⟩)
 ·simp at hb;simp;lia
 ·let⟨t,e,_⟩:=rs.ints i v (by simpa using hi);exact⟨t,e⟩
 ·refine k _ {s1 with heap:=h',toks:=tk} _ x1 (I1.kp (zC hk)) ?_
  let⟨t,e,hl⟩:=rs.ints _ v (by rw[<-Mx];exact hv')
  refine⟨t,?_⟩
  rw[e];unfold lT;rw[KO,<-hlen]⟩
nonrec theorem AI (ha:DE X m a fa) (hb:DE X m' b fb) (hc:DE X m'' c fc) (hm:lastMarks [.LtE,.Lt] [b,c]=Y):DT X (.Compare a [.LtE,.Lt] [b,c] pos) (λδ=>chO (fa δ) (fb δ) (fc δ)):=λ{M δ s cc Q} I e k=>by
 unfold chO at e;dsimp only at e;split at e<;>cases e
 rename_i i j l e1 e2 e3;refine isTrue_chain (ha.ev I e1 λv s1 M1 x1 I1 r1=>test_link (hb.ev I1 e2 λu s2 M2 x2 I2 r2=>?_)) hm
 let⟨t1,rfl⟩:=r1;let⟨t2,rfl⟩:=r2;refine le_int (KR ?_)
 cases h:decide (i<=j)with
 |false=>rw[h]at k;exact ite_ff (k _ _ (x1.trans x2) I2)
 |true=>
  rw[h]at k;refine ite_tt (test_last (hc.ev I2 e3 λz s3 M3 x3 I3 r3=>?_))
  let⟨t3,rfl⟩:=r3;exact lt_int (KR (k _ _ ((x1.trans x2).trans x3) I3))
theorem Eg {y:Kr}{cs:String}{pc:PA}(hc:cs="list"\/cs="tuple"\/cs="str"\/cs="int"\/cs="bool") (g:Bn X "isinstance") (gc:Bn X y) (hv:bootBuiltins y=U (.type cs)) (ha:DE X m a fa):DE X mm (.Call (.Name "isinstance" p) [a,.Name y pc] [] pos) (λδ=>CJ cs (fa δ)):=⟨rfl,λ{M δ s d Q} I e k=>by
 let⟨d,e1,e2⟩:=ai e;let⟨t,e3,e4⟩:=ai e2;cases e4;refine Lx (I.bltn g (by rfl:bootBuiltins "isinstance"=U (.builtin "isinstance")) (LL ?_ (aU ha.pl) rfl))
 rw[aU ha.pl];refine KZ (ha.ev I e1 λv s1 M1 x1 I1 r=>KZ (I1.bltn gc hv (LH ?_)))
 let kit:∀(T:String),(T="list"\/T="tuple"\/T="str"\/T="int"\/T="bool")->OJ K (.type T) (.type cs)=U (IT T cs):=λT hT=>by
  rcases hc with rfl|rfl|rfl|rfl|rfl<;>rcases hT with rfl|rfl|rfl|rfl|rfl<;>rfl
 let fin:∀tk,_:=λtk=>k (.bool (IT t cs)) {s1 with toks:=tk} M1 x1 I1.tok rfl
 cases d with
 |tup ds=>
  cases e3;let⟨a,o,vs,rfl,q,t,_⟩:=r;let⟨o,h1,h2,_⟩:=t.is I1.heap q;exact My QZ I1.kIn ⟨o,h1,h2⟩ (kit _ (by simp)) (λz=>nomatch z) fin
 |lst ds=>
  cases e3;let⟨a,o,vs,rfl,q,t,_⟩:=r;let⟨o,h1,h2,_⟩:=t.is I1.heap q;exact My Pf I1.kIn ⟨o,h1,h2⟩ (kit _ (by simp)) (λz=>nomatch z) fin
 |str x=>cases e3;let⟨t,rfl⟩:=r;exact My PySem.W.kitx_str I1.kIn trivial (kit _ (by simp)) (λz=>nomatch z) fin
 |int x=>cases e3;let⟨t,rfl⟩:=r;exact My PySem.W.kitx_int I1.kIn trivial (kit _ (by simp)) (λz=>nomatch z) fin
 |bl x=>cases e3;cases r;exact My PySem.W.kitx_bool I1.kIn trivial (kit _ (by simp)) (λz=>nomatch z) fin
 |_=>cases e3⟩
theorem HT (ha:DE X m a fa):DE X mm (.UnaryOp .Not a pos) (λδ=>ofB (eD (tyB (fa δ)))):=⟨rfl,λ{M δ s d Q} I e k=>by
 let⟨c,e1,rfl⟩:=pV e;cases q:tyB (fa δ)with
 |none=>simp[eD,q]at e1
 |some g=>
  simp![eD,q]at e1;cases e1;refine UnaryOp_ (ha.ev I (oz q) λv s1 M1 x1 I1 r=>?_)
  cases r;exact not_of (KR (k _ _ _ x1 I1 rfl))⟩
def BP {x:Wq D}(h:lsL x=U d):x=U d/\sN d=V:=by
 unfold lsL at h;split at h<;>cases h
 trivial
theorem FD (ha:DF X a fa):DN X [a] (λδ=>aa (lsL (fa δ)) (U [])):=⟨by simp[ha.pl],λI e k pos=>by
 let⟨d,ds,e1,e2,rfl⟩:=fW e;cases e2;let⟨e1,hd⟩:=BP e1;rw[aU ha.pl];exact KZ (ha.ev I e1 λc o s1 M1 x1 I1 f q cc=>LH (k [.ref c] _ _ x1 I1 ⟨_,[],rfl,.inr ⟨hd,c,o,rfl,q,cc,.inl f⟩,rfl⟩))⟩
end
end L2
namespace K41
open PySem L2 Md
variable[Md]
local macro_rules| `(tactic|walk_at "z")=>do
  let zz:=λs:String=>(s.splitOn " ").toArray.mapM λx=>(do let i:=Lean.mkIdent x.toName;`(Lean.Parser.Tactic.tacticSeq|refine' @$i ..):Lean.MacroM (Lean.TSyntax `Lean.Parser.Tactic.tacticSeq))
  let h0<-`(h)
  let h1<-`((Has.comp $h0 ..))
  let hs:=#[h0,h1,<-`((Has.comp $h1 ..))]
  let hA<-(("Has.nm Has.gb CompScope.of' Has.nmI w9 Has.lcl".splitOn " ").toArray.flatMap λx=>hs.map λy=>(x,y)).mapM λ(x,y)=>(do let i:=Lean.mkIdent x.toName;`(Lean.Parser.Tactic.tacticSeq|exact $i $y (by decide +kernel)):Lean.MacroM (Lean.TSyntax `Lean.Parser.Tactic.tacticSeq))
  let hB<-hs.mapM λy=>(`(Lean.Parser.Tactic.tacticSeq|exact Txb.bn T $y (by decide +kernel)):Lean.MacroM (Lean.TSyntax `Lean.Parser.Tactic.tacticSeq))
  let hC<-hs.mapM λy=>(`(Lean.Parser.Tactic.tacticSeq|exact Has.nd $y):Lean.MacroM (Lean.TSyntax `Lean.Parser.Tactic.tacticSeq))
  let a<-zz "nv DJ HN Cs Jc Bv E8 Ge Hq Cz Fu A4 GS HL E7 GJ Hk F5 EU Fw Gn BA IR GL Iz Hz Iy FP F6 Je Dc GV EM E1 Fq DF.share"
  let b<-zz "wG BQ Bc Eh zX Bx tZ B5 BO Eu xf df_sortedSet EW zJ HM HH B6 FI Bs uM"
  let c<-zz "Fe HX GX HU IW BR IB Ix xS H4 GY Fk"
  let d<-zz "D7 CA Er BL Bd wq HG ww CL EO GP IX zu Hr vM Gi"
  let e<-zz "FS Gq FF Gl Ey ED Gj"
  let f<-zz "cW aX GH Bz AX EQ Fl FC EX EJ yv FK"
  let g<-zz "Ij G8 Hl"
  let h<-zz "FG EV g9 Fx"
  `(tactic|first
 |fail_if_success refine(?_:(_:Prop))
 |rfl
 |assumption
 |(((with_reducible first|(refine'(?_:DE ..);first $[|$a]*)|(refine'(?_:DF ..);first $[|$b]*)|(refine'(?_:DT ..);first $[|$c]*)|(refine'(?_:DS ..);first $[|$d]*)|(refine'(?_:DI2 ..);first $[|$e]*)|(first $[|$f]*)|(refine'(?_:DW ..);first $[|$g]*)|(refine'(?_:DSs ..);first $[|$h]*))<;>walk_at "z");all_goals exact Y)
 |(have h:=(by assumption:Has _ _ _);first $[|$hA]*|exact Has.lc h (by assumption) (by decide +kernel)|(have T:=(by assumption:Txb _);first $[|$hB]*) $[|$hC]*)
 |(have h:=(by assumption:Room _ _);exact Room.mono h (by decide))
 |exact xJ _
 |exact At _ _ (by decide)
 |exact Iw
 |exact λ_ _ _ _ _=>.of_eq rfl
 |walk_at "sc"
 |exact Jk
 |exact Jd
 |exact .inl rfl
 |exact .inr rfl
 |exact aJ (aJ iR)
 |exact aJ (aJ (aJ (aJ (aJ (aJ iR)))))
 |exact aJ iR
 |exact aJ (aJ (aJ iR))
 |decide +kernel
 |decide
 |(simp;done)
 |(intros;rfl)
 |(intro _;walk_at "z"))
local macro_rules| `(tactic|walk_at "sc")=> `(tactic|first
 |exact⟨rfl,rfl,rfl,by decide +kernel,rfl,by decide +kernel,by decide +kernel⟩)
local macro_rules| `(tactic|walk_at "bi")=> `(tactic|first
 |(refine λ_ _ _ _ _ _=>?_;repeat refine usS λ_=>?_
   exact us0 rfl))
local macro_rules| `(tactic|walk_at "mk")=> `(tactic|first
 |(intro X h f r;(conv in defBody _=>whnf);walk_at "z"))
local macro_rules| `(tactic|walk_at "z")=> `(tactic|first
 |(((with_reducible first|fail)<;>walk_at "z");all_goals exact Y))
local macro_rules| `(tactic|walk_at "z")=> `(tactic|first
 |(((with_reducible first|refine' @FR .. |refine' @CE .. |refine' @EL .. |refine' @AG .. |refine' @Gc .. |refine' @IU .. |refine' @FD .. |refine' @Hj .. |refine' @GU .. |refine' @AI .. |refine' @Eg .. |refine' @HT ..)<;>walk_at "z");all_goals exact Y))
abbrev rY:=rd Y
abbrev wT:Ww Kr:=["rows"]
abbrev nO (δ:DEnv):Wq Out:=bH (sortSetO .ts Y (rY 0 δ))
def f_stand_of:Ww D->Wq (D×Bool):=bh 1 1 nO
abbrev ud:Ww Kr:=["rows","numbers","table","cells","cell"]
abbrev hY (δ:DEnv):Wq D:=ixO (rY 4 δ) (U (.int 1))
abbrev iD (δ:DEnv):Wq Out:=DB 1 (aq (ae (wd (rY 3 δ)) (bJ Y [Y,Y,Y,Y,Y] (af 4) (λδ=>eqO (ixO (rY 4 δ) (U (.int 0))) (U (.str "blank"))) hY δ))) δ
abbrev pF (δ:DEnv):Wq Out:=bH (sortSetO .it V (rY 1 δ))
abbrev kP (δ:DEnv):Wq Out:=ak (dF 1 (bR (U [])) δ) (λδ=>ak (ae (bi (rY 0 δ)) λds=>am (λd δ=>ae ((aB (ah (af 2) (ah (af 3) (toNil)))) d δ) iD) ds δ) (λδ=>pF (jP 1 δ)))
def f_blanks_of:Ww D->Wq (D×Bool):=bh 5 1 kP
abbrev uu:Ww Kr:=["row","cell_for","cell"]
abbrev dM (δ:DEnv):Wq D:=cS (rY 1 δ) (rY 2 δ) (rY 2 δ)
abbrev gU (δ:DEnv):Wq Out:=bp (bw (aa (ixO (rY 0 δ) (U (.int 0))) (aa (cL (aq (ae (wd (ixO (rY 0 δ) (U (.int 1)))) (bJ Y [Y,V,Y] (af 2) (λδ=>U V) dM δ)))) (U []))))
def f_exchanged:Ww D->Wq (D×Bool):=bh 3 2 gU
abbrev Ec:Ww Kr:=["rows","moves","cell_for","cell","number","row"]
abbrev yP (δ:DEnv):Wq D:=bw (aa (bw (aa (U (.str "blank")) (aa (rY 4 δ) (U [])))) (aa (rY 3 δ) (U [])))
abbrev sJ (δ:DEnv):Wq D:=shO (ae (aa (rY 5 δ) (aa (rY 2 δ) (U []))) f_exchanged)
abbrev uO (δ:DEnv):Wq Out:=ak (aE 2 (mh (aq (ae (bi (rY 1 δ)) (bJ Y [Y,Y,Y,Y,Y,Y] (aB (ah (af 4) (ah (af 3) (toNil)))) (λδ=>U V) yP δ)))) δ) (λδ=>bH (frO (ae (aa (aq (ae (bi (rY 0 δ)) (bJ Y [Y,Y,V,Y,Y,Y] (af 5) (λδ=>U V) sJ δ))) (U [])) f_stand_of)))
def f_moved:Ww D->Wq (D×Bool):=bh 6 2 uO
abbrev AU:Ww Kr:=["patterns","fit","cell_for","pattern","cell","letter"]
abbrev w8 (δ:DEnv):Wq D:=bw (aa (bw (aa (U (.str "any")) (aa (rY 5 δ) (U [])))) (aa (rY 4 δ) (U [])))
abbrev nB (δ:DEnv):Wq D:=shO (ae (aa (rY 3 δ) (aa (rY 2 δ) (U []))) f_exchanged)
abbrev oI (δ:DEnv):Wq Out:=ak (aE 2 (mh (aq (ae (bi (rY 1 δ)) (bJ Y [Y,Y,Y,Y,Y,Y] (aB (ah (af 5) (ah (af 4) (toNil)))) (λδ=>U V) w8 δ)))) δ) (λδ=>bH (aq (ae (bi (rY 0 δ)) (bJ Y [Y,Y,V,Y,Y,Y] (af 3) (λδ=>U V) nB δ))))
def f_filled:Ww D->Wq (D×Bool):=bh 6 2 oI
abbrev rB:Ww Kr:=["patterns","letters","table","terms","term"]
abbrev gH (δ:DEnv):Wq D:=ixO (rY 4 δ) (U (.int 1))
abbrev gn (δ:DEnv):Wq Out:=DB 1 (aq (ae (wd (rY 3 δ)) (bJ Y [Y,Y,Y,Y,Y] (af 4) (λδ=>eqO (ixO (rY 4 δ) (U (.int 0))) (U (.str "any"))) gH δ))) δ
abbrev m5 (δ:DEnv):Wq Out:=bH (sortSetO .st V (rY 1 δ))
abbrev jR (δ:DEnv):Wq Out:=ak (dF 1 (bR (U [])) δ) (λδ=>ak (ae (bi (rY 0 δ)) λds=>am (λd δ=>ae ((aB (ah (af 2) (ah (af 3) (toNil)))) d δ) gn) ds δ) (λδ=>m5 (jP 1 δ)))
def f_letters_of:Ww D->Wq (D×Bool):=bh 5 1 jR
abbrev rN:Ww Kr:=["terms","cells","binding","term","cell"]
abbrev gw (δ:DEnv):Wq (Bool×DEnv):=neX (sdO 2 (ixO (rY 3 δ) (U (.int 1))) (rY 4 δ) δ) (λδ=>rY 4 δ)
abbrev bv (δ:DEnv):Wq Out:=ifO (eqO (ixO (rY 3 δ) (U (.int 0))) (U (.str "any"))) (ifX (gw δ) (λδ=>bp (U .non)) (λδ=>nextO δ)) (ifO (neO (rY 3 δ) (rY 4 δ)) (bp (U .non)) (nextO δ))
abbrev eZ (δ:DEnv):Wq Out:=ak (dF 2 (U (.dK [] [])) δ) (λδ=>ak (ae (yh V V (rY 0 δ) (rY 1 δ)) λds=>am (λd δ=>ae ((aB (ah (af 3) (ah (af 4) (toNil)))) d δ) bv) ds δ) (λδ=>bH (aN 2 δ)))
def f_binding_of:Ww D->Wq (D×Bool):=bh 5 2 eZ
abbrev wv:Ww Kr:=["rows","pattern","found","table","cells","binding"]
abbrev jO (δ:DEnv):Wq Out:=ifO (jC (eqO (rY 3 δ) (ixO (rY 1 δ) (U (.int 0)))) (eqO (cK (rY 4 δ)) (cK (ixO (rY 1 δ) (U (.int 1)))))) (ak (aE 5 (shO (ae (aa (ixO (rY 1 δ) (U (.int 1))) (aa (rY 4 δ) (U []))) f_binding_of)) δ) (λδ=>ifO (eD (wX (rY 5 δ))) (jb 2 (rY 5 δ) δ) (nextO δ))) (nextO δ)
abbrev nH (δ:DEnv):Wq Out:=ak (dF 2 (bR (U [])) δ) (λδ=>ak (ae (bi (rY 0 δ)) λds=>am (λd δ=>ae ((aB (ah (af 3) (ah (af 4) (toNil)))) d δ) jO) ds δ) (λδ=>bH (aN 2 δ)))
def f_bindings:Ww D->Wq (D×Bool):=bh 6 2 nH
abbrev uP:Ww Kr:=["pattern","known","letter"]
abbrev dW (δ:DEnv):Wq D:=ofB (inO (rY 2 δ) (rY 1 δ))
abbrev gT (δ:DEnv):Wq Out:=bp (H7 (aq (ae (bi (frO (ae (aa (bR (aa (rY 0 δ) (U []))) (U [])) f_letters_of))) (bJ Y [Y,V,Y] (af 2) (λδ=>U V) dW δ))))
def f_is_linked:Ww D->Wq (D×Bool):=bh 3 2 gT
abbrev mR:Ww Kr:=["rows","body","known","rest","placed","bound","linked","taken","pattern","pair"]
abbrev aR (δ:DEnv):Wq D:=bw (aa (rY 8 δ) (aa (frO (ae (aa (rY 0 δ) (aa (rY 8 δ) (U []))) f_bindings)) (U [])))
abbrev aQ (δ:DEnv):Wq D:=cK (ixO (rY 0 δ) (U (.int 1)))
abbrev bE (δ:DEnv):Wq D:=ixO (rY 9 δ) (U (.int 0))
abbrev b8 (δ:DEnv):Wq Bool:=tyB (shO (ae (aa (ixO (rY 9 δ) (U (.int 0))) (aa (rY 5 δ) (U []))) f_is_linked))
abbrev eB (δ:DEnv):Wq Out:=jb 4 (rY 7 δ) δ
abbrev bC (δ:DEnv):Wq Bool:=AB (rd V 3 δ)
abbrev bB (δ:DEnv):Wq Out:=ak (aE 5 (mn (iS (rY 2 δ)) (flO (ae (aa (aq (nQ (ae (bi (rd V 4 δ)) (bJ V [Y,Y,Y,Y,Y,Y,Y,Y,Y,Y] (af 9) (λδ=>U V) bE δ)))) (U [])) f_letters_of))) δ) (λδ=>Aw 3 6 7 9 [Y,Y,Y,Y,Y,V,Y,Y,Y,Y] b8 δ eB)
abbrev dg (δ:DEnv):Wq Out:=ak (dF 3 (kH (aq (ae (bi (rY 1 δ)) (bJ Y [V,Y,Y,Y,Y,Y,Y,Y,Y,Y] (af 8) (λδ=>U V) aR δ))) (λd=>aQ [U (d,Y)])) δ) (λδ=>ak (dF 4 (bR (U [])) δ) (λδ=>ak (aV bC bB 1000 δ) (λδ=>bH (aN 4 δ))))
def f_search_order:Ww D->Wq (D×Bool):=bh 10 3 dg
abbrev uv:Ww Kr:=["letters","known","letter"]
abbrev pb (δ:DEnv):Wq D:=H9 (rY 1 δ) (rY 2 δ)
abbrev lD (δ:DEnv):Wq Out:=bH (aq (ae (bi (rY 0 δ)) (bJ Y [Y,V,Y] (af 2) (λδ=>U V) pb δ)))
def f_places_of:Ww D->Wq (D×Bool):=bh 3 2 lD
abbrev zq:Ww Kr:=["found","shared","added","groups","binding","key","group","letter"]
abbrev lm (δ:DEnv):Wq D:=F2 (rY 4 δ) (rY 7 δ)
abbrev tV (δ:DEnv):Wq D:=F2 (rY 4 δ) (rY 7 δ)
abbrev lS (δ:DEnv):Wq (Ww D):=bi (rY 0 δ)
abbrev dG (δ:DEnv):Wq D:=cL (aq (ae (bi (rY 1 δ)) (bJ Y [Y,Y,Y,Y,V,Y,Y,Y] (af 7) (λδ=>U V) lm δ)))
abbrev dN (δ:DEnv):Wq D:=cL (aq (ae (bi (rY 2 δ)) (bJ Y [Y,Y,Y,Y,V,Y,Y,Y] (af 7) (λδ=>U V) tV δ)))
abbrev kE (δ:DEnv):Wq Out:=HQ 3 4 5 6 lS dG dN δ
def f_grouped:Ww D->Wq (D×Bool):=bh 8 3 kE
abbrev Bh:Ww Kr:=["cells","places","place"]
abbrev wH (δ:DEnv):Wq D:=ixO (rY 0 δ) (rY 2 δ)
abbrev vv (δ:DEnv):Wq Out:=bp (cL (aq (ae (bi (rY 1 δ)) (bJ Y [V,Y,Y] (af 2) (λδ=>U V) wH δ))))
def f_picked:Ww D->Wq (D×Bool):=bh 3 2 vv
abbrev xp:Ww Kr:=["found","shared_places","kept_places","groups","longer","cells","kept","added"]
abbrev fJ (δ:DEnv):Wq Out:=AK 4 (BW (rY 6 δ) (rY 7 δ)) (U (.bl V)) δ
abbrev ju (δ:DEnv):Wq Out:=ak (aE 6 (shO (ae (aa (rY 5 δ) (aa (rY 2 δ) (U []))) f_picked)) δ) (λδ=>ae (As (cS (rY 3 δ) (shO (ae (aa (rY 5 δ) (aa (rY 1 δ) (U []))) f_picked)) (U (.dD [] [])))) λds=>am (λd δ=>ae ((af 7) d δ) fJ) ds δ)
abbrev rS (δ:DEnv):Wq Out:=bH (yX (rY 4 δ))
abbrev nz (δ:DEnv):Wq Out:=ak (dF 4 (U (.dD [] [])) δ) (λδ=>ak (ae (bi (rY 0 δ)) λds=>am (λd δ=>ae ((af 5) d δ) ju) ds δ) (λδ=>rS (jP 4 δ)))
def f_extended:Ww D->Wq (D×Bool):=bh 8 4 nz
abbrev oO:Ww Kr:=["rows","body","wanted","known","found","pairs","place","pair","later","own","shared","added","kept","groups","wanted_places","letter","cells","behind"]
abbrev mE (δ:DEnv):Wq D:=ixO (rY 17 δ) (U (.int 0))
abbrev mw (δ:DEnv):Wq D:=rY 15 δ
abbrev lK (δ:DEnv):Wq D:=rY 15 δ
abbrev li (δ:DEnv):Wq D:=rY 15 δ
abbrev l9 (δ:DEnv):Wq Out:=ak (aE 13 (frO (ae (aa (ixO (rY 7 δ) (U (.int 1))) (aa (rY 10 δ) (aa (rY 11 δ) (U [])))) f_grouped)) δ) (λδ=>ak (aE 4 (frO (ae (aa (rY 4 δ) (aa (frO (ae (aa (rY 10 δ) (aa (rY 3 δ) (U []))) f_places_of)) (aa (frO (ae (aa (rY 12 δ) (aa (rY 3 δ) (U []))) f_places_of)) (aa (rY 13 δ) (U []))))) f_extended)) δ) (λδ=>aE 3 (mn (rY 12 δ) (rY 11 δ)) δ))
abbrev kU (δ:DEnv):Wq Out:=ak (dF 12 (aq (ae (bi (rY 3 δ)) (bJ Y [Y,Y,Y,Y,Y,Y,Y,Y,V,Y,Y,Y,Y,Y,Y,Y,Y,Y] (af 15) (λδ=>inO (rY 15 δ) (rY 8 δ)) li δ))) δ) (λδ=>l9 (jP 12 δ))
abbrev lX (δ:DEnv):Wq Out:=ak (dF 11 (aq (ae (bi (rY 9 δ)) (bJ Y [Y,Y,Y,V,Y,Y,Y,Y,V,Y,Y,Y,Y,Y,Y,Y,Y,Y] (af 15) (λδ=>jC (inO (rY 15 δ) (rY 8 δ)) (be (rY 15 δ) (rY 3 δ))) lK δ))) δ) (λδ=>kU (jP 11 δ))
abbrev cE (δ:DEnv):Wq Out:=ak (aE 8 (mn (iS (rY 2 δ)) (frO (ae (aa (aq (ae (bi (iw (rY 5 δ) (bQ (cw (rY 6 δ) (U (.int 1)))) (U B))) (bJ Y [Y,Y,Y,Y,Y,Y,Y,Y,Y,Y,Y,Y,Y,Y,Y,Y,Y,Y] (af 17) (λδ=>U V) mE δ))) (U [])) f_letters_of))) δ) (λδ=>ak (aE 9 (frO (ae (aa (bR (aa (ixO (rY 7 δ) (U (.int 0))) (U []))) (U [])) f_letters_of)) δ) (λδ=>ak (dF 10 (aq (ae (bi (rY 9 δ)) (bJ Y [Y,Y,Y,V,Y,Y,Y,Y,Y,Y,Y,Y,Y,Y,Y,Y,Y,Y] (af 15) (λδ=>inO (rY 15 δ) (rY 3 δ)) mw δ))) δ) (λδ=>lX (jP 10 δ))))
abbrev l5 (δ:DEnv):Wq D:=shO (ae (aa (rY 16 δ) (aa (rY 14 δ) (U []))) f_picked)
abbrev hE (δ:DEnv):Wq Out:=ak (aE 5 (frO (ae (aa (rY 0 δ) (aa (rY 1 δ) (aa (rY 3 δ) (U [])))) f_search_order)) δ) (λδ=>ak (ae (rC (rY 5 δ)) λds=>am (λd δ=>ae ((aB (ah (af 6) (ah (af 7) (toNil)))) d δ) cE) ds δ) (λδ=>ak (aE 14 (frO (ae (aa (rY 2 δ) (aa (rY 3 δ) (U []))) f_places_of)) δ) (λδ=>bH (gM .tt (aq (ae (bi (rY 4 δ)) (bJ Y [Y,Y,Y,Y,Y,Y,Y,Y,Y,Y,Y,Y,Y,Y,V,Y,Y,Y] (af 16) (λδ=>U V) l5 δ)))))))
def f_joined_from:Ww D->Wq (D×Bool):=bh 18 5 hE
abbrev BK:Ww Kr:=["rows","body","wanted"]
abbrev oF (δ:DEnv):Wq Out:=bH (frO (ae (aa (rY 0 δ) (aa (rY 1 δ) (aa (rY 2 δ) (aa (bR (U [])) (aa (bR (aa (bw (U [])) (U []))) (U [])))))) f_joined_from))
def f_joined:Ww D->Wq (D×Bool):=bh 3 3 oF
abbrev wS:Ww Kr:=["rows","body","known","cells","letter"]
abbrev cV (δ:DEnv):Wq Out:=ifO (be (rY 4 δ) (rd V 2 δ)) (ak (aE 3 (ixO (flO (ae (aa (rd V 0 δ) (aa (rd V 1 δ) (aa (my (rd V 2 δ) (bR (aa (rY 4 δ) (U [])))) (aa (rd V 2 δ) (aa (bR (aa (rY 3 δ) (U []))) (U [])))))) f_joined_from)) (U (.int 0))) δ) (λδ=>jb 2 (rY 4 δ) δ)) (nextO δ)
abbrev jH (δ:DEnv):Wq Out:=bH (gM .ts (qw Y V (rY 2 δ) (rY 3 δ)))
abbrev jc (δ:DEnv):Wq Out:=ak (dF 2 (iS (rY 2 δ)) δ) (λδ=>ak (ae (bi (frO (ae (aa (rY 1 δ) (U [])) f_letters_of))) λds=>am (λd δ=>ae ((af 4) d δ) cV) ds δ) (λδ=>jH (jP 2 δ)))
def f_fit_with:Ww D->Wq (D×Bool):=bh 5 4 jc
abbrev Ek:Ww Kr:=["rule","known","letter"]
abbrev sw (δ:DEnv):Wq D:=rY 2 δ
abbrev uk (δ:DEnv):Wq Out:=ak (aE 1 (frO (ae (aa (ixO (rY 0 δ) (U (.int 1))) (U [])) f_letters_of)) δ) (λδ=>bH (aq (ae (bi (frO (ae (aa (ixO (rY 0 δ) (U (.int 2))) (U [])) f_letters_of))) (bJ Y [Y,V,Y] (af 2) (λδ=>be (rY 2 δ) (rY 1 δ)) sw δ))))
def f_fresh:Ww D->Wq (D×Bool):=bh 3 1 uk
abbrev tE:Ww Kr:=["rule"]
abbrev kC (δ:DEnv):Wq Out:=bp (bw (aa (U (.str "same")) (aa (bw (aa (ixO (rY 0 δ) (U (.int 2))) (aa (ixO (rY 0 δ) (U (.int 3))) (U [])))) (U []))))
def f_two_terms:Ww D->Wq (D×Bool):=bh 1 1 kC
abbrev iZ:Ww Kr:=["rule","known","letter"]
abbrev cr (δ:DEnv):Wq D:=rY 2 δ
abbrev aW (δ:DEnv):Wq Out:=ak (ifO (eqO (ixO (rY 0 δ) (U (.int 0))) (U (.str "same"))) (bH (frO (ae (aa (bR (aa (shO (ae (aa (rY 0 δ) (U [])) f_two_terms)) (U []))) (U [])) f_letters_of))) (nextO δ)) (λδ=>ak (aE 1 (frO (ae (aa (ixO (rY 0 δ) (U (.int 1))) (U [])) f_letters_of)) δ) (λδ=>bH (aq (ae (bi (frO (ae (aa (ixO (rY 0 δ) (U (.int 2))) (U [])) f_letters_of))) (bJ Y [Y,V,Y] (af 2) (λδ=>inO (rY 2 δ) (rY 1 δ)) cr δ)))))
def f_deciding_letters:Ww D->Wq (D×Bool):=bh 3 1 aW
abbrev tQ:Ww Kr:=["cells"]
abbrev gQ (δ:DEnv):Wq Out:=bp (ofB (neO (ixO (rY 0 δ) (U (.int 0))) (ixO (rY 0 δ) (U (.int 1)))))
def f_is_unlike:Ww D->Wq (D×Bool):=bh 1 1 gQ
abbrev uo:Ww Kr:=["rule","fit"]
abbrev dP (δ:DEnv):Wq Out:=bp (ixO (ixO (frO (ae (aa (bR (aa (shO (ae (aa (rY 0 δ) (U [])) f_two_terms)) (U []))) (aa (rY 1 δ) (U []))) f_filled)) (U (.int 0))) (U (.int 1)))
def f_two_cells:Ww D->Wq (D×Bool):=bh 2 2 dP
abbrev mK:Ww Kr:=["rows","rule","letters","found","kept","cells"]
abbrev d9 (δ:DEnv):Wq D:=rY 5 δ
abbrev j6 (δ:DEnv):Wq D:=bw (aa (rY 5 δ) (aa (U (.bl V)) (U [])))
abbrev d6 (δ:DEnv):Wq D:=rY 5 δ
abbrev bV (δ:DEnv):Wq Out:=ak (aE 2 (frO (ae (aa (rY 1 δ) (U [])) f_deciding_letters)) δ) (λδ=>ak (aE 3 (frO (ae (aa (rY 0 δ) (aa (ixO (rY 1 δ) (U (.int 1))) (aa (rY 2 δ) (U [])))) f_joined)) δ) (λδ=>ak (ifO (eqO (ixO (rY 1 δ) (U (.int 0))) (U (.str "same"))) (bH (aq (ae (bi (rY 3 δ)) (bJ Y [Y,V,V,Y,Y,Y] (af 5) (λδ=>tyB (shO (ae (aa (shO (ae (aa (rY 1 δ) (aa (qw Y V (rY 2 δ) (rY 5 δ)) (U []))) f_two_cells)) (U [])) f_is_unlike))) d9 δ)))) (nextO δ)) (λδ=>ak (aE 4 (mh (aq (ae (bi (frO (ae (aa (rY 0 δ) (aa (ixO (rY 1 δ) (U (.int 2))) (aa (rY 2 δ) (U [])))) f_joined))) (bJ Y [Y,Y,Y,Y,Y,Y] (af 5) (λδ=>U V) j6 δ)))) δ) (λδ=>bH (aq (ae (bi (rY 3 δ)) (bJ Y [Y,Y,Y,Y,V,Y] (af 5) (λδ=>eD (Gk (rY 5 δ) (rY 4 δ))) d6 δ)))))))
def f_broken_cells:Ww D->Wq (D×Bool):=bh 6 2 bV
abbrev si:Ww Kr:=["rule"]
abbrev eW (δ:DEnv):Wq Out:=ak (ifO (eqO (ixO (rY 0 δ) (U (.int 0))) (U (.str "same"))) (bp (U (.int 0))) (nextO δ)) (λδ=>bp (ifV (AB (frO (ae (aa (rY 0 δ) (U [])) f_fresh))) (U (.int 2)) (U (.int 1))))
def f_urgency_of:Ww D->Wq (D×Bool):=bh 1 1 eW
abbrev Jt:Ww Kr:=["cells","cell"]
abbrev Ac (δ:DEnv):Wq D:=ixO (rY 1 δ) (U (.int 1))
abbrev Ed (δ:DEnv):Wq Out:=bp (mX (aq (ae (wd (rY 0 δ)) (bJ Y [Y,Y] (af 1) (λδ=>eqO (ixO (rY 1 δ) (U (.int 0))) (U (.str "blank"))) Ac δ))) (Aq (U (.int 1))))
def f_age:Ww D->Wq (D×Bool):=bh 2 1 Ed
abbrev pZ:Ww Kr:=["stand","rules","urgency","found","k","rule","oldest","cells"]
abbrev fG (δ:DEnv):Wq D:=bw (aa (shO (ae (aa (rY 7 δ) (U [])) f_age)) (aa (rY 4 δ) (aa (rY 7 δ) (U []))))
abbrev cJ (δ:DEnv):Wq Out:=ifO (eqO (shO (ae (aa (rY 5 δ) (U [])) f_urgency_of)) (rY 2 δ)) (DB 3 (aq (ae (bi (frO (ae (aa (rY 0 δ) (aa (rY 5 δ) (U []))) f_broken_cells))) (bJ Y [Y,Y,Y,Y,V,Y,Y,Y] (af 7) (λδ=>U V) fG δ))) δ) (nextO δ)
abbrev fw (δ:DEnv):Wq Out:=ak (aE 6 (GD (rY 3 δ)) δ) (λδ=>ak (aE 5 (ixO (rY 1 δ) (ixO (rY 6 δ) (U (.int 1)))) δ) (λδ=>bH (bw (aa (noL (ixO (rY 6 δ) (U (.int 1)))) (aa (lsL (frO (ae (aa (rY 0 δ) (aa (ixO (rY 5 δ) (U (.int 1))) (aa (frO (ae (aa (rY 5 δ) (U [])) f_deciding_letters)) (aa (ixO (rY 6 δ) (U (.int 2))) (U []))))) f_fit_with))) (U []))))))
abbrev aP (δ:DEnv):Wq Out:=ak (dF 3 (bR (U [])) δ) (λδ=>ak (ae (rC (rY 1 δ)) λds=>am (λd δ=>ae ((aB (ah (af 4) (ah (af 5) (toNil)))) d δ) cJ) ds δ) (λδ=>ifO (AB (rd V 3 δ)) (fw (jP 3 δ)) (nextO δ)))
abbrev dJ (δ:DEnv):Wq Out:=ak (ae (rG (U (.int 3))) λds=>am (λd δ=>ae ((af 2) d δ) aP) ds δ) (λδ=>bp (U .non))
def f_next_broken:Ww D->Wq (D×Bool):=bh 8 2 dJ
abbrev wZ:Ww Kr:=["rule","fit","cells"]
abbrev jq (δ:DEnv):Wq Out:=ak (ifO (neO (ixO (rY 0 δ) (U (.int 0))) (U (.str "same"))) (bp (U (.bl Y))) (nextO δ)) (λδ=>ak (aE 2 (shO (ae (aa (rY 0 δ) (aa (rY 1 δ) (U []))) f_two_cells)) δ) (λδ=>bp (B8 (ofB (eqO (ixO (ixO (rY 2 δ) (U (.int 0))) (U (.int 0))) (U (.str "name")))) (ofB (eqO (ixO (ixO (rY 2 δ) (U (.int 1))) (U (.int 0))) (U (.str "name")))))))
def f_is_clash:Ww D->Wq (D×Bool):=bh 3 2 jq
abbrev rf:Ww Kr:=["rule","fit","cells"]
abbrev eX (δ:DEnv):Wq Out:=ak (aE 2 (lV .ts (shO (ae (aa (rY 0 δ) (aa (rY 1 δ) (U []))) f_two_cells))) δ) (λδ=>ak (ifO (eqO (ixO (ixO (rY 2 δ) (U (.int 1))) (U (.int 0))) (U (.str "name"))) (bH (bR (aa (bw (aa (ixO (ixO (rY 2 δ) (U (.int 0))) (U (.int 1))) (aa (ixO (rY 2 δ) (U (.int 1))) (U [])))) (U [])))) (nextO δ)) (λδ=>bH (bR (aa (bw (aa (ixO (ixO (rY 2 δ) (U (.int 1))) (U (.int 1))) (aa (ixO (rY 2 δ) (U (.int 0))) (U [])))) (U [])))))
def f_same_moves:Ww D->Wq (D×Bool):=bh 3 2 eX
abbrev pu:Ww Kr:=["rule","unused","letter","place"]
abbrev bO (δ:DEnv):Wq D:=bw (aa (rY 2 δ) (aa (bw (aa (U (.str "blank")) (aa (cw (rY 1 δ) (rY 3 δ)) (U [])))) (U [])))
abbrev dI (δ:DEnv):Wq Out:=bH (aq (ae (rC (frO (ae (aa (rY 0 δ) (U [])) f_fresh))) (bJ Y [Y,V,Y,Y] (aB (ah (af 3) (ah (af 2) (toNil)))) (λδ=>U V) bO δ)))
def f_fresh_moves:Ww D->Wq (D×Bool):=bh 4 2 dI
abbrev GO:Ww Kr:=["rows","rules","most","stand","steps","unused","chosen","fit","rule","moves"]
abbrev we (δ:DEnv):Wq Out:=bH (bw (aa (noL (U (.str "full"))) (aa (A3 3 δ) (aa (A3 4 δ) (U [])))))
abbrev CN (δ:DEnv):Wq Out:=bH (bw (aa (noL (U (.str "clash"))) (aa (A3 4 δ) (aa (noL (ixO (rY 6 δ) (U (.int 0)))) (aa (A3 7 δ) (U []))))))
abbrev AP (δ:DEnv):Wq Out:=bH (bw (aa (noL (U (.str "open"))) (aa (A3 3 δ) (aa (A3 4 δ) (U [])))))
abbrev CP (δ:DEnv):Wq Out:=jb 4 (bw (aa (ixO (rY 6 δ) (U (.int 0))) (aa (rY 7 δ) (aa (rY 9 δ) (U []))))) δ
abbrev cT (δ:DEnv):Wq Bool:=tyB (U (.bl V))
abbrev aL (δ:DEnv):Wq Out:=ak (Bf V 6 (ae (aa (rd V 3 δ) (aa (rd V 1 δ) (U []))) f_next_broken) δ) (λδ=>ak (ifO (wX (rd V 6 δ)) (we δ) (nextO δ)) (λδ=>ak (Cb 6 7 1 δ) (λδ=>ak (aE 8 (ixO (rY 1 δ) (ixO (rY 6 δ) (U (.int 0)))) δ) (λδ=>ak (ifO (tyB (shO (ae (aa (rd V 8 δ) (aa (rd V 7 δ) (U []))) f_is_clash))) (CN δ) (nextO δ)) (λδ=>ak (ifO (cI gGe (cK (rd V 4 δ)) (rY 2 δ)) (AP δ) (nextO δ)) (λδ=>ak (ifO (eqO (ixO (rY 8 δ) (U (.int 0))) (U (.str "same"))) (ak (aE 9 (flO (ae (aa (rd V 8 δ) (aa (rd V 7 δ) (U []))) f_same_moves)) δ) (λδ=>dF 3 (flO (ae (aa (rd V 3 δ) (aa (rd V 9 δ) (U []))) f_moved)) δ)) (ak (aE 9 (frO (ae (aa (rY 8 δ) (aa (rY 5 δ) (U []))) f_fresh_moves)) δ) (λδ=>ak (dF 3 (flO (ae (aa (my (rd V 3 δ) (flO (ae (aa (ixO (rd V 8 δ) (U (.int 2))) (aa (my (rd V 7 δ) (rd V 9 δ)) (U []))) f_filled))) (U [])) f_stand_of)) δ) (λδ=>aE 5 (cw (rY 5 δ) (cK (rY 9 δ))) δ)))) (λδ=>CP (jP 7 δ))))))))
abbrev Dq (δ:DEnv):Wq Out:=ak (dF 3 (iS (rY 0 δ)) δ) (λδ=>ak (dF 4 (bR (U [])) δ) (λδ=>ak (aE 5 (cw (mX (flO (ae (aa (rd V 3 δ) (U [])) f_blanks_of)) (Aq (U (.int 1)))) (U (.int 1))) δ) (λδ=>aV cT aL 1000 δ)))
def f_full:Ww D->Wq (D×Bool):=bh 10 3 Dq
abbrev sv:Ww Kr:=["_law_found"]
abbrev jJ (δ:DEnv):Wq Out:=bp (B8 (CJ "int" (rY 0 δ)) (ofB (eD (tyB (CJ "bool" (rY 0 δ))))))
def f__law_whole:Ww D->Wq (D×Bool):=bh 1 1 jJ
abbrev rj:Ww Kr:=["_law_cell","_law_k","_law_one"]
abbrev fN (δ:DEnv):Wq Out:=ak (aE 2 (cq (wc (cw (cw (cq (rY 0 δ) (U (.int 2147483647))) (wc (wc (U (.int 40503)) (rY 1 δ)) (rY 1 δ))) (wc (U (.int 17)) (rY 1 δ))) (U (.int 48271))) (U (.int 2147483647))) δ) (λδ=>bp (cq (wc (rY 2 δ) (cw (cw (cq (rY 2 δ) (U (.int 65537))) (wc (U (.int 3)) (rY 1 δ))) (U (.int 1)))) (U (.int 2147483629))))
def f__law_mixed:Ww D->Wq (D×Bool):=bh 3 2 fN
abbrev sF:Ww Kr:=["_law_cell","_law_many","_law_letters_here","_law_word_here","_law_at","_law_first","_law_k"]
abbrev db (δ:DEnv):Wq D:=Co (rY 2 δ) (cq (shO (ae (aa (rY 0 δ) (aa (rY 6 δ) (U []))) f__law_mixed)) (U (.int 26)))
abbrev cZ (δ:DEnv):Wq D:=Hi (Hi (mA (rY 3 δ) (U B) (bQ (rY 4 δ))) (Co (rY 2 δ) (cq (cw (rY 5 δ) (rY 6 δ)) (U (.int 26))))) (mA (rY 3 δ) (bQ (cw (rY 4 δ) (U (.int 1)))) (U B))
abbrev eQ (δ:DEnv):Wq Out:=ak (aE 2 (U (.str "abcdefghijklmnopqrstuvwxyz")) δ) (λδ=>ak (aE 3 (A7 (U (.str "")) (aq (ae (rG (cw (U (.int 1)) (cq (rY 0 δ) (U (.int 8))))) (bJ Y [V,Y,V,Y,Y,Y,Y] (af 6) (λδ=>U V) db δ)))) δ) (λδ=>ak (aE 4 (cq (shO (ae (aa (rY 0 δ) (aa (U (.int 19)) (U []))) f__law_mixed)) (FV (rY 3 δ))) δ) (λδ=>ak (aE 5 (shO (ae (aa (rY 0 δ) (aa (U (.int 20)) (U []))) f__law_mixed)) δ) (λδ=>bH (aq (ae (rG (rY 1 δ)) (bJ Y [Y,Y,V,V,V,V,Y] (af 6) (λδ=>U V) cZ δ)))))))
def f__law_words:Ww D->Wq (D×Bool):=bh 7 2 eQ
abbrev mW:Ww Kr:=["_law_cell","_law_many","_law_k"]
abbrev eA (δ:DEnv):Wq D:=cq (cw (cq (shO (ae (aa (rY 0 δ) (aa (U (.int 30)) (U []))) f__law_mixed)) (U (.int 999900))) (wc (U (.int 7)) (rY 2 δ))) (U (.int 1000000))
abbrev dm (δ:DEnv):Wq Out:=ak (ifO (eqO (cq (rY 0 δ) (U (.int 3))) (U (.int 0))) (bH (zi (rY 1 δ))) (nextO δ)) (λδ=>bH (aq (ae (rG (rY 1 δ)) (bJ Y [V,Y,Y] (af 2) (λδ=>U V) eA δ))))
def f__law_numbers:Ww D->Wq (D×Bool):=bh 3 2 dm
abbrev rP:Ww Kr:=["_law_number","_law_names","_law_numbers_here"]
abbrev fv (δ:DEnv):Wq Out:=ak (ifO (eqO (cq (rY 0 δ) (U (.int 2))) (U (.int 1))) (bp (bw (aa (U (.str "blank")) (aa (ixO (rY 2 δ) (cq (gz (rY 0 δ) (U (.int 2))) (cK (rY 2 δ)))) (U []))))) (nextO δ)) (λδ=>bp (bw (aa (U (.str "name")) (aa (ixO (rY 1 δ) (cq (gz (rY 0 δ) (U (.int 2))) (cK (rY 1 δ)))) (U [])))))
def f__law_drawn:Ww D->Wq (D×Bool):=bh 3 3 fv
abbrev wN:Ww Kr:=["_law_cell","_law_tables_here","_law_names","_law_numbers_here","_law_kind","_law_many","_law_cells","_law_j"]
abbrev jL (δ:DEnv):Wq D:=shO (ae (aa (shO (ae (aa (rY 0 δ) (aa (cw (U (.int 2)) (rY 7 δ)) (U []))) f__law_mixed)) (aa (rY 2 δ) (aa (rY 3 δ) (U [])))) f__law_drawn)
abbrev sq (δ:DEnv):Wq Out:=bp (bw (aa (ixO (ixO (rY 1 δ) (rY 4 δ)) (U (.int 0))) (aa (cL (rY 6 δ)) (U []))))
abbrev nR (δ:DEnv):Wq Out:=ak (aE 4 (cq (shO (ae (aa (rY 0 δ) (aa (U (.int 1)) (U []))) f__law_mixed)) (cK (rY 1 δ))) δ) (λδ=>ak (aE 5 (ixO (ixO (rY 1 δ) (rY 4 δ)) (U (.int 1))) δ) (λδ=>ak (dF 6 (aq (ae (rG (rY 5 δ)) (bJ Y [V,Y,V,V,Y,Y,Y,Y] (af 7) (λδ=>U V) jL δ))) δ) (λδ=>sq (jP 6 δ))))
def f__law_row:Ww D->Wq (D×Bool):=bh 8 4 nR
abbrev p0:Ww Kr:=["_law_cell","_law_most","_law_words_here","_law_k"]
abbrev fI (δ:DEnv):Wq D:=bw (aa (ixO (rY 2 δ) (rY 3 δ)) (aa (cw (U (.int 1)) (cq (shO (ae (aa (rY 0 δ) (aa (cw (U (.int 40)) (rY 3 δ)) (U []))) f__law_mixed)) (rY 1 δ))) (U [])))
abbrev hZ (δ:DEnv):Wq Out:=ak (aE 2 (frO (ae (aa (rY 0 δ) (aa (U (.int 3)) (U []))) f__law_words)) δ) (λδ=>bH (aq (ae (rG (cw (U (.int 1)) (cq (gz (rY 0 δ) (U (.int 8))) (U (.int 3))))) (bJ Y [V,V,V,Y] (af 3) (λδ=>U V) fI δ))))
def f__law_tables:Ww D->Wq (D×Bool):=bh 4 2 hZ
abbrev qm:Ww Kr:=["_law_rows","_law_told","_law_row_here"]
abbrev aT (δ:DEnv):Wq Out:=ifO (orO (eqO (cK (rd V 1 δ)) (U (.int 0))) (neO (ixO (rd V 1 δ) (Aq (U (.int 1)))) (rY 2 δ))) (jb 1 (rY 2 δ) δ) (nextO δ)
abbrev fj (δ:DEnv):Wq Out:=ak (dF 1 (bR (U [])) δ) (λδ=>ak (ae (bi (gM .ts (rY 0 δ))) λds=>am (λd δ=>ae ((af 2) d δ) aT) ds δ) (λδ=>bH (aN 1 δ)))
def f__law_stand:Ww D->Wq (D×Bool):=bh 3 1 fj
abbrev sy:Ww Kr:=["_law_rows","_law_moves","_law_told","_law_table","_law_cells","_law_more","_law_cell","_law_there","_law_number","_law_other"]
abbrev c9 (δ:DEnv):Wq Out:=ifO (eqO (rY 6 δ) (bw (aa (U (.str "blank")) (aa (rY 8 δ) (U []))))) (aE 7 (rY 9 δ) δ) (nextO δ)
abbrev gB (δ:DEnv):Wq Out:=ak (aE 7 (rY 6 δ) δ) (λδ=>ak (ae (bi (rY 1 δ)) λds=>am (λd δ=>ae ((aB (ah (af 8) (ah (af 9) (toNil)))) d δ) c9) ds δ) (λδ=>jb 5 (rY 7 δ) δ))
abbrev m4 (δ:DEnv):Wq Out:=jb 2 (bw (aa (rY 3 δ) (aa (cL (rY 5 δ)) (U [])))) δ
abbrev gC (δ:DEnv):Wq Out:=ak (dF 5 (bR (U [])) δ) (λδ=>ak (ae (wd (rY 4 δ)) λds=>am (λd δ=>ae ((af 6) d δ) gB) ds δ) (λδ=>m4 (jP 5 δ)))
abbrev m6 (δ:DEnv):Wq Out:=bH (frO (ae (aa (rY 2 δ) (U [])) f__law_stand))
abbrev jF (δ:DEnv):Wq Out:=ak (dF 2 (bR (U [])) δ) (λδ=>ak (ae (bi (rY 0 δ)) λds=>am (λd δ=>ae ((aB (ah (af 3) (ah (af 4) (toNil)))) d δ) gC) ds δ) (λδ=>m6 (jP 2 δ)))
def f__law_moved:Ww D->Wq (D×Bool):=bh 10 2 jF
abbrev o6:Ww Kr:=["_law_rows","_law_told","_law_table","_law_cells","_law_cell"]
abbrev eS (δ:DEnv):Wq Out:=ifO (jC (eqO (ixO (rY 4 δ) (U (.int 0))) (U (.str "blank"))) (be (ixO (rY 4 δ) (U (.int 1))) (rd V 1 δ))) (jb 1 (ixO (rY 4 δ) (U (.int 1))) δ) (nextO δ)
abbrev e8 (δ:DEnv):Wq Out:=ae (wd (rY 3 δ)) λds=>am (λd δ=>ae ((af 4) d δ) eS) ds δ
abbrev k6 (δ:DEnv):Wq Out:=bH (gM .it (rY 1 δ))
abbrev iu (δ:DEnv):Wq Out:=ak (dF 1 (bR (U [])) δ) (λδ=>ak (ae (bi (rY 0 δ)) λds=>am (λd δ=>ae ((aB (ah (af 2) (ah (af 3) (toNil)))) d δ) e8) ds δ) (λδ=>k6 (jP 1 δ)))
def f__law_blanks:Ww D->Wq (D×Bool):=bh 5 1 iu
abbrev sR:Ww Kr:=["_law_number","_law_letters_here","_law_names"]
abbrev gP (δ:DEnv):Wq Out:=ak (ifO (eqO (cq (rY 0 δ) (U (.int 4))) (U (.int 0))) (bp (bw (aa (U (.str "name")) (aa (ixO (rY 2 δ) (cq (gz (rY 0 δ) (U (.int 4))) (cK (rY 2 δ)))) (U []))))) (nextO δ)) (λδ=>bp (bw (aa (U (.str "any")) (aa (Co (rY 1 δ) (cq (gz (rY 0 δ) (U (.int 4))) (FV (rY 1 δ)))) (U [])))))
def f__law_term:Ww D->Wq (D×Bool):=bh 3 3 gP
abbrev lw:Ww Kr:=["_law_cell","_law_start","_law_many","_law_tables_here","_law_letters_here","_law_names","_law_told","_law_k","_law_kind","_law_terms","_law_j"]
abbrev dv (δ:DEnv):Wq Out:=jb 9 (shO (ae (aa (shO (ae (aa (rY 0 δ) (aa (cw (cw (cw (rY 1 δ) (wc (U (.int 10)) (rY 7 δ))) (U (.int 1))) (rY 10 δ)) (U []))) f__law_mixed)) (aa (rY 4 δ) (aa (rY 5 δ) (U [])))) f__law_term)) δ
abbrev jf (δ:DEnv):Wq Out:=jb 6 (bw (aa (ixO (ixO (rY 3 δ) (rY 8 δ)) (U (.int 0))) (aa (cL (rY 9 δ)) (U [])))) δ
abbrev du (δ:DEnv):Wq Out:=ak (aE 8 (cq (shO (ae (aa (rY 0 δ) (aa (cw (rY 1 δ) (wc (U (.int 10)) (rY 7 δ))) (U []))) f__law_mixed)) (cK (rY 3 δ))) δ) (λδ=>ak (dF 9 (bR (U [])) δ) (λδ=>ak (ae (rG (ixO (ixO (rY 3 δ) (rY 8 δ)) (U (.int 1)))) λds=>am (λd δ=>ae ((af 10) d δ) dv) ds δ) (λδ=>jf (jP 9 δ))))
abbrev eO (δ:DEnv):Wq Out:=ak (dF 6 (bR (U [])) δ) (λδ=>ak (ae (rG (rY 2 δ)) λds=>am (λd δ=>ae ((af 7) d δ) du) ds δ) (λδ=>bH (aN 6 δ)))
def f__law_patterns:Ww D->Wq (D×Bool):=bh 11 6 eO
abbrev mO:Ww Kr:=["_law_patterns_here","_law_told","_law_table","_law_terms","_law_term_here"]
abbrev aS (δ:DEnv):Wq Out:=ifO (jC (eqO (ixO (rY 4 δ) (U (.int 0))) (U (.str "any"))) (be (ixO (rY 4 δ) (U (.int 1))) (rd V 1 δ))) (jb 1 (ixO (rY 4 δ) (U (.int 1))) δ) (nextO δ)
abbrev b9 (δ:DEnv):Wq Out:=ae (wd (rY 3 δ)) λds=>am (λd δ=>ae ((af 4) d δ) aS) ds δ
abbrev jZ (δ:DEnv):Wq Out:=bH (gM .st (rY 1 δ))
abbrev gv (δ:DEnv):Wq Out:=ak (dF 1 (bR (U [])) δ) (λδ=>ak (ae (bi (rY 0 δ)) λds=>am (λd δ=>ae ((aB (ah (af 2) (ah (af 3) (toNil)))) d δ) b9) ds δ) (λδ=>jZ (jP 1 δ)))
def f__law_letters:Ww D->Wq (D×Bool):=bh 5 1 gv
abbrev sV:Ww Kr:=["_law_cell","_law_tables_here","_law_names","_law_first","_law_letters_here","_law_body","_law_known","_law_two","_law_letter"]
abbrev iC (δ:DEnv):Wq D:=bw (aa (U (.str "any")) (aa (rY 8 δ) (U [])))
abbrev oJ (δ:DEnv):Wq Out:=ak (aE 7 (mn (rY 7 δ) (bR (aa (bw (aa (U (.str "name")) (aa (ixO (rY 2 δ) (cq (gz (rY 0 δ) (U (.int 6))) (U (.int 3)))) (U [])))) (aa (bw (aa (U (.str "name")) (aa (ixO (rY 2 δ) (cq (cw (gz (rY 0 δ) (U (.int 6))) (U (.int 1))) (U (.int 3)))) (U [])))) (U []))))) δ) (λδ=>bp (bw (aa (U (.str "same")) (aa (rY 5 δ) (aa (ixO (rY 7 δ) (cq (gz (rY 0 δ) (U (.int 24))) (cK (rY 7 δ)))) (aa (ixO (rY 7 δ) (cq (cw (cw (gz (rY 0 δ) (U (.int 24))) (U (.int 1))) (cq (gz (rY 0 δ) (U (.int 120))) (U (.int 3)))) (cK (rY 7 δ)))) (U [])))))))
abbrev lO (δ:DEnv):Wq Out:=ak (aE 3 (cq (shO (ae (aa (rY 0 δ) (aa (U (.int 99)) (U []))) f__law_mixed)) (U (.int 21))) δ) (λδ=>ak (aE 4 (mA (U (.str "ABCDEFGHIJKLMNOPQRSTUVWXYZ")) (bQ (rY 3 δ)) (bQ (cw (rY 3 δ) (U (.int 5))))) δ) (λδ=>ak (aE 5 (frO (ae (aa (rY 0 δ) (aa (U (.int 100)) (aa (cw (U (.int 1)) (cq (rY 0 δ) (U (.int 2)))) (aa (rY 1 δ) (aa (mA (rY 4 δ) (bQ (U (.int 2))) (U B)) (aa (rY 2 δ) (U []))))))) f__law_patterns)) δ) (λδ=>ak (aE 6 (frO (ae (aa (rY 5 δ) (U [])) f__law_letters)) δ) (λδ=>ak (ifO (eqO (cq (gz (rY 0 δ) (U (.int 2))) (U (.int 3))) (U (.int 0))) (ak (dF 7 (aq (ae (bi (rY 6 δ)) (bJ Y [Y,Y,Y,Y,Y,Y,Y,Y,Y] (af 8) (λδ=>U V) iC δ))) δ) (λδ=>oJ (jP 7 δ))) (nextO δ)) (λδ=>bp (bw (aa (U (.str "must")) (aa (rY 5 δ) (aa (frO (ae (aa (rY 0 δ) (aa (U (.int 140)) (aa (cw (U (.int 1)) (cq (gz (rY 0 δ) (U (.int 6))) (U (.int 2)))) (aa (rY 1 δ) (aa (rY 4 δ) (aa (rY 2 δ) (U []))))))) f__law_patterns)) (U []))))))))))
def f__law_rule:Ww D->Wq (D×Bool):=bh 9 3 lO
abbrev pK:Ww Kr:=["_law_terms","_law_cells","_law_fit","_law_told","_law_term_here","_law_cell","_law_there","_law_letter","_law_other"]
abbrev bM (δ:DEnv):Wq Bool:=eqO (rY 7 δ) (ixO (rY 4 δ) (U (.int 1)))
abbrev cC (δ:DEnv):Wq D:=rY 8 δ
abbrev bd (δ:DEnv):Wq Out:=ak (aE 6 (rY 4 δ) δ) (λδ=>ak (ifO (eqO (ixO (rY 4 δ) (U (.int 0))) (U (.str "any"))) (ak (aE 6 (rY 5 δ) δ) (λδ=>ak (Ct 6 (aB (ah (af 7) (ah (af 8) (toNil)))) bM cC (bi (rd V 3 δ)) δ) (λδ=>ifO (be (bw (aa (ixO (rY 4 δ) (U (.int 1))) (aa (rY 6 δ) (U [])))) (rd V 3 δ)) (jb 3 (bw (aa (ixO (rY 4 δ) (U (.int 1))) (aa (rY 6 δ) (U [])))) δ) (nextO δ)))) (nextO δ)) (λδ=>ifO (neO (rY 6 δ) (rY 5 δ)) (bp (U .non)) (nextO δ)))
abbrev iQ (δ:DEnv):Wq Out:=ak (dF 3 (iS (rY 2 δ)) δ) (λδ=>ak (ae (yh V V (rY 0 δ) (rY 1 δ)) λds=>am (λd δ=>ae ((aB (ah (af 4) (ah (af 5) (toNil)))) d δ) bd) ds δ) (λδ=>bH (aN 3 δ)))
def f__law_fitted:Ww D->Wq (D×Bool):=bh 9 3 iQ
abbrev tL:Ww Kr:=["_law_rows","_law_patterns_here","_law_fit","_law_some","_law_table","_law_terms","_law_more","_law_one","_law_row_here","_law_told"]
abbrev dS (δ:DEnv):Wq Out:=ifO (jC (eqO (ixO (rY 8 δ) (U (.int 0))) (rY 4 δ)) (eqO (cK (ixO (rY 8 δ) (U (.int 1)))) (cK (rY 5 δ)))) (ak (aE 9 (shO (ae (aa (rY 5 δ) (aa (ixO (rY 8 δ) (U (.int 1))) (aa (rY 7 δ) (U [])))) f__law_fitted)) δ) (λδ=>ifO (eD (wX (rY 9 δ))) (jb 6 (rY 9 δ) δ) (nextO δ))) (nextO δ)
abbrev dQ (δ:DEnv):Wq Out:=ae (bi (rY 0 δ)) λds=>am (λd δ=>ae ((af 8) d δ) dS) ds δ
abbrev o7 (δ:DEnv):Wq Out:=aE 3 (rY 6 δ) δ
abbrev dX (δ:DEnv):Wq Out:=ak (dF 6 (bR (U [])) δ) (λδ=>ak (ae (bi (rY 3 δ)) λds=>am (λd δ=>ae ((af 7) d δ) dQ) ds δ) (λδ=>o7 (jP 6 δ)))
abbrev iU (δ:DEnv):Wq D:=gM .ts (rY 7 δ)
abbrev lY (δ:DEnv):Wq Out:=ak (aE 3 (bR (aa (iS (rY 2 δ)) (U []))) δ) (λδ=>ak (ae (bi (rY 1 δ)) λds=>am (λd δ=>ae ((aB (ah (af 4) (ah (af 5) (toNil)))) d δ) dX) ds δ) (λδ=>bH (aq (ae (bi (rY 3 δ)) (bJ Y [Y,Y,Y,Y,Y,Y,Y,Y,Y,Y] (af 7) (λδ=>U V) iU δ)))))
def f__law_fits:Ww D->Wq (D×Bool):=bh 10 3 lY
abbrev mM:Ww Kr:=["_law_term_here","_law_fit","_law_letter","_law_cell"]
abbrev bA (δ:DEnv):Wq Out:=ifO (eqO (rY 0 δ) (bw (aa (U (.str "any")) (aa (rY 2 δ) (U []))))) (bp (rY 3 δ)) (nextO δ)
abbrev gI (δ:DEnv):Wq Out:=ak (ae (bi (rY 1 δ)) λds=>am (λd δ=>ae ((aB (ah (af 2) (ah (af 3) (toNil)))) d δ) bA) ds δ) (λδ=>bp (rY 0 δ))
def f__law_cell_of:Ww D->Wq (D×Bool):=bh 4 2 gI
abbrev jY:Ww Kr:=["_law_rows","_law_rule_here","_law_fit"]
abbrev dZ (δ:DEnv):Wq Out:=ak (ifO (eqO (ixO (rY 1 δ) (U (.int 0))) (U (.str "same"))) (bp (ofB (neO (shO (ae (aa (ixO (rY 1 δ) (U (.int 2))) (aa (rY 2 δ) (U []))) f__law_cell_of)) (shO (ae (aa (ixO (rY 1 δ) (U (.int 3))) (aa (rY 2 δ) (U []))) f__law_cell_of))))) (nextO δ)) (λδ=>bp (ofB (eqO (cK (frO (ae (aa (rY 0 δ) (aa (ixO (rY 1 δ) (U (.int 2))) (aa (rY 2 δ) (U [])))) f__law_fits))) (U (.int 0)))))
def f__law_is_broken:Ww D->Wq (D×Bool):=bh 3 3 dZ
abbrev oX:Ww Kr:=["_law_rows","_law_rule_here","_law_fit"]
abbrev lW (δ:DEnv):Wq D:=rY 2 δ
abbrev hW (δ:DEnv):Wq Out:=bH (aq (ae (bi (frO (ae (aa (rY 0 δ) (aa (ixO (rY 1 δ) (U (.int 1))) (aa (bR (U [])) (U [])))) f__law_fits))) (bJ Y [V,V,Y] (af 2) (λδ=>tyB (shO (ae (aa (rY 0 δ) (aa (rY 1 δ) (aa (rY 2 δ) (U [])))) f__law_is_broken))) lW δ)))
def f__law_broken:Ww D->Wq (D×Bool):=bh 3 2 hW
abbrev qI:Ww Kr:=["_law_rule_here","_law_fit","_law_one","_law_other"]
abbrev jM (δ:DEnv):Wq Out:=ak (ifO (neO (ixO (rY 0 δ) (U (.int 0))) (U (.str "same"))) (bp (U (.bl Y))) (nextO δ)) (λδ=>ak (aE 2 (shO (ae (aa (ixO (rY 0 δ) (U (.int 2))) (aa (rY 1 δ) (U []))) f__law_cell_of)) δ) (λδ=>ak (aE 3 (shO (ae (aa (ixO (rY 0 δ) (U (.int 3))) (aa (rY 1 δ) (U []))) f__law_cell_of)) δ) (λδ=>bp (B8 (ofB (eqO (ixO (rY 2 δ) (U (.int 0))) (U (.str "name")))) (B8 (ofB (eqO (ixO (rY 3 δ) (U (.int 0))) (U (.str "name")))) (ofB (neO (rY 2 δ) (rY 3 δ))))))))
def f__law_clash:Ww D->Wq (D×Bool):=bh 4 2 jM
abbrev sK:Ww Kr:=["_law_rows","_law_rules","_law_rule_here"]
abbrev bT (δ:DEnv):Wq Out:=ifO (cI gGt (cK (frO (ae (aa (rY 0 δ) (aa (rY 2 δ) (U []))) f__law_broken))) (U (.int 0))) (bp (U (.bl Y))) (nextO δ)
abbrev jB (δ:DEnv):Wq Out:=ak (ae (bi (rY 1 δ)) λds=>am (λd δ=>ae ((af 2) d δ) bT) ds δ) (λδ=>bp (U (.bl V)))
def f__law_keeps:Ww D->Wq (D×Bool):=bh 3 2 jB
abbrev oN:Ww Kr:=["_law_patterns_here","_law_fit","_law_told","_law_table","_law_terms","_law_term_here"]
abbrev eK (δ:DEnv):Wq D:=shO (ae (aa (rY 5 δ) (aa (rY 1 δ) (U []))) f__law_cell_of)
abbrev fq (δ:DEnv):Wq Out:=jb 2 (bw (aa (rY 3 δ) (aa (cL (aq (ae (wd (rY 4 δ)) (bJ Y [Y,V,Y,Y,Y,Y] (af 5) (λδ=>U V) eK δ)))) (U [])))) δ
abbrev ie (δ:DEnv):Wq Out:=ak (dF 2 (bR (U [])) δ) (λδ=>ak (ae (bi (rY 0 δ)) λds=>am (λd δ=>ae ((aB (ah (af 3) (ah (af 4) (toNil)))) d δ) fq) ds δ) (λδ=>bH (aN 2 δ)))
def f__law_filled:Ww D->Wq (D×Bool):=bh 6 2 ie
abbrev wM:Ww Kr:=["_law_rule_here","_law_fit","_law_spare","_law_known","_law_new","_law_one","_law_other","_law_letter","_law_k"]
abbrev jV (δ:DEnv):Wq D:=rY 7 δ
abbrev jA (δ:DEnv):Wq D:=bw (aa (ixO (rY 4 δ) (rY 8 δ)) (aa (bw (aa (U (.str "blank")) (aa (cw (rY 2 δ) (rY 8 δ)) (U [])))) (U [])))
abbrev m8 (δ:DEnv):Wq Out:=ak (ifO (eqO (ixO (rY 0 δ) (U (.int 0))) (U (.str "must"))) (ak (aE 3 (frO (ae (aa (ixO (rY 0 δ) (U (.int 1))) (U [])) f__law_letters)) δ) (λδ=>ak (aE 4 (aq (ae (bi (frO (ae (aa (ixO (rY 0 δ) (U (.int 2))) (U [])) f__law_letters))) (bJ Y [Y,Y,Y,V,Y,Y,Y,Y,Y] (af 7) (λδ=>be (rY 7 δ) (rY 3 δ)) jV δ))) δ) (λδ=>bH (aq (ae (rG (cK (rY 4 δ))) (bJ Y [Y,Y,V,Y,V,Y,Y,Y,Y] (af 8) (λδ=>U V) jA δ)))))) (nextO δ)) (λδ=>ak (aE 5 (shO (ae (aa (ixO (rY 0 δ) (U (.int 2))) (aa (rY 1 δ) (U []))) f__law_cell_of)) δ) (λδ=>ak (aE 6 (shO (ae (aa (ixO (rY 0 δ) (U (.int 3))) (aa (rY 1 δ) (U []))) f__law_cell_of)) δ) (λδ=>ak (ifO (orO (eqO (ixO (rY 5 δ) (U (.int 0))) (U (.str "name"))) (jC (eqO (ixO (rY 6 δ) (U (.int 0))) (U (.str "blank"))) (cI gLt (ixO (rY 5 δ) (U (.int 1))) (ixO (rY 6 δ) (U (.int 1)))))) (bH (bR (aa (bw (aa (ixO (rY 6 δ) (U (.int 1))) (aa (rY 5 δ) (U [])))) (U [])))) (nextO δ)) (λδ=>bH (bR (aa (bw (aa (ixO (rY 5 δ) (U (.int 1))) (aa (rY 6 δ) (U [])))) (U [])))))))
def f__law_due:Ww D->Wq (D×Bool):=bh 9 3 m8
abbrev tW:Ww Kr:=["_law_rows","_law_rules","_law_step_here","_law_spare","_law_rule_here","_law_due_here"]
abbrev ma (δ:DEnv):Wq Out:=ak (ifO (orO (eD (tyB (FX "tuple" (rY 2 δ)))) (orO (neO (cK (rY 2 δ)) (U (.int 3))) (orO (eD (tyB (shO (ae (aa (ixO (rY 2 δ) (U (.int 0))) (U [])) f__law_whole)))) (eD (chO (U (.int 0)) (ixO (rY 2 δ) (U (.int 0))) (cK (rY 1 δ))))))) (bp (U .non)) (nextO δ)) (λδ=>ak (aE 4 (ixO (rY 1 δ) (ixO (rY 2 δ) (U (.int 0)))) δ) (λδ=>ak (ifO (orO (be (ixO (rY 2 δ) (U (.int 1))) (frO (ae (aa (rY 0 δ) (aa (rY 4 δ) (U []))) f__law_broken))) (tyB (shO (ae (aa (rY 4 δ) (aa (ixO (rY 2 δ) (U (.int 1))) (U []))) f__law_clash)))) (bp (U .non)) (nextO δ)) (λδ=>ak (aE 5 (frO (ae (aa (rY 4 δ) (aa (ixO (rY 2 δ) (U (.int 1))) (aa (rY 3 δ) (U [])))) f__law_due)) δ) (λδ=>ak (ifO (orO (eD (tyB (FX "list" (ixO (rY 2 δ) (U (.int 2)))))) (neO (ixO (rY 2 δ) (U (.int 2))) (rY 5 δ))) (bp (U .non)) (nextO δ)) (λδ=>ak (ifO (eqO (ixO (rY 4 δ) (U (.int 0))) (U (.str "same"))) (bH (frO (ae (aa (rY 0 δ) (aa (rY 5 δ) (U []))) f__law_moved))) (nextO δ)) (λδ=>bH (frO (ae (aa (mn (rY 0 δ) (frO (ae (aa (ixO (rY 4 δ) (U (.int 2))) (aa (mn (ixO (rY 2 δ) (U (.int 1))) (rY 5 δ)) (U []))) f__law_filled))) (U [])) f__law_stand))))))))
def f__law_step:Ww D->Wq (D×Bool):=bh 6 4 ma
abbrev pf:Ww Kr:=["_law_rows","_law_rules","_law_steps","_law_most","_law_spare","_law_step_here"]
abbrev cN (δ:DEnv):Wq Out:=ak (aE 0 (shO (ae (aa (rY 0 δ) (aa (rY 1 δ) (aa (rY 5 δ) (aa (rY 4 δ) (U []))))) f__law_step)) δ) (λδ=>ak (ifO (wX (rY 0 δ)) (bp (U .non)) (nextO δ)) (λδ=>ifO (eqO (ixO (ixO (rY 1 δ) (ixO (rY 5 δ) (U (.int 0)))) (U (.int 0))) (U (.str "must"))) (aE 4 (cw (rY 4 δ) (cK (ixO (rY 5 δ) (U (.int 2))))) δ) (nextO δ)))
abbrev hU (δ:DEnv):Wq Out:=ak (ifO (orO (eD (tyB (FX "list" (rY 2 δ)))) (cI gGt (cK (rY 2 δ)) (rY 3 δ))) (bp (U .non)) (nextO δ)) (λδ=>ak (aE 4 (cw (FY (mn (bR (aa (Aq (U (.int 1))) (U []))) (frO (ae (aa (rY 0 δ) (U [])) f__law_blanks)))) (U (.int 1))) δ) (λδ=>ak (ae (bi (rY 2 δ)) λds=>am (λd δ=>ae ((af 5) d δ) cN) ds δ) (λδ=>bp (rY 0 δ))))
def f__law_walked:Ww D->Wq (D×Bool):=bh 6 4 hU
abbrev tU:Ww Kr:=["_law_rows","_law_rules","_law_told","_law_most","_law_last","_law_rule_here","_law_fit"]
abbrev iY (δ:DEnv):Wq Out:=ifO (tyB (shO (ae (aa (rY 5 δ) (aa (rY 6 δ) (U []))) f__law_clash))) (bp (U (.str ""))) (nextO δ)
abbrev dY (δ:DEnv):Wq Out:=ae (bi (frO (ae (aa (rY 4 δ) (aa (rY 5 δ) (U []))) f__law_broken))) λds=>am (λd δ=>ae ((af 6) d δ) iY) ds δ
abbrev md (δ:DEnv):Wq Out:=ak (ifO (orO (eD (tyB (FX "tuple" (rY 2 δ)))) (orO (cI gLt (cK (rY 2 δ)) (U (.int 3))) (eD (tyB (CJ "str" (ixO (rY 2 δ) (U (.int 0)))))))) (bp (U (.str ""))) (nextO δ)) (λδ=>ak (ifO (jC (eqO (ixO (rY 2 δ) (U (.int 0))) (U (.str "clash"))) (jC (eqO (cK (rY 2 δ)) (U (.int 4))) (jC (tyB (shO (ae (aa (ixO (rY 2 δ) (U (.int 2))) (U [])) f__law_whole))) (chO (U (.int 0)) (ixO (rY 2 δ) (U (.int 2))) (cK (rY 1 δ)))))) (ak (aE 4 (shO (ae (aa (rY 0 δ) (aa (rY 1 δ) (aa (ixO (rY 2 δ) (U (.int 1))) (aa (rY 3 δ) (U []))))) f__law_walked)) δ) (λδ=>ak (aE 5 (ixO (rY 1 δ) (ixO (rY 2 δ) (U (.int 2)))) δ) (λδ=>ak (ifO (jC (eD (wX (rY 4 δ))) (jC (eqO (ixO (rY 5 δ) (U (.int 0))) (U (.str "same"))) (inO (ixO (rY 2 δ) (U (.int 3))) (frO (ae (aa (rY 4 δ) (aa (rY 5 δ) (U []))) f__law_broken))))) (ifO (tyB (shO (ae (aa (rY 5 δ) (aa (ixO (rY 2 δ) (U (.int 3))) (U []))) f__law_clash))) (bp (U (.str "clash"))) (nextO δ)) (nextO δ)) (λδ=>bp (U (.str "")))))) (nextO δ)) (λδ=>ak (aE 4 (shO (ae (aa (rY 0 δ) (aa (rY 1 δ) (aa (ixO (rY 2 δ) (U (.int 2))) (aa (rY 3 δ) (U []))))) f__law_walked)) δ) (λδ=>ak (ifO (orO (neO (cK (rY 2 δ)) (U (.int 3))) (orO (wX (rY 4 δ)) (orO (eD (tyB (FX "list" (ixO (rY 2 δ) (U (.int 1)))))) (neO (ixO (rY 2 δ) (U (.int 1))) (rY 4 δ))))) (bp (U (.str ""))) (nextO δ)) (λδ=>ak (ifO (jC (eqO (ixO (rY 2 δ) (U (.int 0))) (U (.str "full"))) (tyB (shO (ae (aa (rY 4 δ) (aa (rY 1 δ) (U []))) f__law_keeps)))) (bp (U (.str "full"))) (nextO δ)) (λδ=>ak (ifO (orO (neO (ixO (rY 2 δ) (U (.int 0))) (U (.str "open"))) (orO (neO (cK (ixO (rY 2 δ) (U (.int 2)))) (rY 3 δ)) (tyB (shO (ae (aa (rY 4 δ) (aa (rY 1 δ) (U []))) f__law_keeps))))) (bp (U (.str ""))) (nextO δ)) (λδ=>ak (ae (bi (rY 1 δ)) λds=>am (λd δ=>ae ((af 5) d δ) dY) ds δ) (λδ=>bp (U (.str "open")))))))))
def f__law_word:Ww D->Wq (D×Bool):=bh 7 4 md
abbrev ue:Ww Kr:=["_law_rule_here"]
abbrev lM (δ:DEnv):Wq Out:=ak (ifO (eqO (ixO (rY 0 δ) (U (.int 0))) (U (.str "must"))) (bp (bw (aa (U (.str "must")) (aa (iS (ixO (rY 0 δ) (U (.int 1)))) (aa (iS (ixO (rY 0 δ) (U (.int 2)))) (U [])))))) (nextO δ)) (λδ=>bp (bw (aa (U (.str "same")) (aa (iS (ixO (rY 0 δ) (U (.int 1)))) (aa (ixO (rY 0 δ) (U (.int 2))) (aa (ixO (rY 0 δ) (U (.int 3))) (U [])))))))
def f__law_copy:Ww D->Wq (D×Bool):=bh 1 1 lM
abbrev tP:Ww Kr:=["_law_cells","_law_at","_law_head","_law_tables_here","_law_names","_law_numbers_here","_law_middle","_law_end","_law_rules","_law_rows","_law_cell"]
abbrev iM (δ:DEnv):Wq D:=shO (ae (aa (rY 10 δ) (aa (rY 3 δ) (aa (rY 4 δ) (U [])))) f__law_rule)
abbrev iP (δ:DEnv):Wq D:=shO (ae (aa (rY 10 δ) (aa (rY 3 δ) (aa (rY 4 δ) (aa (rY 5 δ) (U []))))) f__law_row)
abbrev pQ (δ:DEnv):Wq Out:=ak (aE 9 (frO (ae (aa (aq (ae (bi (iw (rY 0 δ) (bQ (rY 6 δ)) (bQ (rY 7 δ)))) (bJ Y [Y,Y,Y,V,V,V,Y,Y,Y,Y,Y] (af 10) (λδ=>U V) iP δ))) (U [])) f__law_stand)) δ) (λδ=>bp (bw (aa (rY 9 δ) (aa (rY 8 δ) (aa (rY 3 δ) (aa (rY 4 δ) (aa (rY 5 δ) (aa (rY 7 δ) (U [])))))))))
abbrev ln (δ:DEnv):Wq Out:=ak (aE 2 (ixO (rY 0 δ) (rY 1 δ)) δ) (λδ=>ak (aE 3 (frO (ae (aa (rY 2 δ) (aa (U (.int 3)) (U []))) f__law_tables)) δ) (λδ=>ak (aE 4 (frO (ae (aa (gz (rY 2 δ) (U (.int 7))) (aa (U (.int 3)) (U []))) f__law_words)) δ) (λδ=>ak (aE 5 (frO (ae (aa (gz (rY 2 δ) (U (.int 5))) (aa (U (.int 3)) (U []))) f__law_numbers)) δ) (λδ=>ak (aE 6 (cw (cw (cw (rY 1 δ) (U (.int 1))) (U (.int 1))) (cq (gz (rY 2 δ) (U (.int 11))) (U (.int 3)))) δ) (λδ=>ak (aE 7 (cw (rY 6 δ) (cq (gz (rY 2 δ) (U (.int 33))) (U (.int 5)))) δ) (λδ=>ak (dF 8 (aq (ae (bi (iw (rY 0 δ) (bQ (cw (rY 1 δ) (U (.int 1)))) (bQ (rY 6 δ)))) (bJ Y [Y,Y,Y,V,V,Y,Y,Y,Y,Y,Y] (af 10) (λδ=>U V) iM δ))) δ) (λδ=>pQ (jP 8 δ))))))))
def f__law_made:Ww D->Wq (D×Bool):=bh 11 2 ln
abbrev Jo:Ww Kr:=["_law_script","_law_cells","_law_at","_law_rows","_law_rules","_law_tables_here","_law_names","_law_numbers_here","_law_end","_law_most","_law_handed","_law_told","_law_rule_here","_law_part"]
abbrev xO (δ:DEnv):Wq D:=shO (ae (aa (rY 12 δ) (U [])) f__law_copy)
abbrev tN (δ:DEnv):Wq Bool:=cI gLt (rY 2 δ) (cK (rY 1 δ))
abbrev ug (δ:DEnv):Wq Out:=ak (Ib (shO (ae (aa (rY 1 δ) (aa (rY 2 δ) (U []))) f__law_made)) (aB (ah (af 3) (ah (af 4) (ah (af 5) (ah (af 6) (ah (af 7) (ah (af 8) (toNil)))))))) δ) (λδ=>ak (aE 9 (cq (gz (ixO (rY 1 δ) (rY 2 δ)) (U (.int 165))) (U (.int 5))) δ) (λδ=>ak (ifO (jC (eqO (cq (gz (ixO (rY 1 δ) (rY 2 δ)) (U (.int 825))) (U (.int 6))) (U (.int 1))) (jC (cI gGt (cK (rY 4 δ)) (U (.int 0))) (eqO (ixO (ixO (rY 4 δ) (U (.int 0))) (U (.int 0))) (U (.str "must"))))) (ak (aE 4 (bR (aa (bw (aa (U (.str "must")) (aa (iw (ixO (ixO (rY 4 δ) (U (.int 0))) (U (.int 1))) (U B) (bQ (U (.int 1)))) (aa (iw (ixO (ixO (rY 4 δ) (U (.int 0))) (U (.int 2))) (U B) (bQ (U (.int 1)))) (U []))))) (U []))) δ) (λδ=>ak (aE 3 (iw (rY 3 δ) (U B) (bQ (U (.int 2)))) δ) (λδ=>aE 9 (cw (U (.int 5)) (cq (gz (ixO (rY 1 δ) (rY 2 δ)) (U (.int 165))) (U (.int 8)))) δ))) (nextO δ)) (λδ=>ak (aE 10 (bR (aa (iS (rY 3 δ)) (aa (aq (ae (bi (rY 4 δ)) (bJ Y [Y,Y,Y,Y,Y,Y,Y,Y,Y,Y,Y,Y,Y,Y] (af 12) (λδ=>U V) xO δ))) (U [])))) δ) (λδ=>ak (Bf Y 11 (ae (aa (ixO (rY 10 δ) (U (.int 0))) (aa (ixO (rY 10 δ) (U (.int 1))) (aa (rY 9 δ) (U [])))) f_full) δ) (λδ=>ak (ifO (orO (neO (rY 10 δ) (bR (aa (rY 3 δ) (aa (rY 4 δ) (U []))))) (eqO (shO (ae (aa (rd V 3 δ) (aa (rd V 4 δ) (aa (rd V 11 δ) (aa (rd V 9 δ) (U []))))) f__law_word)) (U (.str "")))) (bp (U (.bl Y))) (nextO δ)) (λδ=>ak (vr 11 13 δ) (λδ=>ak (ifO (neO (rY 10 δ) (bR (aa (rY 3 δ) (aa (rY 4 δ) (U []))))) (bp (U (.bl Y))) (nextO δ)) (λδ=>aE 2 (rY 8 δ) δ))))))))
abbrev Ho (δ:DEnv):Wq Out:=ak (aE 1 (mn (iw (rY 0 δ) (U B) (bQ (U (.int 40)))) (bR (aa (U (.int 0)) (aa (U (.int 0)) (U []))))) δ) (λδ=>ak (aE 2 (U (.int 0)) δ) (λδ=>ak (aV tN ug 1000 δ) (λδ=>bp (U (.bl V)))))
def f_law:Ww D->Wq (D×Bool):=bh 14 1 Ho
section
variable(T:Txb blK)
include T
theorem xm (D:Df "stand_of" oh):FnM 1 "stand_of" f_stand_of:=
 mk 1 wT nO D
theorem tI (D:Df "blanks_of" mu):FnM 1 "blanks_of" f_blanks_of:=
 mk 1 ud kP D
theorem uJ (D:Df "exchanged" mC):FnM 1 "exchanged" f_exchanged:=
 mk 2 uu gU D
theorem D6 (D:Df "moved" zE) (_:FnM 1 "stand_of" f_stand_of) (_:FnM 1 "exchanged" f_exchanged):FnM 2 "moved" f_moved:=
 mk 2 Ec uO D
theorem Cf (D:Df "filled" v9) (_:FnM 1 "exchanged" f_exchanged):FnM 2 "filled" f_filled:=
 mk 2 AU oI D
theorem sn (D:Df "letters_of" jQ):FnM 1 "letters_of" f_letters_of:=
 mk 1 rB jR D
theorem qA (D:Df "binding_of" jN):FnM 1 "binding_of" f_binding_of:=
 mk 2 rN eZ D
theorem xD (D:Df "bindings" n8) (_:FnM 1 "binding_of" f_binding_of):FnM 2 "bindings" f_bindings:=
 mk 2 wv nH D
theorem uD (D:Df "is_linked" lH) (_:FnM 1 "letters_of" f_letters_of):FnM 2 "is_linked" f_is_linked:=
 mk 2 uP gT D
theorem mL {c_ P_:Kp}(D:DfC "search_order" gh c_) (hLP:((P_,("search_order.<locals>.<lambda>":Kr)):Kp×Kr)∈tb) (hTu:∀q∈tb,q.1=P_->q=(P_,("search_order.<locals>.<lambda>":Kr))) (hLC:OK base c_ P_) (F_letters_of:FnM 1 "letters_of" f_letters_of) (F_bindings:FnM 2 "bindings" f_bindings) (F_is_linked:FnM 2 "is_linked" f_is_linked):FnM 4 "search_order" f_search_order:=
 mkC (lq:="search_order.<locals>.<lambda>") 3 mR dg D (λ_ _ _=>rfl) (by walk_at "sc") (by walk_at "bi") λX h f r hq hc=>by
  (conv in defBody _=>whnf)
  refine' @g9 _ _ _ _ _ _ ?a ?b
  case a=>walk_at "z"
  case b=>
   refine' @g9 _ _ _ _ _ _ ?a ?b
   case a=>walk_at "z"
   case b=>
    refine' @g9 _ _ _ _ _ _ ?a ?b
    case b=>walk_at "z"
    case a=>
     refine' @vM _ _ _ _ _ _ _ _ ?c ?d
     case c=>walk_at "z"
     case d=>
      refine' @g9 _ _ _ _ _ _ ?a ?b
      case a=>walk_at "z"
      case b=>exact Cj (n:=10) (x:="rest") (by rw[h.n];rfl) rfl (by walk_at "z") (by decide) (by decide) (by decide) (λδ h=>by match δ,h with|[_,_,_,_,_,_,_,_,_,_],_=>intros;rfl) (by walk_at "z") (by walk_at "z") (Eb (by walk_at "z") h.nd (by walk_at "z") rfl) (by walk_at "z")
theorem sZ (D:Df "places_of" kR):FnM 1 "places_of" f_places_of:=
 mk 2 uv lD D
theorem yB (D:Df "grouped" r7):FnM 1 "grouped" f_grouped:=
 mk 3 zq kE D (body:=by
  intro X h f r
  (conv in defBody _=>whnf)
  refine zY (n:=8) (by rw[h.n];rfl) (by walk_at "z") (by walk_at "z") (by walk_at "z") (by walk_at "z") (by walk_at "z") (by walk_at "z") (by walk_at "z") (by decide) (by decide) (by decide) (by decide) (by decide) (by decide) (λδ h=>by match δ,h with|[_,_,_,_,_,_,_,_],_=>rfl) (λδ h=>by match δ,h with|[_,_,_,_,_,_,_,_],_=>rfl) (λδ h=>by match δ,h with|[_,_,_,_,_,_,_,_],_=>rfl) (by walk_at "z") (by walk_at "z") (by walk_at "z") rfl rfl rfl rfl rfl)
theorem AE (D:Df "picked" vK):FnM 1 "picked" f_picked:=
 mk 2 Bh vv D
theorem xv (D:Df "extended" m7) (_:FnM 1 "picked" f_picked):FnM 2 "extended" f_extended:=
 mk 4 xp nz D
theorem oB (D:Df "joined_from" ic) (_:FnM 1 "letters_of" f_letters_of) (_:FnM 4 "search_order" f_search_order) (_:FnM 1 "places_of" f_places_of) (_:FnM 1 "grouped" f_grouped) (_:FnM 1 "picked" f_picked) (_:FnM 2 "extended" f_extended):FnM 5 "joined_from" f_joined_from:=
 mk 5 oO hE D
theorem Ca (D:Df "joined" vU) (_:FnM 5 "joined_from" f_joined_from):FnM 6 "joined" f_joined:=
 mk 3 BK oF D
theorem xy (D:Df "fit_with" nX) (_:FnM 1 "letters_of" f_letters_of) (_:FnM 5 "joined_from" f_joined_from):FnM 6 "fit_with" f_fit_with:=
 mk 4 wS jc D
theorem EG (D:Df "fresh" Aa) (_:FnM 1 "letters_of" f_letters_of):FnM 2 "fresh" f_fresh:=
 mk 1 Ek uk D
theorem tJ (D:Df "two_terms" k9):FnM 1 "two_terms" f_two_terms:=
 mk 1 tE kC D
theorem iq (D:Df "deciding_letters" cR) (_:FnM 1 "letters_of" f_letters_of) (_:FnM 1 "two_terms" f_two_terms):FnM 2 "deciding_letters" f_deciding_letters:=
 mk 1 iZ aW D
theorem tH (D:Df "is_unlike" lR):FnM 1 "is_unlike" f_is_unlike:=
 mk 1 tQ gQ D
theorem uf (D:Df "two_cells" mH) (_:FnM 2 "filled" f_filled) (_:FnM 1 "two_terms" f_two_terms):FnM 3 "two_cells" f_two_cells:=
 mk 2 uo dP D
theorem mU (D:Df "broken_cells" gf) (_:FnM 6 "joined" f_joined) (_:FnM 2 "deciding_letters" f_deciding_letters) (_:FnM 1 "is_unlike" f_is_unlike) (_:FnM 3 "two_cells" f_two_cells):FnM 7 "broken_cells" f_broken_cells:=
 mk 2 mK bV D
theorem rK (D:Df "urgency_of" jE) (_:FnM 2 "fresh" f_fresh):FnM 3 "urgency_of" f_urgency_of:=
 mk 1 si eW D
theorem Jp (D:Df "age" Hv):FnM 1 "age" f_age:=
 mk 1 Jt Ed D
theorem pI (D:Df "next_broken" i5) (_:FnM 6 "fit_with" f_fit_with) (_:FnM 2 "deciding_letters" f_deciding_letters) (_:FnM 7 "broken_cells" f_broken_cells) (_:FnM 3 "urgency_of" f_urgency_of) (_:FnM 1 "age" f_age):FnM 8 "next_broken" f_next_broken:=
 mk 2 pZ dJ D
theorem xC (D:Df "is_clash" nP) (_:FnM 3 "two_cells" f_two_cells):FnM 4 "is_clash" f_is_clash:=
 mk 2 wZ jq D
theorem qG (D:Df "same_moves" jw) (_:FnM 3 "two_cells" f_two_cells):FnM 4 "same_moves" f_same_moves:=
 mk 2 rf eX D
theorem pn (D:Df "fresh_moves" hV) (_:FnM 2 "fresh" f_fresh):FnM 3 "fresh_moves" f_fresh_moves:=
 mk 2 pu dI D
theorem Hb (D:Df "full" Dm) (_:FnM 1 "stand_of" f_stand_of) (_:FnM 1 "blanks_of" f_blanks_of) (_:FnM 2 "moved" f_moved) (_:FnM 2 "filled" f_filled) (_:FnM 8 "next_broken" f_next_broken) (_:FnM 4 "is_clash" f_is_clash) (_:FnM 4 "same_moves" f_same_moves) (_:FnM 3 "fresh_moves" f_fresh_moves):FnM 9 "full" f_full:=
 mk 3 GO Dq D
theorem sC (D:Df "_law_whole" jX):FnM 1 "_law_whole" f__law_whole:=
 mk 1 sv jJ D
theorem qv (D:Df "_law_mixed" jI):FnM 1 "_law_mixed" f__law_mixed:=
 mk 2 rj fN D
theorem sk (D:Df "_law_words" jt) (_:FnM 1 "_law_mixed" f__law_mixed):FnM 2 "_law_words" f__law_words:=
 mk 2 sF eQ D
theorem mV (D:Df "_law_numbers" gy) (_:FnM 1 "_law_mixed" f__law_mixed):FnM 2 "_law_numbers" f__law_numbers:=
 mk 2 mW dm D
theorem qZ (D:Df "_law_drawn" jz):FnM 1 "_law_drawn" f__law_drawn:=
 mk 3 rP fv D
theorem wE (D:Df "_law_row" nF) (_:FnM 1 "_law_mixed" f__law_mixed) (_:FnM 1 "_law_drawn" f__law_drawn):FnM 2 "_law_row" f__law_row:=
 mk 4 wN nR D
theorem oK (D:Df "_law_tables" iK) (_:FnM 1 "_law_mixed" f__law_mixed) (_:FnM 2 "_law_words" f__law_words):FnM 3 "_law_tables" f__law_tables:=
 mk 2 p0 hZ D
theorem rg (D:Df "_law_stand" jG):FnM 1 "_law_stand" f__law_stand:=
 mk 1 qm fj D
theorem qq (D:Df "_law_moved" jT) (_:FnM 1 "_law_stand" f__law_stand):FnM 2 "_law_moved" f__law_moved:=
 mk 2 sy jF D
theorem oU (D:Df "_law_blanks" im):FnM 1 "_law_blanks" f__law_blanks:=
 mk 1 o6 iu D
theorem tw (D:Df "_law_term" lP):FnM 1 "_law_term" f__law_term:=
 mk 3 sR gP D
theorem lB (D:Df "_law_patterns" fo) (_:FnM 1 "_law_mixed" f__law_mixed) (_:FnM 1 "_law_term" f__law_term):FnM 2 "_law_patterns" f__law_patterns:=
 mk 6 lw eO D
theorem mZ (D:Df "_law_letters" gj):FnM 1 "_law_letters" f__law_letters:=
 mk 1 mO gv D
theorem tG (D:Df "_law_rule" kY) (_:FnM 1 "_law_mixed" f__law_mixed) (_:FnM 2 "_law_patterns" f__law_patterns) (_:FnM 1 "_law_letters" f__law_letters):FnM 3 "_law_rule" f__law_rule:=
 mk 3 sV lO D
theorem pM (D:Df "_law_fitted" hX):FnM 1 "_law_fitted" f__law_fitted:=
 mk 3 pK iQ D
theorem tA (D:Df "_law_fits" lI) (_:FnM 1 "_law_fitted" f__law_fitted):FnM 2 "_law_fits" f__law_fits:=
 mk 3 tL lY D
theorem mY (D:Df "_law_cell_of" gx):FnM 1 "_law_cell_of" f__law_cell_of:=
 mk 2 mM gI D
theorem j7 (D:Df "_law_is_broken" d8) (_:FnM 2 "_law_fits" f__law_fits) (_:FnM 1 "_law_cell_of" f__law_cell_of):FnM 3 "_law_is_broken" f__law_is_broken:=
 mk 3 jY dZ D
theorem oD (D:Df "_law_broken" hO) (_:FnM 2 "_law_fits" f__law_fits) (_:FnM 3 "_law_is_broken" f__law_is_broken):FnM 4 "_law_broken" f__law_broken:=
 mk 2 oX hW D
theorem q9 (D:Df "_law_clash" jW) (_:FnM 1 "_law_cell_of" f__law_cell_of):FnM 2 "_law_clash" f__law_clash:=
 mk 2 qI jM D
theorem rm (D:Df "_law_keeps" jD) (_:FnM 4 "_law_broken" f__law_broken):FnM 5 "_law_keeps" f__law_keeps:=
 mk 2 sK jB D
theorem pJ (D:Df "_law_filled" iB) (_:FnM 1 "_law_cell_of" f__law_cell_of):FnM 2 "_law_filled" f__law_filled:=
 mk 2 oN ie D
theorem wP (D:Df "_law_due" nw) (_:FnM 1 "_law_letters" f__law_letters) (_:FnM 1 "_law_cell_of" f__law_cell_of):FnM 2 "_law_due" f__law_due:=
 mk 3 wM m8 D
theorem uh (D:Df "_law_step" lJ) (_:FnM 1 "_law_whole" f__law_whole) (_:FnM 1 "_law_stand" f__law_stand) (_:FnM 2 "_law_moved" f__law_moved) (_:FnM 4 "_law_broken" f__law_broken) (_:FnM 2 "_law_clash" f__law_clash) (_:FnM 2 "_law_filled" f__law_filled) (_:FnM 2 "_law_due" f__law_due):FnM 5 "_law_step" f__law_step:=
 mk 4 tW ma D
theorem oP (D:Df "_law_walked" io) (_:FnM 1 "_law_blanks" f__law_blanks) (_:FnM 5 "_law_step" f__law_step):FnM 6 "_law_walked" f__law_walked:=
 mk 4 pf hU D
theorem uQ (D:Df "_law_word" kL) (_:FnM 1 "_law_whole" f__law_whole) (_:FnM 4 "_law_broken" f__law_broken) (_:FnM 2 "_law_clash" f__law_clash) (_:FnM 5 "_law_keeps" f__law_keeps) (_:FnM 6 "_law_walked" f__law_walked):FnM 7 "_law_word" f__law_word:=
 mk 4 tU md D
theorem tC (D:Df "_law_copy" mB):FnM 1 "_law_copy" f__law_copy:=
 mk 1 ue lM D
theorem tT (D:Df "_law_made" lN) (_:FnM 2 "_law_words" f__law_words) (_:FnM 2 "_law_numbers" f__law_numbers) (_:FnM 2 "_law_row" f__law_row) (_:FnM 3 "_law_tables" f__law_tables) (_:FnM 1 "_law_stand" f__law_stand) (_:FnM 3 "_law_rule" f__law_rule):FnM 4 "_law_made" f__law_made:=
 mk 2 tP ln D
theorem Jm (D:Df "law" s_law) (_:FnM 9 "full" f_full) (_:FnM 7 "_law_word" f__law_word) (_:FnM 1 "_law_copy" f__law_copy) (_:FnM 4 "_law_made" f__law_made):FnM 10 "law" f_law:=
 mk 1 Jo Ho D
end
end K41
namespace L2
open PySem
variable[Md]
def Ay (ns:Ww Kr):wx (ns.map D.str)=U ns:=by
 induction ns with
 |nil=>rfl
 |cons n ns ih=>simp![Ka,wx,ih]
@[simp] theorem lim_eq:lim=1000000:=by decide
@[simp] theorem bindO_s {α β:Type}(a:α) (f:α->Wq β):ae (U a) f=f a:=(rfl)
@[simp] theorem shO_s (d:D) (b:Bool):shO (U (d,b))=U d:=(rfl)
@[simp] theorem frO_s (ds:Ww D):frO (U (.lst ds,V))=U (.lst ds):=(rfl)
@[simp] theorem consO_s (a:D) (l:Ww D):aa (U a) (U l)=U (a::l):=(rfl)
@[simp] theorem seqO_n (δ:DEnv) (k:DEnv->Wq Out):ak (U (.next δ)) k=k δ:=(rfl)
@[simp] theorem seqO_r (d:D) (b:Bool) (k:DEnv->Wq Out):ak (U (.ret d b)) k=U (.ret d b):=(rfl)
@[simp] theorem ifO_t (x y:Wq Out):ifO (U V) x y=x:=(rfl)
@[simp] theorem ifO_f (x y:Wq Out):ifO (U Y) x y=y:=(rfl)
@[simp] theorem retO_s (d:D):bp (U d)=U (.ret d Y):=(rfl)
@[simp] theorem retF_s (d:D):bH (U d)=U (.ret d V):=(rfl)
@[simp] theorem outF_r (d:D) (b:Bool):j3 (U (.ret d b))=U (d,b):=(rfl)
@[simp] theorem nextO_s (δ:DEnv):nextO δ=U (.next δ):=(rfl)
@[simp] theorem setO_s (i:Nat) (d:D) (δ:DEnv) (h:i<δ.length):aE i (U d) δ=U (.next (δ.set i (U (d,Y)))):=by unfold aE;simp![if_pos h]
@[simp] theorem setF_s (i:Nat) (d:D) (δ:DEnv) (h:i<δ.length):dF i (U d) δ=U (.next (δ.set i (U (d,V)))):=by unfold dF;simp![if_pos h]
@[simp] theorem toName_s (i:Nat) (d:D) (δ:DEnv) (h:i<δ.length):af i d δ=U (δ.set i (U (d,Y))):=by unfold af;simp![if_pos h]
@[simp] theorem toTup_s (υ:Ww D->DEnv->Wq DEnv) (ds:Ww D) (δ:DEnv):aB υ (.tup ds) δ=υ ds δ:=(rfl)
@[simp] theorem toCons_s (τ:D->DEnv->Wq DEnv) (υ:Ww D->DEnv->Wq DEnv) (d:D) (ds:Ww D) (δ:DEnv):ah τ υ (d::ds) δ=ae (τ d δ) (υ ds):=(rfl)
@[simp] theorem toNil_s (δ:DEnv):toNil [] δ=U δ:=(rfl)
@[simp] theorem addI_s (i j:Int):cw (U (.int i)) (U (.int j))=U (.int (i+j)):=(rfl)
@[simp] theorem mulI_s (i j:Int) (h:(-(2 ^ 64)<i/\i<2 ^ 64)\/(-(2 ^ 64)<j/\j<2 ^ 64)):wc (U (.int i)) (U (.int j))=U (.int (i*j)):=by simp![wc,b2,ae,bI,gd,JI,decide_eq_true_eq,if_pos h]
@[simp] theorem modI_s (i j:Int) (h:0<j):cq (U (.int i)) (U (.int j))=U (.int (i%j)):=by simp[cq,b2,ae,bI,gd,JE,h]
@[simp] theorem divI_s (i j:Int) (h:0<j/\j<1073741824):gz (U (.int i)) (U (.int j))=U (.int (i / j)):=by simp[gz,b2,ae,bI,gd,JB,h]
@[simp] theorem tupO_s (ds:Ww D) (h:ds.length<=lim):bw (U ds)=U (.tup ds):=by simp![bw,b2,ae,gd,decide_eq_true_eq,if_pos h]
@[simp] theorem lstO_s (ds:Ww D) (h:ds.length<=lim):bR (U ds)=U (.lst ds):=by simp![bR,b2,ae,gd,decide_eq_true_eq,if_pos h]
@[simp] theorem lstLim_s (ds:Ww D):aq (U ds)=U (.lst ds):=(rfl)
@[simp] theorem lstL_s (ds:Ww D):bi (U (.lst ds))=U ds:=(rfl)
@[simp] theorem tupL_s (ds:Ww D):wd (U (.tup ds))=U ds:=(rfl)
@[simp] theorem tupleO_l (ds:Ww D):cL (U (.lst ds))=U (.tup ds):=(rfl)
@[simp] theorem listO_l (ds:Ww D):iS (U (.lst ds))=U (.lst ds):=(rfl)
@[simp] theorem lenL_l (ds:Ww D):cK (U (.lst ds))=U (.int ds.length):=(rfl)
@[simp] theorem lenL_t (ds:Ww D):cK (U (.tup ds))=U (.int ds.length):=(rfl)
@[simp] theorem ixO_l (ds:Ww D) (i:Int):ixO (U (.lst ds)) (U (.int i))=atI ds i:=(rfl)
@[simp] theorem ixO_t (ds:Ww D) (i:Int):ixO (U (.tup ds)) (U (.int i))=atI ds i:=(rfl)
@[simp] theorem partI_s (i:Int):bQ (U (.int i))=U (U i):=(rfl)
@[simp] theorem cutSO_s (z:Kr) (l u:Wq Int) (h:z.length<=lim):mA (U (.str z)) (U l) (U u)=U (.str (rp z l u)):=by simp![mA,b3,b2,ae,gd,decide_eq_true_eq,if_pos h]
@[simp] theorem addS_s (x y:Kr) (h:x.length+y.length<=lim):Hi (U (.str x)) (U (.str y))=U (.str (x++y)):=by simp![Hi,b2,ae,gd,decide_eq_true_eq,if_pos h]
@[simp] theorem catO_s (x y:Ww D) (h:x.length+y.length<=lim):mn (U (.lst x)) (U (.lst y))=U (.lst (x++y)):=by simp![mn,b2,ae,gd,decide_eq_true_eq,if_pos h]
@[simp] theorem notO_s (b:Bool):eD (U b)=U (!b):=(rfl)
@[simp] theorem tyB_s (b:Bool):tyB (U (.bl b))=U b:=(rfl)
@[simp] theorem ofB_s (b:Bool):ofB (U b)=U (.bl b):=(rfl)
@[simp] theorem cI_s (g:Int->Int->Bool) (i j:Int):cI g (U (.int i)) (U (.int j))=U (g i j):=(rfl)
@[simp] theorem orO_f (y:Wq Bool):orO (U Y) y=y:=(rfl)
@[simp] theorem andO_t (y:Wq Bool):jC (U V) y=y:=(rfl)
@[simp] theorem andO_f (y:Wq Bool):jC (U Y) y=U Y:=(rfl)
theorem wF (x y:D) (h:ok2 x y=V):eqO (U x) (U y)=U (decide (x=y)):=by simp![eqO,b2,ae,gd,decide_eq_true_eq,if_pos h]
@[simp] theorem eqO_int (i j:Int):eqO (U (.int i)) (U (.int j))=U (decide (i=j)):=by
 rw[wF _ _ (by rfl)];simp![D.int.injEq]
def FM (x y:D) (h:ok2 x y=V):neO (U x) (U y)=U (!decide (x=y)):=by unfold neO;rw[wF _ _ h];rfl
def nC (j:Int) (h: -(2 ^ 62)<=j/\j<2 ^ 62):rG (U (.int j))=U (kg 0 j.toNat):=by unfold rG;simp![decide_eq_true h,if_true]
def gF {δ:DEnv}{i:Nat}{ds:Ww D}(d:D) (h:δ[i]?=U (U (.lst ds,V))) (hl:ds.length<lim):jb i (U d) δ=U (.next (δ.set i (U (.lst (ds++[d]),V)))):=by
 unfold jb aN;simp![h,if_pos hl]
def C4 {δ:DEnv}{i:Nat}{ds es:Ww D}(h:δ[i]?=U (U (.lst ds,V))) (hl:ds.length+es.length<=lim):DB i (U (.lst es)) δ=U (.next (δ.set i (U (.lst (ds++es),V)))):=by
 unfold DB aN;simp![h,if_pos hl]
@[simp] theorem rd_0 (m:Bool) (d:D) (δ:DEnv):rd m 0 (U (d,Y)::δ)=U d:=(rfl)
@[simp] theorem rd_0o (d:D) (δ:DEnv):rd V 0 (U (d,V)::δ)=U d:=(rfl)
@[simp] theorem rd_1 (m:Bool) (i:Nat) (x:Wq (D×Bool)) (δ:DEnv):rd m (i+1) (x::δ)=rd m i δ:=(rfl)
@[simp] theorem rdOwn_0 (ds:Ww D) (δ:DEnv):aN 0 (U (.lst ds,V)::δ)=U (.lst ds):=(rfl)
@[simp] theorem rdOwn_1 (i:Nat) (x:Wq (D×Bool)) (δ:DEnv):aN (i+1) (x::δ)=aN i δ:=(rfl)
@[simp] theorem frzE_0 (ds:Ww D) (b:Bool) (δ:DEnv):jP 0 (U (.lst ds,b)::δ)=U (.lst ds,Y)::δ:=by cases b<;>rfl
@[simp] theorem frzE_1 (i:Nat) (x:Wq (D×Bool)) (δ:DEnv):jP (i+1) (x::δ)=x::jP i δ:=by
 unfold jP;rw[NC]
 split<;>simp_all
def DL {n np:Nat}{g:DEnv->Wq Out}{ds:Ww D}(h:ds.length=np):bh n np g ds=j3 (g (cH n ds)):=by unfold bh;rw[if_pos h]
def av {f:Ww D->Wq (D×Bool)}{n np:Nat}{g:DEnv->Wq Out}{ds:Ww D}{δ:DEnv}(hf:f=bh n np g) (hl:ds.length=np) (hs:cH n ds=δ):f ds=j3 (g δ):=by subst hf hs;exact DL hl
def yQ {α:Type}{xs:Ww α}{i:Int}(h0:0<=i) (h1:i<xs.length):∃v,v∈xs/\xs[i.toNat]?=U v/\atI xs i=U v:=by
 let hi:i.toNat<xs.length:=by lia
 refine⟨xs[i.toNat],LC hi,by simp[hi],?_⟩
 have:=uw (xs:=xs) (j:=i.toNat) (v:=xs[i.toNat]) (by simp[hi])
 rwa[Pl h0]at this
def lU {α:Type}{xs:Ww α}{i:Int}{v:α}(h0:0<=i) (h:xs[i.toNat]?=U v):atI xs i=U v:=by
 have:=uw h;rwa[Pl h0]at this
theorem kF {h:D->Wq (Wq D)}{g:D->D}:∀{ds:Ww D},(∀d∈ds,h d=U (U (g d)))->aO h ds=U (ds.map g)
 |[],_=>rfl
 |d::ds,e=>by
  unfold aO;rw[e d (Kg ..),kF λx hx=>e x (Kb _ hx)]
  rfl
theorem wo {h:D->Wq (Wq D)}{P:D->D->Prop}:∀{ds:Ww D},(∀d∈ds,∃y,h d=U (U y)/\P d y)->∃g:Ww D,aO h ds=U g/\g.length=ds.length/\∀(i:Nat) d,ds[i]?=U d->∃y,g[i]?=U y/\P d y
 |[],_=>⟨[],rfl,rfl,λi d h=>by simp at h⟩
 |d::ds,e=>by
  let⟨y,e1,p⟩:=e d (Kg ..);let⟨g,e2,hl,hp⟩:=wo λx hx=>e x (Kb _ hx)
  refine⟨y::g,?_,by simp[hl],λi z hz=>?_⟩
  ·unfold aO;rw[e1,e2]
  ·cases i with
   |zero=>simp_all
   |succ i=>simp_all
def bF {bo:Bool}{bs:Ww Bool}{τ:D->DEnv->Wq DEnv}{ft:DEnv->Wq Bool}{fe:DEnv->Wq D}{δ:DEnv}{ds:Ww D}(h:ds.length<=lim):bJ bo bs τ ft fe δ ds=aO (aC τ ft fe (aF bo bs δ)) ds:=by unfold bJ;rw[if_pos h]
theorem qB {body:D->DEnv->Wq Out}(I:Ww D->DEnv->Prop):∀(post pre:Ww D) (δ:DEnv),I pre δ->(∀p d q δ,p++d::q=pre++post->I p δ->∃δ',(body d δ=U (.next δ')\/body d δ=U (.cont δ'))/\I (p++[d]) δ')->
  ∃δ',am body post δ=U (.next δ')/\I (pre++post) δ'
 |[],pre,δ,h,_=>⟨δ,rfl,by simpa using h⟩
 |d::post,pre,δ,h,st=>by
  let⟨δ1,e1,i1⟩:=st pre d post δ rfl h;let⟨δ',e',i'⟩:=qB I post (pre++[d]) δ1 i1 λp d' q δ e i=>st p d' q δ (by simpa using e) i
  refine⟨δ',?_,by simp_all⟩
  unfold am
  rcases e1 with e1|e1<;>rw[e1]<;>exact e'
def qJ {body:D->DEnv->Wq Out}(I:DEnv->Prop) {ds:Ww D}{δ:DEnv}(h:I δ) (st:∀d∈ds,∀δ,I δ->∃δ',(body d δ=U (.next δ')\/body d δ=U (.cont δ'))/\I δ'):∃δ',am body ds δ=U (.next δ')/\I δ':=by
 have:=qB (body:=body) (λ_ δ=>I δ) ds [] δ h λp d q δ e i=>st d (by rw[MX]at e;rw[<-e];simp) δ i
 assumption
def AQ {lo:Int}{n:Nat}{d:D}(h:d∈kg lo n):∃i:Nat,i<n/\d=.int (lo+i):=by
 let⟨i,hi,e⟩:=mt.mp h;exact⟨i,qae.mp hi,e.symm⟩
def fO (lo:Int) (n:Nat):(kg lo n).length=n:=by unfold kg;simp
def Al:∀(ts:Ww Kr),(Qv "" ts).length=(ts.map (·.length)).sum:=by
 intro ts;show(Builtin.Str.glued "" ts).length=_;rw[StrLaws.glued_eq_join]
 induction ts with
 |nil=>rfl
 |cons x r ih=>
  cases r with
  |nil=>rfl
  |cons y r=>
   show(x++("":Kr)++Str.join "" (y::r)).length=_;rw[NM,NM,ih];rfl
def FB {P:D->D->Prop}{ds g:Ww D}{Q:Kr->Prop}(hl:g.length=ds.length) (h:∀(i:Nat) d,ds[i]?=U d->∃y,g[i]?=U y/\P d y) (hP:∀d y,P d y->∃x,y=.str x/\Q x):∃ss:Ww Kr,g=ss.map D.str/\∀x∈ss,Q x:=by
 let hy:∀y∈g,∃x,y=.str x/\Q x:=λy hy=>by
  let⟨i,hi,e⟩:=qah.mp hy;let⟨z,ez,p⟩:=h i (ds[i]'(by lia)) (by simp)
  rw[K7 hi]at ez
  obtain rfl:=Lv ez;rw[<-e];exact hP _ _ p
 clear h hl
 induction g with
 |nil=>simp
 |cons y g ih=>
  let⟨x,e,q⟩:=hy y (Kg ..);let⟨ss,e2,q2⟩:=ih λz hz=>hy z (Kb _ hz)
  refine⟨x::ss,by rw[e,e2];rfl,λz hz=>?_⟩
  grind
def Fv (z:Kr) (ys:Ww Kr) (h:(ys.map (·.length)).sum+ys.length*z.length<=16777216):A7 (U (.str z)) (U (.lst (ys.map D.str)))=U (.str (Qv z ys)):=by
 simp![A7,b2,ae,gd,Ay,decide_eq_true_eq,if_pos h]
def uY {ss:Ww Kr}(h:∀x∈ss,x.length=1):(ss.map (·.length)).sum=ss.length:=by
 induction ss with
 |nil=>rfl
 |cons x r ih=>
  grind
def DU (z:Kr) (i:Int) (hz:z.length<=lim) (h0:0<=i) (h1:i<z.length):∃x:Kr,x.length=1/\Co (U (.str z)) (U (.int i))=U (.str x):=by
 let⟨c,_,_,e⟩:=yQ (xs:=z.cps.toList) (i:=i) h0 (by assumption)
 refine⟨⟨#[c]⟩,rfl,?_⟩
 simp_all [Co,b2,ae,gd,decide_eq_true_eq,e]
@[simp] theorem lenS_s (z:Kr) (h:z.length<=lim):FV (U (.str z))=U (.int z.length):=by simp![FV,ae,gd,decide_eq_true_eq,if_pos h]
theorem wi (n d:Nat):sIx n d B=d:=rfl
def uW (n d k:Nat):sIx n d (U (k:Int))=min k n:=by
 rfl
def aY (x y:Kr):eqO (U (.str x)) (U (.str y))=U (decide (x=y)):=by
 rw[wF _ _ rfl];simp
end L2
namespace JP
open PySem L2
variable[Md]
inductive Ce where|nm (w:Kr)|bk (n:Int)
deriving DecidableEq,Inhabited
inductive Te where|any (l:Kr)|nm (w:Kr)
deriving DecidableEq
def ceD:Ce->D|.nm w=>.tup [.str "name",.str w]|.bk n=>.tup [.str "blank",.int n]
def teD:Te->D|.any l=>.tup [.str "any",.str l]|.nm w=>.tup [.str "name",.str w]
def gJ {a b:Ce}(h:ceD a=ceD b):a=b:=by
 cases a<;>cases b<;>simp[ceD]at h
 ·rw[h]
 ·rw[h]
abbrev Row:=Kr×Ww Ce
abbrev Pat:=Kr×Ww Te
def rowD (r:Row):D:=.tup [.str r.1,.tup (r.2.map ceD)]
def aG (p:Pat):D:=.tup [.str p.1,.tup (p.2.map teD)]
abbrev Fit:=Kr->Ce
def ev (φ:Fit):Te->Ce|.any l=>φ l|.nm w=>.nm w
def da (rows:Ww Row) (φ:Fit) (p:Pat):Prop:=∃r∈rows,r.1=p.1/\r.2=p.2.map (ev φ)
def ans:Ww Te->Ww Kr
 |[]=>[]
 |.any l::ts=>l::ans ts
 |.nm _::ts=>ans ts
theorem kx {φ ψ:Fit}:∀{ts:Ww Te},(∀l∈ans ts,φ l=ψ l)->ts.map (ev φ)=ts.map (ev ψ)
 |[],_=>rfl
 |.any l::ts,h=>by
  rw[Ka,Ka,kx (ts:=ts) λl' hl=>h l' (Kb _ hl)]
  simp![ev];rw[h l (Kg ..)]
 |.nm w::ts,h=>by rw[Ka,Ka,kx (ts:=ts) h];rfl
def nD {rows:Ww Row}{φ ψ:Fit}{p:Pat}(h:∀l∈ans p.2,φ l=ψ l) (i:da rows φ p):da rows ψ p:=by
 let⟨r,h1,h2,h3⟩:=i;exact⟨r,h1,h2,by rw[h3,kx h]⟩
abbrev Bi:=Ww (Kr×Ce)
def gt (b:Bi) (l:Kr):Wq Ce:=(b.find? λq=>decide (q.1=l)).map (·.2)
def ja (b:Bi) (k:Kr) (c:Ce) (l:Kr):gt ((k,c)::b) l=if k=l then U c else gt b l:=by
 unfold gt;by_cases h:k=l<;>simp[h]
theorem vS (l:Kr):∀(b b':Bi),gt (b++b') l=(gt b l).or (gt b' l)
 |[],b'=>by simp[gt]
 |(k,c)::b,b'=>by
  rw[qaz,ja,ja,vS l b b'];split<;>simp
def bnd:Ww Te->Ww Ce->Bi->Wq Bi
 |.any l::ts,c::cs,b=>(match gt b l with|some c'=>if c'=c then bnd ts cs b else B|none=>bnd ts cs (b++[(l,c)]))
 |.nm w::ts,c::cs,b=>if Ce.nm w=c then bnd ts cs b else B
 |_,_,b=>U b
nonrec theorem eI:∀{ts:Ww Te}{cs:Ww Ce}{b b':Bi},ts.length=cs.length->bnd ts cs b=U b'->(∀l c,gt b l=U c->gt b' l=U c)/\(∀l∈ans ts,∃c,gt b' l=U c)/\∀φ:Fit,(∀l∈ans ts,gt b' l=U (φ l))->cs=ts.map (ev φ)
 |[],[],b,b',_,h=>by simp![bnd,Mc]at h;subst h;exact⟨λ_ _ h=>h,λ_ h=>by simp[ans]at h,λ_ _=>rfl⟩
 |.any l::ts,c::cs,b,b',hl,h=>by
  simp![bnd]at h;let hl':ts.length=cs.length:=by simpa using hl
  split at h
  ·rename_i c' e
   split at h
   ·rename_i ec
    subst ec;let⟨h1,h2,h3⟩:=eI hl' h;refine⟨h1,λl' hl'=>?_,λφ hφ=>?_⟩
    ·rcases on.mp hl' with rfl|hm
     ·exact⟨_,h1 _ _ e⟩
     ·exact h2 l' hm
    ·have:=hφ l (Kg ..)
     rw[h1 _ _ e]at this;rw[Ka,<-h3 φ λl' hm=>hφ l' (Kb _ hm)]
     simp![ev];rw[Lv this]
   ·contradiction
  ·rename_i e
   let⟨h1,h2,h3⟩:=eI hl' h;let hg:=h1 l c (by rw[vS,e];simp[gt])
   refine⟨λl' c' e'=>h1 l' c' (by rw[vS,e'];rfl),λl' hl'=>?_,λφ hφ=>?_⟩
   ·rcases on.mp hl' with rfl|hm
    ·exact⟨_,hg⟩
    ·exact h2 l' hm
   ·have:=hφ l (Kg ..)
    rw[hg]at this;rw[Ka,<-h3 φ λl' hm=>hφ l' (Kb _ hm)]
    simp![ev];rw[Lv this]
 |.nm w::ts,c::cs,b,b',hl,h=>by
  simp![bnd]at h;split at h
  ·rename_i ec
   subst ec;let⟨h1,h2,h3⟩:=eI (by simpa using hl) h
   exact⟨h1,h2,λφ hφ=>by rw[Ka,<-h3 φ hφ];rfl⟩
  ·contradiction
theorem iW {φ:Fit}:∀(ts:Ww Te) (b:Bi),(∀l c,gt b l=U c->φ l=c)->∃b',bnd ts (ts.map (ev φ)) b=U b'/\∀l c,gt b' l=U c->φ l=c
 |[],b,h=>⟨b,rfl,h⟩
 |.any l::ts,b,h=>by
  simp![Ka,ev,bnd];cases e:gt b l with
  |some c=>
   simp only;rw[if_pos (h l c e).symm];exact iW ts b h
  |none=>
   refine iW ts _ λl' c hc=>?_
   rw[vS]at hc;cases e':gt b l' with
   |some c'=>simp_all
   |none=>
    rw[e']at hc
    simp_all [Option.none_or,ja,gt]
 |.nm w::ts,b,h=>by
  simp![Ka,ev,bnd,if_true];exact iW ts b h
def ui (p:Pat) (r:Row):Wq Bi:=if r.1=p.1/\r.2.length=p.2.length then bnd p.2 r.2 [] else B
def binds (rows:Ww Row) (p:Pat):Ww Bi:=rows.filterMap (ui p)
nonrec theorem gO {rows:Ww Row}{p:Pat}{b:Bi}(h:b∈binds rows p):(∀l∈ans p.2,∃c,gt b l=U c)/\∀φ:Fit,(∀l∈ans p.2,gt b l=U (φ l))->da rows φ p:=by
 let⟨r,hr,e⟩:=qal.mp h;unfold ui at e;split at e
 ·rename_i c
  let⟨_,h2,h3⟩:=eI c.2.symm e;exact⟨h2,λφ hφ=>⟨r,hr,c.1,h3 φ hφ⟩⟩
 ·contradiction
def xz {rows:Ww Row}{p:Pat}{φ:Fit}(h:da rows φ p):∃b∈binds rows p,∀l∈ans p.2,gt b l=U (φ l):=by
 let⟨r,hr,h1,h2⟩:=h;let⟨b,e,hb⟩:=iW (φ:=φ) p.2 [] (λl c e=>by trivial)
 let hm:ui p r=U b:=by unfold ui;rw[if_pos ⟨h1,by rw[h2];simp⟩,h2];exact e
 let hin:=qal.mpr ⟨r,hr,hm⟩;refine⟨b,hin,λl hl=>?_⟩
 let⟨c,hc⟩:=(gO hin).1 l hl;rw[hc,hb l c hc]
def vl (b:Bi) (ls:Ww Kr):Ww Ce:=ls.map λl=>(gt b l).getD default
abbrev Gr:=Ww (Ww Ce×Ww (Ww Ce))
def xI:Gr->Ww Ce->Ww Ce->Gr
 |[],k,e=>[(k,[e])]
 |p::r,k,e=>if p.1=k then(p.1,if e∈p.2 then p.2 else p.2++[e])::r else p::xI r k e
def gE (g:Gr) (k:Ww Ce):Ww (Ww Ce):=((g.find? λq=>decide (q.1=k)).map (·.2)).getD []
def aZ (g:Gr) (q:Ww Ce×Ww (Ww Ce)) (k:Ww Ce):gE (q::g) k=if q.1=k then q.2 else gE g k:=by
 unfold gE;by_cases h:q.1=k<;>simp[h]
theorem u7:∀(g:Gr) (k e k' x:Ww Ce),x∈gE (xI g k e) k'↔x∈gE g k'\/(k'=k/\x=e)
 |[],k,e,k',x=>by
  unfold xI;rw[aZ]
  by_cases h:k=k'
  ·simp[h,gE]
  ·simp[h,gE];intro z;exact absurd z.symm h
 |p::r,k,e,k',x=>by
  unfold xI
  by_cases h:p.1=k
  ·rw[if_pos h,aZ,aZ]
   grind
  ·rw[if_neg h,aZ,aZ]
   by_cases h':p.1=k'
   ·lia
   ·rw[if_neg h',if_neg h'];exact u7 r k e k' x
def grp (bs:Ww Bi) (sh ad:Ww Kr):Gr:=bs.foldl (λg b=>xI g (vl b sh) (vl b ad)) []
def grp_get (bs:Ww Bi) (sh ad:Ww Kr) (k x:Ww Ce):x∈gE (grp bs sh ad) k↔∃b∈bs,vl b sh=k/\vl b ad=x:=by
 let key:∀(bs:Ww Bi) (g:Gr),x∈gE (bs.foldl (λg b=>xI g (vl b sh) (vl b ad)) g) k↔x∈gE g k\/∃b∈bs,vl b sh=k/\vl b ad=x:=by
  intro bs
  induction bs with
  |nil=>simp
  |cons b bs ih=>
   intro g;rw[Ml,ih,u7]
   grind
 rw[grp,key];simp[gE]
def ba (ls known:Ww Kr):Ww Nat:=ls.map λl=>known.idxOf l
def pk (c:Ww Ce) (ps:Ww Nat):Ww Ce:=ps.map λi=>c.getD i default
def bZ {φ:Fit}{ls known:Ww Kr}(h:∀l∈ls,l∈known):pk (known.map φ) (ba ls known)=ls.map φ:=by
 unfold pk ba;rw[K6];refine K5 λl hl=>?_
 let hi:=LI (h l hl);simp[hi]
def ins (x:Ww Ce) (l:Ww (Ww Ce)):Ww (Ww Ce):=if x∈l then l else l++[x]
def E3 {x y:Ww Ce}{l:Ww (Ww Ce)}:y∈ins x l↔y∈l\/y=x:=by
 unfold ins;split
 ·constructor
  ·exact .inl
  ·lia
 ·simp
nonrec theorem H0 {x:Ww Ce}{l:Ww (Ww Ce)}(h:l.Nodup):(ins x l).Nodup:=by
 unfold ins;split
 ·exact h
 ·rename_i n
  rw[Nd];exact⟨h,by simp,λa ha b hb e=>n (by simp_all)⟩
def AC (g:Gr) (sp kp:Ww Nat) (l:Ww (Ww Ce)) (c:Ww Ce):Ww (Ww Ce):=(gE g (pk c sp)).foldl (λl a=>ins (pk c kp++a) l) l
def ext (found:Ww (Ww Ce)) (sp kp:Ww Nat) (g:Gr):Ww (Ww Ce):=found.foldl (AC g sp kp) []
def E6 (g:Gr) (sp kp:Ww Nat) (c:Ww Ce) (l:Ww (Ww Ce)) (h:l.Nodup):(AC g sp kp l c).Nodup/\∀x,x∈AC g sp kp l c↔x∈l\/∃a∈gE g (pk c sp),x=pk c kp++a:=by
 unfold AC;generalize gE g (pk c sp)=as
 induction as generalizing l with
 |nil=>simp;lia
 |cons a as ih=>
  rw[Ml];let⟨h1,h2⟩:=ih _ (H0 h);refine⟨h1,λx=>?_⟩
  rw[h2,E3];simp;lia
def GT (found:Ww (Ww Ce)) (sp kp:Ww Nat) (g:Gr):(ext found sp kp g).Nodup/\∀x,x∈ext found sp kp g↔∃c∈found,∃a∈gE g (pk c sp),x=pk c kp++a:=by
 let key:∀(found l:Ww (Ww Ce)),l.Nodup->(found.foldl (AC g sp kp) l).Nodup/\∀x,x∈found.foldl (AC g sp kp) l↔x∈l\/∃c∈found,∃a∈gE g (pk c sp),x=pk c kp++a:=by
  intro found
  induction found with
  |nil=>simp
  |cons c found ih=>
   intro l h;let⟨e1,e2⟩:=E6 g sp kp c l h;let⟨h1,h2⟩:=ih _ e1;rw[Ml];refine⟨h1,λx=>?_⟩
   rw[h2,e2];simp![KI,exists_eq_or_imp];constructor
   ·rintro((q|q)|q)
    ·exact .inl q
    ·exact .inr (.inl q)
    ·exact .inr (.inr q)
   ·rintro(q|q|q)
    ·exact .inl (.inl q)
    ·exact .inl (.inr q)
    ·exact .inr q
 let⟨h1,h2⟩:=key found [] LX;exact⟨h1,λx=>by rw[ext,h2];simp⟩
theorem vp:∀{kn:Ww Kr}{x:Ww Ce},kn.Nodup->x.length=kn.length->∃φ:Fit,x=kn.map φ
 |[],[],_,_=>⟨λ_=>default,rfl⟩
 |[],_::_,_,h=>by simp at h
 |_::_,[],_,h=>by simp at h
 |l::ks,c::x,nd,h=>by
  let⟨h1,h2⟩:=qaf.mp nd;let⟨φ,e⟩:=vp h2 (by simpa using h)
  refine⟨λk=>if k=l then c else φ k,?_⟩
  simp[Ka,e];lia
structure Jn (rows:Ww Row) (kn:Ww Kr) (fd:Ww (Ww Ce)) (wanted:Ww Kr) (done rest:Ww Pat) (known:Ww Kr) (found:Ww (Ww Ce)):Prop where
 nk:known.Nodup
 nf:found.Nodup
 mem:∀x,x∈found↔∃φ:Fit,x=known.map φ/\kn.map φ∈fd/\∀p∈done,da rows φ p
 has:∀l,(l∈kn\/∃p∈done,l∈ans p.2)->(l∈wanted\/∃p∈rest,l∈ans p.2)->l∈known
 few:∀l∈known,l∈wanted\/∃p∈rest,l∈ans p.2
def Ck (rows:Ww Row) {kn:Ww Kr}{fd:Ww (Ww Ce)}{wanted:Ww Kr}{rest:Ww Pat}(h1:kn.Nodup) (h2:fd.Nodup) (h3:∀x∈fd,x.length=kn.length) (h4:∀l∈kn,l∈wanted\/∃p∈rest,l∈ans p.2):Jn rows kn fd wanted [] rest kn fd:=
 ⟨h1,h2,λx=>⟨λh=>by let⟨φ,rfl⟩:=vp h1 (h3 x h);exact⟨φ,rfl,h,λp hp=>(by trivial)⟩,λhz=>by lia⟩,λl hz _=>by simp_all,h4⟩
nonrec theorem ER {rows:Ww Row}{kn:Ww Kr}{fd:Ww (Ww Ce)}{wanted:Ww Kr}{done rest:Ww Pat}{p:Pat}{known own later:Ww Kr}{found:Ww (Ww Ce)}(J:Jn rows kn fd wanted done (p::rest) known found)
  (hown:∀l,l∈own↔l∈ans p.2) (hno:own.Nodup) (hlat:∀l,l∈later↔l∈wanted\/∃q∈rest,l∈ans q.2):
  Jn rows kn fd wanted (done++[p]) rest (known.filter (λl=>decide (l∈later))++own.filter λl=>decide (l∈later)&&!decide (l∈known))
   (ext found (ba (own.filter λl=>decide (l∈known)) known) (ba (known.filter λl=>decide (l∈later)) known)
    (grp (binds rows p) (own.filter λl=>decide (l∈known)) (own.filter λl=>decide (l∈later)&&!decide (l∈known)))):=by
 let⟨e1,e2⟩:=GT found (ba (own.filter λl=>decide (l∈known)) known) (ba (known.filter λl=>decide (l∈later)) known) (grp (binds rows p) (own.filter λl=>decide (l∈known)) (own.filter λl=>decide (l∈later)&&!decide (l∈known)))
 let memS:∀l∈own.filter (λl=>decide (l∈known)),l∈known:=λl hl=>by simp at hl;exact hl.2
 let memK:∀l∈known.filter (λl=>decide (l∈later)),l∈known:=λl hl=>by simp at hl;exact hl.1
 refine⟨?_,e1,λx=>?_,λl hd hw=>?_,λl hl=>?_⟩
 ·rw[Nd]
  refine⟨J.nk.filter _,hno.filter _,λa ha b hb e=>?_⟩
  subst e;simp at ha hb;exact hb.2.2 ha.1
 ·rw[e2]
  constructor
  ·rintro⟨c,hc,a,ha,rfl⟩
   let⟨φ,rfl,hf,hφ⟩:=(J.mem c).mp hc;rw[bZ memS,grp_get]at ha;let⟨b,hb,h1,h2⟩:=ha;let⟨bs1,bs2⟩:=gO hb;let hv:=λl hl=>bs1 l ((hown l).mp hl)
   let agr:∀l∈known,(if l∈own then(gt b l).getD default else φ l)=φ l:=λl hk=>by
    split
    ·rename_i ho
     let hs:l∈own.filter (λl=>decide (l∈known)):=by simp;exact⟨ho,hk⟩
     unfold vl at h1;exact(qak.mp h1) l hs
    ·rfl
   let ag2:=λl hl=>by
    by_cases ho:l∈own
    ·exact agr l (J.has l hl (.inr ⟨p,Kg ..,(hown l).mp ho⟩))
    ·rw[if_neg ho]
   refine⟨λl=>if l∈own then(gt b l).getD default else φ l,?_,?_,λq hq=>?_⟩
   ·rw[bZ memK,Kn]
    congr 1
    ·exact K5 λl hl=>(agr l (memK l hl)).symm
    ·rw[<-h2]
     unfold vl;refine K5 λl hl=>?_
     simp at hl;rw[if_pos hl.1]
   ·rw[K5 λl hl=>ag2 l (.inl hl)];exact hf
   ·rcases qac.mp hq with hq|hq
    ·exact nD (λl hl=>(ag2 l (.inr ⟨q,hq,hl⟩)).symm) (hφ q hq)
    ·rw[qaa.mp hq]
     refine bs2 _ λl hl=>?_
     let ho:=(hown l).mpr hl;let⟨c,hc⟩:=hv l ho;rw[if_pos ho,hc];rfl
  ·rintro⟨φ,rfl,hf,hφ⟩
   let⟨b,hb,hbl⟩:=xz (hφ p (Ly _ (qaa.mpr rfl)));refine⟨known.map φ,(J.mem _).mpr ⟨φ,rfl,hf,λq hq=>hφ q (Li _ hq)⟩,(own.filter λl=>decide (l∈later)&&!decide (l∈known)).map φ,?_,?_⟩
   ·rw[bZ memS,grp_get]
    refine⟨b,hb,?_,?_⟩
    ·unfold vl;refine K5 λl hl=>?_
     rw[hbl l ((hown l).mp (qad.mp hl).1)];rfl
    ·unfold vl;refine K5 λl hl=>?_
     rw[hbl l ((hown l).mp (qad.mp hl).1)];rfl
   ·rw[bZ memK,Kn]
 ·let hla:=(hlat l).mpr hw
  by_cases hk:l∈known
  ·exact Li _ (qad.mpr ⟨hk,by simpa using hla⟩)
  ·let ho:=L0 λho=>hk (J.has l (hd.imp id λ⟨q,hq,hl⟩=>⟨q,(qac.mp hq).elim id λz=>absurd ((hown l).mpr (by rw[<-qaa.mp z];exact hl)) ho,hl⟩) (hw.imp id λ⟨q',hq',hl'⟩=>⟨q',Kb _ hq',hl'⟩))
   exact Ly _ (qad.mpr ⟨ho,by simp[hla,hk]⟩)
 ·rcases qac.mp hl with hl|hl
  ·exact(hlat l).mp (by simpa using(qad.mp hl).2)
  ·have:=(qad.mp hl).2
   simp at this;exact(hlat l).mp this.1
def Hx {rows:Ww Row}{kn:Ww Kr}{fd:Ww (Ww Ce)}{wanted:Ww Kr}{done:Ww Pat}{known:Ww Kr}{found:Ww (Ww Ce)}(J:Jn rows kn fd wanted done [] known found) (hw:∀l∈wanted,l∈kn\/∃p∈done,l∈ans p.2):
  (found.map λc=>pk c (ba wanted known)).Nodup/\∀x,x∈found.map (λc=>pk c (ba wanted known))↔∃φ:Fit,x=wanted.map φ/\kn.map φ∈fd/\∀p∈done,da rows φ p:=by
 let wk:=λl hl=>J.has l (hw l hl) (.inl hl)
 let kw:=λl hl=>(J.few l hl).elim id λhz=>by simp_all
 constructor
 ·rw[List.nodup_iff_pairwise_ne,PF]
  refine J.nf.imp_of_mem λ{c d} hc hd hne e=>hne ?_
  let⟨φ,rfl,_⟩:=(J.mem c).mp hc;let⟨ψ,rfl,_⟩:=(J.mem d).mp hd
  simp_all [bZ]
 ·intro x
  rw[NH];constructor
  ·rintro⟨c,hc,rfl⟩
   let⟨φ,rfl,hφ⟩:=(J.mem c).mp hc;exact⟨φ,bZ wk,hφ⟩
  ·rintro⟨φ,rfl,hφ⟩
   exact⟨known.map φ,(J.mem _).mpr ⟨φ,rfl,hφ⟩,bZ wk⟩
end JP
namespace K41
open PySem L2 JP
variable[Md]
def opn {f:Ww D->Wq (D×Bool)}{n np:Nat}{g:DEnv->Wq Out}{ds:Ww D}{r:Wq (D×Bool)}(hf:f=bh n np g) (k:j3 (g (cH n ds))=r) (hl:Nat.beq ds.length np=V:=by rfl):f ds=r:=by
 subst hf;rw[DL (Nat.eq_of_beq_eq_true hl)];exact k
def stO {i:Nat}{x:Wq D}{d:D}{δ:DEnv}{g:DEnv->Wq Out}{r:Wq (D×Bool)}(h:x=U d) (k:j3 (g (δ.set i (U (d,Y))))=r) (hi:PP i δ.length=V:=by rfl):j3 (ak (aE i x δ) g)=r:=by
 simp_all
def stF {i:Nat}{x:Wq D}{d:D}{δ:DEnv}{g:DEnv->Wq Out}{r:Wq (D×Bool)}(h:x=U d) (k:j3 (g (δ.set i (U (d,V))))=r) (hi:PP i δ.length=V:=by rfl):j3 (ak (dF i x δ) g)=r:=by
 simp_all
def stN {x:Wq Out}{δ:DEnv}{g:DEnv->Wq Out}{r:Wq (D×Bool)}(h:x=U (.next δ)) (k:j3 (g δ)=r):j3 (ak x g)=r:=by
 subst h;exact k
def stI {c:Wq Bool}{x:Wq Out}{δ:DEnv}{g:DEnv->Wq Out}{r:Wq (D×Bool)}(h:c=U Y) (k:j3 (g δ)=r):j3 (ak (ifO c x (nextO δ)) g)=r:=by
 subst h;exact k
def stR {c:Wq Bool}{x:Wq D}{d:D}{y:Wq Out}{g:DEnv->Wq Out}(h:c=U V) (k:x=U d):j3 (ak (ifO c (bp x) y) g)=U (d,Y):=by
 subst h k;rfl
def rO {x:Wq D}{d:D}(h:x=U d):j3 (bp x)=U (d,Y):=by subst h;rfl
def rF {x:Wq D}{d:D}(h:x=U d):j3 (bH x)=U (d,V):=by subst h;rfl
section
variable{x y:Wq D}{a b:Int}
def i6 (h:x=U (.int a)) (h':y=U (.int b)) (hb:0<b):cq x y=U (.int (a%b)):=by simp_all
def oY (h:x=U (.int a)) (h':y=U (.int b)) (hb:0<b/\b<1073741824):gz x y=U (.int (a / b)):=by subst h h';exact divI_s _ _ hb
def j4 (h:x=U (.int a)) (h':y=U (.int b)):cw x y=U (.int (a+b)):=by simp_all
def CS {ds:Ww D}(h:x=U (.lst ds)):cK x=U (.int ds.length):=by simp_all
def ixG {ds:Ww D}{i:Int}{d:D}(h:x=U (.lst ds)) (h':y=U (.int i)) (e:atI ds i=U d):ixO x y=U d:=by simp_all
def eqG {a b:Int}(h:x=U (.int a)) (h':y=U (.int b)):eqO x y=U (decide (a=b)):=by simp_all
end
def bN {α:Type}{x:Wq α}{β:Type}{f:α->Wq β}{a:α}{r:Wq β}(h:x=U a) (k:f a=r):ae x f=r:=by subst h;exact k
def H5 {x:Wq D}{j:Int}(h:x=U (.int j)) (hj: -(2 ^ 62)<=j/\j<2 ^ 62):rG x=U (kg 0 j.toNat):=by subst h;exact nC j hj
def ixA {x:Wq D}{a b:D}(h:x=U (.tup [a,b])):ixO x (U (.int 0))=U a/\ixO x (U (.int 1))=U b:=by subst h;trivial
def oR {x y:Wq D}{a b:D}(h:x=U a) (h':y=U b):bw (aa x (aa y (U [])))=U (.tup [a,b]):=by simp_all
def frG {x:Wq (D×Bool)}{d:Ww D}(h:x=U (.lst d,V)):frO x=U (.lst d):=by subst h;rfl
def m3 {bs:Ww Bool}{τ:D->DEnv->Wq DEnv}{ft:DEnv->Wq Bool}{fe:DEnv->Wq D}{δ ε:DEnv}{x:Wq (Ww D)}{ds es:Ww D}(hx:x=U ds) (hl:ds.length<=1000) (hm:aF Y bs δ=ε) (h:aO (aC τ ft fe ε) ds=U es) (he:es.length<=1000):aq (ae x (bJ Y bs τ ft fe δ))=U (.lst es):=by
 subst hx hm;rw[bindO_s,bF (by simp;lia),h,lstLim_s]
def itG {i:Nat}{fe:DEnv->Wq D}{ε:DEnv}{d e:D}(h:fe (ε.set i (U (d,Y)))=U e) (hi:PP i ε.length=V:=by rfl):aC (af i) (λδ=>U V) fe ε d=U (U e):=by
 unfold aC
 simp_all
theorem ph {α β:Type}{f:α->D}{g:β->D}{P:β->Prop}{F:D->Wq (Wq D)}:∀{xs:Ww α},(∀x∈xs,∃b,P b/\F (f x)=U (U (g b)))->∃bs:Ww β,bs.length=xs.length/\(∀b∈bs,P b)/\aO F (xs.map f)=U (bs.map g)
 |[],_=>⟨[],rfl,(λ_ h=>nomatch h),rfl⟩
 |x::xs,h=>by
  let⟨b,hb,e⟩:=h x (.head _);let⟨bs,h1,h2,h3⟩:=ph λx hx=>h x (.tail _ hx)
  refine⟨b::bs,by simp[h1],λc hc=>?_,?_⟩
  ·grind
  ·rw[Ka];unfold aO;rw[h3,e];rfl
def o4 {β:Type}{g:β->D}{P:β->Prop}{F:D->Wq (Wq D)}{n:Nat}(h:∀k:Nat,k<n->∃b,P b/\F (.int (0+(k:Int)))=U (U (g b))):∃bs:Ww β,bs.length=n/\(∀b∈bs,P b)/\aO F (kg 0 n)=U (bs.map g):=by
 let⟨bs,h1,h2,h3⟩:=ph (f:=λk:Nat=>D.int (0+(k:Int))) (xs:=K1 n) λk hk=>h k (qae.mp hk)
 exact⟨bs,by simpa using h1,h2,h3⟩
theorem wb {α β γ:Type}{f:α->D}{P:β->Prop}{body:D->DEnv->Wq Out}{E:Ww β->γ->DEnv}:∀{xs:Ww α}{acc:Ww β}{y:γ},acc.length+xs.length<=1000->(∀x∈xs,∀acc y,acc.length<=1000->∃b y',P b/\body (f x) (E acc y)=U (.next (E (acc++[b]) y')))->∃bs y',bs.length=xs.length/\(∀b∈bs,P b)/\am body (xs.map f) (E acc y)=U (.next (E (acc++bs) y'))
 |[],acc,y,_,_=>⟨[],y,rfl,(λ_ h=>nomatch h),by simp[am]⟩
 |x::xs,acc,y,hl,h=>by
  simp![Kl]at hl;let⟨b,y1,hb,e⟩:=h x (.head _) acc y (by lia)
  let⟨bs,y2,h1,h2,h3⟩:=wb (xs:=xs) (acc:=acc++[b]) (y:=y1) (by simp;lia) λx hx=>h x (.tail _ hx)
  refine⟨b::bs,y2,by simp[h1],λc hc=>?_,?_⟩
  ·grind
  ·unfold am;simp_all
def vX {β γ:Type}{P:β->Prop}{body:D->DEnv->Wq Out}{E:Ww β->γ->DEnv}{n:Nat}(hn:n<=900) {y:γ}(h:∀k:Nat,k<n->∀acc y,acc.length<=1000->∃b y',P b/\body (.int (0+(k:Int))) (E acc y)=U (.next (E (acc++[b]) y'))):∃bs y',bs.length=n/\(∀b∈bs,P b)/\am body (kg 0 n) (E [] y)=U (.next (E bs y')):=by
 let⟨bs,y',h1,h2,h3⟩:=wb (f:=λk:Nat=>D.int (0+(k:Int))) (xs:=K1 n) (acc:=[]) (y:=y) (E:=E) (by simp;lia) λk hk=>h k (qae.mp hk)
 exact⟨bs,y',by simpa using h1,h2,h3⟩
theorem ka {α β γ:Type}{f:α->D}{h:α->β}{body:D->DEnv->Wq Out}{E:Ww β->γ->DEnv}:∀{xs:Ww α}{acc:Ww β}{y:γ},acc.length+xs.length<=1000->(∀x∈xs,∀acc y,acc.length<=1000->∃y',body (f x) (E acc y)=U (.next (E (acc++[h x]) y')))->∃y',am body (xs.map f) (E acc y)=U (.next (E (acc++xs.map h) y'))
 |[],acc,y,_,_=>⟨y,by simp[am]⟩
 |x::xs,acc,y,hl,hb=>by
  simp![Kl]at hl;let⟨y1,e⟩:=hb x (.head _) acc y (by lia)
  let⟨y2,h3⟩:=ka (xs:=xs) (acc:=acc++[h x]) (y:=y1) (by simp;lia) λx hx=>hb x (.tail _ hx)
  exact⟨y2,by unfold am;simp_all⟩
def sqO {i:Nat}{x:Wq D}{d:D}{δ:DEnv}{g:DEnv->Wq Out}{r:Wq Out}(h:x=U d) (k:g (δ.set i (U (d,Y)))=r) (hi:PP i δ.length=V:=by rfl):ak (aE i x δ) g=r:=by
 simp_all
def sqF {i:Nat}{x:Wq D}{d:D}{δ:DEnv}{g:DEnv->Wq Out}{r:Wq Out}(h:x=U d) (k:g (δ.set i (U (d,V)))=r) (hi:PP i δ.length=V:=by rfl):ak (dF i x δ) g=r:=by
 simp_all
def rtG {x:Wq D}{d:D}(h:x=U d):bp x=U (.ret d Y):=by subst h;rfl
def stT {c:Wq Bool}{x y:Wq Out}{d:D}{b:Bool}{g:DEnv->Wq Out}(h:c=U V) (k:x=U (.ret d b)):j3 (ak (ifO c x y) g)=U (d,b):=by
 subst h k;rfl
def FZ {x y z:Wq D}{a b c:D}(h:x=U a) (h':y=U b) (h2:z=U c):bw (aa x (aa y (aa z (U []))))=U (.tup [a,b,c]):=by simp_all
def JF {x y z u:Wq D}{a b c d:D}(h:x=U a) (h':y=U b) (h2:z=U c) (h3:u=U d):bw (aa x (aa y (aa z (aa u (U [])))))=U (.tup [a,b,c,d]):=by simp_all
def xM {α:Type}{f:α->D}(hf:∀a b,f a=f b->a=b) (ok:∀a,okD 16 (f a)=V) (a:α) (as:Ww α) [Decidable (a∈as)]:be (U (f a)) (U (.lst (as.map f)))=U (!decide (a∈as)):=by
 unfold be inO;simp![cQ,b2,ae,gd];rw[if_pos]
 ·show U (!_)=_
  grind
 simp_all
def ifT {c:Wq Bool}{x y r:Wq Out}{g:DEnv->Wq Out}(h:c=U V) (k:ak x g=r):ak (ifO c x y) g=r:=by subst h;exact k
def ifF {c:Wq Bool}{x y r:Wq Out}{g:DEnv->Wq Out}(h:c=U Y) (k:ak y g=r):ak (ifO c x y) g=r:=by subst h;exact k
def sqA {x r:Wq Out}{f g:DEnv->Wq Out}(k:ak x (λδ=>ak (f δ) g)=r):ak (ak x f) g=r:=by
 subst k;cases x with
 |none=>rfl
 |some o=>cases o<;>rfl
def sqN {x r:Wq Out}{δ:DEnv}{g:DEnv->Wq Out}(h:x=U (.next δ)) (k:g δ=r):ak x g=r:=by subst h;exact k
theorem ij {α β γ:Type}{f:α->D}{h:α->Ww β}{body:D->DEnv->Wq Out}{E:Ww β->γ->DEnv}{Ri:Nat}:∀{xs:Ww α}{acc:Ww β}{y:γ},acc.length+(xs.flatMap h).length<=Ri->(∀x∈xs,∀acc y,acc.length+(h x).length<=Ri->∃y',body (f x) (E acc y)=U (.next (E (acc++h x) y')))->∃y',am body (xs.map f) (E acc y)=U (.next (E (acc++xs.flatMap h) y'))
 |[],acc,y,_,_=>⟨y,by simp[am]⟩
 |x::xs,acc,y,hl,hb=>by
  rw[NI,K0]at hl;let⟨y1,e⟩:=hb x (.head _) acc y (by lia)
  let⟨y2,h3⟩:=ij (xs:=xs) (acc:=acc++h x) (y:=y1) (by rw[K0];lia) λx hx=>hb x (.tail _ hx)
  exact⟨y2,by unfold am;simp_all⟩
def F3 {δ:DEnv}{i:Nat}{ds:Ww D}{x:Wq D}{d:D}(hx:x=U d) (h:δ[i]?=U (U (.lst ds,V))) (hl:ds.length<=100000):jb i x δ=U (.next (δ.set i (U (.lst (ds++[d]),V)))):=by
 subst hx;exact gF d h (by simp;lia)
def Jv {δ:DEnv}{i:Nat}{ds es:Ww D}{x:Wq D}(hx:x=U (.lst es)) (h:δ[i]?=U (U (.lst ds,V))) (hl:ds.length+es.length<=100000):DB i x δ=U (.next (δ.set i (U (.lst (ds++es),V)))):=by
 subst hx;exact C4 h (by simp;lia)
theorem sX {α β:Type}{f:α->Wq β}:∀xs:Ww α,xs.flatMap (λx=>(f x).toList)=xs.filterMap f
 |[]=>rfl
 |x::xs=>by rw[NI,Nt,sX xs];cases f x<;>rfl
theorem vD {α β:Type}{h:α->Ww β}{k:Nat}:∀{xs:Ww α},(∀x∈xs,(h x).length<=k)->(xs.flatMap h).length<=k*xs.length
 |[],_=>Kh _
 |x::xs,hh=>by
  let h1:=hh x (.head _);let h2:=vD (xs:=xs) λy hy=>hh y (.tail _ hy)
  rw[NI,K0,Kl,OM];lia
def ov {α:Type}{f:α->D}(h1:∀a,okD 15 (f a)=V) (h2:∀a b,(ltD 15 (f a) (f b)).isSome=V) (as:Ww α):eG (as.map f)=V:=by
 unfold eG
 simp_all
def fA {α:Type}{f:α->D}{p:D->Bool}(h:∀a,p (f a)=V) (as:Ww α):(as.map f).all p=V:=by simp_all
def BM {α:Type}{F:α->D}{l:Ww D}{P:α->Prop}(h:∀x∈l,∃a,P a/\x=F a):∃as:Ww α,l=as.map F/\∀a∈as,P a:=by
 induction l with
 |nil=>exact⟨[],rfl,by simp⟩
 |cons x l ih=>
  let⟨a,pa,e⟩:=h x (Kg ..);let⟨as,e2,pas⟩:=ih λy hy=>h y (Kb _ hy)
  refine⟨a::as,by rw[e,e2];rfl,λb hb=>?_⟩
  grind
open L2.G (eC scD uniqD_mem il uniqD_nodup) in
theorem wY {α:Type}{f:α->D}(hf:∀a b,f a=f b->a=b) (xs:Ww α):∃ys:Ww α,dh (eC (xs.map f))=ys.map f/\ys.Nodup/\(∀a,a∈ys↔a∈xs)/\ys.length<=xs.length:=by
 let hp:=aH (eC (xs.map f));let⟨ys,e,_⟩:=BM (F:=f) (P:=λ_=>True) (l:=dh (eC (xs.map f))) λd hd=>by
  let⟨a,_,e⟩:=mt.mp ((uniqD_mem _ _).mp (hp.mem_iff.mp hd));exact⟨a,trivial,e.symm⟩
 let hm:∀a,a∈ys↔f a∈ys.map f:=λa=>⟨LU,λh=>by grind⟩
 refine⟨ys,e,(qaD.mp (e▸hp.nodup_iff.mpr (uniqD_nodup _))).imp λh z=>h (z▸rfl),λa=>?_,?_⟩
 ·rw[hm,<-e,hp.mem_iff,uniqD_mem]
  exact⟨λh=>by grind,LU⟩
 ·have:=hp.length_eq
  rw[e,J8]at this;let h2:=il (xs.map f);rw[J8]at h2;lia
open L2.G (eC scD il) in
theorem EH {α:Type}{f:α->D}{c:KD}{sc:Bool}(k1:∀a,i9 c (f a)=V) (k2:∀a,dn 8 (f a)=V) (k3:∀a,(scD (f a)==sc)=V) (hc:∀as:Ww α,eG (as.map f)=V) {xs:Ww α}(h:xs.length<64):sortSetO c sc (U (.lst (xs.map f)))=U (.lst (dh (eC (xs.map f)))):=by
 let hu:=il (xs.map f);rw[J8]at hu;unfold sortSetO;dsimp only;rw[if_pos];rw[hc,fA k1,fA k2,fA (p:=λd=>scD d==sc) k3,decide_eq_true (by lia)]
 rfl
def ifG {c:Wq Bool}{x y r:Wq Out}(h:c=U V) (k:x=r):ifO c x y=r:=by subst h;exact k
def ifN {c:Wq Bool}{x y r:Wq Out}(h:c=U Y) (k:y=r):ifO c x y=r:=by subst h;exact k
def shG {x:Wq (D×Bool)}{d:D}{b:Bool}(h:x=U (d,b)):shO x=U d:=by subst h;rfl
theorem fF {α σ γ:Type}{f:α->D}{F:σ->α->σ}{m:σ->Nat}{body:D->DEnv->Wq Out}{E:σ->γ->DEnv}{k Ri:Nat}:∀{xs:Ww α}{s:σ}{y:γ},m s+k*xs.length<=Ri->(∀x∈xs,∀s y,m s+k<=Ri->m (F s x)<=m s+k/\∃y',body (f x) (E s y)=U (.next (E (F s x) y')))->m (xs.foldl F s)<=m s+k*xs.length/\∃y',am body (xs.map f) (E s y)=U (.next (E (xs.foldl F s) y'))
 |[],s,y,_,_=>⟨Kh _,y,rfl⟩
 |x::xs,s,y,hl,h=>by
  rw[Kl,OM]at hl⊢;let⟨h1,y1,e⟩:=h x (.head _) s y (by lia)
  let⟨h2,y2,e2⟩:=fF (xs:=xs) (s:=F s x) (y:=y1) (by lia) λx hx=>h x (.tail _ hx)
  rw[Ml];exact⟨by lia,y2,by rw[Ka];unfold am;rw[e];exact e2⟩
end K41
namespace K41
open PySem L2 JP
variable[Md]
def na:(("name":Kr)="any")=False:=by trivial
theorem at0 (a b:D):atI [a,b] 0=U a:=rfl
theorem at1 (a b:D):atI [a,b] 1=U b:=rfl
def Jw (a:D) (r:Ww D):atI (a::r) 0=U a:=by unfold atI ixN;simp
theorem tK:∀ts:Ww Te,(ans ts).length<=ts.length
 |[]=>Kh _
 |.any m::ts=>by have:=tK ts;simp[ans];lia
 |.nm w::ts=>by have:=tK ts;simp[ans];lia
def aI (ps:Ww Pat):Ww Kr:=(ps.map λp=>ans p.2).flatten
def bU {ps:Ww Pat}{l:Kr}:l∈aI ps↔∃p∈ps,l∈ans p.2:=by
 unfold aI;grind
theorem aw:∀{ps:Ww Pat},(∀p∈ps,p.2.length<=4)->(aI ps).length<=4*ps.length
 |[],_=>Kh _
 |p::ps,h=>by
  let h1:=aw λq hq=>h q (Kb _ hq)
  let h2:=tK p.2;let h3:=h p (Kg ..);have:aI (p::ps)=ans p.2++aI ps:=by simp[aI]
  rw[this,K0,Kl]
  lia
def AL (ts:Ww Te):aO (aC (af 4) (λδ=>eqO (ixO (rd Y 4 δ) (U (.int 0))) (U (.str "any"))) gH [B,B,B,B,B]) (ts.map teD)=U ((ans ts).map D.str):=by
 induction ts with
 |nil=>rfl
 |cons c ts ih=>
  rw[Ka];unfold aO;rw[ih];cases c with
  |any n=>rfl
  |nm w=>rfl
def oV:∀as:Ww Kr,eG (as.map D.str)=V:=ov (λ_=>rfl) λ_ _=>rfl
noncomputable def sL (ss:Ww Kr):Ww Kr:=(wY (f:=D.str) (λ_ _=>D.str.inj) ss).choose
noncomputable abbrev sU (ss:Ww Kr):Ww D:=(sL ss).map D.str
def oZ (ss:Ww Kr):(sL ss).Nodup/\(∀x,x∈sL ss↔x∈ss)/\(sL ss).length<=ss.length:=(wY (f:=D.str) (λ_ _=>D.str.inj) ss).choose_spec.2
def pG {ss:Ww Kr}(h:ss.length<64):sortSetO .st V (U (.lst (ss.map D.str)))=U (.lst (sU ss)):=by
 rw[EH (λ_=>rfl) (λ_=>rfl) (λ_=>rfl) oV h,(wY (f:=D.str) (λ_ _=>D.str.inj) ss).choose_spec.1];rfl
def ay {ps:Ww Pat}(hl:ps.length<=4) (h4:∀p∈ps,p.2.length<=4):f_letters_of [.lst (ps.map aG)]=U (.lst (sU (aI ps)),V):=by
 let hz:=aw h4;let⟨y,e⟩:=ij (γ:=Wq (D×Bool)×Wq (D×Bool)) (f:=aG) (h:=λp:Pat=>ans p.2) (xs:=ps) (acc:=[]) (y:=(B,B)) (Ri:=16) (body:=λd δ=>ae ((aB (ah (af 2) (ah (af 3) (toNil)))) d δ) gn) (E:=λacc y=>[U (.lst (ps.map aG),Y),U (.lst (acc.map D.str),V),y.1,y.2,B]) (by show 0+(aI ps).length<=_;lia) λp hp acc y hb=>by
  have:=h4 p hp;refine⟨(U (.str p.1,Y),U (.tup (p.2.map teD),Y)),bN rfl ?_⟩
  rw[Kn];exact Jv (m3 (ds:=p.2.map teD) rfl (by simp;lia) rfl (AL p.2) (by simp;lia)) rfl (by simp;lia)
 exact opn rfl (stF (d:=.lst []) (lstO_s _ (by simp)) (stN e (rF (pG (ss:=aI ps) (by lia)))))
def o8 (ss:Ww Kr):∃us:Ww Kr,sU ss=us.map D.str/\us.Nodup/\(∀x,x∈us↔x∈ss)/\us.length<=ss.length:=⟨_,rfl,oZ ss⟩
def bD (b:Bi):D:=.dK (b.map λq=>.inr q.1) (b.map λq=>ceD q.2)
theorem zB (b:Bi) (δ:DEnv):aN 0 (U (bD b,V)::δ)=U (bD b):=rfl
theorem yS (l:Kr):∀b:Bi,bP (.inr l:Key) (b.map λq=>(.inr q.1:Key)) (b.map λq=>ceD q.2)=(gt b l).map ceD
 |[]=>rfl
 |(k,c)::b=>by
  rw[Ka,Ka,bP,ja,yS l b]
  grind
def yx (b:Bi) (l:Kr):jo (U (bD b)) (U (.str l))=U ((gt b l).map ceD):=by
 unfold bD jo;simp![sH,yS]
def pR {b:Bi}{l:Kr}(h:gt b l=B):l∉b.map (·.1):=by
 induction b with
 |nil=>simp
 |cons q b ih=>
  rw[ja]at h
  grind
def Ev {b:Bi}{l:Kr}{c:Ce}(h:gt b l=B) (hl:b.length<1000000):rJ (bD b) (.str l) (ceD c)=U (bD (b++[(l,c)])):=by
 unfold bD rJ;let hm:(.inr l:Key)∉b.map λq=>(.inr q.1:Key):=λz=>by
  let⟨q,hq,e⟩:=mt.mp z;exact pR h (mt.mpr ⟨q,hq,by lia⟩)
 simp![sH,J8];rw[if_pos (by assumption)]
 unfold bK kK;rw[if_neg hm,if_neg hm];simp
def Bp (c:Ce):okD 16 (ceD c)=V:=by cases c<;>rfl
def mf (a b:Ce):neO (U (ceD a)) (U (ceD b))=U (!decide (a=b)):=by
 rw[FM _ _ (by unfold ok2;rw[Bp,Bp];rfl)]
 congr 2;exact decide_eq_decide.mpr ⟨gJ,λh=>by rw[h]⟩
def HZ (a b:Ce):eqO (U (ceD a)) (U (ceD b))=U (decide (a=b)):=by
 rw[wF _ _ (by unfold ok2;rw[Bp,Bp];rfl)]
 congr 1;exact decide_eq_decide.mpr ⟨gJ,λh=>by rw[h]⟩
def DH (w:Kr) (c:Ce):neO (U (teD (.nm w))) (U (ceD c))=U (!decide (Ce.nm w=c)):=mf (.nm w) c
theorem mF:∀(ts:Ww Te) (cs:Ww Ce),iH (ts.map teD) (cs.map ceD)=(ts.zip cs).map λq=>.tup [teD q.1,ceD q.2]
 |[],cs=>by rfl
 |t::ts,[]=>by rfl
 |t::ts,c::cs=>by simp[iH,mF ts cs]
theorem lh:∀(ts:Ww Te) (cs:Ww Ce) (b:Bi) (a0 a1 x3 x4:Wq (D×Bool)),b.length+ts.length<1000->
  (match bnd ts cs b with
  |some b'=>∃y3 y4,am (λd δ=>ae ((aB (ah (af 3) (ah (af 4) (toNil)))) d δ) bv) ((ts.zip cs).map λq=>.tup [teD q.1,ceD q.2]) [a0,a1,U (bD b,V),x3,x4]=U (.next [a0,a1,U (bD b',V),y3,y4])
  |none=>am (λd δ=>ae ((aB (ah (af 3) (ah (af 4) (toNil)))) d δ) bv) ((ts.zip cs).map λq=>.tup [teD q.1,ceD q.2]) [a0,a1,U (bD b,V),x3,x4]=U (.ret .non Y))
 |[],cs,b,a0,a1,x3,x4,_=>⟨x3,x4,by rfl⟩
 |.any l::ts,[],b,a0,a1,x3,x4,_=>⟨x3,x4,by rfl⟩
 |.nm l::ts,[],b,a0,a1,x3,x4,_=>⟨x3,x4,by rfl⟩
 |.any l::ts,c::cs,b,a0,a1,x3,x4,hl=>by
  let ih:=λb hb=>lh ts cs b a0 a1 (U (teD (.any l),Y)) (U (ceD c,Y)) hb
  rw[Kl]at hl;rw[MS,Ka];unfold am;let e0:eqO (ixO (rd Y 3 [a0,a1,U (bD b,V),U (teD (.any l),Y),U (ceD c,Y)]) (U (.int 0))) (U (.str "any"))=U V:=by simp[teD,at0,aY]
  let e1:ixO (rd Y 3 [a0,a1,U (bD b,V),U (teD (.any l),Y),U (ceD c,Y)]) (U (.int 1))=U (.str l):=by simp[teD,at1]
  let e2:rd Y 4 [a0,a1,U (bD b,V),U (teD (.any l),Y),U (ceD c,Y)]=U (ceD c):=by simp
  simp![toTup_s,toCons_s,toNil_s,toName_s,Mk,Kl,LO,bindO_s,Ke,Kd,Ou,OL];simp![bv,e0,ifO_t,gw,e1,e2,sdO,rdOwn_1,zB,yx,bnd];cases eg:gt b l with
  |some c'=>
   simp![Option.map_some,neX,bindO_s,e2,mf]
   by_cases hc:c'=c
   ·simp![hc,decide_true,Mu,ifX,nextO_s,if_true]
    have:=ih b (by lia)
    cases eb:bnd ts cs b with
    |some b'=>rw[eb]at this;exact this
    |none=>rw[eb]at this;exact this
   simp[hc,decide_false,NL,ifX,retO_s,if_false]
  |none=>
   simp![Option.map_none,Ev eg (show b.length<1000000 by lia)]
   simp![neX,bindO_s,Ke,Kd];let e3:rd Y 4 [a0,a1,U (bD (b++[(l,c)]),V),U (teD (.any l),Y),U (ceD c,Y)]=U (ceD c):=by simp
   simp![e3,mf,decide_true,Mu,ifX,nextO_s];have:=ih (b++[(l,c)]) (by simp;lia)
   cases eb:bnd ts cs (b++[(l,c)])with
   |some b'=>rw[eb]at this;exact this
   |none=>rw[eb]at this;exact this
 |.nm w::ts,c::cs,b,a0,a1,x3,x4,hl=>by
  let ih:=lh ts cs b a0 a1 (U (teD (.nm w),Y)) (U (ceD c,Y)) (by simp at hl;lia)
  rw[MS,Ka];unfold am;let e0:eqO (ixO (rd Y 3 [a0,a1,U (bD b,V),U (teD (.nm w),Y),U (ceD c,Y)]) (U (.int 0))) (U (.str "any"))=U Y:=by simp[teD,at0,aY,na]
  let e1:rd Y 3 [a0,a1,U (bD b,V),U (teD (.nm w),Y),U (ceD c,Y)]=U (teD (.nm w)):=by simp
  let e2:rd Y 4 [a0,a1,U (bD b,V),U (teD (.nm w),Y),U (ceD c,Y)]=U (ceD c):=by simp
  simp![toTup_s,toCons_s,toNil_s,toName_s,Mk,Kl,LO,bindO_s,Ke,Kd,Ou,OL];let e00:eqO (ixO (U (teD (.nm w))) (U (.int 0))) (U (.str "any"))=U Y:=by simp[teD,at0,aY,na]
  simp![bv,e0,e00,ifO_f,e1,e2,DH,bnd]
  by_cases hc:Ce.nm w=c
  ·simp![hc,decide_true,Mu,ifO_f,nextO_s,if_true]
   exact ih
  simp_all
def o0 (ts:Ww Te) (cs:Ww Ce) (hl:ts.length<=4):f_binding_of [.tup (ts.map teD),.tup (cs.map ceD)]=U (match bnd ts cs []with|some b=>(bD b,V)|none=>(.non,Y)):=by
 rw[av (f:=f_binding_of) (δ:=[U (.tup (ts.map teD),Y),U (.tup (cs.map ceD),Y),B,B,B]) rfl rfl rfl];have:=lh ts cs [] (U (.tup (ts.map teD),Y)) (U (.tup (cs.map ceD),Y)) B B (by simp;lia)
 let e0:(.dK [] []:D)=bD []:=rfl;simp![eZ,setF_s,Kl,LO,Ou,OL,Ke,Kd,seqO_n,rd_0,rd_1,yh,HK,if_true,tupL_s,bindO_s,mF,e0];cases eb:bnd ts cs []with
 |some b=>
  rw[eb]at this;let⟨y3,y4,e⟩:=this
  simp_all [zB]
 |none=>
  simp_all
end K41
namespace K41
open PySem L2 JP
variable[Md]
def zm (r:Row) (p:Pat):jC (eqO (U (.str r.1)) (U (.str p.1))) (eqO (cK (U (.tup (r.2.map ceD)))) (cK (U (.tup (p.2.map teD)))))=U (decide (r.1=p.1/\r.2.length=p.2.length)):=by
 rw[aY,lenL_t,lenL_t,eqO_int]
 by_cases h1:r.1=p.1<;>simp[h1,Int.natCast_inj]
def uF {p:Pat}(h4:p.2.length<=4) {rs:Ww Row}(hl:rs.length<=1000):f_bindings [.lst (rs.map rowD),aG p]=U (.lst ((binds rs p).map bD),V):=by
 let ef:rs.flatMap (λr=>(ui p r).toList)=binds rs p:=sX rs
 let hb:(binds rs p).length<=rs.length:=Me ..;let⟨y,e⟩:=ij (γ:=Wq (D×Bool)×Wq (D×Bool)×Wq (D×Bool)) (f:=rowD) (h:=λr=>(ui p r).toList) (xs:=rs) (acc:=[]) (y:=(B,B,B)) (Ri:=1000) (body:=λd δ=>ae ((aB (ah (af 3) (ah (af 4) (toNil)))) d δ) jO) (E:=λacc y=>[U (.lst (rs.map rowD),Y),U (aG p,Y),U (.lst (acc.map bD),V),y.1,y.2.1,y.2.2]) (by rw[ef,LO];lia) λr _ acc y ha=>by
  let hc:=zm r p;unfold ui at ha⊢
  by_cases h:r.1=p.1/\r.2.length=p.2.length
  ·rw[decide_eq_true h]at hc
   rw[if_pos h]at ha⊢;let eb:=o0 p.2 r.2 h4;cases e:bnd p.2 r.2 []with
   |some b=>
    rw[e]at ha eb;refine⟨(U (.str r.1,Y),U (.tup (r.2.map ceD),Y),U (bD b,Y)),bN rfl ?_⟩
    rw[Kn];exact ifG hc (sqO (shG eb) (ifG rfl (F3 rfl rfl (by rw[J8];simp at ha;lia))))
   |none=>
    rw[e]at eb;exact⟨(U (.str r.1,Y),U (.tup (r.2.map ceD),Y),U (.non,Y)),bN rfl (by rw[N1,Ls];exact ifG hc (sqO (shG eb) rfl))⟩
  ·rw[decide_eq_false h]at hc
   rw[if_neg h];exact⟨(U (.str r.1,Y),U (.tup (r.2.map ceD),Y),y.2.2),bN rfl (by rw[N1,Ls];exact ifN hc rfl)⟩
 rw[ef]at e;exact opn rfl (stF (d:=.lst []) (lstO_s _ (by simp)) (stN e (rF rfl)))
def qx (rs:Ww Row) (p:Pat):(binds rs p).length<=rs.length:=Me ..
def prD (rs:Ww Row) (p:Pat):D:=.tup [aG p,.lst ((binds rs p).map bD)]
def jm (l:Kr) (ss:Ww Kr):inO (U (.str l)) (U (.lst (ss.map D.str)))=U (decide (l∈ss)):=by
 unfold inO;simp![cQ,b2,ae,gd];rw[if_pos]
 ·simp
 ·rw[J9,Kw]
  refine⟨rfl,λx hx=>?_⟩
  let⟨c,_,rfl⟩:=mt.mp hx;rfl
def B7 (bs:Ww Bool):xj (bs.map D.bl)=U bs:=by
 induction bs with
 |nil=>rfl
 |cons b bs ih=>simp[xj,ih]
def lk (ks:Ww Kr) (p:Pat):Bool:=(ans p.2).any λl=>decide (l∈ks)
def yC (p:Pat) (h4:p.2.length<=4) (ks:Ww Kr):f_is_linked [aG p,.lst (ks.map D.str)]=U (.bl (lk ks p),Y):=by
 rw[av (f:=f_is_linked) (δ:=[U (aG p,Y),U (.lst (ks.map D.str),Y),B]) rfl rfl rfl];let el:=ay (ps:=[p]) (by simp) (by simpa using h4)
 let⟨us,e1,_,e3,e4⟩:=o8 (aI [p]);rw[e1]at el;let hul:us.length<=1000:=by
  have:=aw (ps:=[p]) (by simpa using h4)
  simp at this;lia
 simp![gT,rd_0,rd_1,consO_s,bindO_s];rw[lstO_s _ (by simp)]
 simp![Ka,OF]at el;simp![consO_s,bindO_s,el,frO_s,lstL_s];rw[bF (by simp;lia)]
 let hc:aO (aC (af 2) (λδ=>U V) dW (aF Y [Y,V,Y] [U (aG p,Y),U (.lst (ks.map D.str),Y),B])) (us.map D.str)=U ((us.map λl=>decide (l∈ks)).map D.bl):=by
  rw[kF (g:=λd=>match d with|.str l=>.bl (decide (l∈ks))|d=>d)]
  ·simp
  ·simp[aC,aF,dW,jm]
 rw[hc];simp![lstLim_s,H7,B7,bindO_s,retO_s,outF_r];congr 3;rw[ME];unfold lk
 simp_all [PX,NH,id_eq,aI]
theorem pr {a b:Te}(h:teD a=teD b):a=b:=by
 cases a<;>cases b<;>simp[teD]at h
 ·rw[h]
 ·exact absurd h.1 (by decide +kernel)
 ·exact absurd h.1 (by decide +kernel)
 ·rw[h]
theorem th {α:Type}{f:α->D}(hf:∀a b,f a=f b->a=b):∀{l m:Ww α},l.map f=m.map f->l=m
 |[],[],_=>rfl
 |[],_::_,h=>by simp at h
 |_::_,[],h=>by simp at h
 |a::l,b::m,h=>by
  simp![Ka,MP]at h;rw[hf _ _ h.1,th hf h.2]
def AH {p q:Pat}(h:aG p=aG q):p=q:=by
 simp[aG]at h;exact Prod.ext h.1 (th (λ_ _=>pr) h.2)
def Ej (t:Te):D.flat (teD t)=V:=by cases t<;>rfl
def AV (p:Pat):D.flat (aG p)=V:=by
 have:D.flats (p.2.map teD)=V:=by rw[D.flats_all,Kw];intro x hx;let⟨t,_,rfl⟩:=mt.mp hx;exact Ej t
 simp[aG,D.flat,D.flats,this]
def CW (p:Pat):okD 15 (aG p)=V:=by
 simp![aG,okD,KG,NJ,MY,Nv,Kw];intro x hx;let⟨t,_,rfl⟩:=mt.mp hx;cases t<;>rfl
def nW (ss:Ww Kr):D.flats (ss.map D.str)=V:=by
 rw[D.flats_all,Kw];intro x hx;let⟨t,_,rfl⟩:=mt.mp hx;rfl
theorem sB {f:D->Wq Bool}{g:Pat->Bool}{h:Pat->D}:∀{ps:Ww Pat},(∀p∈ps,f (h p)=U (g p))->cO f (ps.map h)=U (ps.map g)
 |[],_=>rfl
 |p::ps,e=>by simp![Ka,cO,e p (Kg ..),sB λq hq=>e q (Kb _ hq)]
nonrec theorem yF {bl:Ww Bool}(h:bl≠[]):bu bl<bl.length:=by
 unfold bu;split
 ·rename_i m;exact LI m
 ·exact qag.mpr h
nonrec theorem yy {bl:Ww Bool}{i:Nat}(h:i<bu bl):bl[i]?=U Y/\bl[bu bl]?=U V:=by
 unfold bu at h⊢;split at h
 ·rename_i m
  let hl:=LI m;let h1:=QQ (p:=λz=>z==V) (xs:=bl) (i:=i) h
  let hi:i<bl.length:=by lia
  refine⟨?_,?_⟩
  ·simp_all
  ·simp_all
 ·lia
nonrec theorem Fh (rs:Ww Row) (ks:Ww Kr) (hk:ks.length<=1000) {rest placed:Ww Pat}(h4:∀p∈rest++placed,p.2.length<=4) (hne:rest≠[]) (hl:rest.length+placed.length<=4) (a0 a1 x5 x6 x7 x8 x9:Wq (D×Bool)):
  ∃j y5 y6 y7,j<rest.length/\bB [a0,a1,U (.lst (ks.map D.str),Y),U (.lst (rest.map (prD rs)),V),U (.lst (placed.map (prD rs)),V),x5,x6,x7,x8,x9]=
   U (.next [a0,a1,U (.lst (ks.map D.str),Y),U (.lst ((rest.eraseIdx j).map (prD rs)),V),U (.lst ((placed++(rest[j]?).toList).map (prD rs)),V),y5,y6,y7,x8,x9]):=by
 let hpl:placed.length<=4:=by lia
 let el:=ay (ps:=placed) hpl (λp hp=>h4 p (Ly _ hp))
 let⟨us,e1,_,e3,e4⟩:=o8 (aI placed);let e5:=aw (ps:=placed) (λp hp=>h4 p (Ly _ hp))
 rw[e1]at el;let hc:aO (aC (af 9) (λδ=>U V) bE (aF V [Y,Y,Y,Y,Y,Y,Y,Y,Y,Y] [a0,a1,U (.lst (ks.map D.str),Y),U (.lst (rest.map (prD rs)),V),U (.lst (placed.map (prD rs)),V),x5,x6,x7,x8,x9])) (placed.map (prD rs))=U (placed.map aG):=by
  have:(placed.map aG)=(placed.map (prD rs)).map λd=>match d with|.tup (x::_)=>x|d=>d:=by rw[K6];rfl
  rw[this,kF];intro d hd;let⟨p,_,rfl⟩:=mt.mp hd;simp[aC,aF,bE,prD,at0]
 let hfl:D.flats (placed.map aG)=V:=by rw[D.flats_all,Kw];intro x hx;let⟨t,_,rfl⟩:=mt.mp hx;exact AV t
 let hb:mn (iS (U (.lst (ks.map D.str)))) (flO (ae (aa (aq (nQ (ae (bi (U (.lst (placed.map (prD rs))))) (bJ V [Y,Y,Y,Y,Y,Y,Y,Y,Y,Y] (af 9) (λδ=>U V) bE [a0,a1,U (.lst (ks.map D.str),Y),U (.lst (rest.map (prD rs)),V),U (.lst (placed.map (prD rs)),V),x5,x6,x7,x8,x9])))) (U [])) f_letters_of))=U (.lst ((ks++us).map D.str)):=by
  simp![lstL_s,bindO_s];rw[bF (by simp;lia),hc]
  simp![nQ,hfl,if_true,lstLim_s,consO_s,bindO_s,el,flO,nW,listO_l];rw[catO_s _ _ (by simp;lia)]
  simp
 let hf:cO (λd=>b8 ((aF Y [Y,Y,Y,Y,Y,V,Y,Y,Y,Y] [a0,a1,U (.lst (ks.map D.str),Y),U (.lst (rest.map (prD rs)),V),U (.lst (placed.map (prD rs)),V),U (.lst ((ks++us).map D.str),Y),x6,x7,x8,x9]).set 9 (U (d,Y)))) (rest.map (prD rs))=U (rest.map (lk (ks++us))):=by
  refine sB λp hp=>?_
  have:=yC p (h4 p (Li _ hp)) (ks++us);simp![b8,aF,List.zipWith,Ke,Kd,rd_1,rd_0];let e9:∀(x:Wq D),x=U (.lst ((ks++us).map D.str))->tyB (shO (ae (aa (ixO (U (prD rs p)) (U (.int 0))) (aa x (U []))) f_is_linked))=U (lk (ks++us) p):=λx hx=>by rw[hx];simp![prD,ixO_t,at0,consO_s,bindO_s,this,shO_s,tyB_s]
  exact e9 _ rfl
 let hbl:rest.map (lk (ks++us))≠[]:=by simpa using hne
 let hj:bu (rest.map (lk (ks++us)))<rest.length:=by have:=yF hbl;simpa using this
 generalize hjj:bu (rest.map (lk (ks++us)))=j at hj;let hgd:(rest.map (prD rs)).getD j .non=prD rs rest[j]:=by rw[Lk];simp[hj]
 refine⟨j,U (.lst ((ks++us).map D.str),Y),U (.lst (fM (rest.map (prD rs)) (rest.map (lk (ks++us)))),V),U (prD rs rest[j],Y),hj,?_⟩
 let hrd:rd V 4 [a0,a1,U (.lst (ks.map D.str),Y),U (.lst (rest.map (prD rs)),V),U (.lst (placed.map (prD rs)),V),x5,x6,x7,x8,x9]=U (.lst (placed.map (prD rs))):=rfl;simp![bB,hrd,rd_1,rd_0,hb];rw[setO_s _ _ _ (by simp)]
 simp![seqO_n,Ke,Kd];unfold Aw;simp![NC,List.getElem?_cons_zero,hf]
 let h0:(rest.map (prD rs))[0]?=U (prD rs (rest[0]'(by lia))):=by simp[show 0<rest.length by lia]
 simp![h0,hjj];rw[if_pos]
 ·simp![eB,Ke,Kd,rd_1,rd_0,hgd]
  rw[gF (ds:=placed.map (prD rs)) _ rfl (by simp;lia)]
  let em:(rest.map (prD rs)).eraseIdx j=(rest.eraseIdx j).map (prD rs):=by rw[NP,NP,Kn,Pj,Pk]
  simp[em,hj]
 ·refine⟨⟨by simp,by simp,by simp,by simp;lia⟩,?_⟩
  rw[J9,Kw,Kw];refine⟨λd hd=>?_,λd hd=>?_⟩
  ·let⟨p,_,rfl⟩:=mt.mp hd;exact CW p
  ·let⟨i,hi⟩:=List.mem_iff_getElem?.mp hd
   rw[List.getElem?_take]at hi
   split at hi
   ·rename_i hij
    rw[Ky]at hi
    let⟨p,hp,rfl⟩:=Option.map_eq_some_iff.mp hi;rw[hgd];let⟨f1,f2⟩:=yy (bl:=rest.map (lk (ks++us))) (i:=i) (by rw[hjj];exact hij)
    rw[hjj]at f2;rw[Ky,hp]at f1
    rw[Ky,K7 hj]at f2
    simp![cY,prD,CW,MY,Nv,decide_eq_true_eq];intro e;rw[AH e,f2]at f1;cases f1
   ·cases hi
end K41
namespace K41
open PySem L2 JP
variable[Md]
theorem dy {α:Type}:∀{l:Ww α}{j:Nat}{x:α},l[j]?=U x->(x::l.eraseIdx j).Perm l
 |[],j,x,h=>by simp at h
 |a::l,0,x,h=>by simp_all
 |a::l,j+1,x,h=>by
  exact(PQ a x _).trans ((dy (by trivial)).cons a)
theorem nE (rs:Ww Row) (ks:Ww Kr) (hk:ks.length<=1000):∀(n:Nat) (rest placed:Ww Pat) (a0 a1 x5 x6 x7 x8 x9:Wq (D×Bool)) (fuel:Nat),rest.length=n->n<fuel->(∀p∈rest++placed,p.2.length<=4)->rest.length+placed.length<=4->∃o y5 y6 y7,o.Perm rest/\
  aV bC bB fuel [a0,a1,U (.lst (ks.map D.str),Y),U (.lst (rest.map (prD rs)),V),U (.lst (placed.map (prD rs)),V),x5,x6,x7,x8,x9]=
   U (.next [a0,a1,U (.lst (ks.map D.str),Y),U (.lst [],V),U (.lst ((placed++o).map (prD rs)),V),y5,y6,y7,x8,x9])
 |0,rest,placed,a0,a1,x5,x6,x7,x8,x9,fuel,hn,hf,h4,hl=>by
  have:rest=[]:=qam.mp hn;subst this;obtain⟨f,rfl⟩:∃f,fuel=f+1:=⟨fuel - 1,by lia⟩
  refine⟨[],x5,x6,x7,MI _,?_⟩
  unfold aV;have:bC [a0,a1,U (.lst (ks.map D.str),Y),U (.lst (([]:Ww Pat).map (prD rs)),V),U (.lst (placed.map (prD rs)),V),x5,x6,x7,x8,x9]=U Y:=rfl;rw[this];simp
 |n+1,rest,placed,a0,a1,x5,x6,x7,x8,x9,fuel,hn,hf,h4,hl=>by
  obtain⟨f,rfl⟩:∃f,fuel=f+1:=⟨fuel - 1,by lia⟩
  let hne:rest≠[]:=λz=>by simp_all
  let⟨j,y5,y6,y7,hj,e⟩:=Fh rs ks hk h4 hne hl a0 a1 x5 x6 x7 x8 x9;let hrj:rest[j]?=U rest[j]:=by simp[hj]
  let hp:=dy hrj;let hlen:(rest.eraseIdx j).length=n:=by have:=hp.length_eq;simp at this;lia
  let hm:∀p∈rest.eraseIdx j++(placed++rest[j]?.toList),p.2.length<=4:=λp hp'=>by
   grind
  let⟨o,z5,z6,z7,po,e'⟩:=nE rs ks hk n (rest.eraseIdx j) (placed++rest[j]?.toList) a0 a1 y5 y6 y7 x8 x9 f hlen (by lia) hm (by rw[hrj];simp;lia)
  refine⟨rest[j]::o,z5,z6,z7,(po.cons _).trans hp,?_⟩
  let ht:bC [a0,a1,U (.lst (ks.map D.str),Y),U (.lst (rest.map (prD rs)),V),U (.lst (placed.map (prD rs)),V),x5,x6,x7,x8,x9]=U V:=by
   cases rest with
   |nil=>exact absurd rfl hne
   |cons a b=>rfl
  unfold aV;rw[ht];simp![e];rw[e',hrj];simp
theorem v4 (rs:Ww Row):∀ps:Ww Pat,lu (λd=>aQ [U (d,Y)]) (ps.map (prD rs))=U (ps.map λp=>((binds rs p).length:Int))
 |[]=>rfl
 |p::ps=>by
  simp![Ka,lu,v4 rs ps];have:aQ [U (prD rs p,Y)]=U (.int (binds rs p).length):=by simp[aQ,prD,at1]
  rw[this]
def sS {f:Pat->D}(ps:Ww Pat) (ks:Ww Int) (h:ks.length=ps.length) (h5:ks.length<5):∃o:Ww Pat,o.Perm ps/\qU (ps.map f) ks=o.map f:=by
 let hp:=iV h5;rw[h]at hp;refine⟨(sO ks).filterMap λi=>ps[i]?,?_,?_⟩
 ·let e:(K1 ps.length).filterMap (λi=>ps[i]?)=ps:=by
   clear hp h;let key:∀(l pre:Ww Pat),((List.range' pre.length l.length).filterMap λi=>(pre++l)[i]?)=l:=by
    intro l
    induction l with
    |nil=>intro pre;rfl
    |cons a l ih=>
     intro pre;rw[Kl,List.range'_succ,Nt];have:(pre++a::l)[pre.length]?=U a:=by simp
     rw[this];have:=ih (pre++[a])
     simp_all
   have:=key ps []
   simpa[List.range_eq_range']using this
  grind
 ·unfold qU
  let hm:∀i∈sO ks,i<ps.length:=λi hi=>qae.mp (hp.mem_iff.mp hi)
  generalize sO ks=kp at hm
  induction kp with
  |nil=>rfl
  |cons i l ih=>
   simp_all
def kO (rs:Ww Row) (hrs:rs.length<=1000) (ks:Ww Kr) (hk:ks.length<=1000) {ps:Ww Pat}(h4:∀p∈ps,p.2.length<=4) (hl:ps.length<=4):∃o:Ww Pat,o.Perm ps/\
  f_search_order [.lst (rs.map rowD),.lst (ps.map aG),.lst (ks.map D.str)]=U (.lst (o.map (prD rs)),V):=by
 let⟨o1,p1,e1⟩:=sS (f:=prD rs) ps (ps.map λp=>((binds rs p).length:Int)) (by simp) (by simp;lia)
 let h41:∀p∈o1++[],p.2.length<=4:=λp hp=>h4 p (p1.mem_iff.mp (by simp_all))
 let hl1:o1.length=ps.length:=p1.length_eq;let⟨o,y5,y6,y7,po,e⟩:=nE rs ks hk o1.length o1 [] (U (.lst (rs.map rowD),Y)) (U (.lst (ps.map aG),Y)) B B B B B 1000 rfl (by lia) h41 (by simp;lia)
 refine⟨o,po.trans p1,?_⟩
 rw[av (f:=f_search_order) (δ:=[U (.lst (rs.map rowD),Y),U (.lst (ps.map aG),Y),U (.lst (ks.map D.str),Y),B,B,B,B,B,B,B]) rfl rfl rfl];let hc:aO (aC (af 8) (λδ=>U V) aR (aF Y [V,Y,Y,Y,Y,Y,Y,Y,Y,Y] [U (.lst (rs.map rowD),Y),U (.lst (ps.map aG),Y),U (.lst (ks.map D.str),Y),B,B,B,B,B,B,B])) (ps.map aG)=U (ps.map (prD rs)):=by
  let key:∀qs:Ww Pat,(∀p∈qs,p.2.length<=4)->aO (aC (af 8) (λδ=>U V) aR (aF Y [V,Y,Y,Y,Y,Y,Y,Y,Y,Y] [U (.lst (rs.map rowD),Y),U (.lst (ps.map aG),Y),U (.lst (ks.map D.str),Y),B,B,B,B,B,B,B])) (qs.map aG)=U (qs.map (prD rs)):=by
   intro qs
   induction qs with
   |nil=>intro _;rfl
   |cons q qs ih=>
    intro h;rw[Ka];unfold aO;have:aC (af 8) (λδ=>U V) aR (aF Y [V,Y,Y,Y,Y,Y,Y,Y,Y,Y] [U (.lst (rs.map rowD),Y),U (.lst (ps.map aG),Y),U (.lst (ks.map D.str),Y),B,B,B,B,B,B,B]) (aG q)=U (U (prD rs q)):=by
     simp[aC,aF,aR,uF (h q (Kg ..)) hrs,prD]
    rw[this,ih λp hp=>h p (Kb _ hp)]
    rfl
  exact key ps h4
 simp![dg,rd_1,rd_0,lstL_s,bindO_s];rw[bF (by simp;lia),hc]
 let hs:kH (aq (U (ps.map (prD rs)))) (λd=>aQ [U (d,Y)])=U (.lst (o1.map (prD rs))):=by
  unfold kH;simp![lstLim_s,v4,e1];rw[if_pos (by simp;lia)]
 simp_all
end K41
namespace K41
open PySem L2 JP
variable[Md]
theorem bW {α:Type}{f:α->D}{h:α->D}{p:α->Bool}{F:D->Wq (Wq D)}:∀{xs:Ww α},(∀x∈xs,F (f x)=U (if p x=V then U (h x) else B))->aO F (xs.map f)=U ((xs.filter p).map h)
 |[],_=>rfl
 |x::xs,H=>by
  rw[Ka];unfold aO;rw[H x (Kg ..),bW λy hy=>H y (Kb _ hy),qaB]
  cases p x<;>rfl
def aM {α:Type}{f:α->D}{h:α->D}{F:D->Wq (Wq D)}{xs:Ww α}(H:∀x∈xs,F (f x)=U (U (h x))):aO F (xs.map f)=U (xs.map h):=by
 have:=bW (f:=f) (h:=h) (p:=λ_=>V) (F:=F) (xs:=xs) λx hx=>by rw[H x hx];rfl
 rwa[List.filter_eq_self.mpr λ_ _=>rfl]at this
def xG (ns:Ww Nat):D:=.lst (ns.map λn:Nat=>D.int n)
def cD (c:Ww Ce):D:=.tup (c.map ceD)
theorem n7 {a b:Ww Ce}(h:cD a=cD b):a=b:=by
 injection h with h
 induction a generalizing b with
 |nil=>simp_all
 |cons x a ih=>cases b with
  |nil=>simp at h
  |cons y b=>simp![Ka,MP]at h;rw[gJ h.1,ih h.2]
def rE (c:Ww Ce):dn 8 (cD c)=V:=fA (f:=ceD) (λa=>by cases a<;>rfl) c
theorem rU (c:Ww Ce):isTD (cD c)=V:=rfl
def JX (c:Ww Ce):okD 15 (cD c)=V:=fA (f:=ceD) (λa=>by cases a<;>rfl) c
theorem Ag (l:Kr):∀known:Ww Kr,(known.map D.str).idxOf (.str l)=known.idxOf l
 |[]=>rfl
 |k::known=>by
  rw[Ka,P6,P6,Ag l known]
  lia
def BF {l:Kr}{known:Ww Kr}(h:l∈known) (hk:known.length<=1000):H9 (U (.lst (known.map D.str))) (U (.str l))=U (.int (known.idxOf l)):=by
 unfold H9;simp![b2,ae,gd,Ag];rw[if_pos ⟨rfl,fA (λ_=>rfl) _,by rw[J8];exact LI h,by simp;lia⟩]
def fz {ls known:Ww Kr}(h:∀l∈ls,l∈known) (hl:ls.length<=1000) (hk:known.length<=1000):f_places_of [.lst (ls.map D.str),.lst (known.map D.str)]=U (xG (ba ls known),V):=
 opn (f:=f_places_of) rfl (rF ((m3 (ds:=ls.map D.str) rfl (by simpa) rfl (aM λl hm=>itG (BF (h l hm) hk)) (by simpa)).trans (by simp[xG,ba])))
def kW {c:Ww Ce}{ps:Ww Nat}(h:∀i∈ps,i<c.length) (hl:ps.length<=1000):f_picked [cD c,xG ps]=U (cD (pk c ps),Y):=
 opn (f:=f_picked) rfl (rO (.trans (congrArg cL (m3 (ds:=ps.map λn:Nat=>D.int n) rfl (by simpa) rfl (aM (h:=λn=>ceD (c.getD n default)) λn hm=>itG (by have:=h n hm;exact lU (by lia) (by simp[this]))) (by simpa))) (by simp[cD,pk,cL,cQ])))
def gD (g:Gr):Ww (D×Ww D):=g.map λq=>(cD q.1,q.2.map cD)
theorem CX (k e:Ww Ce):∀g:Gr,bL (gD g) (cD k) (cD e)=gD (xI g k e)
 |[]=>rfl
 |q::g=>by
  let ih:=CX k e g;unfold gD at ih⊢;rw[Ka];unfold bL xI;let h1:(cD q.1=cD k)=(q.1=k):=propext ⟨n7,λh=>by rw[h]⟩
  let h2:(cD e∈q.2.map cD)=(e∈q.2):=propext ⟨λh=>by
   let⟨x,hx,he⟩:=mt.mp h;rwa[<-n7 he],λh=>mt.mpr ⟨e,h,rfl⟩⟩
  grind
def G3 {b:Bi}{l:Kr}{c:Ce}(h:gt b l=U c):F2 (U (bD b)) (U (.str l))=U (ceD c):=by
 unfold F2;rw[yx,h];rfl
def yc {b:Bi}{sh:Ww Kr}{x:Wq (Ww D)}{δ:DEnv}(hx:x=U (sh.map D.str)) (hl:sh.length<=1000) (h:∀l∈sh,∃c,gt b l=U c) (hm:aF Y [Y,Y,Y,Y,V,Y,Y,Y] δ=[B,B,B,B,U (bD b,Y),B,B,B]):
  cL (aq (ae x (bJ Y [Y,Y,Y,Y,V,Y,Y,Y] (af 7) (λδ=>U V) lm δ)))=U (cD (vl b sh)):=by
 rw[m3 hx (by simpa) hm (aM (h:=λl=>ceD ((gt b l).getD default)) λl hm=>itG (by let⟨c,hc⟩:=h l hm;rw[hc];exact G3 hc)) (by simpa)]
 simp[vl,cD,cL,cQ]
theorem vT {sh ad:Ww Kr}(h1:sh.length<=1000) (h2:ad.length<=1000) (a0:D):∀(bs:Ww Bi) (g:Gr) (a4 a5:Wq (D×Bool)),(∀b∈bs,∀l∈sh++ad,∃c,gt b l=U c)->
  fK 4 5 6 dG dN (bs.map bD) [U (a0,Y),U (.lst (sh.map D.str),Y),U (.lst (ad.map D.str),Y),B,a4,a5,B,B] (gD g)=U (gD (bs.foldl (λg b=>xI g (vl b sh) (vl b ad)) g))
 |[],g,a4,a5,_=>rfl
 |b::bs,g,a4,a5,h=>by
  let hb:=h b (.head _);rw[Ka,Ml,<-vT h1 h2 a0 bs _ (U (bD b,Y)) (U (cD (vl b sh),Y)) λb' hb'=>h b' (.tail _ hb')]
  conv=>lhs;unfold fK
  simp![Ke,Kd];let e1:dG _=_:=yc (δ:=[U (a0,Y),U (.lst (sh.map D.str),Y),U (.lst (ad.map D.str),Y),B,U (bD b,Y),a5,B,B]) rfl h1 (λl hl=>hb l (Li _ hl)) rfl
  let e2:dN _=_:=yc (δ:=[U (a0,Y),U (.lst (sh.map D.str),Y),U (.lst (ad.map D.str),Y),B,U (bD b,Y),U (cD (vl b sh),Y),B,B]) rfl h2 (λl hl=>hb l (Ly _ hl)) rfl
  simp![e1,e2,rE,rU,QH,if_true,CX]
def xi {bs:Ww Bi}{sh ad:Ww Kr}(h1:sh.length<=1000) (h2:ad.length<=1000) (hl:bs.length<=1000) (h:∀b∈bs,∀l∈sh++ad,∃c,gt b l=U c):
  f_grouped [.lst (bs.map bD),.lst (sh.map D.str),.lst (ad.map D.str)]=U (AD (gD (grp bs sh ad)),V):=
 opn (f:=f_grouped) rfl (by
  unfold kE HQ;rw[if_pos ⟨rfl,by simp[cH],by simp[cH],by simp[cH],by simp[cH]⟩]
  rw[show lS (.set (cH 8 [.lst (bs.map bD),.lst (sh.map D.str),.lst (ad.map D.str)]) 3 B)=U (bs.map bD) from rfl]
  dsimp only;rw[if_pos (by simp;lia),show fK 4 5 6 dG dN (bs.map bD) (.set (cH 8 [.lst (bs.map bD),.lst (sh.map D.str),.lst (ad.map D.str)]) 3 B) []=_ from vT h1 h2 (.lst (bs.map bD)) bs [] B B h]
  rfl)
theorem C6 (k:Ww Ce):∀g:Gr,(bP (cD k) ((gD g).map (·.1)) ((gD g).map λp=>(.dD p.2 (p.2.map λ_=>.bl V):D))).getD (.dD [] [])=.dD ((gE g k).map cD) ((gE g k).map λ_=>.bl V)
 |[]=>rfl
 |q::g=>by
  let ih:=C6 k g;rw[aZ];show(bP (cD k) (cD q.1::(gD g).map (·.1)) ((.dD (q.2.map cD) ((q.2.map cD).map λ_=>.bl V):D)::_)).getD _=_
  unfold bP
  by_cases h:q.1=k
  ·simp_all
  ·rw[if_neg λz=>h (n7 z),if_neg h];exact ih
def IK (g:Gr) (k:Ww Ce):cS (U (AD (gD g))) (U (cD k)) (U (.dD [] []))=U (.dD ((gE g k).map cD) ((gE g k).map λ_=>.bl V)):=by
 unfold cS jo AD;simp![rE,rU,QH,if_true,C6]
def CQ (l:Ww (Ww Ce)):D:=.dD (l.map cD) (l.map λ_=>.bl V)
theorem wO {ks:Ww D}(k:D):∀{n:Ww (Ww Ce)},ks.length=n.length->eY k (.bl V) ks (n.map λ_=>(.bl V:D))=n.map λ_=>.bl V:=by
 induction ks with
 |nil=>intro n h;cases n with
  |nil=>rfl
  |cons=>simp at h
 |cons a ks ih=>intro n h;cases n with
  |nil=>simp at h
  |cons b n=>simp_all [Ka,eY,ite_self]
def Em (x:Ww Ce) (l:Ww (Ww Ce)) (hl:l.length<900000):rJ (CQ l) (cD x) (.bl V)=U (CQ (ins x l)):=by
 unfold CQ rJ;let hm:(cD x∈l.map cD)=(x∈l):=propext ⟨λh=>by
   grind [n7],λh=>mt.mpr ⟨x,h,rfl⟩⟩
 simp![rE,rU,QH,Nv];rw[if_pos (by simp;lia)]
 unfold bK kK ins
 grind [wO]
def yZ (x:Ww Ce) (l:Ww (Ww Ce)):(ins x l).length<=l.length+1:=by unfold ins;split<;>simp
theorem Fb (l:Ww (Ww Ce)) (δ:DEnv):aN 0 (U (CQ l,V)::δ)=U (CQ l):=rfl
def HW (kc:Ww Ce) (hk:kc.length<=1000) {a0 a1 a2 a3 a5 a7:Wq (D×Bool)}{as l:Ww (Ww Ce)}(ha:∀a∈as,a.length<=1000) (hl:l.length+1*as.length<=500000):
  (as.foldl (λl a=>ins (kc++a) l) l).length<=l.length+1*as.length/\∃y7,am (λd δ=>ae ((af 7) d δ) fJ) (as.map cD) [a0,a1,a2,a3,U (CQ l,V),a5,U (cD kc,Y),a7]=U (.next [a0,a1,a2,a3,U (CQ (as.foldl (λl a=>ins (kc++a) l) l),V),a5,U (cD kc,Y),y7]):=
 fF (m:=LW) (E:=λl y=>[a0,a1,a2,a3,U (CQ l,V),a5,U (cD kc,Y),y]) hl λa hm l y hl=>⟨yZ _ _,U (cD a,Y),by
  let hc:BW (U (cD kc)) (U (cD a))=U (cD (kc++a)):=by
   unfold BW cD;have:=ha a hm;simp![b2,ae,J8,lim_eq];rw[if_pos (by lia),Kn]
  simp[fJ,AK,Fb,hc,Em _ _ (show l.length<900000 by lia)]⟩
def tX {found:Ww (Ww Ce)}{sp kp:Ww Nat}{g:Gr}(h1:sp.length<=1000) (h2:kp.length<=1000) (hg:∀k,((gE g k).length<=25)/\∀a∈gE g k,a.length<=1000) (hf:found.length<=16000) (h:∀c∈found,∀i∈sp++kp,i<c.length):
  f_extended [.lst (found.map cD),xG sp,xG kp,AD (gD g)]=U (.lst ((ext found sp kp g).map cD),V):=
 opn (f:=f_extended) rfl (stF rfl (by
  let⟨_,y,e⟩:=fF (F:=AC g sp kp) (m:=LW) (k:=25) (Ri:=450000) (f:=cD) (body:=λd δ=>ae ((af 5) d δ) ju) (E:=λl (y:Wq (D×Bool)×Wq (D×Bool)×Wq (D×Bool))=>[U (.lst (found.map cD),Y),U (xG sp,Y),U (xG kp,Y),U (AD (gD g),Y),U (CQ l,V),y.1,y.2.1,y.2.2]) (xs:=found) (s:=[]) (y:=(B,B,B)) (by simp;lia) λc hm l y hl=>by
   let g1:=(hg (pk c sp)).1;let⟨h3,z,e⟩:=HW (pk c kp) (by unfold pk;simpa using h2) (a0:=U (.lst (found.map cD),Y)) (a1:=U (xG sp,Y)) (a2:=U (xG kp,Y)) (a3:=U (AD (gD g),Y)) (a5:=U (cD c,Y)) (a7:=y.2.2) (as:=gE g (pk c sp)) (l:=l) (hg _).2 (by lia)
   refine⟨by unfold AC;lia,(U (cD c,Y),U (cD (pk c kp),Y),z),?_⟩
   refine sqO (shG (kW (λi hi=>h c hm i (Ly _ hi)) h2)) (.trans ?_ e)
   dsimp only[qaq];simp![rd_1,rd_0,consO_s,bindO_s,kW (λi hi=>h c hm i (Li _ hi)) h1,shO_s,IK,As]
  refine stN (bN rfl e) rfl))
end K41
namespace K41
open PySem L2 JP
variable[Md]
def AY (g:Gr) (k e k':Ww Ce):(gE (xI g k e) k').length<=(gE g k').length+1:=by
 induction g with
 |nil=>
  unfold xI;rw[aZ];split<;>simp[gE]
 |cons q g ih=>
  unfold xI
  by_cases h:q.1=k
  ·rw[if_pos h,aZ,aZ]
   dsimp only
   by_cases h':q.1=k'
   ·rw[if_pos h',if_pos h'];split<;>simp
   ·rw[if_neg h',if_neg h'];lia
  ·rw[if_neg h,aZ,aZ]
   by_cases h':q.1=k'
   ·rw[if_pos h',if_pos h'];lia
   ·rw[if_neg h',if_neg h'];exact ih
theorem kj {α σ:Type}{F:σ->α->σ}{m:σ->Nat}{k:Nat}(h:∀s x,m (F s x)<=m s+k):∀(xs:Ww α) (s:σ),m (xs.foldl F s)<=m s+xs.length*k
 |[],_=>by simp
 |x::xs,s=>by have:=kj h xs (F s x);have:=h s x;rw[Ml,Kl,Q0];lia
def Fi (sh ad:Ww Kr) (k:Ww Ce) (bs:Ww Bi):(gE (grp bs sh ad) k).length<=bs.length:=by
 simpa[gE,grp]using kj (m:=λg=>(gE g k).length) (λg b=>AY g (vl b sh) (vl b ad) k) bs []
def FH {found:Ww (Ww Ce)}{sp kp:Ww Nat}{g:Gr}{n:Nat}(h:∀k,(gE g k).length<=n):(ext found sp kp g).length<=found.length*n:=by
 simpa[ext]using kj (m:=LW) (F:=AC g sp kp) (k:=n) (λl c=>by
  have:=kj (m:=LW) (λl a=>yZ (pk c kp++a) l) (gE g (pk c sp)) l
  have:=h (pk c sp);unfold AC;lia) found []
def wW {α:Type}(f:α->D) (a:Ww α) (x:α) (b:Ww α):sP ((a++x::b).map f) (U ((a.length:Int)+1)) B=b.map f:=by
 unfold sP;let e:((a.length:Int)+1)=((a.length+1:Nat):Int):=by lia
 rw[e,uW,wi];rw[MT (by simp)]
 simp[Pk,List.drop_append]
def Am (l:Kr) (ss:Ww Kr):be (U (.str l)) (U (.lst (ss.map D.str)))=U (!decide (l∈ss)):=by
 unfold be;rw[jm];rfl
def Jx {x y:Wq D}{a b:Ww D}(hx:x=U (.lst a)) (hy:y=U (.lst b)) (h:a.length+b.length<=1000):mn x y=U (.lst (a++b)):=by
 subst hx hy;exact catO_s _ _ (by simp;lia)
def Js {x:Wq D}{d:D}(h:x=U d):aa x (U [])=U [d]:=by subst h;rfl
def itF {i:Nat}{ft:DEnv->Wq Bool}{fe:DEnv->Wq D}{ε:DEnv}{d e:D}{p:Bool}(ht:ft (ε.set i (U (d,Y)))=U p) (he:fe (ε.set i (U (d,Y)))=U e) (hi:PP i ε.length=V:=by rfl):aC (af i) ft fe ε d=U (if p=V then U e else B):=by
 unfold aC;rw[toName_s _ _ _ (Nat.le_of_ble_eq_true hi)];cases p<;>simp![bindO_s,ht,he]<;>rfl
def sqZ {i:Nat}{x:Wq D}{ds:Ww D}{δ:DEnv}{g:DEnv->Wq Out}{r:Wq Out}(h:x=U (.lst ds)) (k:g (δ.set i (U (.lst ds,Y)))=r) (hi:PP i δ.length=V:=by rfl):ak (dF i x δ) (λδ=>g (jP i δ))=r:=
 sqF h (by
  simp_all [k,jP,N2]) hi
def JU {bs:Ww Bool}{τ:D->DEnv->Wq DEnv}{ft:DEnv->Wq Bool}{fe:DEnv->Wq D}{δ ε:DEnv}{x:Wq (Ww D)}{ds es:Ww D}(hx:x=U ds) (hl:ds.length<=400000) (hm:aF Y bs δ=ε) (h:aO (aC τ ft fe ε) ds=U es):aq (ae x (bJ Y bs τ ft fe δ))=U (.lst es):=by
 subst hx hm;rw[bindO_s,bF (by simp;lia),h,lstLim_s]
def v7 {own:Ww Kr}{P:Kr->Bool}{F:D->Wq (Wq D)}(h:∀l∈own,F (.str l)=U (if P l=V then U (.str l) else B)):aO F (own.map D.str)=U ((own.filter P).map D.str):=bW h
def uH {α:Type}(P:α->Bool) (l:Ww α):(l.filter P).length<=l.length:=Lm ..
def EE {rs:Ww Row}(hrs:rs.length<=25) {wanted:Ww Kr}(hw:wanted.length<=100) {done rest:Ww Pat}{p:Pat}{kn:Ww Kr}{fd:Ww (Ww Ce)}{known:Ww Kr}{found:Ww (Ww Ce)}(J:Jn rs kn fd wanted done (p::rest) known found) (hk:known.length<=100) (hf:found.length<=16000)
  (h4:∀q∈p::rest,q.2.length<=4) (hl:(p::rest).length<=4) (a0 a1 x8 x9 x10 x11 x12 x13 x14 x15 x16 x17:Wq (D×Bool)):∃known' found' y8 y9 y10 y11 y12 y13,Jn rs kn fd wanted (done++[p]) rest known' found'/\known'.length<=known.length+4/\found'.length<=found.length*rs.length/\
  cE [a0,a1,U (.lst (wanted.map D.str),Y),U (.lst (known.map D.str),Y),U (.lst (found.map cD),Y),U (.lst ((done++p::rest).map (prD rs)),Y),U (.int done.length,Y),U (prD rs p,Y),x8,x9,x10,x11,x12,x13,x14,x15,x16,x17]=
   U (.next [a0,a1,U (.lst (wanted.map D.str),Y),U (.lst (known'.map D.str),Y),U (.lst (found'.map cD),Y),U (.lst ((done++p::rest).map (prD rs)),Y),U (.int done.length,Y),U (prD rs p,Y),y8,y9,y10,y11,y12,y13,x14,x15,x16,x17]):=by
 let⟨ls,els,_,mls,lls⟩:=o8 (aI rest);let⟨own,eown,nown,mown,lown⟩:=o8 (aI [p]);let hp4:=h4 p (Kg ..);let hr4:∀q∈rest,q.2.length<=4:=λq hq=>h4 q (Kb _ hq)
 let hrl:rest.length<=3:=by simp at hl;lia
 let lr:=aw hr4;let lp:(aI [p]).length<=4:=by
  have:=aw (ps:=[p]) λq hq=>by simp_all
  simpa using this
 let mo:∀l,l∈own↔l∈ans p.2:=λl=>by rw[mown,bU];simp
 let ml:∀l,l∈wanted++ls↔l∈wanted\/∃q∈rest,l∈ans q.2:=λl=>by rw[Nw,mls,bU]
 let hol:own.length<=4:=by lia
 generalize hlat:wanted++ls=later at ml;let J':=ER J mo nown ml;let f1:=uH (λl=>decide (l∈known)) own
 let f2:=uH (λl=>decide (l∈later)&&!decide (l∈known)) own
 let f3:=uH (λl=>decide (l∈later)) known
 let memS:∀l∈own.filter (λl=>decide (l∈known)),l∈known:=λl hl=>by simp at hl;exact hl.2
 let memK:∀l∈known.filter (λl=>decide (l∈later)),l∈known:=λl hl=>by simp at hl;exact hl.1
 let hin:∀b∈binds rs p,∀l∈own,∃c,gt b l=U c:=λb hb l hl=>(gO hb).1 l ((mo l).mp hl)
 let hsub:∀l∈own.filter (λl=>decide (l∈known))++own.filter (λl=>decide (l∈later)&&!decide (l∈known)),l∈own:=λl hl=>(qac.mp hl).elim (λh=>(qad.mp h).1) λh=>(qad.mp h).1
 let eg:=xi (bs:=binds rs p) (sh:=own.filter (λl=>decide (l∈known))) (ad:=own.filter (λl=>decide (l∈later)&&!decide (l∈known))) (by lia) (by lia) (by have:=qx rs p;lia) λb hb l hl=>hin b hb l (hsub l hl)
 generalize hsh:own.filter (λl=>decide (l∈known))=sh at*
 generalize had:own.filter (λl=>decide (l∈later)&&!decide (l∈known))=ad at*
 generalize hkp:known.filter (λl=>decide (l∈later))=kept at*
 let hgl:∀k,(gE (grp (binds rs p) sh ad) k).length<=rs.length:=λk=>Kf (Fi sh ad k _) (qx rs p)
 let ee:=tX (found:=found) (sp:=ba sh known) (kp:=ba kept known) (g:=grp (binds rs p) sh ad) (by unfold ba;simp;lia) (by unfold ba;simp;lia) (λk=>⟨by have:=hgl k;lia,λa ha=>by
   let⟨b,_,_,e⟩:=(JP.grp_get _ _ _ _ _).mp ha;rw[<-e];unfold vl;simp;lia⟩) hf λc hc i hi=>by
  let⟨φ,rfl,_⟩:=(J.mem c).mp hc;rw[J8];have:∃l∈sh++kept,i=known.idxOf l:=by
   unfold ba at hi;rw[<-Kn]at hi;let⟨l,h1,h2⟩:=mt.mp hi;exact⟨l,h1,h2.symm⟩
  let⟨l,h1,rfl⟩:=this;exact LI ((qac.mp h1).elim (memS l) (memK l))
 let ep1:=fz memS (by lia) (by lia)
 let ep2:=fz memK (by lia) (by lia)
 refine⟨_,_,U (.lst (later.map D.str),Y),U (.lst (own.map D.str),Y),U (.lst (sh.map D.str),Y),U (.lst (ad.map D.str),Y),U (.lst (kept.map D.str),Y),U (AD (gD (grp (binds rs p) sh ad)),Y),J',by simp;lia,FH hgl,?_⟩
 let l1:=ay (ps:=rest) (by lia) hr4
 let l2:=ay (ps:=[p]) (by simp) λq hq=>by simp_all
 rw[els]at l1;rw[eown]at l2;refine sqO (d:=.lst (later.map D.str)) (.trans (Jx rfl (frG (bN (Js (m3 (ds:=rest.map (prD rs)) (congrArg U (wW (prD rs) done p rest)) (by simp;lia) rfl (aM λq hq=>itG rfl) (by simp;lia))) l1)) (by simp;lia)) (by rw[<-Kn,hlat])) ?_
 refine sqO (frG (bN rfl l2)) ?_
 refine sqZ ((m3 rfl (by simp;lia) rfl (bW λl hl=>itF (jm ..) rfl) (by simp;lia)).trans (by rw[hsh])) ?_
 refine sqZ ((m3 rfl (by simp;lia) rfl (bW (p:=λl=>decide (l∈later)&&!decide (l∈known)) λl hl=>itF (by
  show jC (inO (U (.str l)) (U (.lst (later.map D.str)))) (be (U (.str l)) (U (.lst (known.map D.str))))=_;rw[jm,Am];cases decide (l∈later)<;>rfl) rfl) (by simp;lia)).trans (by rw[had])) ?_
 refine sqZ ((m3 rfl (by simp;lia) rfl (bW λl hl=>itF (jm ..) rfl) (by simp;lia)).trans (by rw[hkp])) ?_
 refine sqO (d:=AD (gD (grp (binds rs p) sh ad))) (bN (x:=U _) rfl (congrArg frO eg)) ?_
 refine sqO (d:=.lst ((ext found (ba sh known) (ba kept known) (grp (binds rs p) sh ad)).map cD)) ?_ ?_
 ·simp![Ke,Kd,rd_1,rd_0,consO_s,bindO_s,ep1,ep2,show ∀ns,frO (U (xG ns,V))=U (xG ns) from λ_=>rfl,ee,frO_s]
 refine(congrArg (λx=>aE 3 x _) (Jx (a:=kept.map D.str) (b:=ad.map D.str) rfl rfl (by simp;lia))).trans ?_
 simp
theorem iF {lt:D->D->Wq Bool}:∀{xs ys:Ww D},(∀x∈xs,∀y∈ys,(lt x y).isSome=V)->(dC lt xs ys).isSome=V
 |[],[],_=>rfl
 |[],_::_,_=>rfl
 |_::_,[],_=>rfl
 |x::xs,y::ys,h=>by
  unfold dC;split
  ·exact iF λa ha b hb=>h a (Kb _ ha) b (Kb _ hb)
  ·exact h x (Kg ..) y (Kg ..)
def bn:¬(Lb "blank")=(Lb "name"):=by decide +kernel
def nb:¬(Lb "name")=(Lb "blank"):=by decide +kernel
def yk (n:Nat) (c e:Ce):(ltD (n+1) (ceD c) (ceD e)).isSome=V:=by
 cases c<;>cases e<;>simp[ceD,ltD,dC,bn,nb]<;>split<;>rfl
def Ja (fs:Ww (Ww Ce)):eG (fs.map cD)=V:=ov JX (λr q=>iF λx hx y hy=>by
 let⟨c,_,rfl⟩:=mt.mp hx;let⟨e,_,rfl⟩:=mt.mp hy;exact yk 13 c e) fs
theorem cx {α:Type}{f:α->D}:∀{l:Ww D}{fs:Ww α},l.Perm (fs.map f)->∃gs:Ww α,gs.Perm fs/\l=gs.map f
 |[],fs,h=>⟨[],by rw[qaE.mp h.symm.eq_nil],rfl⟩
 |d::l,fs,h=>by
  let⟨a,ha,rfl⟩:=mt.mp (h.mem_iff.mp (.head _));let⟨s,t,rfl⟩:=List.append_of_mem ha;let⟨gs,p,rfl⟩:=cx (l:=l) (fs:=s++t) (by rw[Kn]at h⊢;exact(h.trans qan).cons_inv)
  exact⟨a::gs,(p.cons a).trans qan.symm,rfl⟩
def JW {fs:Ww (Ww Ce)}(nd:fs.Nodup) {n:Nat}(hn:∀c∈fs,c.length=n):fs.length<2\/(fs.map cD).all (i9 .tt)=V:=by
 by_cases h1:fs.length<2
 ·exact .inl h1
 ·let hn0:n≠0:=λz=>by
   subst z
   match fs,nd,hn,h1 with
   |[],_,_,h=>simp at h
   |[_],_,_,h=>simp at h
   |a::b::r,nd,hn,_=>
    simp_all
  refine .inr (qab.mpr λd hd=>?_)
  let⟨c,hc,rfl⟩:=mt.mp hd;have:=hn c hc;cases c with
  |nil=>exact absurd this.symm hn0
  |cons x c=>cases x<;>rfl
def HA {fs:Ww (Ww Ce)}(nd:fs.Nodup) {n:Nat}(hn:∀c∈fs,c.length=n):gM .tt (U (.lst (fs.map cD)))=U (.lst (dh (fs.map cD))):=
 iN (Ja fs) (by simpa using JW nd hn)
theorem sj {rs:Ww Row}(hrs:rs.length<=25) {wanted:Ww Kr}(hw:wanted.length<=100) (a0 a1 x14 x15 x16 x17:Wq (D×Bool)) {n:Nat}{kn:Ww Kr}{fd:Ww (Ww Ce)}(hkn:kn.length<=16) (hN:∀k,k<n->fd.length*rs.length ^ k<=16000):∀(rest done:Ww Pat) (known:Ww Kr) (found:Ww (Ww Ce)) (x6 x7 x8 x9 x10 x11 x12 x13:Wq (D×Bool)),
  done.length+rest.length=n->n<=4->(∀q∈rest,q.2.length<=4)->Jn rs kn fd wanted done rest known found->known.length<=kn.length+4*done.length->found.length<=fd.length*rs.length ^ done.length->∃known' found' y6 y7 y8 y9 y10 y11 y12 y13,Jn rs kn fd wanted (done++rest) [] known' found'/\known'.length<=32/\found'.length<=fd.length*rs.length ^ n/\
  am (λd δ=>ae ((aB (ah (af 6) (ah (af 7) (toNil)))) d δ) cE) (fZ done.length (rest.map (prD rs))) [a0,a1,U (.lst (wanted.map D.str),Y),U (.lst (known.map D.str),Y),U (.lst (found.map cD),Y),U (.lst ((done++rest).map (prD rs)),Y),x6,x7,x8,x9,x10,x11,x12,x13,x14,x15,x16,x17]=
   U (.next [a0,a1,U (.lst (wanted.map D.str),Y),U (.lst (known'.map D.str),Y),U (.lst (found'.map cD),Y),U (.lst ((done++rest).map (prD rs)),Y),y6,y7,y8,y9,y10,y11,y12,y13,x14,x15,x16,x17])
 |[],done,known,found,x6,x7,x8,x9,x10,x11,x12,x13,h1,h2,h3,J,hk,hf=>by
  simp at h1;exact⟨known,found,x6,x7,x8,x9,x10,x11,x12,x13,by simpa using J,by lia,by rw[<-h1];exact hf,rfl⟩
 |p::rest,done,known,found,x6,x7,x8,x9,x10,x11,x12,x13,h1,h2,h3,J,hk,hf=>by
  let hd:done.length<n:=by simp at h1;lia
  let hf1:found.length<=16000:=Kf hf (hN _ hd);let⟨k1,f1,z8,z9,z10,z11,z12,z13,J1,hk1,hf2,e⟩:=EE hrs hw J (by lia) hf1 h3 (by simp at h1⊢;lia) a0 a1 x8 x9 x10 x11 x12 x13 x14 x15 x16 x17
  let⟨k2,f2,y6,y7,y8,y9,y10,y11,y12,y13,J2,hk2,hf3,e2⟩:=sj hrs hw a0 a1 x14 x15 x16 x17 hkn hN rest (done++[p]) k1 f1 (U (.int done.length,Y)) (U (prD rs p,Y)) z8 z9 z10 z11 z12 z13 (by simp at h1⊢;lia) h2 (λq hq=>h3 q (Kb _ hq)) J1 (by simp;lia)
   (by rw[K0,Nb,PM,<-QJ];exact Kf hf2 (Nat.mul_le_mul_right _ hf))
  refine⟨k2,f2,y6,y7,y8,y9,y10,y11,y12,y13,by simp_all,hk2,hf3,?_⟩
  rw[Ka];simp![fZ];unfold am
  simp_all
def qH {rs:Ww Row}(hrs:rs.length<=25) {ps:Ww Pat}(hps:ps.length<=4) (h4:∀p∈ps,p.2.length<=4) {kn:Ww Kr}{fd:Ww (Ww Ce)}(hkn:kn.length<=16) (k1:kn.Nodup) (k2:fd.Nodup) (k3:∀x∈fd,x.length=kn.length) (k4:∀l∈kn,l∈aI ps) (hf0:fd.length<=16000) (hN:∀k,k<ps.length->fd.length*rs.length ^ k<=16000) {wanted:Ww Kr}(hw:wanted.length<=100) (hwp:∀l∈wanted,l∈aI ps):∃fs:Ww (Ww Ce),fs.Nodup/\(∀x,x∈fs↔∃φ:Fit,x=wanted.map φ/\kn.map φ∈fd/\∀p∈ps,da rs φ p)/\
  f_joined_from [.lst (rs.map rowD),.lst (ps.map aG),.lst (wanted.map D.str),.lst (kn.map D.str),.lst (fd.map cD)]=U (.lst (dh (fs.map cD)),V)/\fs.length<=fd.length*rs.length ^ ps.length:=by
 let⟨o,po,eo⟩:=kO rs (by lia) kn (by lia) h4 hps
 let ol:=po.length_eq;let ho:∀q∈o,q.2.length<=4:=λq hq=>h4 q (po.mem_iff.mp hq)
 let inO:∀l,l∈aI ps->∃p∈o,l∈ans p.2:=λl hl=>by
  let⟨p,hp,h⟩:=bU.mp hl;exact⟨p,po.mem_iff.mpr hp,h⟩
 let⟨known,found,y6,y7,y8,y9,y10,y11,y12,y13,J,hk,hf,e⟩:=sj hrs hw (U (.lst (rs.map rowD),Y)) (U (.lst (ps.map aG),Y)) B B B B (n:=ps.length) hkn hN o [] kn fd B B B B B B B B (by simpa using ol) hps ho (Ck rs k1 k2 k3 λl hl=>.inr (inO l (k4 l hl))) (by simp) (by simp)
 simp![MX]at J e;let hwo:∀l∈wanted,l∈kn\/∃p∈o,l∈ans p.2:=λl hl=>.inr (inO l (hwp l hl))
 let hwk:∀l∈wanted,l∈known:=λl hl=>J.has l (hwo l hl) (.inl hl)
 let⟨nd,mem⟩:=Hx J hwo;let es:=HA nd (n:=wanted.length) (λc hc=>by
  grind)
 let hf':found.length<=400000:=by
  refine Kf hf ?_
  rcases Nat.eq_zero_or_pos ps.length with z|z
  ·rw[z];simp;lia
  ·obtain⟨m,hm⟩:∃m,ps.length=m+1:=⟨ps.length - 1,by lia⟩
   rw[hm,PM,<-QJ];exact Kf (Nat.mul_le_mul (hN m (by lia)) hrs) (by decide)
 refine⟨found.map λc=>pk c (ba wanted known),nd,λx=>?_,?_⟩
 ·rw[mem]
  constructor
  ·rintro⟨φ,h1,h0,h2⟩;exact⟨φ,h1,h0,λp hp=>h2 p (po.mem_iff.mpr hp)⟩
  ·rintro⟨φ,h1,h0,h2⟩;exact⟨φ,h1,h0,λp hp=>h2 p (po.mem_iff.mp hp)⟩
 ·refine⟨?_,by simpa using hf⟩
  ·refine stO (frG (bN rfl eo)) ?_
   refine stN (bN rfl e) ?_
   refine stO (d:=xG (ba wanted known)) (bN (x:=U _) rfl (congrArg frO (fz hwk (by lia) (by lia)))) ?_
   refine rF (.trans (congrArg _ ((JU rfl (by simp;lia) rfl (aM (f:=cD) (h:=λc=>cD (pk c (ba wanted known))) λc hc=>itG (by
    let⟨φ,rfl,_⟩:=(J.mem c).mp hc;exact bN (x:=U _) rfl (congrArg shO (kW (c:=known.map φ) (ps:=ba wanted known) (λi hi=>by
     let⟨l,h1,rfl⟩:=mt.mp hi;rw[J8];exact LI (hwk l h1)) (by unfold ba;simp;lia)))))).trans (by rw[K6];rfl))) es)
end K41
namespace K41
open PySem L2 JP
variable[Md]
def bq (q:Kr×Ce):D:=.tup [.str q.1,ceD q.2]
def BX {a b:Kr×Ce}(h:bq a=bq b):a=b:=by
 let⟨x,c⟩:=a;simp![bq,D.tup.injEq,MP,D.str.injEq,and_true]at h;rw[h.1,gJ h.2]
noncomputable def uL (ps:Ww Pat):Ww Kr:=sL (aI ps)
def AO (ps:Ww Pat):(uL ps).Nodup:=(oZ _).1
def bf (ps:Ww Pat) (x:Kr):x∈uL ps↔x∈aI ps:=(oZ _).2.1 x
def iA (ps:Ww Pat):(uL ps).length<=(aI ps).length:=(oZ _).2.2
def fL (us:Ww Kr) (c:Ww Ce):D:=.lst ((us.zip c).map bq)
def vn (q:Kr×Ce) (n:Nat):okD (n+3) (bq q)=V:=by let⟨l,c⟩:=q;cases c<;>simp[bq,ceD,okD]
def JQ (us:Ww Kr) (c:Ww Ce) (n:Nat):okD (n+4) (fL us c)=V:=by
 simp![fL,okD,PH,Kw];exact λq _=>vn q n
theorem cz {f:Kr->Ce}:∀us:Ww Kr,us.zip (us.map f)=us.map λl=>(l,f l)
 |[]=>rfl
 |u::us=>by rw[Ka,MS,cz us];rfl
def ye (b:Bi):eG (b.map bq)=V:=by
 unfold eG;rw[Kw];intro x hx;let⟨⟨l,c⟩,_,rfl⟩:=mt.mp hx;rw[J9];refine⟨vn (l,c) 12,?_⟩
 rw[Kw];intro y hy;let⟨⟨k,d⟩,_,rfl⟩:=mt.mp hy;show(dC (ltD 14) [.str l,ceD c] [.str k,ceD d]).isSome=V;simp![dC];split
 ·split
  ·rfl
  ·exact yk 13 c d
 ·rfl
end K41
namespace K41
open PySem L2 JP
variable[Md]
theorem qK (r:Row) (n:Nat):okD (n+3) (rowD r)=V:=by
 simp![rowD,okD,KG,NJ,MY,Nv,PH,Kw];intro c _;cases c<;>simp[ceD,okD]
def zo (rs:Ww Row):okD 16 (.lst (rs.map rowD))=V:=by
 simp![okD,PH,Kw];intro r _;exact qK r 12
def GM (n:Nat) (r q:Row):(ltD (n+3) (rowD r) (rowD q)).isSome=V:=by
 show(dC (ltD (n+2)) [.str r.1,.tup (r.2.map ceD)] [.str q.1,.tup (q.2.map ceD)]).isSome=V;unfold dC;split
 ·unfold dC
  split
  ·rfl
  ·refine iF λx hx y hy=>?_
   let⟨c,_,rfl⟩:=mt.mp hx;let⟨e,_,rfl⟩:=mt.mp hy;exact yk n c e
 ·rfl
def fR (rs:Ww Row):eG (rs.map rowD)=V:=by
 unfold eG
 simp_all [Kw,J9,qK,GM]
def FL (rs:Ww Row):(rs.map rowD).all (i9 .ts)=V:=by
 rw[Kw];intro x hx;let⟨r,_,rfl⟩:=mt.mp hx;rfl
def j9 {r q:Row}(h:rowD r=rowD q):r=q:=by
 let⟨a,c⟩:=r;simp![rowD,D.tup.injEq,MP,D.str.injEq,and_true]at h;rw[h.1,th (f:=ceD) (λ_ _=>gJ) h.2]
def kq {α:Type}(f:α->D) (xs:Ww α) (k:Nat):sP (xs.map f) B (U (k:Int))=(xs.take k).map f:=by
 unfold sP;simp[uW,wi,List.drop_zero,Nat.sub_zero,Pj,J8]
def vt {n:Nat}{ds:Ww D}(h:∀d∈ds,okD n d=V):okD (n+1) (.lst ds)=V:=by simp_all [okD]
def vg (t:Te) (n:Nat):okD (n+1) (teD t)=V:=by cases t<;>simp[teD,okD]
def zR (n:Nat) (ps:Ww Pat):okD (n+4) (.lst (ps.map aG))=V:=vt λd hd=>by
 let⟨p,_,rfl⟩:=mt.mp hd;simp[aG,okD,KG,NJ,MY,Nv,vg]
def Cq (n:Nat) (rs:Ww Row):okD (n+4) (.lst (rs.map rowD))=V:=vt λd hd=>by grind [qK]
def D9 {d:D}(h:okD 16 d=V):neO (U d) (U d)=U Y:=by rw[FM _ _ (by unfold ok2;rw[h];rfl)];simp
end K41
namespace K41
open PySem L2 JP
variable[Md]
theorem zG:∀(ps:Ww (D×D)) (ks vs:Ww D),(ks++ps.map (·.1)).Nodup->qg ks vs ps=(ks++ps.map (·.1),vs++ps.map (·.2))
 |[],ks,vs,_=>by simp[qg]
 |p::ps,ks,vs,h=>by
  let hn:p.1∉ks:=λz=>by
   grind
  let h':(ks++[p.1]++ps.map (·.1)).Nodup:=by simpa using h
  unfold qg bK kK;rw[if_neg hn,if_neg hn,zG ps _ _ h'];simp
theorem qL {α:Type}{kf vf:α->D}(hk:∀q,(dn 8 (kf q)&&isTD (kf q))=V):∀qs:Ww α,je (qs.map λq=>.tup [kf q,vf q])=U (qs.map λq=>(kf q,vf q))
 |[]=>rfl
 |q::qs=>by
  rw[Ka];unfold je vL;rw[qL hk qs]
  simp_all
def oH {α:Type}{kf vf:α->D}(qs:Ww α) (hk:∀q,(dn 8 (kf q)&&isTD (kf q))=V) (nd:(qs.map kf).Nodup) (hl:qs.length<1000):mh (U (.lst (qs.map λq=>.tup [kf q,vf q])))=U (.dD (qs.map kf) (qs.map vf)):=by
 unfold mh;simp![qL hk];rw[if_pos (by simp;lia),zG _ [] [] (by simpa[Q5]using nd)]
 simp[Q5]
theorem om {α:Type}{kf vf:α->D}(k:D):∀qs:Ww α,bP k (qs.map kf) (qs.map vf)=(qs.find? λq=>decide (kf q=k)).map vf
 |[]=>rfl
 |q::qs=>by
  rw[Ka,Ka,List.find?_cons]
  unfold bP
  by_cases h:kf q=k
  ·simp_all
  ·rw[if_neg h,decide_eq_false h];exact om k qs
theorem qa {α:Type}{kf vf:α->D}(qs:Ww α) {k:D}(hk:(dn 8 k&&isTD k)=V):cS (U (.dD (qs.map kf) (qs.map vf))) (U k) (U k)=U (((qs.find? λq=>decide (kf q=k)).map vf).getD k):=by
 unfold cS jo;simp[hk,if_true,om]
def jU {t:D}{xs ks vs:Ww D}{g:D->D}(h:∀x∈xs,cS (U (.dD ks vs)) (U x) (U x)=U (g x)) (hl:xs.length<=1000):f_exchanged [.tup [t,.tup xs],.dD ks vs]=U (.tup [t,.tup (xs.map g)],Y):=by
 rw[av (f:=f_exchanged) (δ:=[U (.tup [t,.tup xs],Y),U (.dD ks vs,Y),B]) rfl rfl rfl];let e0:ixO (U (.tup [t,.tup xs])) (U (.int 0))=U t:=by simp[at0]
 let e1:ixO (U (.tup [t,.tup xs])) (U (.int 1))=U (.tup xs):=by simp[at1]
 simp![gU,rd_1,rd_0,e0,e1,tupL_s,bindO_s];let em:aF Y [Y,V,Y] [U (.tup [t,.tup xs],Y),U (.dD ks vs,Y),B]=[B,U (.dD ks vs,Y),B]:=rfl;let ec:aO (aC (af 2) (λδ=>U V) dM [B,U (.dD ks vs,Y),B]) (xs.map id)=U (xs.map g):=aM λx hx=>by
  unfold aC
  simp_all [bindO_s,Ke,Kd,rd_1,rd_0,dM,id]
 rw[Oh]at ec;rw[bF (by simp;lia),em,ec,lstLim_s]
 rfl
def Go (t:Te):(dn 8 (teD t)&&isTD (teD t))=V:=by cases t<;>rfl
theorem vZ {φ:Fit}{l:Kr}:∀{us:Ww Kr},l∈us->((us.zip (us.map φ)).find? λq=>decide (teD (.any q.1)=teD (.any l)))=U (l,φ l)
 |u::us,h=>by
  rw[Ka,MS,List.find?_cons]
  by_cases e:u=l
  ·subst e;rw[decide_eq_true rfl]
  ·rw[decide_eq_false λz=>e (by have:=pr z;lia)]
   rcases on.mp h with z|z
   ·exact absurd z.symm e
   ·exact vZ z
def CU {us:Ww Kr}{φ:Fit}{t:Te}(h:∀l,t=.any l->l∈us):cS (U (.dD ((us.zip (us.map φ)).map λq=>teD (.any q.1)) ((us.zip (us.map φ)).map λq=>ceD q.2))) (U (teD t)) (U (teD t))=U (ceD (ev φ t)):=by
 rw[qa (kf:=λq:Kr×Ce=>teD (.any q.1)) (vf:=λq=>ceD q.2) _ (Go t)]
 cases t with
 |any l=>rw[vZ (h l rfl)];rfl
 |nm w=>
  rw[List.find?_eq_none.mpr λq _=>by
   grind [pr]]
  rfl
def mq {us:Ww Kr}(nd:us.Nodup) (hu:us.length<=100) (φ:Fit) {ps:Ww Pat}(hps:ps.length<=4) (h4:∀p∈ps,p.2.length<=4) (hl:∀l∈aI ps,l∈us):
  f_filled [.lst (ps.map aG),fL us (us.map φ)]=U (.lst (ps.map λp=>rowD (p.1,p.2.map (ev φ))),V):=by
 let ef:fL us (us.map φ)=.lst ((us.zip (us.map φ)).map bq):=rfl;let hz:(us.zip (us.map φ)).length<=100:=by rw[qaF];lia
 rw[av (f:=f_filled) (δ:=[U (.lst (ps.map aG),Y),U (fL us (us.map φ),Y),B,B,B,B]) rfl rfl rfl];rw[ef];simp![oI,rd_1,rd_0,lstL_s,bindO_s];let em:∀a b c d e f:Wq (D×Bool),aF Y [Y,Y,Y,Y,Y,Y] [a,b,c,d,e,f]=[B,B,B,B,B,B]:=λ_ _ _ _ _ _=>rfl
 rw[bF (by rw[J8,lim_eq];lia),em,aM (f:=bq) (h:=λq=>.tup [teD (.any q.1),ceD q.2]) λq _=>by
  rfl]
 let ndk:((us.zip (us.map φ)).map λq=>teD (.any q.1)).Nodup:=by
  let e:((us.zip (us.map φ)).map λq=>teD (.any q.1))=us.map λl=>teD (.any l):=by
   rw[cz,K6];rfl
  rw[e];exact OQ _ (λa b hab z=>hab (by grind [pr])) nd
 rw[lstLim_s,oH (kf:=λq:Kr×Ce=>teD (.any q.1)) (vf:=λq=>ceD q.2) _ (λq=>Go _) ndk (by lia),setO_s _ _ _ (by simp)]
 simp![seqO_n,Ke,Kd,rd_1,rd_0,lstL_s,bindO_s];let em2:∀(a b d e f:Wq (D×Bool)) (x:D),aF Y [Y,Y,V,Y,Y,Y] [a,b,U (x,Y),d,e,f]=[B,B,U (x,Y),B,B,B]:=λ_ _ _ _ _ _=>rfl
 rw[bF (by simp;lia),em2,aM (f:=aG) (h:=λp=>rowD (p.1,p.2.map (ev φ))) λp hp=>by
  unfold aC;rw[toName_s _ _ _ (by simp)]
  let hin:∀t∈p.2,∀l,t=.any l->l∈us:=λt ht l e=>hl l (bU.mpr ⟨p,hp,by
   let key:∀ts:Ww Te,Te.any l∈ts->l∈ans ts:=λts=>by
    induction ts with
    |nil=>simp
    |cons a ts ih=>
     intro h
     rcases on.mp h with z|z
     ·subst z;exact Kg ..
     ·cases a with
      |any k=>exact Kb _ (ih z)
      |nm w=>exact ih z
   simp_all⟩)
  let ex:=jU (t:=.str p.1) (xs:=p.2.map teD) (ks:=(us.zip (us.map φ)).map λq=>teD (.any q.1)) (vs:=(us.zip (us.map φ)).map λq=>ceD q.2) (g:=λd=>(cS (U (.dD ((us.zip (us.map φ)).map λq=>teD (.any q.1)) ((us.zip (us.map φ)).map λq=>ceD q.2))) (U d) (U d)).getD .non) (λx hx=>by
   let⟨t,ht,rfl⟩:=mt.mp hx;rw[CU (hin t ht)];rfl) (by rw[J8];have:=h4 p hp;lia)
  let eg:(p.2.map teD).map (λd=>(cS (U (.dD ((us.zip (us.map φ)).map λq=>teD (.any q.1)) ((us.zip (us.map φ)).map λq=>ceD q.2))) (U d) (U d)).getD .non)=(p.2.map (ev φ)).map ceD:=by
   rw[K6,K6];refine K5 λt ht=>?_
   show(cS _ (U (teD t)) (U (teD t))).getD .non=_;rw[CU (hin t ht)];rfl
  rw[eg]at ex;let er:aG p=.tup [.str p.1,.tup (p.2.map teD)]:=rfl;simp![bindO_s,Ke,Kd,rd_1,rd_0,nB,consO_s,er,ex,shO_s];rfl]
 rfl
theorem CY:∀(us:Ww Kr) (c:Ww Ce),iH (us.map D.str) (c.map ceD)=(us.zip c).map bq
 |[],c=>by rfl
 |u::us,[]=>rfl
 |u::us,x::c=>by rw[Ka,Ka,iH,CY us c];rfl
def yL {us:Ww Kr}(h:us.length<=1000) (c:Ww Ce):qw Y V (U (.lst (us.map D.str))) (U (cD c))=U (fL us c):=by
 let e:yh Y V (U (.lst (us.map D.str))) (U (cD c))=U ((us.zip c).map bq):=by
  show U (iH (us.map D.str) (c.map ceD))=_;rw[CY]
 unfold qw;rw[e];dsimp only;rw[if_pos (by simp;lia)]
 rfl
structure Fs (P:Fit->Prop) (us:Ww Kr) (ss:Ww (Ww Ce)):Prop where
 nd:ss.Nodup
 mem:∀x,x∈ss↔∃φ:Fit,x=us.map φ/\P φ
def Fs.len {P:Fit->Prop}{us:Ww Kr}{ss:Ww (Ww Ce)}(F:Fs P us ss):∀c∈ss,c.length=us.length:=λc hc=>by
 let⟨φ,rfl,_⟩:=(F.mem c).mp hc;simp
def JJ {n k:Nat}(h:n<=25) (hk:k<=2):n ^ k<=625:=Kf (Nat.pow_le_pow_left h k) (Kf (Pb (by decide) hk) (by decide))
def A6 (r:Row):dn 8 (rowD r)=V:=by
 simp![rowD,dn,KG,NJ,MY,Nv,PH,Kw];intro c _;cases c<;>simp[ceD,dn]
structure Cn (fs:Ww Row):Prop where
 nd:fs.Nodup
 so:(fs.map rowD).Pairwise leD
def Cn.eq {fs gs:Ww Row}(h:Cn fs) (g:Cn gs) (hm:∀r,r∈fs↔r∈gs):fs=gs:=
 (List.map_inj_right λ_ _=>j9).mp (dt (fR fs) _ _ (λ_ h=>h) (((Mw h.nd g.nd).mpr hm).map rowD) h.so g.so)
def kN {rs:Ww Row}(h:rs.length<64):∃fs:Ww Row,Cn fs/\(∀r,r∈fs↔r∈rs)/\fs.length<=rs.length/\f_stand_of [.lst (rs.map rowD)]=U (.lst (fs.map rowD),V):=by
 let⟨fs,e,nd,h1,h2⟩:=wY (f:=rowD) (λ_ _=>j9) rs
 exact⟨fs,⟨nd,e▸bG (L2.G.cmpD_sub (fR rs) λx hx=>(L2.G.uniqD_mem x _).mp hx)⟩,h1,h2,opn rfl (rF ((EH (λ_=>rfl) A6 (λ_=>rfl) fR h).trans (by rw[e])))⟩
def ji {rs:Ww Row}(hrs:rs.length<=25) {ps:Ww Pat}(hps:ps.length<=2) (h4:∀p∈ps,p.2.length<=4) {wanted:Ww Kr}(hw:wanted.length<=100) (hwp:∀l∈wanted,l∈aI ps):∃gs:Ww (Ww Ce),gs.Nodup/\(∀x,x∈gs↔∃φ:Fit,x=wanted.map φ/\∀p∈ps,da rs φ p)/\f_joined [.lst (rs.map rowD),.lst (ps.map aG),.lst (wanted.map D.str)]=U (.lst (gs.map cD),V)/\gs.length<=625:=by
 let⟨fs,n1,m1,ej,hl⟩:=qH (rs:=rs) (by lia) (ps:=ps) (by lia) h4 (kn:=[]) (fd:=[[]]) (by simp) LX (by simp) (by simp) (by simp) (by simp) (λk hk=>by
  have:k<=1:=by lia
  simp![Kl,LO,MH,Nat.one_mul];exact Kf (Nat.pow_le_pow_left hrs k) (Kf (Pb (by decide) this) (by decide))) hw hwp
 let⟨gs,pg,eg⟩:=cx (aH (fs.map cD));let mg:∀x,x∈gs↔∃φ:Fit,x=wanted.map φ/\∀p∈ps,da rs φ p:=λx=>by rw[pg.mem_iff,m1];simp
 let ng:=pg.nodup_iff.mpr n1;refine⟨gs,ng,mg,?_,?_⟩
 ·rw[av (f:=f_joined) (δ:=[U (.lst (rs.map rowD),Y),U (.lst (ps.map aG),Y),U (.lst (wanted.map D.str),Y)]) rfl rfl rfl]
  simp![oF,rd_1,rd_0];rw[lstO_s [] (by simp),tupO_s [] (by simp)]
  let ec:cD []=.tup []:=rfl
  simp_all
 ·rw[pg.length_eq]
  exact Kf hl (by simpa using JJ hrs hps)
end K41
namespace K41
open PySem L2 JP
variable[Md]
abbrev dL (ps qs:Ww Pat):D:=.tup [.str "must",.lst (ps.map aG),.lst (qs.map aG)]
abbrev bY (ps:Ww Pat) (a b:Te):D:=.tup [.str "same",.lst (ps.map aG),teD a,teD b]
abbrev smP (a b:Te):Pat:=("same",[a,b])
def ms:¬(Lb "must")=(Lb "same"):=by decide +kernel
section
variable(ps qs:Ww Pat) (a b:Te)
theorem m0:ixO (U (dL ps qs)) (U (.int 0))=U (.str "must"):=rfl
theorem m1:ixO (U (dL ps qs)) (U (.int 1))=U (.lst (ps.map aG)):=rfl
theorem m2:ixO (U (dL ps qs)) (U (.int 2))=U (.lst (qs.map aG)):=rfl
theorem s0:ixO (U (bY ps a b)) (U (.int 0))=U (.str "same"):=rfl
theorem s1:ixO (U (bY ps a b)) (U (.int 1))=U (.lst (ps.map aG)):=rfl
theorem s2:ixO (U (bY ps a b)) (U (.int 2))=U (teD a):=rfl
theorem s3:ixO (U (bY ps a b)) (U (.int 3))=U (teD b):=rfl
def eU:f_two_terms [bY ps a b]=U (aG (smP a b),Y):=by
 rfl
end
noncomputable def dlM (ps qs:Ww Pat):Ww Kr:=(uL qs).filter λl=>decide (l∈uL ps)
def vB {ps qs:Ww Pat}(h1:ps.length<=2) (h2:qs.length<=2) (h4:∀p∈ps,p.2.length<=4) (h5:∀p∈qs,p.2.length<=4):f_deciding_letters [dL ps qs]=U (.lst ((dlM ps qs).map D.str),V):=by
 rw[av (f:=f_deciding_letters) (δ:=[U (dL ps qs,Y),B,B]) rfl rfl rfl];let e1:f_letters_of [.lst (ps.map aG)]=U (.lst ((uL ps).map D.str),V):=ay (by lia) h4
 let e2:f_letters_of [.lst (qs.map aG)]=U (.lst ((uL qs).map D.str),V):=ay (by lia) h5
 let hu:(uL qs).length<=16:=Kf (iA qs) (Kf (aw h5) (by lia))
 simp![aW,rd_0,m0,m1,m2,aY,ms,decide_false,ifO_f,nextO_s,seqO_n,consO_s,bindO_s,e1,frO_s];rw[setO_s _ _ _ (by simp)]
 simp![seqO_n,Ke,Kd,rd_1,rd_0,m2,consO_s,bindO_s,e2,frO_s,lstL_s];rw[bF (by simp;lia),v7 (P:=λl=>decide (l∈uL ps)) λl hl=>by
  by_cases hm:l∈uL ps<;>simp[aC,aF,cr,jm,hm]]
 rfl
def v6 (ps:Ww Pat) (a b:Te):f_deciding_letters [bY ps a b]=U (.lst ((uL [smP a b]).map D.str),V):=by
 rw[av (f:=f_deciding_letters) (δ:=[U (bY ps a b,Y),B,B]) rfl rfl rfl];let e1:f_letters_of [.lst [aG (smP a b)]]=U (.lst ((uL [smP a b]).map D.str),V):=ay (ps:=[smP a b]) (by simp) (λp hp=>by simp_all)
 simp![aW,rd_0,s0,aY,decide_true,ifO_t,consO_s,bindO_s,eU,shO_s]
 simp_all
def Hf (c:Ww Ce) (hs:Ww (Ww Ce)):Gk (U (cD c)) (U (.dD (hs.map cD) (hs.map λ_=>.bl V)))=U (decide (c∈hs)):=by
 unfold Gk jo;let hk:(dn 8 (cD c)&&isTD (cD c))=V:=by rw[rE,rU];rfl
 simp![hk,if_true,om (kf:=cD) (vf:=λ_=>.bl V) (cD c) hs,Option.isSome_map,Mc]
 rw[ME,List.find?_isSome,decide_eq_true_iff]
 constructor
 ·rintro⟨x,hx,e⟩;rw[<-n7 (of_decide_eq_true e)];exact hx
 ·exact λh=>⟨c,h,decide_eq_true rfl⟩
def Ei {rs:Ww Row}(hrs:rs.length<=25) {ps qs:Ww Pat}(h1:ps.length<=2) (h2:qs.length<=2) (h4:∀p∈ps,p.2.length<=4) (h5:∀p∈qs,p.2.length<=4):
  ∃fd:Ww (Ww Ce),fd.Nodup/\fd.length<=625/\(∀x,x∈fd↔(∃φ:Fit,x=(dlM ps qs).map φ/\∀p∈ps,da rs φ p)/\¬∃φ:Fit,x=(dlM ps qs).map φ/\∀p∈qs,da rs φ p)/\f_broken_cells [.lst (rs.map rowD),dL ps qs]=U (.lst (fd.map cD),V):=by
 let hu:(uL qs).length<=16:=Kf (iA qs) (Kf (aw h5) (by lia))
 let hd:(dlM ps qs).length<=16:=Kf (Lm ..) hu;let⟨gs,n1,g1,e1,l1⟩:=ji hrs h1 h4 (wanted:=dlM ps qs) (by lia) λl hl=>(bf ps l).mp (of_decide_eq_true (qad.mp hl).2)
 let⟨hs,n2,g2,e2,l2⟩:=ji hrs h2 h5 (wanted:=dlM ps qs) (by lia) λl hl=>(bf qs l).mp (qad.mp hl).1
 refine⟨gs.filter λc=>!decide (c∈hs),n1.filter _,Kf (Lm ..) l1,λx=>?_,?_⟩
 ·rw[qad,g1,<-g2]
  simp
 rw[av (f:=f_broken_cells) (δ:=[U (.lst (rs.map rowD),Y),U (dL ps qs,Y),B,B,B,B]) rfl rfl rfl];simp![bV,rd_1,rd_0,consO_s,bindO_s,vB h1 h2 h4 h5,frO_s];rw[setO_s _ _ _ (by simp)]
 simp![seqO_n,Ke,Kd,rd_1,rd_0,m1,consO_s,bindO_s,e1,frO_s];rw[setO_s _ _ _ (by simp)]
 simp![seqO_n,Ke,Kd,rd_1,rd_0,m0,aY,ms,decide_false,ifO_f,nextO_s,m2,consO_s,bindO_s,e2,frO_s,lstL_s];let em:∀a b c d e f:Wq (D×Bool),aF Y [Y,Y,Y,Y,Y,Y] [a,b,c,d,e,f]=[B,B,B,B,B,B]:=λ_ _ _ _ _ _=>by rfl
 rw[bF (by simp;lia),em,aM (f:=cD) (h:=λc=>.tup [cD c,.bl V]) λc _=>by
  rfl]
 rw[lstLim_s,oH (kf:=cD) (vf:=λ_=>.bl V) hs (λc=>by rw[rE,rU];rfl) (OQ _ (λa b hab z=>hab (n7 z)) n2) (by lia),setO_s _ _ _ (by simp)]
 simp![seqO_n,Ke,Kd,rd_1,rd_0,lstL_s,bindO_s];let em2:∀(a b c d f:Wq (D×Bool)) (x:D),aF Y [Y,Y,Y,Y,V,Y] [a,b,c,d,U (x,Y),f]=[B,B,B,B,U (x,Y),B]:=λ_ _ _ _ _ _=>by rfl
 rw[bF (by simp;lia),em2,bW (f:=cD) (h:=cD) (p:=λc=>!decide (c∈hs)) λc _=>by
  unfold aC;rw[toName_s _ _ _ (by simp)]
  simp![bindO_s,Ke,Kd,rd_1,rd_0,Hf,notO_s,d6];cases decide (c∈hs)<;>rfl]
 rfl
def HJ {a b:Te}{l:Kr}(h:l∈aI [smP a b]):a=.any l\/b=.any l:=by
 rw[bU]at h;let⟨p,hp,hl⟩:=h;rw[qaa.mp hp]at hl;cases a<;>cases b<;>simp[ans]at hl<;>simp[hl]
 lia
def EF {rs:Ww Row}(hrs:rs.length<=25) {ps:Ww Pat}(h1:ps.length<=2) (h4:∀p∈ps,p.2.length<=4) {a b:Te}(hab:∀l,l∈aI [smP a b]->l∈aI ps):
  ∃fd:Ww (Ww Ce),fd.Nodup/\fd.length<=625/\(∀x,x∈fd↔∃φ:Fit,x=(uL [smP a b]).map φ/\(∀p∈ps,da rs φ p)/\ev φ a≠ev φ b)/\f_broken_cells [.lst (rs.map rowD),bY ps a b]=U (.lst (fd.map cD),V):=by
 let h2:∀p∈[smP a b],p.2.length<=4:=λp hp=>by simp_all
 let hd:(uL [smP a b]).length<=16:=Kf (iA _) (Kf (aw h2) (by simp))
 let⟨gs,n1,g1,e1,l1⟩:=ji hrs h1 h4 (wanted:=uL [smP a b]) (by lia) λl hl=>hab l ((bf _ l).mp hl)
 let evc:∀{φ ψ:Fit},(uL [smP a b]).map φ=(uL [smP a b]).map ψ->ev φ a=ev ψ a/\ev φ b=ev ψ b:=λ{φ ψ} e=>by
  let q:=qak.mp e;have:=kx (ts:=[a,b]) (φ:=φ) (ψ:=ψ) λl hl=>q l ((bf _ l).mpr (bU.mpr ⟨_,qaa.mpr rfl,hl⟩))
  simpa using this
 obtain⟨bad,hbad⟩:∃bad:Ww Ce->Bool,∀φ:Fit,bad ((uL [smP a b]).map φ)=!decide (ev φ a=ev φ b):=by
  refine⟨λc=>!decide (ev (λl=>c.getD ((uL [smP a b]).idxOf l) default) a=ev (λl=>c.getD ((uL [smP a b]).idxOf l) default) b),λφ=>?_⟩
  let pp:=bZ (φ:=φ) (ls:=uL [smP a b]) (known:=uL [smP a b]) λl hl=>hl
  unfold pk ba at pp;rw[K6]at pp;let⟨q1,q2⟩:=evc (φ:=λl=>((uL [smP a b]).map φ).getD ((uL [smP a b]).idxOf l) default) pp
  dsimp only;rw[q1,q2]
 refine⟨gs.filter bad,n1.filter _,Kf (Lm ..) l1,λx=>?_,?_⟩
 ·grind
 rw[av (f:=f_broken_cells) (δ:=[U (.lst (rs.map rowD),Y),U (bY ps a b,Y),B,B,B,B]) rfl rfl rfl];simp![bV,rd_1,rd_0,consO_s,bindO_s,v6,frO_s];rw[setO_s _ _ _ (by simp)]
 simp![seqO_n,Ke,Kd,rd_1,rd_0,s1,consO_s,bindO_s,e1,frO_s];rw[setO_s _ _ _ (by simp)]
 simp![seqO_n,Ke,Kd,rd_1,rd_0,s0,aY,decide_true,ifO_t,lstL_s,bindO_s];let em:∀(a d e f:Wq (D×Bool)) (x y:D),aF Y [Y,V,V,Y,Y,Y] [a,U (x,Y),U (y,Y),d,e,f]=[B,U (x,Y),U (y,Y),B,B,B]:=λ_ _ _ _ _ _=>by rfl
 rw[bF (by simp;lia),em,bW (f:=cD) (h:=cD) (p:=bad) λc hc=>by
  let⟨φ,rfl,_⟩:=(g1 c).mp hc;let ef:=mq (AO [smP a b]) (by lia) φ (ps:=[smP a b]) (by simp) h2 λl hl=>(bf _ l).mpr hl
  simp![Ka,OF]at ef;let et:f_two_cells [bY ps a b,fL (uL [smP a b]) ((uL [smP a b]).map φ)]=U (.tup [ceD (ev φ a),ceD (ev φ b)],Y):=by
   rw[av (f:=f_two_cells) (δ:=[U (bY ps a b,Y),U (fL (uL [smP a b]) ((uL [smP a b]).map φ),Y)]) rfl rfl rfl];simp![dP,rd_1,rd_0,consO_s,bindO_s,eU,shO_s];rw[lstO_s _ (by simp)]
   simp![consO_s,bindO_s,ef,frO_s];rfl
  let eu:f_is_unlike [.tup [ceD (ev φ a),ceD (ev φ b)]]=U (.bl (!decide (ev φ a=ev φ b)),Y):=by
   rw[av (f:=f_is_unlike) (δ:=[U (.tup [ceD (ev φ a),ceD (ev φ b)],Y)]) rfl rfl rfl];let t0:ixO (U (.tup [ceD (ev φ a),ceD (ev φ b)])) (U (.int 0))=U (ceD (ev φ a)):=rfl;let t1:ixO (U (.tup [ceD (ev φ a),ceD (ev φ b)])) (U (.int 1))=U (ceD (ev φ b)):=rfl;simp![gQ,rd_0,t0,t1,mf];rfl
  unfold aC;rw[toName_s _ _ _ (by simp)]
  simp![bindO_s,Ke,Kd,rd_1,rd_0,yL (show(uL [smP a b]).length<=1000 by lia),consO_s,et,shO_s,eu,d9,hbad]
  cases decide (ev φ a=ev φ b)<;>rfl]
 rfl
end K41
namespace K41
open PySem L2 JP
variable[Md]
abbrev Mv:=Ww (Int×Ce)
def mvD (q:Int×Ce):D:=.tup [.int q.1,ceD q.2]
def led (mv:Mv) (c:Ce):Ce:=match mv.find? (λq=>decide (c=.bk q.1))with|some q=>q.2|none=>c
def nkM (mv:Mv):Prop:=(mv.map (·.1)).Nodup
theorem BB (c:Ce):(dn 8 (ceD c)&&isTD (ceD c))=V:=by cases c<;>rfl
def mN (mv:Mv) (r:Row):Row:=(r.1,r.2.map (led mv))
def Fm (mv:Mv) (c:Ce):cS (U (.dD (mv.map λq=>ceD (.bk q.1)) (mv.map λq=>ceD q.2))) (U (ceD c)) (U (ceD c))=U (ceD (led mv c)):=by
 rw[qa (kf:=λq:Int×Ce=>ceD (.bk q.1)) (vf:=λq=>ceD q.2) mv (BB c)]
 unfold led;have:(λq:Int×Ce=>decide (ceD (.bk q.1)=ceD c))=λq=>decide (c=.bk q.1):=funext λq=>decide_eq_decide.mpr ⟨λh=>(gJ h).symm,λh=>by rw[h]⟩
 rw[this];cases mv.find? λq=>decide (c=.bk q.1)<;>rfl
def A0 {rs:Ww Row}(h:rs.length<64) (h4:∀r∈rs,r.2.length<=4) {mv:Mv}(nd:nkM mv) (hm:mv.length<=12):∃fs:Ww Row,Cn fs/\(∀r,r∈fs↔∃q∈rs,r=mN mv q)/\fs.length<=rs.length/\f_moved [.lst (rs.map rowD),.lst (mv.map mvD)]=U (.lst (fs.map rowD),V):=by
 let⟨fs,f0,f1,f2,f3⟩:=kN (rs:=rs.map (mN mv)) (by simpa using h)
 refine⟨fs,f0,λr=>by rw[f1,NH];exact⟨λ⟨q,a,b⟩=>⟨q,a,b.symm⟩,λ⟨q,a,b⟩=>⟨q,a,b.symm⟩⟩,by simp_all,?_⟩
 rw[av (f:=f_moved) (δ:=[U (.lst (rs.map rowD),Y),U (.lst (mv.map mvD),Y),B,B,B,B]) rfl rfl rfl];simp![uO,rd_1,rd_0,lstL_s,bindO_s];let em:∀a b c d e f:Wq (D×Bool),aF Y [Y,Y,Y,Y,Y,Y] [a,b,c,d,e,f]=[B,B,B,B,B,B]:=λ_ _ _ _ _ _=>by rfl
 rw[bF (by simp;lia),em,aM (f:=mvD) (h:=λq=>.tup [ceD (.bk q.1),ceD q.2]) λq _=>by
  rfl]
 rw[lstLim_s,oH (kf:=λq:Int×Ce=>ceD (.bk q.1)) (vf:=λq=>ceD q.2) mv (λq=>BB _) (by
  have:=OQ (λn:Int=>ceD (.bk n)) (S:=λa b=>a≠b) (λa b hab z=>hab (Ce.bk.inj (gJ z))) nd
  rw[K6]at this;exact this) (by lia),setO_s _ _ _ (by simp)]
 simp![seqO_n,Ke,Kd,rd_1,rd_0,lstL_s,bindO_s];let em2:∀(a b d e f:Wq (D×Bool)) (x:D),aF Y [Y,Y,V,Y,Y,Y] [a,b,U (x,Y),d,e,f]=[B,B,U (x,Y),B,B,B]:=λ_ _ _ _ _ _=>by rfl
 rw[bF (by simp;lia),em2,aM (f:=rowD) (h:=λr=>rowD (mN mv r)) λr hr=>by
  unfold aC;rw[toName_s _ _ _ (by simp)]
  let ex:=jU (t:=.str r.1) (xs:=r.2.map ceD) (ks:=mv.map λq=>ceD (.bk q.1)) (vs:=mv.map λq=>ceD q.2) (g:=λd=>((((mv.find? λq=>decide (ceD (.bk q.1)=d)).map λq=>ceD q.2).getD d))) (λx hx=>by
   grind [qa,BB]) (by rw[J8];have:=h4 r hr;lia)
  let eg:(r.2.map ceD).map (λd=>((((mv.find? λq=>decide (ceD (.bk q.1)=d)).map λq=>ceD q.2).getD d)))=(r.2.map (led mv)).map ceD:=by
   rw[K6,K6];refine K5 λc _=>?_
   have:=Fm mv c;rw[qa (kf:=λq:Int×Ce=>ceD (.bk q.1)) (vf:=λq=>ceD q.2) mv (BB c)]at this
   exact Lv this
  rw[eg]at ex;let er:rowD r=.tup [.str r.1,.tup (r.2.map ceD)]:=rfl;simp![bindO_s,Ke,Kd,rd_1,rd_0,sJ,consO_s,er,ex,shO_s];rfl]
 let e3:(rs.map λr=>rowD (mN mv r))=(rs.map (mN mv)).map rowD:=by rw[K6];rfl
 rw[lstLim_s,e3];simp![consO_s,bindO_s,f3,frO_s,retF_s,outF_r]
noncomputable def frL (ps qs:Ww Pat):Ww Kr:=(uL qs).filter λl=>!decide (l∈uL ps)
def wp {ps qs:Ww Pat}(h1:ps.length<=2) (h2:qs.length<=2) (h4:∀p∈ps,p.2.length<=4) (h5:∀p∈qs,p.2.length<=4):f_fresh [dL ps qs]=U (.lst ((frL ps qs).map D.str),V):=by
 rw[av (f:=f_fresh) (δ:=[U (dL ps qs,Y),B,B]) rfl rfl rfl];let e1:f_letters_of [.lst (ps.map aG)]=U (.lst ((uL ps).map D.str),V):=ay (by lia) h4
 let e2:f_letters_of [.lst (qs.map aG)]=U (.lst ((uL qs).map D.str),V):=ay (by lia) h5
 let hu:(uL qs).length<=16:=Kf (iA qs) (Kf (aw h5) (by lia))
 simp![uk,rd_0,m1,consO_s,bindO_s,e1,frO_s];rw[setO_s _ _ _ (by simp)]
 simp![seqO_n,Ke,Kd,rd_1,rd_0,m2,consO_s,bindO_s,e2,frO_s,lstL_s];rw[bF (by simp;lia),v7 (P:=λl=>!decide (l∈uL ps)) λl hl=>by
  by_cases hm:l∈uL ps<;>simp[aC,aF,sw,Am,hm]]
 rfl
def eE:Ww Kr->Int->Bi
 |[],_=>[]
 |l::ls,k=>(l,.bk k)::eE ls (k+1)
theorem fX:∀(ls:Ww Kr) (k:Int),(eE ls k).map (·.1)=ls
 |[],_=>rfl
 |l::ls,k=>by show l::(eE ls (k+1)).map (·.1)=_;rw[fX ls]
theorem wn (u:Int) (a0:Wq (D×Bool)):∀(ls:Ww Kr) (n:Nat),aO (aC (aB (ah (af 3) (ah (af 2) (toNil)))) (λδ=>U V) bO [B,U (.int u,Y),B,B]) (fZ n (ls.map D.str))=U ((eE ls (u+n)).map bq)
 |[],n=>rfl
 |l::ls,n=>by
  rw[Ka];unfold fZ aO;let e:aC (aB (ah (af 3) (ah (af 2) (toNil)))) (λδ=>U V) bO [B,U (.int u,Y),B,B] (.tup [.int n,.str l])=U (U (bq (l,.bk (u+n)))):=by
   unfold aC;simp![toTup_s,toCons_s,toNil_s,toName_s,Mk,Kl,LO,bindO_s,Ke,Kd,Ou,OL,bO,rd_1,rd_0,addI_s,consO_s];rw[tupO_s _ (by simp)]
   simp![consO_s];rw[tupO_s _ (by simp)]
   rfl
  let ih:=wn u a0 ls (n+1);rw[show u+((n+1:Nat):Int)=u+n+1 by lia]at ih
  rw[e,ih];rfl
def mQ {ps qs:Ww Pat}(h1:ps.length<=2) (h2:qs.length<=2) (h4:∀p∈ps,p.2.length<=4) (h5:∀p∈qs,p.2.length<=4) (u:Int):f_fresh_moves [dL ps qs,.int u]=U (.lst ((eE (frL ps qs) u).map bq),V):=by
 let hu:(uL qs).length<=16:=Kf (iA qs) (Kf (aw h5) (by lia))
 let hf:(frL ps qs).length<=16:=Kf (Lm ..) hu;rw[av (f:=f_fresh_moves) (δ:=[U (dL ps qs,Y),U (.int u,Y),B,B]) rfl rfl rfl];let hl:∀(ds:Ww D) (n:Nat),(fZ n ds).length=ds.length:=λds=>by
  induction ds with
  |nil=>intro n;rfl
  |cons d ds ih=>intro n;show(fZ (n+1) ds).length+1=_;rw[ih];rfl
 let em:∀(a c d:Wq (D×Bool)) (x:D),aF Y [Y,V,Y,Y] [a,U (x,Y),c,d]=[B,U (x,Y),B,B]:=λ_ _ _ _=>by rfl
 simp![dI,rd_1,rd_0,consO_s,bindO_s,wp h1 h2 h4 h5,frO_s,rC];rw[bF (by rw[hl,J8,lim_eq];lia),em,wn u B,lstLim_s]
 simp
def jv (ps:Ww Pat) (a b:Te) {us:Ww Kr}(nd:us.Nodup) (hu:us.length<=100) (φ:Fit) (hl:∀l∈aI [smP a b],l∈us):f_two_cells [bY ps a b,fL us (us.map φ)]=U (.tup [ceD (ev φ a),ceD (ev φ b)],Y):=by
 let h2:∀p∈[smP a b],p.2.length<=4:=λp hp=>by simp_all
 let ef:=mq nd hu φ (ps:=[smP a b]) (by simp) h2 hl
 simp![Ka,OF]at ef;rw[av (f:=f_two_cells) (δ:=[U (bY ps a b,Y),U (fL us (us.map φ),Y)]) rfl rfl rfl];simp![dP,rd_1,rd_0,consO_s,bindO_s,eU,shO_s];rw[lstO_s _ (by simp)]
 simp![consO_s,bindO_s,ef,frO_s];rfl
def cG:Ce->Bool|.nm _=>V|.bk _=>Y
def Cg (c:Ce):eqO (ixO (U (ceD c)) (U (.int 0))) (U (.str "name"))=U (cG c):=by
 cases c with
 |nm w=>rfl
 |bk n=>rfl
def nA (ps qs:Ww Pat) (f:D):f_is_clash [dL ps qs,f]=U (.bl Y,Y):=by
 rfl
def i7 (ps:Ww Pat) (a b:Te) {us:Ww Kr}(nd:us.Nodup) (hu:us.length<=100) (φ:Fit) (hl:∀l∈aI [smP a b],l∈us):f_is_clash [bY ps a b,fL us (us.map φ)]=U (.bl (cG (ev φ a)&&cG (ev φ b)),Y):=by
 rw[av (f:=f_is_clash) (δ:=[U (bY ps a b,Y),U (fL us (us.map φ),Y),B]) rfl rfl rfl];let e:neO (U (.str "same")) (U (.str "same"))=U Y:=D9 rfl;let t0:ixO (U (.tup [ceD (ev φ a),ceD (ev φ b)])) (U (.int 0))=U (ceD (ev φ a)):=rfl;let t1:ixO (U (.tup [ceD (ev φ a),ceD (ev φ b)])) (U (.int 1))=U (ceD (ev φ b)):=rfl;simp![jq,rd_1,rd_0,s0,e,ifO_f,nextO_s,seqO_n,consO_s,bindO_s,jv ps a b nd hu φ hl,shO_s];rw[setO_s _ _ _ (by simp)]
 simp![seqO_n,Ke,Kd,rd_1,rd_0,t0,t1,Cg,ofB_s];cases cG (ev φ a)<;>cases cG (ev φ b)<;>rfl
def smv:Ce->Ce->Int×Ce
 |.bk n,.bk k=>if n<k then(k,.bk n) else(n,.bk k)
 |.bk n,c=>(n,c)
 |.nm w,.bk n=>(n,.nm w)
 |.nm w,.nm _=>(0,.nm w)
def Jl (n k:Int):ltD 15 (ceD (.bk n)) (ceD (.bk k))=U (decide (n<k)):=by
 show dC (ltD 14) [.str "blank",.int n] [.str "blank",.int k]=_;unfold dC;unfold dC
 by_cases h:n=k
 ·simp_all [dC]
 ·rw[if_neg λz=>h (D.int.inj z)];rfl
def qf (ps:Ww Pat) (a b:Te) {us:Ww Kr}(nd:us.Nodup) (hu:us.length<=100) (φ:Fit) (hl:∀l∈aI [smP a b],l∈us) (hn:(cG (ev φ a)&&cG (ev φ b))=Y):f_same_moves [bY ps a b,fL us (us.map φ)]=U (.lst [mvD (smv (ev φ a) (ev φ b))],V):=by
 let hc:∀x y:Ce,eG [ceD x,ceD y]=V:=λx y=>by
  let o:∀c:Ce,okD 15 (ceD c)=V:=λc=>by cases c<;>rfl
  simp[eG,o,yk 14]
 let hk:∀c:Ce,i9 .ts (ceD c)=V:=λc=>by cases c<;>rfl
 let hs:∀x y:Ce,lV .ts (U (.tup [ceD x,ceD y]))=U (.lst (dh [ceD x,ceD y])):=λx y=>by
  unfold lV
  simp_all
 let go:∀x y:Ce,dh [ceD (ev φ a),ceD (ev φ b)]=[ceD x,ceD y]->(cG y=V->∃n,x=.bk n/\smv (ev φ a) (ev φ b)=(n,y))->(cG y=Y->∃n,y=.bk n/\smv (ev φ a) (ev φ b)=(n,x))->f_same_moves [bY ps a b,fL us (us.map φ)]=U (.lst [mvD (smv (ev φ a) (ev φ b))],V):=λx y es h1 h2=>by
  let t0:ixO (U (.lst [ceD x,ceD y])) (U (.int 0))=U (ceD x):=rfl;let t1:ixO (U (.lst [ceD x,ceD y])) (U (.int 1))=U (ceD y):=rfl;rw[av (f:=f_same_moves) (δ:=[U (bY ps a b,Y),U (fL us (us.map φ),Y),B]) rfl rfl rfl];simp![eX,rd_1,rd_0,consO_s,bindO_s,jv ps a b nd hu φ hl,shO_s,hs,es];rw[setO_s _ _ _ (by simp)]
  simp![seqO_n,Ke,Kd,rd_1,rd_0,t0,t1,Cg];cases hny:cG y with
  |true=>let⟨n,rfl,e⟩:=h1 hny;rw[e];rfl
  |false=>let⟨n,rfl,e⟩:=h2 hny;rw[e];rfl
 cases ha:ev φ a with
 |nm w=>
  cases hb:ev φ b with
  |nm v=>rw[ha,hb]at hn;cases hn
  |bk n=>rw[ha,hb]at go;exact go (.bk n) (.nm w) rfl (λ_=>⟨n,rfl,rfl⟩) λz=>nomatch z
 |bk n=>
  cases hb:ev φ b with
  |nm w=>rw[ha,hb]at go;exact go (.bk n) (.nm w) rfl (λ_=>⟨n,rfl,rfl⟩) λz=>nomatch z
  |bk k=>
   rw[ha,hb]at go;let e:dh [ceD (.bk n),ceD (.bk k)]=if k<n then[ceD (.bk k),ceD (.bk n)] else[ceD (.bk n),ceD (.bk k)]:=by
    show AA (ceD (.bk n)) [ceD (.bk k)]=_;unfold AA AA;rw[Jl]
    by_cases h:k<n<;>simp[h]
   by_cases h:k<n
   ·rw[if_pos h]at e
    exact go _ _ e (λz=>nomatch z) λ_=>⟨n,rfl,by simp[smv];lia⟩
   ·rw[if_neg h]at e
    refine go _ _ e (λz=>nomatch z) λ_=>⟨k,rfl,?_⟩
    by_cases h':n<k
    ·simp[smv,h']
    ·obtain rfl:n=k:=by lia
     simp[smv]
def bls:Ww Ce->Ww Int
 |[]=>[]
 |.bk n::cs=>n::bls cs
 |.nm _::cs=>bls cs
theorem tF:∀cs:Ww Ce,(bls cs).length<=cs.length
 |[]=>Kh _
 |.bk n::cs=>Nat.succ_le_succ (tF cs)
 |.nm _::cs=>Nh (tF cs)
theorem iX:∀ns:Ww Int,wB (ns.map D.int)=U ns
 |[]=>rfl
 |n::ns=>by simp![Ka,wB,iX ns,ae]
def wm (c:Ww Ce):Int:=if bls c=[] then -1 else lT (bls c)
theorem v8:∀cs:Ww Ce,aO (aC (af 1) (λδ=>eqO (ixO (rd Y 1 δ) (U (.int 0))) (U (.str "blank"))) Ac [B,B]) (cs.map ceD)=U ((bls cs).map D.int)
 |[]=>rfl
 |c::cs=>by
  rw[Ka];unfold aO;rw[v8 cs];cases c<;>rfl
def Gz {c:Ww Ce}(hc:c.length<=1000):f_age [cD c]=U (.int (wm c),Y):=by
 rw[av (f:=f_age) (δ:=[U (cD c,Y),B]) rfl rfl rfl];let et:wd (U (cD c))=U (c.map ceD):=rfl;let em:∀a b:Wq (D×Bool),aF Y [Y,Y] [a,b]=[B,B]:=λ_ _=>by rfl
 simp![Ed,rd_1,rd_0,et,bindO_s];rw[bF (by simp;lia),em,v8,lstLim_s]
 unfold mX Aq;simp![iX];rfl
def iO {ns:Ww Int}(h:ns≠[]):lT ns∈ns:=by
 unfold lT;have:=jr (λi j=>decide (ns.getD i 0>ns.getD j 0)) (ns.length - 1)
 let hl:=qag.mpr h;rw[Lk,K7 (by lia)]
 exact LC _
def Bo (ps:Ww Pat) (a b:Te):f_urgency_of [bY ps a b]=U (.int 0,Y):=by
 rfl
def CK {ps qs:Ww Pat}(h1:ps.length<=2) (h2:qs.length<=2) (h4:∀p∈ps,p.2.length<=4) (h5:∀p∈qs,p.2.length<=4):∃u:Int,(u=1\/u=2)/\f_urgency_of [dL ps qs]=U (.int u,Y):=by
 refine⟨if frL ps qs=[] then 1 else 2,by lia,?_⟩
 rw[av (f:=f_urgency_of) (δ:=[U (dL ps qs,Y)]) rfl rfl rfl];simp![eW,rd_0,m0,aY,ms,decide_false,ifO_f,nextO_s,seqO_n,consO_s,bindO_s,wp h1 h2 h4 h5,frO_s];cases frL ps qs<;>rfl
end K41
namespace K41
open PySem L2 JP
variable[Md]
theorem jd (c:Ce):D.flat (ceD c)=V:=by cases c<;>rfl
def BV (gs:Ww (Ww Ce)):D.flats (gs.map cD)=V:=by
 rw[D.flats_all,Kw];intro d hd;let⟨c,_,rfl⟩:=mt.mp hd;show D.flats (c.map ceD)=V
 grind [D.flats_all,Kw,jd]
def Sf (vs:Ww Kr) (φ:Fit):Prop:=((vs.map λl=>(l,φ l)).map bq).Pairwise leD
def vI (us:Ww Kr) (φ:Fit):∃vs:Ww Kr,vs.Perm us/\Sf vs φ/\gM .ts (U (fL us (us.map φ)))=U (fL vs (vs.map φ)):=by
 let ez:us.zip (us.map φ)=us.map λl=>(l,φ l):=cz _
 let⟨gs,pg,eg⟩:=cx (f:=bq) (aH ((us.map λl=>(l,φ l)).map bq))
 let hg:∀q∈gs,q=(q.1,φ q.1):=λq hq=>by
  let⟨l,_,rfl⟩:=mt.mp (pg.mem_iff.mp hq);rfl
 let e2:gs=(gs.map (·.1)).map λl=>(l,φ l):=by
  rw[K6];exact((K5 λq hq=>(hg q hq).symm).trans (Oh gs)).symm
 refine⟨gs.map (·.1),?_,by unfold Sf;rw[<-e2,<-eg];exact bG (ye _),?_⟩
 ·have:=pg.map (·.1)
  rw[K6]at this;exact this.trans (by rw[show((·.1) ∘ λl=>(l,φ l):Kr->Kr)=id from rfl,Oh])
 ·let ef:fL us (us.map φ)=.lst ((us.map λl=>(l,φ l)).map bq):=by unfold fL;rw[ez]
  rw[ef,iN (ye _) (.inr (qab.mpr λx hx=>by let⟨q,_,rfl⟩:=mt.mp hx;rfl)),eg]
  unfold fL;rw[cz,<-e2]
section
variable{rs:Ww Row}(hrs:rs.length<=25) {ps:Ww Pat}(h1:ps.length<=2) (h4:∀p∈ps,p.2.length<=4)
include hrs h1 h4
theorem sT:∀(ls kn:Ww Kr) (ψ:Fit) (x4:Wq (D×Bool)),(∀l∈ls,l∈aI ps)->kn.Nodup->(∀l∈kn,l∈aI ps)->(∀p∈ps,da rs ψ p)->∃(kn':Ww Kr) (χ:Fit) (y4:Wq (D×Bool)),kn'.Nodup/\(∀l∈kn',l∈aI ps)/\(∀l∈kn,l∈kn'/\χ l=ψ l)/\(∀l∈ls,l∈kn')/\(∀p∈ps,da rs χ p)/\
  am (λd δ=>ae ((af 4) d δ) cV) (ls.map D.str) [U (.lst (rs.map rowD),Y),U (.lst (ps.map aG),Y),U (.lst (kn.map D.str),V),U (cD (kn.map ψ),Y),x4]=
   U (.next [U (.lst (rs.map rowD),Y),U (.lst (ps.map aG),Y),U (.lst (kn'.map D.str),V),U (cD (kn'.map χ),Y),y4])
 |[],kn,ψ,x4,_,n1,k1,f1=>⟨kn,ψ,x4,n1,k1,λl h=>⟨h,rfl⟩,(λl h=>nomatch h),f1,by rfl⟩
 |l::ls,kn,ψ,x4,hl,n1,k1,f1=>by
  let hlets:(aI ps).length<=8:=Kf (aw h4) (by lia)
  let hkl:kn.length<=8:=Kf (KV n1 k1) hlets;let r2:∀x3 x4:Wq (D×Bool),rd V 2 [U (.lst (rs.map rowD),Y),U (.lst (ps.map aG),Y),U (.lst (kn.map D.str),V),x3,x4]=U (.lst (kn.map D.str)):=λ_ _=>rfl
  by_cases hm:l∈kn
  ·let⟨kn',χ,y4,a1,a2,a3,a4,a5,e⟩:=sT ls kn ψ (U (.str l,Y)) (λx hx=>hl x (.tail _ hx)) n1 k1 f1
   refine⟨kn',χ,y4,a1,a2,a3,λx hx=>?_,a5,?_⟩
   ·grind
   ·rw[Ka]
    unfold am;rw[toName_s _ _ _ (by simp)]
    simp![bindO_s,Ke,Kd,cV,rd_1,rd_0,r2,Am,hm,decide_true,Mu,ifO_f,nextO_s];exact e
  ·let hwp:∀x∈kn++[l],x∈aI ps:=λx hx=>by
    grind
   let nd':(kn++[l]).Nodup:=by
    rw[Nd];exact⟨n1,by simp,λa ha b hb e=>hm (by simp_all)⟩
   let⟨fs,_,m1,ej,_⟩:=qH hrs (ps:=ps) (by lia) h4 (kn:=kn) (fd:=[kn.map ψ]) (by lia) n1 (by simp) (by simp) k1 (by simp) (λk hk=>by
    simp![Kl,LO,MH,Nat.one_mul];exact Kf (JJ hrs (by lia)) (by decide)) (wanted:=kn++[l]) (by rw[K0,Nb];lia) hwp
   let⟨gs,pg,eg⟩:=cx (aH (fs.map cD));let hmem:(kn++[l]).map ψ∈gs:=pg.mem_iff.mpr ((m1 _).mpr ⟨ψ,rfl,by simp,f1⟩)
   let⟨g0,gr,hgs⟩:=List.exists_cons_of_ne_nil (show gs≠[] from λz=>by simp_all)
   let⟨χ,hg0,hk,hf⟩:=(m1 g0).mp (pg.mem_iff.mp (by rw[hgs];exact .head _))
   let agree:∀x∈kn,χ x=ψ x:=λx hx=>qak.mp (qaa.mp hk) x hx
   let⟨kn',ω,y4,a1,a2,a3,a4,a5,e⟩:=sT ls (kn++[l]) χ (U (.str l,Y)) (λx hx=>hl x (.tail _ hx)) nd' hwp hf
   refine⟨kn',ω,y4,a1,a2,λx hx=>⟨(a3 x (Li _ hx)).1,(a3 x (Li _ hx)).2.trans (agree x hx)⟩,λx hx=>?_,a5,?_⟩
   ·grind
   ·let ec:my (U (.lst (kn.map D.str))) (U (.lst [.str l]))=U (.lst ((kn++[l]).map D.str)):=by
     simp![my,b2,ae];rw[if_pos]
     ·simp
     ·rw[nW,decide_eq_true (by rw[J8,Nb,lim_eq];lia)];rfl
    let l1:bR (U [.str l])=U (.lst [.str l]):=lstO_s _ (by simp)
    let l2:bR (U [cD (kn.map ψ)])=U (.lst [cD (kn.map ψ)]):=lstO_s _ (by simp)
    let ej':flO (f_joined_from [.lst (rs.map rowD),.lst (ps.map aG),.lst ((kn++[l]).map D.str),.lst (kn.map D.str),.lst [cD (kn.map ψ)]])=U (.lst (gs.map cD)):=by
     have:f_joined_from [.lst (rs.map rowD),.lst (ps.map aG),.lst ((kn++[l]).map D.str),.lst (kn.map D.str),.lst [cD (kn.map ψ)]]=U (.lst (gs.map cD),V):=by rw[<-eg];exact ej
     rw[this];unfold flO;dsimp only;rw[if_pos (BV gs)]
    let i0:ixO (U (.lst (gs.map cD))) (U (.int 0))=U (cD ((kn++[l]).map χ)):=by
     rw[hgs,hg0,Ka,ixO_l,Jw]
    let q0:∀(a:D) (x1 x2 x3 x4:Wq (D×Bool)),rd V 0 [U (a,Y),x1,x2,x3,x4]=U a:=λ_ _ _ _ _=>rfl
    let q1:∀(a:D) (x0 x2 x3 x4:Wq (D×Bool)),rd V 1 [x0,U (a,Y),x2,x3,x4]=U a:=λ_ _ _ _ _=>rfl
    rw[Ka];unfold am;rw[toName_s _ _ _ (by simp)]
    simp![bindO_s,Ke,Kd,cV,rd_1,rd_0,r2,Am,hm,decide_false,NL,ifO_t,consO_s,l1,l2,ec,q0,q1,ej',i0];rw[setO_s _ _ _ (by simp)]
    simp![seqO_n,Ke,Kd,rd_1,rd_0];rw[gF (ds:=kn.map D.str) _ (by rfl) (by simp;lia)]
    simp_all
theorem tB {kn:Ww Kr}(n1:kn.Nodup) (k1:∀l∈kn,l∈aI ps) {φ:Fit}(f1:∀p∈ps,da rs φ p):∃(vs:Ww Kr) (ψ:Fit),(∀l∈kn,ψ l=φ l)/\(∀p∈ps,da rs ψ p)/\vs.Nodup/\(∀l,l∈vs↔l∈aI ps)/\Sf vs ψ/\f_fit_with [.lst (rs.map rowD),.lst (ps.map aG),.lst (kn.map D.str),cD (kn.map φ)]=U (fL vs (vs.map ψ),V):=by
 let el:f_letters_of [.lst (ps.map aG)]=U (.lst ((uL ps).map D.str),V):=ay (by lia) h4
 let⟨kn',χ,y4,a1,a2,a3,a4,a5,e⟩:=sT hrs h1 h4 (uL ps) kn φ B (λl hl=>(bf ps l).mp hl) n1 k1 f1
 let⟨vs,pv,sf,es⟩:=vI kn' χ;let hlets:(aI ps).length<=8:=Kf (aw h4) (by lia)
 let hkl:kn'.length<=8:=Kf (KV a1 a2) hlets;refine⟨vs,χ,λl hl=>(a3 l hl).2,a5,pv.nodup_iff.mpr a1,λl=>⟨λh=>a2 l (pv.mem_iff.mp h),λh=>pv.mem_iff.mpr (a4 l ((bf ps l).mpr h))⟩,sf,?_⟩
 rw[av (f:=f_fit_with) (δ:=[U (.lst (rs.map rowD),Y),U (.lst (ps.map aG),Y),U (.lst (kn.map D.str),Y),U (cD (kn.map φ),Y),B]) rfl rfl rfl];simp![jc,rd_1,rd_0,listO_l];rw[setF_s _ _ _ (by simp)]
 simp![seqO_n,Ke,Kd,rd_1,rd_0,consO_s,bindO_s,el,frO_s,lstL_s,e,frzE_1,frzE_0,jH,yL (show kn'.length<=1000 by lia),es,retF_s,outF_r]
end
end K41
namespace K41
open PySem L2 JP
variable[Md]
theorem gK {bt:Nat->Nat->Bool}(irr:∀i,bt i i=Y) (tr:∀i j k,bt i j=V->bt j k=V->bt i k=V):∀k i,i<=k->bt i (argBest bt k)=Y
 |0,i,h=>by rw[Nat.le_zero.mp h];exact irr 0
 |k+1,i,h=>by
  unfold argBest;let ih:=gK irr tr k
  grind
def trD (x:Nat×Ww Ce):D:=.tup [.int (wm x.2),.int (x.1:Int),cD x.2]
def IQ (x y:Nat×Ww Ce):(ltD 15 (trD x) (trD y)).isSome=V:=by
 show(dC (ltD 14) [.int (wm x.2),.int (x.1:Int),cD x.2] [.int (wm y.2),.int (y.1:Int),cD y.2]).isSome=V;unfold dC;split
 ·unfold dC
  split
  ·unfold dC
   split
   ·rfl
   ·refine iF λa ha b hb=>?_
    let⟨c,_,rfl⟩:=mt.mp ha;let⟨e,_,rfl⟩:=mt.mp hb;exact yk 12 c e
  ·rfl
 ·rfl
def Ii (x:Nat×Ww Ce):okD 15 (trD x)=V:=by
 simp![trD,okD,KG,NJ,MY,Nv];refine qab.mpr λd hd=>?_
 let⟨c,_,rfl⟩:=mt.mp hd;cases c<;>rfl
def HV (xs:Ww (Nat×Ww Ce)):eG (xs.map trD)=V:=by
 unfold eG
 simp_all [Kw,J9,Ii,IQ]
def Gv {xs:Ww (Nat×Ww Ce)}(h:xs≠[]):∃x∈xs,(∀y∈xs,wm x.2<=wm y.2)/\GD (U (.lst (xs.map trD)))=U (trD x):=by
 let hl:=qag.mpr h;let hle:=jr (btD (xs.map trD)) ((xs.map trD).length - 1);let hi:wu (xs.map trD)<xs.length:=by
  unfold wu;rw[J8]at hle⊢;lia
 let hmin:=gK (bt:=btD (xs.map trD)) (λi=>by
  exact decide_eq_false λz=>rT _ _ _ z z) (λi j k a b=>by
  exact decide_eq_true (CT _ _ _ _ (of_decide_eq_true a) (of_decide_eq_true b))) ((xs.map trD).length - 1)
 let get:∀i,(hi:i<xs.length)->(xs.map trD).getD i .non=trD xs[i]:=λi hi=>by simp_all
 refine⟨xs[wu (xs.map trD)],LC hi,λy hy=>?_,?_⟩
 ·let⟨i,hi',rfl⟩:=qah.mp hy
  have:=of_decide_eq_false (show decide (ltD 15 ((xs.map trD).getD i .non) ((xs.map trD).getD (wu (xs.map trD)) .non)=U V)=Y from hmin i (by simp;lia))
  rw[get i hi',get _ hi]at this;refine Int.not_lt.mp λz=>this ?_
  show dC (ltD 14) [.int (wm xs[i].2),_,_] [.int (wm (xs[wu (xs.map trD)]).2),_,_]=U V;unfold dC;rw[if_neg λe=>by lia]
  exact congrArg U (decide_eq_true z)
 ·unfold GD
  simp[HV,J8,hi];lia
structure RI (rs:Ww Row) where
 R:D
 ps:Ww Pat
 dl:Ww Kr
 u:Int
 fd:Ww (Ww Ce)
 hu:f_urgency_of [R]=U (.int u,Y)
 hb:f_broken_cells [.lst (rs.map rowD),R]=U (.lst (fd.map cD),V)
 hp:ixO (U R) (U (.int 1))=U (.lst (ps.map aG))
 hd:f_deciding_letters [R]=U (.lst (dl.map D.str),V)
 ft:∀c∈fd,∃φ:Fit,c=dl.map φ/\∀p∈ps,da rs φ p
 nd:dl.Nodup
 ll:∀l∈dl,l∈aI ps
 pl:ps.length<=2
 p4:∀p∈ps,p.2.length<=4
 fl:fd.length<=625
 ur:u=0\/u=1\/u=2
variable{rs:Ww Row}
def RI.dlen (r:RI rs):r.dl.length<=8:=Kf (KV r.nd r.ll) (Kf (aw r.p4) (by have:=r.pl;lia))
def RI.clen (r:RI rs) {c:Ww Ce}(h:c∈r.fd):c.length<=8:=by
 let⟨φ,rfl,_⟩:=r.ft c h;rw[J8];exact r.dlen
def fnd (u:Int):Nat->Ww (RI rs)->Ww (Nat×Ww Ce)
 |_,[]=>[]
 |k,r::L=>(if r.u=u then r.fd.map λc=>(k,c) else[])++fnd u (k+1) L
nonrec theorem xR {u:Int}{x:Nat×Ww Ce}:∀{L:Ww (RI rs)}{k:Nat},x∈fnd u k L->k<=x.1/\∃r,L[x.1 - k]?=U r/\r.u=u/\x.2∈r.fd
 |[],k,h=>nomatch h
 |r::L,k,h=>by
  rcases qac.mp h with h|h
  ·split at h
   ·rename_i hu
    let⟨c,hc,rfl⟩:=mt.mp h;exact⟨Kh _,r,by simp,hu,hc⟩
   ·cases h
  ·let⟨h1,r',h2,h3⟩:=xR h
   refine⟨by lia,r',?_,h3⟩
   rw[show x.1 - k=(x.1 - (k+1))+1 by lia]
   simpa using h2
def k8 {u:Int}:∀{L:Ww (RI rs)}{k:Nat},fnd u k L=[]->∀r∈L,r.u=u->r.fd=[]:=by
 intro L
 induction L with
 |nil=>exact λ_ _ hq=>nomatch hq
 |cons r L ih=>
  intro k h q hq hu;let⟨h1,h2⟩:=List.append_eq_nil_iff.mp h
  rcases on.mp hq with rfl|hq
  ·simp_all
  ·exact ih h2 q hq hu
theorem uZ (S:D) (u:Int) (a0 a1 x6 x7:Wq (D×Bool)) (h0:a0=U (.lst (rs.map rowD),Y)):∀(L:Ww (RI rs)) (k:Nat) (acc:Ww (Nat×Ww Ce)) (x4 x5:Wq (D×Bool)),acc.length+625*L.length<=100000->∃y4 y5,
  am (λd δ=>ae ((aB (ah (af 4) (ah (af 5) (toNil)))) d δ) cJ) (fZ k (L.map (·.R))) [a0,a1,U (.int u,Y),U (.lst (acc.map trD),V),x4,x5,x6,x7]=U (.next [a0,a1,U (.int u,Y),U (.lst ((acc++fnd u k L).map trD),V),y4,y5,x6,x7])
 |[],k,acc,x4,x5,_=>⟨x4,x5,by simp[am,fZ,fnd]⟩
 |r::L,k,acc,x4,x5,hl=>by
  rw[Kl]at hl;let hfl:=r.fl;let⟨y4,y5,e⟩:=uZ S u a0 a1 x6 x7 h0 L (k+1) (acc++if r.u=u then r.fd.map (λc=>(k,c)) else[]) (U (.int k,Y)) (U (r.R,Y)) (by
   rw[K0];split<;>simp<;>lia)
  refine⟨y4,y5,?_⟩
  rw[LJ]at e;rw[Ka];unfold fZ am;subst h0;simp![toTup_s,toCons_s,toNil_s,toName_s,Mk,Kl,LO,bindO_s,Ke,Kd,Ou,OL,cJ,rd_1,rd_0,consO_s,r.hu,shO_s,eqO_int]
  by_cases hu:r.u=u
  ·let em:∀(a b c d f g h:Wq (D×Bool)) (x:D),aF Y [Y,Y,Y,Y,V,Y,Y,Y] [a,b,c,d,U (x,Y),f,g,h]=[B,B,B,B,U (x,Y),B,B,B]:=λ_ _ _ _ _ _ _ _=>rfl
   simp![hu,decide_true,ifO_t,r.hb,frO_s,lstL_s,bindO_s];rw[bF (by simp;lia),em,aM (f:=cD) (h:=λc=>trD (k,c)) λc hc=>by
    unfold aC;rw[toName_s _ _ _ (by simp)]
    simp![bindO_s,Ke,Kd,rd_1,rd_0,fG,consO_s,Gz (show c.length<=1000 by have:=r.clen hc;lia),shO_s]
    rfl]
   rw[lstLim_s,C4 (ds:=acc.map trD) rfl (by simp;lia)]
   simp![hu,if_true]at e;rw[show acc.map trD++r.fd.map (λc=>trD (k,c))=(acc++r.fd.map λc=>(k,c)).map trD by simp]
   unfold fnd;rw[if_pos hu];exact e
  simp_all [decide_false,ifO_f,nextO_s,if_false,Ls,fnd,if_neg]
end K41
namespace K41
open PySem L2 JP
variable[Md]
variable{rs:Ww Row}
structure Ch (L:Ww (RI rs)) (k:Nat) (r:RI rs) (c:Ww Ce) (vs:Ww Kr) (ψ:Fit):Prop where
 at':L[k]?=U r
 mem:c∈r.fd
 low:∀(i:Nat) r' c',L[i]?=U r'->r'.u=r.u->c'∈r'.fd->wm c<=wm c'
 eq:r.dl.map ψ=c
 fit:∀p∈r.ps,da rs ψ p
 nd:vs.Nodup
 vl:∀l,l∈vs↔l∈aI r.ps
 sf:Sf vs ψ
def BZ {u:Int}{c:Ww Ce}:∀{L:Ww (RI rs)}{k i:Nat}{r:RI rs},L[i]?=U r->r.u=u->c∈r.fd->(k+i,c)∈fnd u k L:=by
 intro L
 induction L with
 |nil=>exact λh=>nomatch h
 |cons q L ih=>
  intro k i r h hu hc;cases i with
  |zero=>simp_all [fnd,if_pos,Li]
  |succ i=>
   rw[show k+(i+1)=k+1+i by lia]
   exact Ly _ (ih h hu hc)
def jp (hrs:rs.length<=25) (L:Ww (RI rs)) (hL:L.length<=100) (u:Int) (x3 x4 x5 x6 x7:Wq (D×Bool)):
  (fnd u 0 L=[]->∃y3 y4 y5,aP [U (.lst (rs.map rowD),Y),U (.lst (L.map (·.R)),Y),U (.int u,Y),x3,x4,x5,x6,x7]=U (.next [U (.lst (rs.map rowD),Y),U (.lst (L.map (·.R)),Y),U (.int u,Y),y3,y4,y5,x6,x7]))/\
  (fnd u 0 L≠[]->∃k r c vs ψ,Ch L k r c vs ψ/\r.u=u/\aP [U (.lst (rs.map rowD),Y),U (.lst (L.map (·.R)),Y),U (.int u,Y),x3,x4,x5,x6,x7]=U (.ret (.tup [.int (k:Int),fL vs (vs.map ψ)]) V)):=by
 let⟨y4,y5,e⟩:=uZ (rs:=rs) .non u (U (.lst (rs.map rowD),Y)) (U (.lst (L.map (·.R)),Y)) x6 x7 rfl L 0 [] x4 x5 (by simp;lia)
 simp![MX,OF]at e;let l0:bR (U [])=U (.lst []):=lstO_s _ (by simp)
 let tr:∀ds:Ww D,AB (U (.lst ds))=U (!decide (ds=[])):=λds=>by cases ds<;>rfl
 constructor
 ·intro h
  refine⟨U (.lst [],V),y4,y5,?_⟩
  simp![aP,l0];rw[setF_s _ _ _ (by simp)]
  simp![seqO_n,Ke,Kd,rd_1,rd_0,rC,bindO_s,e,h,OF,rd_0o,tr,decide_true,Mu,ifO_f,nextO_s]
 ·intro h
  let⟨x,hx,hlow,emin⟩:=Gv h;let⟨_,r,hr,hu,hc⟩:=xR hx;rw[Nat.sub_zero]at hr;let⟨φ,hφ,hf⟩:=r.ft _ hc;let⟨vs,ψ,b1,b2,b3,b4,b5,ew⟩:=tB hrs r.pl r.p4 r.nd r.ll hf;refine⟨x.1,r,x.2,vs,ψ,⟨hr,hc,λi r' c' h1 h2 hc'=>?_,?_,b2,b3,b4,b5⟩,hu,?_⟩
  ·exact hlow (0+i,c') (BZ h1 (h2.trans hu) hc')
  ·simp_all
  ·let ne:(fnd u 0 L).map trD≠[]:=λz=>h (qaE.mp z)
   let t1:ixO (U (trD x)) (U (.int 1))=U (.int (x.1:Int)):=rfl;let t2:ixO (U (trD x)) (U (.int 2))=U (cD x.2):=rfl;let tR:ixO (U (.lst (L.map (·.R)))) (U (.int (x.1:Int)))=U r.R:=by
    rw[ixO_l];exact lU (by lia) (by rw[Lj,Ky,hr];rfl)
   rw[<-hφ]at ew;simp![aP,l0];rw[setF_s _ _ _ (by simp)]
   simp![seqO_n,Ke,Kd,rd_1,rd_0,rC,bindO_s,e,rd_0o,tr,ne,decide_false,NL,ifO_t,frzE_1,frzE_0,fw,emin];rw[setO_s _ _ _ (by simp)]
   simp![seqO_n,Ke,Kd,rd_1,rd_0,t1,tR];rw[setO_s _ _ _ (by simp)]
   let fr:∀us:Ww Kr,∀c,frO (U (fL us c,V))=U (fL us c):=λ_ _=>rfl
   simp![seqO_n,Ke,Kd,rd_1,rd_0,t1,t2,r.hp,consO_s,bindO_s,r.hd,frO_s,ew,fr];rfl
def Ip (hrs:rs.length<=25) (L:Ww (RI rs)) (hL:L.length<=100):
  ((∀r∈L,r.fd=[])/\f_next_broken [.lst (rs.map rowD),.lst (L.map (·.R))]=U (.non,Y))\/∃k r c vs ψ,Ch L k r c vs ψ/\(∀r'∈L,r'.u=0->r'.fd≠[]->r.u=0)/\f_next_broken [.lst (rs.map rowD),.lst (L.map (·.R))]=U (.tup [.int (k:Int),fL vs (vs.map ψ)],V):=by
 let e3:rG (U (.int 3))=U [.int 0,.int 1,.int 2]:=by rw[nC 3 (by lia)];rfl
 let go:f_next_broken [.lst (rs.map rowD),.lst (L.map (·.R))]=j3 (ak (am (λd δ=>ae ((af 2) d δ) aP) [.int 0,.int 1,.int 2] [U (.lst (rs.map rowD),Y),U (.lst (L.map (·.R)),Y),B,B,B,B,B,B]) (λδ=>bp (U .non))):=by
  rw[av (f:=f_next_broken) (δ:=[U (.lst (rs.map rowD),Y),U (.lst (L.map (·.R)),Y),B,B,B,B,B,B]) rfl rfl rfl]
  simp![dJ,e3,bindO_s]
 let tn:∀(u:Int) (x2 x3 x4 x5 x6 x7:Wq (D×Bool)),af 2 (.int u) [U (.lst (rs.map rowD),Y),U (.lst (L.map (·.R)),Y),x2,x3,x4,x5,x6,x7]=U [U (.lst (rs.map rowD),Y),U (.lst (L.map (·.R)),Y),U (.int u,Y),x3,x4,x5,x6,x7]:=λu x2 x3 x4 x5 x6 x7=>by
  rfl
 rw[go];unfold am;rw[tn,bindO_s]
 by_cases h0:fnd 0 0 L=[]
 ·let⟨a3,a4,a5,e0⟩:=(jp hrs L hL 0 B B B B B).1 h0
  rw[e0];dsimp only;unfold am;rw[tn,bindO_s]
  by_cases h1:fnd 1 0 L=[]
  ·let⟨b3,b4,b5,e1⟩:=(jp hrs L hL 1 a3 a4 a5 B B).1 h1
   rw[e1];dsimp only;unfold am;rw[tn,bindO_s]
   by_cases h2:fnd 2 0 L=[]
   ·let⟨c3,c4,c5,e2⟩:=(jp hrs L hL 2 b3 b4 b5 B B).1 h2
    rw[e2];refine .inl ⟨λr hr=>?_,by rfl⟩
    rcases r.ur with h|h|h
    ·exact k8 h0 r hr h
    ·exact k8 h1 r hr h
    ·exact k8 h2 r hr h
   ·let⟨k,r,c,vs,ψ,C,_,e2⟩:=(jp hrs L hL 2 b3 b4 b5 B B).2 h2
    rw[e2];exact .inr ⟨k,r,c,vs,ψ,C,λr' h u z=>absurd (k8 h0 r' h u) z,rfl⟩
  ·let⟨k,r,c,vs,ψ,C,_,e1⟩:=(jp hrs L hL 1 a3 a4 a5 B B).2 h1
   rw[e1];exact .inr ⟨k,r,c,vs,ψ,C,λr' h u z=>absurd (k8 h0 r' h u) z,rfl⟩
 ·let⟨k,r,c,vs,ψ,C,hu,e0⟩:=(jp hrs L hL 0 B B B B B).2 h0
  rw[e0];exact .inr ⟨k,r,c,vs,ψ,C,λ_ _ _ _=>hu,rfl⟩
end K41
namespace K41
open PySem L2 JP
variable[Md]
variable{rs:Ww Row}
def D0 (hrs:rs.length<=25) {ps qs:Ww Pat}(h1:ps.length<=2) (h2:qs.length<=2) (h4:∀p∈ps,p.2.length<=4) (h5:∀p∈qs,p.2.length<=4):∃r:RI rs,r.R=dL ps qs/\r.ps=ps/\r.dl=dlM ps qs/\r.u≠0/\
  ∀x,x∈r.fd↔(∃φ:Fit,x=(dlM ps qs).map φ/\∀p∈ps,da rs φ p)/\¬∃φ:Fit,x=(dlM ps qs).map φ/\∀p∈qs,da rs φ p:=by
 let⟨fd,f1,f2,f3,f4⟩:=Ei hrs h1 h2 h4 h5;let⟨u,hu,eu⟩:=CK h1 h2 h4 h5;exact⟨⟨dL ps qs,ps,dlM ps qs,u,fd,eu,f4,m1 ps qs,vB h1 h2 h4 h5,λc hc=>((f3 c).mp hc).1,(AO qs).filter _,λl hl=>(bf ps l).mp (of_decide_eq_true (qad.mp hl).2),h1,h4,f2,.inr hu⟩,rfl,rfl,rfl,(show u≠0 by lia),f3⟩
def EZ (hrs:rs.length<=25) {ps:Ww Pat}(h1:ps.length<=2) (h4:∀p∈ps,p.2.length<=4) {a b:Te}(hab:∀l,l∈aI [smP a b]->l∈aI ps):∃r:RI rs,r.R=bY ps a b/\r.ps=ps/\r.dl=uL [smP a b]/\r.u=0/\
  ∀x,x∈r.fd↔∃φ:Fit,x=(uL [smP a b]).map φ/\(∀p∈ps,da rs φ p)/\ev φ a≠ev φ b:=by
 let⟨fd,f1,f2,f3,f4⟩:=EF hrs h1 h4 hab;exact⟨⟨bY ps a b,ps,uL [smP a b],0,fd,Bo ps a b,f4,s1 ps a b,v6 ps a b,λc hc=>by let⟨φ,e,h,_⟩:=(f3 c).mp hc;exact⟨φ,e,h⟩,AO _,λl hl=>hab l ((bf _ l).mp hl),h1,h4,f2,.inl rfl⟩,rfl,rfl,rfl,rfl,f3⟩
abbrev rwF (ψ:Fit) (qs:Ww Pat):Ww Row:=qs.map λq=>(q.1,q.2.map (ev ψ))
def Gm {x y:Wq D}{a b:Ww D}(hx:x=U (.lst a)) (hy:y=U (.lst b)) (fa:D.flats a=V) (fb:D.flats b=V) (h:a.length+b.length<=100000):my x y=U (.lst (a++b)):=by
 subst hx hy;show(if(decide (a.length+b.length<=lim)&&(D.flats a&&D.flats b))=V then _ else _)=_
 rw[fa,fb,decide_eq_true (by simp;lia)];rfl
def flG {x:Wq (D×Bool)}{ds:Ww D}(h:x=U (.lst ds,V)) (hf:D.flats ds=V):flO x=U (.lst ds):=by
 subst h;show(if D.flats ds=V then _ else _)=_
 rw[if_pos hf]
def zV (b:Bi):D.flats (b.map bq)=V:=by
 simp[D.flats_all,Kw,bq,D.flat,D.flats,jd]
def EK {ps qs:Ww Pat}(h1:ps.length<=2) (h2:qs.length<=2) (h4:∀p∈ps,p.2.length<=4) (h5:∀p∈qs,p.2.length<=4) {vs:Ww Kr}(nd:vs.Nodup) (vl:∀l,l∈vs↔l∈aI ps) (ψ:Fit) (u:Int):∃(χ:Fit) (f:D),(∀l∈aI ps,χ l=ψ l)/\(∀q∈eE (frL ps qs) u,χ q.1=q.2)/\
  my (U (fL vs (vs.map ψ))) (U (.lst ((eE (frL ps qs) u).map bq)))=U f/\f_filled [.lst (qs.map aG),f]=U (.lst ((rwF χ qs).map rowD),V):=by
 let hlets:(aI ps).length<=8:=Kf (aw h4) (by lia)
 let hvl:vs.length<=8:=Kf (KV nd λl hl=>(vl l).mp hl) hlets
 let hq:(uL qs).length<=8:=Kf (iA qs) (Kf (aw h5) (by lia))
 let hbl:(eE (frL ps qs) u).length<=8:=by
  have:(eE (frL ps qs) u).length=(frL ps qs).length:=by rw[<-J8 (f:=(·.1)),fX]
  rw[this];exact Kf (Lm ..) hq
 let ez:vs.zip (vs.map ψ)=vs.map λl=>(l,ψ l):=cz _
 let ek:((vs.map λl=>(l,ψ l))++eE (frL ps qs) u).map (·.1)=vs++frL ps qs:=by
  rw[Kn,fX,K6];congr 1;exact Oh _
 let ndk:(vs++frL ps qs).Nodup:=by
  rw[Nd];refine⟨nd,(AO qs).filter _,λx hx y hy e=>?_⟩
  subst e;have:=(qad.mp hy).2;simp[bf,(vl x).mp hx]at this
 generalize hP:(vs.map λl=>(l,ψ l))++eE (frL ps qs) u=P at*
 let⟨χ,hχ⟩:=vp (kn:=P.map (·.1)) (x:=P.map (·.2)) (ek▸ndk) (by simp)
 let hp:∀q∈P,χ q.1=q.2:=λq hq=>by
  rw[K6]at hχ;exact(qak.mp hχ q hq).symm
 let egs:P=(P.map (·.1)).zip ((P.map (·.1)).map χ):=by
  rw[<-hχ];exact qaG rfl rfl
 refine⟨χ,fL (P.map (·.1)) ((P.map (·.1)).map χ),λl hl=>?_,λq hq=>hp q (by rw[<-hP];exact Ly _ hq),?_,?_⟩
 ·exact hp (l,ψ l) (by rw[<-hP];exact Li _ (mt.mpr ⟨l,(vl l).mpr hl,rfl⟩))
 ·let ef:fL vs (vs.map ψ)=.lst ((vs.map λl=>(l,ψ l)).map bq):=by unfold fL;rw[ez]
  rw[ef,Gm rfl rfl (zV _) (zV _) (by simp;lia),<-Kn,hP]
  unfold fL;rw[<-egs]
 ·let hlen:(P.map (·.1)).length<=100:=by
   rw[ek,K0];have:(frL ps qs).length<=8:=Kf (Lm ..) hq
   lia
  rw[mq (us:=P.map (·.1)) (ek▸ndk) hlen χ (by lia) h5 λl hl=>?_]
  ·rw[K6];rfl
  ·rw[ek]
   by_cases h:l∈uL ps
   ·exact Li _ ((vl l).mpr ((bf ps l).mp h))
   ·exact Ly _ (qad.mpr ⟨(bf qs l).mpr hl,by simp[h]⟩)
abbrev eF (a0:Wq (D×Bool)) (RL:D) (mo:Int) (rs:Ww Row) (st:Ww D) (un:Int) (x6 x7 x8 x9:Wq (D×Bool)):DEnv:=[a0,U (RL,Y),U (.int mo,Y),U (.lst (rs.map rowD),V),U (.lst st,V),U (.int un,Y),x6,x7,x8,x9]
abbrev fuV (s:Kr) (rs:Ww Row) (st:Ww D):D:=.tup [.str s,.lst (rs.map rowD),.lst st]
def rtF {x:Wq D}{d:D}{g:DEnv->Wq Out}(h:x=U d):ak (bH x) g=U (.ret d V):=by subst h;rfl
def Fg (vs:Ww Kr) (c:Ww Ce):D.flats ((vs.zip c).map bq)=V:=by
 simp[D.flats_all,Kw,bq,D.flat,D.flats,jd]
section
variable{L:Ww (RI rs)}{RL:D}(hRL:RL=.lst (L.map (·.R))) {a0 x6 x7 x8 x9:Wq (D×Bool)}{mo un:Int}{st:Ww D}
def yK (hn:f_next_broken [.lst (rs.map rowD),RL]=U (.non,Y)):aL (eF a0 RL mo rs st un x6 x7 x8 x9)=U (.ret (fuV "full" rs st) V):=
 sqN (δ:=eF a0 RL mo rs st un (U (.non,Y)) x7 x8 x9) (show Bf V 6 (f_next_broken [.lst (rs.map rowD),RL]) _=_ by rw[hn];rfl) (ifT rfl (rtF (FZ rfl rfl rfl)))
include hRL
variable{k:Nat}{r:RI rs}{vs:Ww Kr}{ψ:Fit}(hk:L[k]?=U r) (hn:f_next_broken [.lst (rs.map rowD),RL]=U (.tup [.int (k:Int),fL vs (vs.map ψ)],V))
include hk hn
theorem j8 {g:DEnv->Wq Out}{z:Wq Out}(kk:g (eF a0 RL mo rs st un (U (.tup [.int (k:Int),.any],Y)) (U (fL vs (vs.map ψ),V)) (U (r.R,Y)) x9)=z):
  ak (Bf V 6 (ae (aa (rd V 3 (eF a0 RL mo rs st un x6 x7 x8 x9)) (aa (rd V 1 (eF a0 RL mo rs st un x6 x7 x8 x9)) (U []))) f_next_broken) (eF a0 RL mo rs st un x6 x7 x8 x9)) (λδ=>ak (ifO (wX (rd V 6 δ)) (we δ) (nextO δ)) (λδ=>ak (Cb 6 7 1 δ) (λδ=>ak (aE 8 (ixO (rd Y 1 δ) (ixO (rd Y 6 δ) (U (.int 0)))) δ) g)))=z:=by
 refine sqN (δ:=eF a0 RL mo rs st un (U (.tup [.int (k:Int),fL vs (vs.map ψ)],V)) x7 x8 x9) ?_ (ifF rfl (sqN rfl (sqN rfl (sqO (d:=r.R) ?_ kk))))
 ·show Bf V 6 (f_next_broken [.lst (rs.map rowD),RL]) _=_
  rw[hn];show(if(V&&V&&(Y||(V&&(V&&(D.flats ((vs.zip (vs.map ψ)).map bq)&&V)))||(Y&&Y)))=V then _ else _)=_
  rw[Fg];rfl
 ·show ixO (U RL) (U (.int (k:Int)))=_
  rw[hRL,ixO_l];exact lU (by lia) (by rw[Lj,Ky,hk];rfl)
theorem wL (hc:f_is_clash [r.R,fL vs (vs.map ψ)]=U (.bl V,Y)):aL (eF a0 RL mo rs st un x6 x7 x8 x9)=U (.ret (.tup [.str "clash",.lst st,.int (k:Int),fL vs (vs.map ψ)]) V):=
 j8 hRL hk hn (ifT (congrArg (λz=>tyB (shO z)) hc) (rtF (JF rfl rfl rfl rfl)))
theorem rA (hc:f_is_clash [r.R,fL vs (vs.map ψ)]=U (.bl Y,Y)) (hm:mo<=st.length):aL (eF a0 RL mo rs st un x6 x7 x8 x9)=U (.ret (fuV "open" rs st) V):=
 j8 hRL hk hn (ifF (congrArg (λz=>tyB (shO z)) hc) (sqN rfl (ifT (congrArg U (decide_eq_true hm)) (rtF (FZ rfl rfl rfl)))))
end
end K41
namespace K41
open PySem L2 JP
variable[Md]
variable{rs:Ww Row}
def eH (rs:Ww Row):D.flats (rs.map rowD)=V:=by
 rw[D.flats_all,Kw];intro d hd;let⟨r,_,rfl⟩:=mt.mp hd;have:D.flats (r.2.map ceD)=V:=by
  rw[D.flats_all,Kw];intro d hd;let⟨c,_,rfl⟩:=mt.mp hd;exact jd c
 simp[rowD,D.flat,D.flats,this]
abbrev stD (k:Nat) (vs:Ww Kr) (ψ:Fit) (ms:Ww D):D:=.tup [.int (k:Int),fL vs (vs.map ψ),.lst ms]
section
variable{L:Ww (RI rs)}{RL:D}(hRL:RL=.lst (L.map (·.R))) {k:Nat}{r:RI rs}{c:Ww Ce}{vs:Ww Kr}{ψ:Fit}(C:Ch L k r c vs ψ) (hn:f_next_broken [.lst (rs.map rowD),RL]=U (.tup [.int (k:Int),fL vs (vs.map ψ)],V)) (hrs:rs.length<=20)
include hRL C hn hrs
theorem zv {qs:Ww Pat}(hR:r.R=dL r.ps qs) (h2:qs.length<=2) (h5:∀p∈qs,p.2.length<=4) (un:Int) (st:Ww D) (hst:st.length<=1000):
  ∃(χ:Fit) (rs':Ww Row),(∀l∈aI r.ps,χ l=ψ l)/\(∀q∈eE (frL r.ps qs) un,χ q.1=q.2)/\Cn rs'/\(∀q,q∈rs'↔q∈rs\/q∈rwF χ qs)/\rs'.length<=rs.length+qs.length/\
  ∀a0 x6 x7 x8 x9 mo,¬mo<=(st.length:Int)->∃y6 y7 y8 y9,aL (eF a0 RL mo rs st un x6 x7 x8 x9)=U (.next (eF a0 RL mo rs' (st++[stD k vs ψ ((eE (frL r.ps qs) un).map bq)]) (un+((eE (frL r.ps qs) un).map bq).length) y6 y7 y8 y9)):=by
 let hc:f_is_clash [r.R,fL vs (vs.map ψ)]=U (.bl Y,Y):=by rw[hR];exact nA _ _ _
 let⟨χ,f,hχ,hν,ef,eg⟩:=EK r.pl h2 r.p4 h5 C.nd C.vl ψ un;let⟨rs',f0,f1,f2,f3⟩:=kN (rs:=rs++rwF χ qs) (by simp;lia)
 let em:=mQ r.pl h2 r.p4 h5 un;rw[<-hR]at em;refine⟨χ,rs',hχ,hν,f0,λq=>by rw[f1,Nw],by simp_all,λa0 x6 x7 x8 x9 mo hm=>⟨U (.tup [.int (k:Int),.any],Y),U (fL vs (vs.map ψ),Y),U (r.R,Y),U (.lst ((eE (frL r.ps qs) un).map bq),Y),?_⟩⟩
 refine j8 hRL C.at' hn (ifF (congrArg (λz=>tyB (shO z)) hc) (sqN rfl (ifF (congrArg U (decide_eq_false hm)) (sqN rfl (ifF ?_ (sqA (sqO (d:=.lst ((eE (frL r.ps qs) un).map bq)) (frG em) (sqA (sqF (d:=.lst (rs'.map rowD)) ?_ (sqO (j4 rfl (CS rfl)) ?_))))))))))
 ·show eqO (ixO (U r.R) (U (.int 0))) (U (.str "same"))=_
  rw[hR,m0,aY];simp[ms]
 ·let e1:flO (ae (aa (ixO (U r.R) (U (.int 2))) (aa (my (U (fL vs (vs.map ψ))) (U (.lst ((eE (frL r.ps qs) un).map bq)))) (U []))) f_filled)=U (.lst ((rwF χ qs).map rowD)):=by
   rw[hR,m2,ef];exact flG eg (eH _)
  show flO (ae (aa (my (U (.lst (rs.map rowD))) (flO (ae (aa (ixO (U r.R) (U (.int 2))) (aa (my (U (fL vs (vs.map ψ))) (U (.lst ((eE (frL r.ps qs) un).map bq)))) (U []))) f_filled))) (U [])) f_stand_of)=_;rw[e1,Gm rfl rfl (eH _) (eH _) (by simp;lia),<-Kn]
  exact flG f3 (eH _)
 ·exact F3 (ds:=st) (FZ rfl rfl rfl) rfl (by lia)
theorem zF (hr4:∀q∈rs,q.2.length<=4) {a b:Te}(hR:r.R=bY r.ps a b) (hab:∀l∈aI [smP a b],l∈aI r.ps) (un:Int) (st:Ww D) (hst:st.length<=1000) (h:(cG (ev ψ a)&&cG (ev ψ b))=Y):
  ∃rs':Ww Row,Cn rs'/\(∀q,q∈rs'↔∃q'∈rs,q=mN [smv (ev ψ a) (ev ψ b)] q')/\rs'.length<=rs.length/\
  ∀a0 x6 x7 x8 x9 mo,¬mo<=(st.length:Int)->∃y6 y7 y8 y9,aL (eF a0 RL mo rs st un x6 x7 x8 x9)=U (.next (eF a0 RL mo rs' (st++[stD k vs ψ [mvD (smv (ev ψ a) (ev ψ b))]]) un y6 y7 y8 y9)):=by
 let hvl:vs.length<=100:=Kf (KV C.nd λl hl=>(C.vl l).mp hl) (Kf (aw r.p4) (by have:=r.pl;lia))
 let hl:∀l∈aI [smP a b],l∈vs:=λl h=>(C.vl l).mpr (hab l h)
 let hc:f_is_clash [r.R,fL vs (vs.map ψ)]=U (.bl Y,Y):=by rw[hR,i7 r.ps a b C.nd hvl ψ hl,h]
 let em:=qf r.ps a b C.nd hvl ψ hl h;rw[<-hR]at em;let⟨rs',f0,f1,f2,f3⟩:=A0 (rs:=rs) (by lia) hr4 (mv:=[smv (ev ψ a) (ev ψ b)]) (by unfold nkM;simp) (by simp)
 let fm:D.flats [mvD (smv (ev ψ a) (ev ψ b))]=V:=by simp[D.flats,mvD,D.flat,jd]
 refine⟨rs',f0,f1,f2,λa0 x6 x7 x8 x9 mo hm=>⟨U (.tup [.int (k:Int),.any],Y),U (fL vs (vs.map ψ),Y),U (r.R,Y),U (.lst [mvD (smv (ev ψ a) (ev ψ b))],Y),?_⟩⟩
 refine j8 hRL C.at' hn (ifF (congrArg (λz=>tyB (shO z)) hc) (sqN rfl (ifF (congrArg U (decide_eq_false hm)) (sqN rfl (ifT ?_ (sqA (sqO (flG em fm) (sqF (flG f3 (eH _)) ?_))))))))
 ·show eqO (ixO (U r.R) (U (.int 0))) (U (.str "same"))=_
  rw[hR,s0,aY,decide_eq_true rfl]
 ·exact F3 (ds:=st) (FZ rfl rfl rfl) rfl (by lia)
end
end K41
namespace K41
open PySem L2 JP
variable[Md]
def zI {n:Nat}{δ:DEnv}{v:D}(h:aL δ=U (.ret v V)):aV cT aL (n+1) δ=U (.ret v V):=by
 unfold aV;rw[show cT δ=U V from rfl,h]
def ET {n:Nat}{δ δ':DEnv}(h:aL δ=U (.next δ')):aV cT aL (n+1) δ=aV cT aL n δ':=by
 conv=>lhs;unfold aV
 rw[show cT δ=U V from rfl,h]
def yr {ns:Ww Int}{n:Int}(h:n∈ns):n<=lT ns:=by
 let⟨i,hi,e⟩:=List.getElem_of_mem h;have:=gK (bt:=λi j=>decide (ns.getD i 0>ns.getD j 0)) (λi=>by simp) (λi j k h1 h2=>by simp at h1 h2⊢;lia) (ns.length - 1) i (by lia)
 let h2:=of_decide_eq_false this;rw[Lk,K7 hi,PB,e]at h2
 exact Int.not_lt.mp h2
inductive Ru where|must (ps qs:Ww Pat)|same (ps:Ww Pat) (a b:Te)
def ruD:Ru->D|.must ps qs=>dL ps qs|.same ps a b=>bY ps a b
def Wf:Ru->Prop
 |.must ps qs=>ps.length<=2/\qs.length<=2/\(∀p∈ps,p.2.length<=4)/\∀p∈qs,p.2.length<=4
 |.same ps a b=>ps.length<=2/\(∀p∈ps,p.2.length<=4)/\∀l∈aI [smP a b],l∈aI ps
def xu (H:Ww Row):Ru->Prop
 |.must ps qs=>∀φ:Fit,(∀p∈ps,da H φ p)->∃χ:Fit,(∀l∈aI ps,χ l=φ l)/\∀q∈qs,da H χ q
 |.same ps a b=>∀φ:Fit,(∀p∈ps,da H φ p)->ev φ a=ev φ b
def mJ:Ru->Ww Pat|.must ps _=>ps|.same ps _ _=>ps
def Ok2 (H:Ww Row) (φ:Fit):Ru->Prop
 |.must ps qs=>∃χ:Fit,(∀l∈aI ps,χ l=φ l)/\∀q∈qs,da H χ q
 |.same _ a b=>ev φ a=ev φ b
theorem xZ {H:Ww Row}:∀{R:Ru},xu H R↔∀φ:Fit,(∀p∈mJ R,da H φ p)->Ok2 H φ R
 |.must _ _=>.rfl
 |.same _ _ _=>.rfl
def AM {φ ψ:Fit}{t:Te}(h:∀l,t=.any l->φ l=ψ l):ev φ t=ev ψ t:=by
 cases t with
 |any l=>exact h l rfl
 |nm w=>rfl
def smA {a b:Te}{l:Kr}(h:a=.any l\/b=.any l):l∈aI [smP a b]:=by
 rcases h with rfl|rfl
 ·simp[aI,ans]
 ·cases a<;>simp[aI,ans]
def smB {a b:Te}{l:Kr}(h:l∈aI [smP a b]):a=.any l\/b=.any l:=by
 cases a<;>cases b<;>simp[aI,ans]at h⊢ <;>first|exact h.imp Eq.symm Eq.symm|exact h.symm|skip
def Nn (rs:Ww Row):Prop:=∀q∈rs,∀n,Ce.bk n∈q.2->0<=n
def Dd {ps qs:Ww Pat}{l:Kr}(h:l∈aI qs):l∈aI ps\/l∈frL ps qs:=by
 by_cases h':l∈aI ps
 ·exact .inl h'
 ·exact .inr (qad.mpr ⟨(bf qs l).mpr h,by simp[bf,h']⟩)
def De {χ:Fit}{qs:Ww Pat}{r:Row}(h:r∈rwF χ qs):∃q∈qs,r=(q.1,q.2.map (ev χ)):=by
 let⟨q,hq,e⟩:=mt.mp h;exact⟨q,hq,e.symm⟩
theorem tx {χ:Fit}{c:Ce}:∀{ts:Ww Te},c∈ts.map (ev χ)->(∃w,c=.nm w)\/∃l∈ans ts,c=χ l
 |.nm w::ts,h=>by
  rcases on.mp h with e|h
  ·exact .inl ⟨w,e⟩
  ·exact tx (ts:=ts) h
 |.any l::ts,h=>by
  rcases on.mp h with e|h
  ·exact .inr ⟨l,Kg ..,e⟩
  ·exact(tx h).imp id λ⟨m,hm,e⟩=>⟨m,Kb _ hm,e⟩
theorem zL:∀{ls:Ww Kr}{u:Int}{l:Kr},l∈ls->∃k:Int,u<=k/\k<u+(eE ls u).length/\(l,Ce.bk k)∈eE ls u
 |x::ls,u,l,h=>by
  by_cases hx:l=x
  ·subst hx;exact⟨u,Int.le_refl _,by simp[eE];lia,Kg ..⟩
  ·let⟨k,h1,h2,h3⟩:=zL (u:=u+1) ((on.mp h).resolve_left hx)
   exact⟨k,by lia,by simp[eE];lia,Kb _ h3⟩
def Hd {rs:Ww Row}{φ:Fit}{ps:Ww Pat}(f:∀p∈ps,da rs φ p) {l:Kr}(hl:l∈aI ps):∃q∈rs,φ l∈q.2:=by
 let⟨p,hp,hl⟩:=bU.mp hl;let⟨r,h1,_,h3⟩:=f p hp;refine⟨r,h1,?_⟩
 rw[h3];let key:∀ts:Ww Te,l∈ans ts->φ l∈ts.map (ev φ):=by
  intro ts
  induction ts with
  |nil=>exact λh=>nomatch h
  |cons t ts ih=>
   intro h;cases t with
   |nm w=>exact Kb _ (ih h)
   |any m=>
    rcases on.mp h with rfl|h
    ·exact Kg ..
    ·exact Kb _ (ih h)
 exact key _ hl
end K41
namespace K41
open PySem L2 JP
variable[Md]
theorem yl:∀cs:Ww Ce,aO (aC (af 4) (λδ=>eqO (ixO (rd Y 4 δ) (U (.int 0))) (U (.str "blank"))) hY [B,B,B,B,B]) (cs.map ceD)=U ((bls cs).map D.int)
 |[]=>rfl
 |c::cs=>by
  rw[Ka];unfold aO;rw[yl cs];cases c<;>rfl
theorem jh {n:Int}:∀{cs:Ww Ce},n∈bls cs↔Ce.bk n∈cs
 |[]=>by simp[bls]
 |.bk m::cs=>by simp[bls,jh (cs:=cs)]
 |.nm w::cs=>by simp[bls,jh (cs:=cs)]
def mxB (ns:Ww Int):Int:=if ns=[] then -1 else lT ns
def Hu {ns ms:Ww Int}(h:∀n,n∈ns↔n∈ms) (h0:∀n∈ns,0<=n):mxB ns=lT (-1::ms):=by
 unfold mxB
 by_cases hn:ns=[]
 ·subst hn
  obtain rfl:ms=[]:=qat.mpr λn w=>nomatch (h n).mpr w
  rfl
 ·rw[if_neg hn]
  let h1:=yr (Kb (-1) ((h _).mp (iO hn)));let h2:=h0 _ (iO hn)
  rcases on.mp (iO (ns:= -1::ms) (by simp))with e|e
  ·lia
  ·have:=yr ((h _).mpr e);lia
def rQ {rs:Ww Row}(hrs:rs.length<=15) (h4:∀q∈rs,q.2.length<=4):∃ns:Ww Int,(∀n,n∈ns↔∃q∈rs,Ce.bk n∈q.2)/\f_blanks_of [.lst (rs.map rowD)]=U (.lst (ns.map D.int),V):=by
 let hl:(rs.flatMap λq=>bls q.2).length<=4*rs.length:=vD λq hq=>Kf (tF q.2) (h4 q hq)
 let hm:∀n,n∈(rs.flatMap λq=>bls q.2)↔∃q∈rs,Ce.bk n∈q.2:=λn=>by simp[qao,jh]
 let⟨y,e⟩:=ij (γ:=Wq (D×Bool)×Wq (D×Bool)) (f:=rowD) (h:=λq:Row=>bls q.2) (xs:=rs) (acc:=[]) (y:=(B,B)) (Ri:=60) (body:=λd δ=>ae ((aB (ah (af 2) (ah (af 3) (toNil)))) d δ) iD) (E:=λacc y=>[U (.lst (rs.map rowD),Y),U (.lst (acc.map D.int),V),y.1,y.2,B]) (by rw[LO];lia) λq hq acc y hb=>by
  have:=h4 q hq;refine⟨(U (.str q.1,Y),U (.tup (q.2.map ceD),Y)),bN rfl ?_⟩
  rw[Kn];exact Jv (m3 (ds:=q.2.map ceD) rfl (by simp;lia) rfl (yl q.2) (by simp;lia)) rfl (by simp;lia)
 rw[MX]at e;generalize rs.flatMap (λq=>bls q.2)=ms at hl hm e
 let⟨ns,en,_,h1,_⟩:=wY (f:=D.int) (λ_ _=>D.int.inj) ms
 exact⟨ns,λn=>(h1 n).trans (hm n),opn rfl (stF (d:=.lst []) (lstO_s _ (by simp)) (stN e (rF ((EH (λ_=>rfl) (λ_=>rfl) (λ_=>rfl) (ov (λ_=>rfl) λ_ _=>rfl) (by lia)).trans (by rw[en])))))⟩
def xF {rs:Ww Row}(hrs:rs.length<=15) (h4:∀q∈rs,q.2.length<=4) (RL:D):∃ns:Ww Int,(∀n,n∈ns↔∃q∈rs,Ce.bk n∈q.2)/\∀mo:Int,f_full [.lst (rs.map rowD),RL,.int mo]=j3 (aV cT aL 1000 (eF (U (.lst (rs.map rowD),Y)) RL mo rs [] (mxB ns+1) B B B B)):=by
 let⟨ns,hm,en⟩:=rQ hrs h4;refine⟨ns,hm,λmo=>opn rfl (stF (d:=.lst (rs.map rowD)) rfl (stF (d:=.lst []) (lstO_s _ (by simp)) (stO (d:=.int (mxB ns+1)) ?_ rfl)))⟩
 let ef:D.flats (ns.map D.int)=V:=by simp[D.flats_all,D.flat]
 refine j4 ?_ rfl
 show mX (flO (f_blanks_of [.lst (rs.map rowD)])) _=_;rw[flG en ef];unfold mX Aq;simp![iX,mxB]
end K41
namespace K41
open PySem L2 JP
variable[Md]
structure RK (rs:Ww Row) (R:Ru) (r:RI rs):Prop where
 eq:r.R=ruD R
 ps:r.ps=mJ R
 kp:r.fd=[]->xu rs R
 br:∀c∈r.fd,∀ψ:Fit,r.dl.map ψ=c->¬Ok2 rs ψ R
 us:∀ps a b,R=.same ps a b->r.u=0/\r.dl=uL [smP a b]/\∀φ:Fit,(∀p∈ps,da rs φ p)->ev φ a≠ev φ b->(uL [smP a b]).map φ∈r.fd
 um:∀ps qs,R=.must ps qs->r.u≠0
theorem IV {rs:Ww Row}(hrs:rs.length<=25):∀{R:Ru},Wf R->∃r:RI rs,RK rs R r
 |.must ps qs,⟨h1,h2,h4,h5⟩=>by
  let⟨r,e1,e2,e3,eu,e4⟩:=D0 hrs h1 h2 h4 h5;refine⟨r,e1,e2,λh φ hφ=>?_,λc hc ψ hψ ⟨χ,c1,c2⟩=>?_,λ_ _ _ h=>(nomatch h),λ_ _ _=>eu⟩
  ·let⟨χ,hx,hq⟩:=L0 λz=>by
    have:=(e4 ((dlM ps qs).map φ)).mpr ⟨⟨φ,rfl,hφ⟩,z⟩;rw[h]at this;cases this
   classical
   refine⟨λl=>if l∈aI ps then φ l else χ l,λl hl=>if_pos hl,λq hq'=>nD (λl hl=>?_) (hq q hq')⟩
   by_cases h':l∈aI ps
   ·rw[if_pos h']
    exact(qak.mp hx l (qad.mpr ⟨(bf qs l).mpr (bU.mpr ⟨q,hq',hl⟩),decide_eq_true ((bf ps l).mpr h')⟩)).symm
   ·rw[if_neg h']
  ·refine((e4 c).mp hc).2 ⟨χ,?_,c2⟩
   rw[<-hψ,e3];exact K5 λl hl=>(c1 l ((bf ps l).mp (of_decide_eq_true (qad.mp hl).2))).symm
 |.same ps a b,⟨h1,h4,hab⟩=>by
  let⟨r,e1,e2,e3,eu,e4⟩:=EZ hrs h1 h4 hab;refine⟨r,e1,e2,λh φ hφ=>?_,λc hc ψ hψ z=>?_,λ_ _ _ h=>?_,λ_ _ h=>nomatch h⟩
  ·refine L0 λz=>?_
   have:=(e4 ((uL [smP a b]).map φ)).mpr ⟨φ,rfl,hφ,z⟩;rw[h]at this;cases this
  ·let⟨φ,hx,_,hne⟩:=(e4 c).mp hc
   rw[<-hψ,e3]at hx;let hl:∀l∈aI [smP a b],ψ l=φ l:=λl hl=>qak.mp hx l ((bf _ l).mpr hl)
   exact hne (by rw[<-AM λl w=>hl l (smA (.inl w)),<-AM λl w=>hl l (smA (.inr w))];exact z)
  ·cases h
   exact⟨eu,e3,λφ hφ hne=>(e4 _).mpr ⟨φ,rfl,hφ,hne⟩⟩
theorem Du {rs:Ww Row}(hrs:rs.length<=25):∀{RR:Ww Ru},(∀R∈RR,Wf R)->∃L:Ww (RI rs),L.map (·.R)=RR.map ruD/\∀(i:Nat) R,RR[i]?=U R->∃r,L[i]?=U r/\RK rs R r
 |[],_=>⟨[],rfl,λ_ _ h=>by simp at h⟩
 |R::RR,h=>by
  let⟨r,k⟩:=IV hrs (h R (.head _));let⟨L,e,h1⟩:=Du hrs λR hR=>h R (.tail _ hR)
  refine⟨r::L,by simp[e,k.eq],λi R' hR=>?_⟩
  cases i with
  |zero=>simp_all
  |succ i=>simp_all
def H6 (RR:Ww Ru) (rs:Ww Row):Prop:=∀ps a b,Ru.same ps a b∈RR->∀φ:Fit,(∀p∈ps,da rs φ p)->ev φ a≠ev φ b->(cG (ev φ a)&&cG (ev φ b))=Y
structure Fd (rs:Ww Row) (R:Ru) (vs:Ww Kr) (ψ:Fit):Prop where
 fit:∀p∈mJ R,da rs ψ p
 nd:vs.Nodup
 vl:∀l,l∈vs↔l∈aI (mJ R)
 sf:Sf vs ψ
 br:¬Ok2 rs ψ R
inductive S1 (RR:Ww Ru) (rs:Ww Row) (un:Int):D->Ww Row->Int->Prop
 |must (k:Nat) (ps qs:Ww Pat) (vs:Ww Kr) (ψ χ:Fit) (rs':Ww Row) (m:RR[k]?=U (.must ps qs)) (f:Fd rs (.must ps qs) vs ψ) (h1:∀l∈aI ps,χ l=ψ l) (h2:∀q∈eE (frL ps qs) un,χ q.1=q.2) (h0:Cn rs') (h3:∀q,q∈rs'↔q∈rs\/q∈rwF χ qs):S1 RR rs un (stD k vs ψ ((eE (frL ps qs) un).map bq)) rs' (un+((eE (frL ps qs) un).map bq).length)
 |same (k:Nat) (ps:Ww Pat) (a b:Te) (vs:Ww Kr) (ψ:Fit) (rs':Ww Row) (m:RR[k]?=U (.same ps a b)) (f:Fd rs (.same ps a b) vs ψ) (hn:(cG (ev ψ a)&&cG (ev ψ b))=Y) (h0:Cn rs') (h3:∀q,q∈rs'↔∃q'∈rs,q=mN [smv (ev ψ a) (ev ψ b)] q'):S1 RR rs un (stD k vs ψ [mvD (smv (ev ψ a) (ev ψ b))]) rs' un
nonrec theorem zg {c:Ww Ce}(h0:∀n,Ce.bk n∈c->0<=n) (h:wm c<= -1):∀e∈c,cG e=V:=λe he=>by
 unfold wm at h;split at h
 ·cases e with
  |nm w=>rfl
  |bk n=>have:=jh.mpr he;simp_all
 ·rename_i z
  have:=h0 _ (jh.mp (iO z));lia
def Gg {c:Ww Ce}(h:∀e∈c,cG e=V):wm c= -1:=by
 unfold wm;rw[if_pos];exact qat.mpr λn z=>nomatch h _ (jh.mp z)
def Gd (x y:Ce):(smv x y).2=x\/(smv x y).2=y:=by
 cases x<;>cases y<;>simp[smv]
 split<;>simp
def GW (n:Int) (e c:Ce):led [(n,e)] c=e\/led [(n,e)] c=c:=by
 cases c with
 |nm w=>exact .inr rfl
 |bk k=>
  unfold led
  by_cases h:k=n
  ·subst h;simp
  ·simp[h]
section
variable{RR:Ww Ru}(wf:∀R∈RR,Wf R) (hR:RR.length<=100) {N:Nat}(hN:∀ps qs,Ru.must ps qs∈RR->qs.length<=N)
include wf hR hN
theorem Jf {rs:Ww Row}(hrs:rs.length<=20) (hr4:∀q∈rs,q.2.length<=4) (h0:Nn rs) (un:Int) (hun:0<=un) (st:Ww D) (hst:st.length<=1000):
  ((∀R∈RR,xu rs R)/\∀a0 x6 x7 x8 x9 mo,aL (eF a0 (.lst (RR.map ruD)) mo rs st un x6 x7 x8 x9)=U (.ret (fuV "full" rs st) V))\/
  (∃(k:Nat) (ps:Ww Pat) (a b:Te) (vs:Ww Kr) (ψ:Fit),RR[k]?=U (.same ps a b)/\Fd rs (.same ps a b) vs ψ/\(cG (ev ψ a)&&cG (ev ψ b))=V/\∀a0 x6 x7 x8 x9 mo,aL (eF a0 (.lst (RR.map ruD)) mo rs st un x6 x7 x8 x9)=U (.ret (.tup [.str "clash",.lst st,.int (k:Int),fL vs (vs.map ψ)]) V))\/
  (¬∀R∈RR,xu rs R)/\H6 RR rs/\(∀a0 x6 x7 x8 x9 mo,mo<=(st.length:Int)->aL (eF a0 (.lst (RR.map ruD)) mo rs st un x6 x7 x8 x9)=U (.ret (fuV "open" rs st) V))/\
   ∃(t:D) (rs':Ww Row) (un':Int),S1 RR rs un t rs' un'/\rs'.length<=rs.length+N/\(∀q∈rs',q.2.length<=4)/\Nn rs'/\0<=un'/\∀a0 x6 x7 x8 x9 mo,¬mo<=(st.length:Int)->∃y6 y7 y8 y9,aL (eF a0 (.lst (RR.map ruD)) mo rs st un x6 x7 x8 x9)=U (.next (eF a0 (.lst (RR.map ruD)) mo rs' (st++[t]) un' y6 y7 y8 y9)):=by
 let⟨L,e,hK⟩:=Du (rs:=rs) (by lia) wf
 let hLl:L.length=RR.length:=by simpa using congrArg LW e
 rw[<-e]
 rcases Ip (by lia) L (by lia)with⟨h,hn⟩|⟨k,r,c,vs,ψ,C,hu0,hn⟩
 ·refine .inl ⟨λR hR=>?_,λ_ _ _ _ _ _=>yK hn⟩
  let⟨i,hi⟩:=List.mem_iff_getElem?.mp hR;let⟨r,hr,K⟩:=hK i R hi;exact K.kp (h r (Kv hr))
 ·let hkl:k<RR.length:=by rw[<-hLl];exact(List.getElem?_eq_some_iff.mp C.at').1
  obtain⟨R,hRk⟩:∃R,RR[k]?=U R:=⟨RR[k],by simp[hkl]⟩
  let⟨r',hr',K⟩:=hK k R hRk;obtain rfl:r=r':=by rw[C.at']at hr';exact Lv hr'
  let hm:=Kv hRk;let ep:=K.ps;let F:Fd rs R vs ψ:=⟨ep▸C.fit,C.nd,ep▸C.vl,C.sf,K.br c C.mem ψ C.eq⟩;let nk:¬∀R∈RR,xu rs R:=λz=>F.br (xZ.mp (z R hm) ψ F.fit)
  let h0ψ:∀l∈aI (mJ R),∀n,ψ l=.bk n->0<=n:=λl hl n e=>by
   let⟨q,hq,hm⟩:=Hd F.fit hl;exact h0 q hq n (e▸hm)
  let cl:∀ps a b,Ru.same ps a b∈RR->∀φ:Fit,(∀p∈ps,da rs φ p)->ev φ a≠ev φ b->(cG (ev φ a)&&cG (ev φ b))=V->∃ps' a' b',R=.same ps' a' b'/\(cG (ev ψ a')&&cG (ev ψ b'))=V:=λps a b hs φ hφ hne hb=>by
   rw[J9]at hb;let⟨i,hi⟩:=List.mem_iff_getElem?.mp hs;let⟨q,hq,Kq⟩:=hK i _ hi;let⟨u0,_,hfd⟩:=Kq.us ps a b rfl;let hc':=hfd φ hφ hne;let ru:=hu0 q (Kv hq) u0 λz=>by simp_all
   let ag:=C.low i q _ hq (u0.trans ru.symm) hc';rw[Gg (c:=(uL [smP a b]).map φ) λe he=>by
    let⟨l,hl,rfl⟩:=mt.mp he
    rcases smB ((bf _ l).mp hl)with rfl|rfl
    ·exact hb.1
    ·exact hb.2]at ag
   cases R with
   |must ps' qs'=>exact absurd ru (K.um _ _ rfl)
   |same ps' a' b'=>
    let⟨_,edl,_⟩:=K.us ps' a' b' rfl;let hsub:=(wf _ hm).2.2;let all:=zg (c:=c) (λn hn=>by
     rw[<-C.eq,edl]at hn;let⟨l,hl,e⟩:=mt.mp hn;exact h0ψ l (hsub l ((bf _ l).mp hl)) n e) ag
    let nmT:∀t,(∀l,t=.any l->l∈aI [smP a' b'])->cG (ev ψ t)=V:=λt ht=>by
     cases t with
     |nm w=>rfl
     |any l=>exact all _ (by rw[<-C.eq,edl];exact mt.mpr ⟨l,(bf _ l).mpr (ht l rfl),rfl⟩)
    exact⟨ps',a',b',rfl,by rw[nmT a' λl w=>smA (.inl w),nmT b' λl w=>smA (.inr w)];rfl⟩
  let noCl:(∀ps a b,R=.same ps a b->(cG (ev ψ a)&&cG (ev ψ b))=Y)->H6 RR rs:=λh ps a b hs φ hφ hne=>by
   cases hb:cG (ev φ a)&&cG (ev φ b)with
   |false=>rfl
   |true=>let⟨ps',a',b',e1,e2⟩:=cl ps a b hs φ hφ hne hb;rw[h _ _ _ e1]at e2;cases e2
  cases R with
  |must ps qs=>
   let⟨w1,w2,w4,w5⟩:=wf _ hm;let hc:f_is_clash [r.R,fL vs (vs.map ψ)]=U (.bl Y,Y):=by rw[K.eq];exact nA _ _ _
   let⟨χ,rs',c1,c2,c0,c4,c5,c6⟩:=zv rfl C hn hrs (qs:=qs) (by rw[ep];exact K.eq) w2 w5 un st hst
   rw[ep]at c1 c2 c6;refine .inr (.inr ⟨nk,noCl λ_ _ _ z=>(nomatch z),λa0 x6 x7 x8 x9 mo hm=>rA rfl C.at' hn hc hm,_,rs',_,.must k ps qs vs ψ χ rs' hRk F c1 c2 c0 c4,Kf c5 (Nat.add_le_add_left (hN _ _ hm) _),λq hq=>?_,λq hq n hn=>?_,by lia,c6⟩)
   ·rcases(c4 q).mp hq with h|h
    ·exact hr4 q h
    ·let⟨p,hp,rfl⟩:=De h
     simpa using w5 p hp
   ·rcases(c4 q).mp hq with h|h
    ·exact h0 q h n hn
    ·let⟨p,hp,rfl⟩:=De h
     rcases tx hn with⟨w,e⟩|⟨l,hl,e⟩
     ·cases e
     ·rcases Dd (ps:=ps) (bU.mpr ⟨p,hp,hl⟩)with h|h
      ·exact h0ψ l h n ((c1 l h).symm.trans e.symm)
      ·let⟨j,k1,k2,k3⟩:=zL (u:=un) h
       have:=e.trans (c2 _ k3);cases this;lia
  |same ps a b=>
   let⟨w1,w4,wab⟩:=wf _ hm;let ep:r.ps=ps:=ep;cases hb:cG (ev ψ a)&&cG (ev ψ b)with
   |true=>
    refine .inr (.inl ⟨k,ps,a,b,vs,ψ,hRk,F,hb,λa0 x6 x7 x8 x9 mo=>wL rfl C.at' hn ?_⟩)
    let hvl:vs.length<=100:=Kf (KV C.nd λl hl=>(C.vl l).mp hl) (Kf (aw r.p4) (by have:=r.pl;lia))
    rw[K.eq];show f_is_clash [bY ps a b,_]=_;rw[i7 ps a b C.nd hvl ψ λl h=>(F.vl l).mpr (wab l h),hb]
   |false=>
    let hc:f_is_clash [r.R,fL vs (vs.map ψ)]=U (.bl Y,Y):=by
     let hvl:vs.length<=100:=Kf (KV C.nd λl hl=>(C.vl l).mp hl) (Kf (aw r.p4) (by have:=r.pl;lia))
     rw[K.eq];show f_is_clash [bY ps a b,_]=_;rw[i7 ps a b C.nd hvl ψ λl h=>(F.vl l).mpr (wab l h),hb]
    let⟨rs',c0,c2,c3,c4⟩:=zF rfl C hn hrs hr4 (a:=a) (b:=b) (by rw[ep];exact K.eq) (by rw[ep];exact wab) un st hst hb
    refine .inr (.inr ⟨nk,noCl λ_ _ _ z=>by cases z;exact hb,λa0 x6 x7 x8 x9 mo hm=>rA rfl C.at' hn hc hm,_,rs',un,.same k ps a b vs ψ rs' hRk F hb c0 c2,by lia,λq hq=>?_,λq hq n hn=>?_,hun,c4⟩)
    ·let⟨q',hq',rfl⟩:=(c2 q).mp hq
     simpa[mN]using hr4 q' hq'
    ·let⟨q',hq',rfl⟩:=(c2 q).mp hq
     let⟨c',hc',ec⟩:=mt.mp hn;let ht:∀t,(∀l,t=.any l->l∈aI [smP a b])->∀n,ev ψ t=.bk n->0<=n:=λt ht n e=>by
      cases t with
      |nm w=>cases e
      |any l=>exact h0ψ l (wab l (ht l rfl)) n e
     rcases GW (smv (ev ψ a) (ev ψ b)).1 (smv (ev ψ a) (ev ψ b)).2 c' with e|e
     ·rw[e]at ec
      rcases Gd (ev ψ a) (ev ψ b)with z|z
      ·exact ht a (λl w=>smA (.inl w)) n (z▸ec)
      ·exact ht b (λl w=>smA (.inr w)) n (z▸ec)
     ·rw[e]at ec;subst ec;exact h0 q' hq' n hc'
def Fin (RR:Ww Ru) (mo:Int) (rs:Ww Row) (S:Ww D) (v:D):Prop:=
 ((∀R∈RR,xu rs R)/\v=fuV "full" rs S)\/
 (∃(k:Nat) (ps:Ww Pat) (a b:Te) (vs:Ww Kr) (ψ:Fit),RR[k]?=U (.same ps a b)/\Fd rs (.same ps a b) vs ψ/\(cG (ev ψ a)&&cG (ev ψ b))=V/\v=.tup [.str "clash",.lst S,.int (k:Int),fL vs (vs.map ψ)])\/
 ((¬∀R∈RR,xu rs R)/\H6 RR rs/\mo<=(S.length:Int)/\v=fuV "open" rs S)
inductive Wk (RR:Ww Ru):Ww Row->Int->Ww D->Ww Row->Int->Prop
 |nil (rs:Ww Row) (un:Int):Wk RR rs un [] rs un
 |cons {rs rs' rs'':Ww Row}{un un' un'':Int}{t:D}{st:Ww D}(hl:rs.length<=20) (h4:∀q∈rs,q.2.length<=4) (s:S1 RR rs un t rs' un') (w:Wk RR rs' un' st rs'' un''):Wk RR rs un (t::st) rs'' un''
theorem yO (a0:Wq (D×Bool)) (mo:Int):∀(m fuel:Nat) (rs:Ww Row) (st:Ww D) (un:Int) (x6 x7 x8 x9:Wq (D×Bool)),mo<=st.length+m->m<fuel->rs.length+N*m<=20->(∀q∈rs,q.2.length<=4)->Nn rs->0<=un->st.length+m<=1000->
  ∃(st':Ww D) (rs':Ww Row) (un':Int) (v:D),Wk RR rs un st' rs' un'/\rs'.length<=20/\(∀q∈rs',q.2.length<=4)/\(st'=[]\/(st.length+st'.length:Int)<=mo)/\aV cT aL fuel (eF a0 (.lst (RR.map ruD)) mo rs st un x6 x7 x8 x9)=U (.ret v V)/\Fin RR mo rs' (st++st') v:=by
 intro m fuel
 induction fuel generalizing m with
 |zero=>intros;lia
 |succ fuel ih=>
  intro rs st un x6 x7 x8 x9 h1 h2 h3 h4 h5 h6 h7
  rcases Jf wf hR hN (by lia) h4 h5 un h6 st (by lia)with⟨k,e⟩|⟨k,ps,a,b,vs,ψ,g1,g2,g3,e⟩|⟨k,nc,eo,t,rs',un',s,hl,h4',h5',h6',e⟩
  ·exact⟨[],rs,un,_,.nil ..,by lia,h4,.inl rfl,zI (e ..),.inl ⟨k,by simp⟩⟩
  ·exact⟨[],rs,un,_,.nil ..,by lia,h4,.inl rfl,zI (e ..),.inr (.inl ⟨k,ps,a,b,vs,ψ,g1,g2,g3,by simp⟩)⟩
  ·by_cases hm:mo<=st.length
   ·exact⟨[],rs,un,_,.nil ..,by lia,h4,.inl rfl,zI (eo _ _ _ _ _ _ hm),.inr (.inr ⟨k,nc,by rw[Ls];exact hm,by simp⟩)⟩
   ·let⟨y6,y7,y8,y9,e⟩:=e a0 x6 x7 x8 x9 mo hm
    cases m with
    |zero=>lia
    |succ m=>
     rw[OM]at h3;let⟨st',rs'',un'',v,w,r1,r2,r3,r4,r5⟩:=ih m rs' (st++[t]) un' y6 y7 y8 y9 (by simp;lia) (by lia) (by lia) h4' h5' h6' (by simp;lia)
     refine⟨t::st',rs'',un'',v,.cons (by lia) h4 s w,r1,r2,.inr ?_,by rw[ET e];exact r4,by simp_all⟩
     rcases r3 with rfl|r3
     ·simp;lia
     ·simp at r3⊢;lia
theorem FQ {rs:Ww Row}(hrs:rs.length<=6) (h4:∀q∈rs,q.2.length<=4) (h0:Nn rs) {mo:Int}{m:Nat}(m0:0<=mo) (hm:mo<=m) (hl:rs.length+N*m<=20) (hm':m<=100):∃(ns:Ww Int) (st:Ww D) (rs':Ww Row) (un':Int) (v:D),(∀n,n∈ns↔∃q∈rs,Ce.bk n∈q.2)/\Wk RR rs (mxB ns+1) st rs' un'/\rs'.length<=20/\(∀q∈rs',q.2.length<=4)/\(st.length:Int)<=mo/\f_full [.lst (rs.map rowD),.lst (RR.map ruD),.int mo]=U (v,V)/\Fin RR mo rs' st v:=by
 let⟨ns,hns,e⟩:=xF (rs:=rs) (by lia) h4 (.lst (RR.map ruD))
 let hn0:∀n∈ns,0<=n:=λn hn=>by let⟨q,hq,h⟩:=(hns n).mp hn;exact h0 q hq n h
 let hu:0<=mxB ns+1:=by
  unfold mxB;split
  ·decide
  ·have:=hn0 _ (iO (by assumption));lia
 let⟨st,rs',un',v,w,r1,r2,r3,r4,r5⟩:=yO wf hR hN (U (.lst (rs.map rowD),Y)) mo m 1000 rs [] (mxB ns+1) B B B B (by simpa using hm) (by lia) hl h4 h0 hu (by simp;lia)
 refine⟨ns,st,rs',un',v,hns,w,r1,r2,?_,by simp_all,r5⟩
 rcases r3 with rfl|r3
 ·trivial
 ·simpa using r3
end
end K41
namespace K41
open PySem L2 JP
variable[Md]
def mx (c k:Int):Int:=((c%2147483647+40503*k*k+17*k)*48271%2147483647)*((c%2147483647+40503*k*k+17*k)*48271%2147483647%65537+3*k+1)%2147483629
def Ji (c k:Int):0<=mx c k:=by exact OT _ (by decide)
def ki (c k:Int) (h0:0<=k) (h1:k<=1000):f__law_mixed [.int c,.int k]=U (.int (mx c k),Y):=by
 rw[av (f:=f__law_mixed) (δ:=[U (.int c,Y),U (.int k,Y),B]) rfl rfl rfl];simp![fN,rd_1,rd_0];rw[modI_s _ _ (by decide),mulI_s 40503 k (by lia),mulI_s (40503*k) k (by lia),addI_s,mulI_s 17 k (by lia),addI_s,mulI_s _ 48271 (by lia),modI_s _ _ (by decide),setO_s _ _ _ (by simp)]
 simp![seqO_n,Ke,Kd,rd_1,rd_0];rw[modI_s _ _ (by decide),mulI_s 3 k (by lia),addI_s,addI_s,mulI_s _ _ (.inl (by lia)),modI_s _ _ (by decide)]
 rfl
def GZ:∀n:Nat,n<26->Co (U (.str "abcdefghijklmnopqrstuvwxyz")) (U (.int n))=U (.str ⟨#[97+n]⟩):=by decide +kernel
theorem FJ (a b:Kr):(a++b).cps.toList=a.cps.toList++b.cps.toList:=Lg
def FO {a b:Kr}{x y:Nat}(h:a++⟨#[x]⟩++b=a++⟨#[y]⟩++b):x=y:=by
 have:=congrArg (λs:Kr=>s.cps.toList) h
 grind [FJ,LJ,List.append_cancel_left]
def Br (c m:Int) (hm0:1<=m) (hm:m<=20):∃ws:Ww Kr,ws.length=m.toNat/\ws.Nodup/\(∀w∈ws,w.length<=20)/\f__law_words [.int c,.int m]=U (.lst (ws.map .str),V):=by
 generalize hsz:1+c%8=sz;let at_abc:∀i:Int,0<=i->i<26->Co (U (.str "abcdefghijklmnopqrstuvwxyz")) (U (.int i))=U (.str ⟨#[97+i.toNat]⟩):=λi h0 h1=>by
  have:=GZ i.toNat (by lia)
  rwa[Pl h0]at this
 let⟨g,eg,gl,gp⟩:=wo (ds:=kg 0 sz.toNat) (P:=λ_ y=>∃x:Kr,x.length=1/\y=.str x)
  (h:=aC (af 6) (λδ=>U V) db [U (.int c,Y),B,U (.str "abcdefghijklmnopqrstuvwxyz",Y),B,B,B,B]) λd hd=>by
   let⟨i,hi,rfl⟩:=AQ hd;let ex:=at_abc (mx c (0+(i:Int))%26) (by lia) (by lia)
   refine⟨.str ⟨#[97+(mx c (0+(i:Int))%26).toNat]⟩,?_,⟨#[97+(mx c (0+(i:Int))%26).toNat]⟩,rfl,rfl⟩
   unfold aC;rw[toName_s _ _ _ (by simp)]
   simp![bindO_s,Ke,Kd,rd_1,rd_0,db,consO_s,ki c (0+(i:Int)) (by lia) (by lia),shO_s]
   rw[modI_s _ _ (by decide),ex]
 let⟨ss,rfl,hss⟩:=FB (Q:=λx=>x.length=1) gl gp λd y hz=>by let⟨x,hx,e⟩:=hz;exact⟨x,e,hx⟩
 rw[fO,J8]at gl;let hj:=Fv "" ss (by rw[uY hss,show Str.length ""=0 by rfl];lia)
 let hjl:(Qv "" ss).length=ss.length:=by rw[Al,uY hss]
 generalize Qv "" ss=stem at hj hjl;generalize hat:mx c 19%(stem.length:Int)=at';let c1:=ou stem B (U at');let c2:=ou stem (U (at'+1)) B;let hlim:lim=1000000:=rfl;let ecomp:aO (aC (af 6) (λδ=>U V) cZ [B,B,U (.str "abcdefghijklmnopqrstuvwxyz",Y),U (.str stem,Y),U (.int at',Y),U (.int (mx c 20),Y),B]) (kg 0 m.toNat)=U (((K1 m.toNat).map λk=>rp stem B (U at')++⟨#[97+((mx c 20+(0+(k:Int)))%26).toNat]⟩++rp stem (U (at'+1)) B).map D.str):=by
  unfold kg;rw[aM (f:=λk:Nat=>D.int (0+(k:Int))) (h:=λk=>.str (rp stem B (U at')++⟨#[97+((mx c 20+(0+(k:Int)))%26).toNat]⟩++rp stem (U (at'+1)) B)) λk _=>by
   unfold aC;rw[toName_s _ _ _ (by simp)]
   simp![bindO_s,Ke,Kd,rd_1,rd_0,cZ,partI_s,addI_s];rw[cutSO_s _ _ _ (by lia),cutSO_s _ _ _ (by lia),modI_s _ _ (by decide),at_abc _ (by lia) (by lia),addS_s _ _ (by show _+1<=_;lia),addS_s _ _ (by rw[NM];show _+1+_<=_;lia)]]
  rw[K6];rfl
 refine⟨(K1 m.toNat).map λk=>rp stem B (U at')++⟨#[97+((mx c 20+(0+(k:Int)))%26).toNat]⟩++rp stem (U (at'+1)) B,by simp,?_,?_,?_⟩
 ·refine qaD.mpr (List.Pairwise.imp_of_mem (R:=λa b=>a<b) (λ{a b} ha hb hab e=>?_) QP)
  have:=FO e;let hb':=qae.mp hb
  lia
 ·intro w hw
  let⟨k,_,rfl⟩:=mt.mp hw;rw[NM,NM];show _+1+_<=20
  lia
 ·rw[av (f:=f__law_words) (δ:=[U (.int c,Y),U (.int m,Y),B,B,B,B,B]) rfl rfl rfl]
  let em1:∀(a d e f g:Wq (D×Bool)) (x y:D),aF Y [V,Y,V,Y,Y,Y,Y] [U (x,Y),a,U (y,Y),d,e,f,g]=[U (x,Y),B,U (y,Y),B,B,B,B]:=λ_ _ _ _ _ _ _=>rfl
  let em2:∀(a b g:Wq (D×Bool)) (x y z w:D),aF Y [Y,Y,V,V,V,V,Y] [a,b,U (x,Y),U (y,Y),U (z,Y),U (w,Y),g]=[B,B,U (x,Y),U (y,Y),U (z,Y),U (w,Y),B]:=λ_ _ _ _ _ _ _=>rfl
  simp![eQ];rw[setO_s _ _ _ (by simp)]
  simp![seqO_n,Ke,Kd,rd_1,rd_0];rw[modI_s _ _ (by decide),addI_s,hsz,nC sz (by lia),bindO_s,bF (by rw[fO,lim_eq];lia),em1,eg,lstLim_s,hj,setO_s _ _ _ (by simp)]
  simp![seqO_n,Ke,Kd,rd_1,rd_0,consO_s,bindO_s,ki c 19 (by lia) (by lia),shO_s]
  rw[lenS_s _ (by lia),modI_s _ _ (by lia),hat,setO_s _ _ _ (by simp)]
  simp![seqO_n,Ke,Kd,rd_1,rd_0,consO_s,bindO_s,ki c 20 (by lia) (by lia),shO_s]
  rw[setO_s _ _ _ (by simp)]
  simp![seqO_n,Ke,Kd,rd_1,rd_0];rw[nC m (by lia),bindO_s,bF (by rw[fO,lim_eq];lia),em2,ecomp,lstLim_s]
  rfl
end K41
namespace K41
open PySem L2 JP
variable[Md]
section
variable{x y:Wq D}{a b:Int}
def E9 {c k:Int}(h:x=U (.int c)) (h':y=U (.int k)) (h0:0<=k) (h1:k<=1000):shO (ae (aa x (aa y (U []))) f__law_mixed)=U (.int (mx c k)):=by subst h h';simp![consO_s,bindO_s,ki c k h0 h1,shO_s]
end
abbrev tbD (t:Kr×Int):D:=.tup [.str t.1,.int t.2]
structure Dr (tb:Ww (Kr×Int)) (ns:Ww Kr) (nu:Ww Int):Prop where
 tn:tb≠[]
 ta:∀t∈tb,1<=t.2/\t.2<=3
 nl:ns.length=3
 ul:nu.length=3
 u0:∀n∈nu,0<=n
def uq {α:Type}{f:α->D}{xs:Ww α}(h:xs≠[]) (k:Int):∃x∈xs,atI (xs.map f) (k%(xs.length:Int))=U (f x):=by
 let l:=qag.mpr h;let⟨v,hv,_,e⟩:=yQ (xs:=xs.map f) (i:=k%(xs.length:Int)) (OT _ (by lia)) (by rw[J8];exact Int.emod_lt_of_pos _ (by lia))
 let⟨x,hx,rfl⟩:=mt.mp hv;exact⟨x,hx,e⟩
def qR {α:Type}{f:α->D}{xs:Ww α}{i:Int}(h0:0<=i) (h1:i<xs.length):∃x∈xs,atI (xs.map f) i=U (f x):=by
 let⟨v,hv,_,e⟩:=yQ (xs:=xs.map f) h0 (by rw[J8];exact h1)
 let⟨x,hx,rfl⟩:=mt.mp hv;exact⟨x,hx,e⟩
def AR {ns:Ww Kr}(hn:ns≠[]) {nu:Ww Int}(hu:nu≠[]) (h0:∀n∈nu,0<=n) (k:Int):∃e:Ce,(∀n,e=.bk n->0<=n)/\f__law_drawn [.int k,.lst (ns.map D.str),.lst (nu.map D.int)]=U (ceD e,Y):=by
 let l1:=qag.mpr hn;let l2:=qag.mpr hu;let⟨w,_,ew⟩:=uq (f:=D.str) hn (k / 2);let⟨n,hn0,en⟩:=uq (f:=D.int) hu (k / 2);rw[av (f:=f__law_drawn) (δ:=[U (.int k,Y),U (.lst (ns.map D.str),Y),U (.lst (nu.map D.int),Y)]) rfl rfl rfl];unfold fv;rw[eqG (i6 (rfl:rd Y 0 _=U (.int k)) rfl (by decide)) rfl]
 cases decide (k%2=1)with
 |true=>
  exact⟨.bk n,λm e=>(by simp_all),stR rfl (oR rfl (ixG rfl (i6 (oY rfl rfl (by decide)) (CS rfl) (by rw[J8];lia)) (by rw[J8];exact en)))⟩
 |false=>exact⟨.nm w,λ_ e=>(nomatch e),stI rfl (rO (oR rfl (ixG rfl (i6 (oY rfl rfl (by decide)) (CS rfl) (by rw[J8];lia)) (by rw[J8];exact ew))))⟩
def xA (c:Int):∃nu:Ww Int,nu.length=3/\(∀n∈nu,0<=n)/\f__law_numbers [.int c,.int 3]=U (.lst (nu.map D.int),V):=by
 rw[av (f:=f__law_numbers) (δ:=[U (.int c,Y),U (.int 3,Y),B]) rfl rfl rfl];unfold dm;rw[eqG (i6 (rfl:rd Y 0 _=U (.int c)) rfl (by decide)) rfl]
 cases decide (c%3=0)with
 |true=>exact⟨[0,1,2],rfl,by decide,rfl⟩
 |false=>
  let⟨nu,h1,h2,h3⟩:=o4 (n:=3) (g:=D.int) (P:=λn=>0<=n) (F:=aC (af 2) (λδ=>U V) eA [U (.int c,Y),B,B]) λk hk=>by
   exact⟨_,OT _ (by decide),itG (i6 (j4 (i6 (E9 rfl rfl (by decide) (by decide)) rfl (by decide)) (mulI_s 7 (0+(k:Int)) (by lia))) rfl (by decide))⟩
  exact⟨nu,h1,h2,stI rfl (rF (m3 (nC 3 (by decide)) (by trivial) rfl h3 (by simp[h1])))⟩
end K41
namespace K41
open PySem L2 JP
variable[Md]
def FE (xs:Ww D) (x:D) (hl:xs.length<=1000):atI (xs++[x]) (-1)=U x:=by
 unfold atI ixN;rw[if_neg (by decide),if_pos (by simp;lia),K0,Nb,show(-1+((xs.length+1:Nat):Int)).toNat=xs.length by lia]
 simp
def DC (r q:Row):neO (U (rowD r)) (U (rowD q))=U (!decide (r=q)):=by
 rw[FM _ _ (by unfold ok2;rw[qK r 13,qK q 13];rfl)]
 congr 2;exact decide_eq_decide.mpr ⟨j9,λh=>by rw[h]⟩
theorem zK (a0:Wq (D×Bool)):∀(qs fs:Ww Row) (x2:Wq (D×Bool)),fs.length+qs.length<=100->∃(fs':Ww Row) (y2:Wq (D×Bool)),(∀r,r∈fs'↔r∈fs\/r∈qs)/\fs'.length<=fs.length+qs.length/\(Cn fs->(qs.map rowD).Pairwise leD->(∀x∈fs,∀y∈qs,leD (rowD x) (rowD y))->Cn fs')/\
  am (λd δ=>ae ((af 2) d δ) aT) (qs.map rowD) [a0,U (.lst (fs.map rowD),V),x2]=U (.next [a0,U (.lst (fs'.map rowD),V),y2])
 |[],fs,x2,_=>⟨fs,x2,λr=>by simp,by simp,λh _ _=>h,by rfl⟩
 |q::qs,fs,x2,hl=>by
  rw[Kl]at hl;let go:∀fs1:Ww Row,(∀r,r∈fs1↔r∈fs\/r=q)->fs1.length<=fs.length+1->(Cn fs->(∀x∈fs,leD (rowD x) (rowD q))->Cn fs1)->ae ((af 2) (rowD q) [a0,U (.lst (fs.map rowD),V),x2]) aT=U (.next [a0,U (.lst (fs1.map rowD),V),U (rowD q,Y)])->∃(fs':Ww Row) (y2:Wq (D×Bool)),(∀r,r∈fs'↔r∈fs\/r∈q::qs)/\fs'.length<=fs.length+(q::qs).length/\(Cn fs->((q::qs).map rowD).Pairwise leD->(∀x∈fs,∀y∈q::qs,leD (rowD x) (rowD y))->Cn fs')/\
    am (λd δ=>ae ((af 2) d δ) aT) ((q::qs).map rowD) [a0,U (.lst (fs.map rowD),V),x2]=U (.next [a0,U (.lst (fs'.map rowD),V),y2]):=λfs1 h1 h2 h3 e=>by
   let⟨fs',y2,g1,g2,g3,e2⟩:=zK a0 qs fs1 (U (rowD q,Y)) (by lia)
   refine⟨fs',y2,λr=>by rw[g1,h1,KI,or_assoc],by simp;lia,λhc hq hx=>?_,?_⟩
   ·rw[Ka,qaj]at hq
    refine g3 (h3 hc λx z=>hx x z q (.head _)) hq.2 λx z y hy=>?_
    rcases(h1 x).mp z with z|rfl
    ·exact hx x z y (.tail _ hy)
    ·exact hq.1 _ (LU hy)
   rw[Ka];unfold am;rw[e];exact e2
  let ap:jb 1 (U (rowD q)) [a0,U (.lst (fs.map rowD),V),U (rowD q,Y)]=U (.next [a0,U (.lst ((fs++[q]).map rowD),V),U (rowD q,Y)]):=by
   rw[gF (ds:=fs.map rowD) _ rfl (by simp;lia)]
   simp
  let ng:Aq (U (.int 1))=U (.int (-1)):=rfl
  rcases List.eq_nil_or_concat fs with rfl|⟨f0,l,rfl⟩
  ·refine go [q] (λr=>by simp) (by simp) (λ_ _=>⟨by simp,by simp⟩) ?_
   rfl
  ·rw[List.concat_eq_append]at*
   let hne:eqO (U (.int (((f0++[l]).map rowD).length:Int))) (U (.int 0))=U Y:=by
    rw[eqO_int,decide_eq_false (by simp;lia)]
   let hlast:atI ((f0++[l]).map rowD) (-1)=U (rowD l):=by
    rw[Kn];exact FE (f0.map rowD) (rowD l) (by simp at hl⊢;lia)
   by_cases h:l=q
   ·subst h
    refine go (f0++[l]) (λr=>?_) (by lia) (λh _=>h) ?_
    ·simp
    ·rw[toName_s _ _ _ (by simp)]
     simp![bindO_s,Ke,Kd,aT,rd_1,rd_0,rd_0o,lenL_l,hne,ng,ixO_l,hlast,DC,decide_true,Mu,orO_f,ifO_f,nextO_s]
   ·refine go (f0++[l]++[q]) (λr=>by simp[or_assoc]) (by simp) (λhc hx=>?_) ?_
    ·let hq:q∉f0++[l]:=λz=>h (by
      rcases qac.mp z with z|z
      ·let h1:leD (rowD q) (rowD l):=by
        have:=hc.so;rw[Kn,Mg]at this;exact this.2.2 _ (LU z) _ (by simp)
       exact j9 (Di (ds:=[rowD l,rowD q]) (fR [l,q]) (by simp) (by simp) (hx l (by simp)) h1)
      ·exact(qaa.mp z).symm)
     refine⟨qap.mpr ⟨hc.nd,by simp,λx hx y hy e=>hq (by simp at hy;rw[<-hy,<-e];exact hx)⟩,?_⟩
     rw[Kn,Mg];refine⟨hc.so,by simp,λx z y w=>?_⟩
     let⟨x',hx',rfl⟩:=mt.mp z;simp at w;subst w;exact hx x' hx'
    rw[toName_s _ _ _ (by simp)]
    simp![bindO_s,Ke,Kd,aT,rd_1,rd_0,rd_0o,lenL_l,hne,ng,ixO_l,hlast,DC,h,decide_false,NL,orO_f,ifO_t];exact ap
def AF (rs:Ww Row) (h:rs.length<=60):∃fs:Ww Row,Cn fs/\(∀r,r∈fs↔r∈rs)/\fs.length<=rs.length/\f__law_stand [.lst (rs.map rowD)]=U (.lst (fs.map rowD),V):=by
 let⟨ss,pss,es⟩:=cx (aH (rs.map rowD));let hsl:=pss.length_eq;let⟨fs,y2,h1,h2,hcn,h3⟩:=zK (U (.lst (rs.map rowD),Y)) ss [] B (by simp;lia)
 refine⟨fs,hcn ⟨by simp,by simp⟩ (es▸bG (fR rs)) (λ_ z=>nomatch z),λr=>by simp[h1,pss.mem_iff],by simp at h2;lia,?_⟩
 rw[av (f:=f__law_stand) (δ:=[U (.lst (rs.map rowD),Y),B,B]) rfl rfl rfl];let hso:gM .ts (U (.lst (rs.map rowD)))=U (.lst (ss.map rowD)):=by
  rw[iN (fR rs) (.inr (FL rs)),es]
 simp![fj,rd_0]
 simp_all
def yG {x y:Wq D}{c m:Int}(h:x=U (.int c)) (h':y=U (.int m)) (hm0:1<=m) (hm:m<=20):∃ws:Ww Kr,ws.length=m.toNat/\frO (ae (aa x (aa y (U []))) f__law_words)=U (.lst (ws.map .str)):=by
 subst h h';let⟨ws,h1,_,_,e⟩:=Br c m hm0 hm;exact⟨ws,h1,by simp_all⟩
def yH (c:Int):∃tb:Ww (Kr×Int),tb≠[]/\(∀t∈tb,1<=t.2/\t.2<=3)/\f__law_tables [.int c,.int 3]=U (.lst (tb.map tbD),V):=by
 let⟨ws,hw,ew⟩:=yG (x:=U (.int c)) (y:=U (.int 3)) rfl rfl (by decide) (by decide)
 let hn:(1+c / 8%3).toNat<=3:=by lia
 let⟨tb,h1,h2,h3⟩:=o4 (n:=(1+c / 8%3).toNat) (g:=tbD) (P:=λt=>1<=t.2/\t.2<=3) (F:=aC (af 3) (λδ=>U V) fI [U (.int c,Y),U (.int 3,Y),U (.lst (ws.map .str),Y),B]) λk hk=>by
  let hk':(0:Int)+(k:Int)<ws.length:=by rw[hw];show _<((3:Nat):Int);lia
  let⟨w,_,e⟩:=qR (f:=D.str) (xs:=ws) (i:=0+(k:Int)) (by lia) hk'
  exact⟨(w,1+mx c (40+(0+(k:Int)))%3),by have:=Ji c (40+(0+(k:Int)));lia,itG (oR (ixG rfl rfl e) (j4 rfl (i6 (E9 rfl (j4 rfl rfl) (by lia) (by lia)) rfl (by decide))))⟩
 refine⟨tb,λz=>?_,h2,stO ew (rF (m3 (ds:=kg 0 (1+c / 8%3).toNat) ?_ (by rw[fO];lia) rfl h3 (by simp;lia)))⟩
 ·rw[z]at h1;simp at h1;lia
 ·exact H5 (j4 rfl (i6 (oY rfl rfl (by decide)) rfl (by decide))) (by lia)
section
variable{tb:Ww (Kr×Int)}{ns:Ww Kr}{nu:Ww Int}(Rh:Dr tb ns nu)
include Rh
theorem Dr.nn:ns≠[]:=λz=>by have:=Rh.nl;simp_all
theorem Dr.un:nu≠[]:=λz=>by have:=Rh.ul;simp_all
theorem H2 {x y z:Wq D}{k:Int}(h:x=U (.int k)) (h':y=U (.lst (ns.map .str))) (h2:z=U (.lst (nu.map .int))):∃e:Ce,(∀n,e=.bk n->0<=n)/\shO (ae (aa x (aa y (aa z (U [])))) f__law_drawn)=U (ceD e):=by
 subst h h' h2;let⟨e,h0,he⟩:=AR Rh.nn Rh.un Rh.u0 k;exact⟨e,h0,by simp_all⟩
theorem HF (c:Int):∃r:Row,(r.2.length<=4/\∀n,Ce.bk n∈r.2->0<=n)/\f__law_row [.int c,.lst (tb.map tbD),.lst (ns.map .str),.lst (nu.map .int)]=U (rowD r,Y):=by
 let⟨t,ht,et⟩:=uq (f:=tbD) Rh.tn (mx c 1);let⟨t1,t2⟩:=Rh.ta t ht;let l:=qag.mpr Rh.tn;let⟨cs,h1,h2,h3⟩:=o4 (n:=t.2.toNat) (g:=ceD) (P:=λe=>∀n,e=.bk n->0<=n) (F:=aC (af 7) (λδ=>U V) jL [U (.int c,Y),B,U (.lst (ns.map .str),Y),U (.lst (nu.map .int),Y),B,B,B,B]) λk hk=>by
  let⟨e,h0,he⟩:=H2 Rh (x:=shO (ae (aa (U (.int c)) (aa (cw (U (.int 2)) (U (.int (0+(k:Int))))) (U []))) f__law_mixed)) (E9 rfl (j4 rfl rfl) (by lia) (by lia)) rfl rfl
  exact⟨e,h0,itG he⟩
 refine⟨(t.1,cs),⟨by show cs.length<=4;lia,λn hn=>h2 _ hn n rfl⟩,stO (i6 (E9 rfl rfl (by decide) (by decide)) (CS rfl) (by rw[J8];lia)) (stO (d:=.int t.2) ?_ (stF (m3 (nC t.2 (by lia)) (by rw[fO];lia) rfl h3 (by simp;lia)) (rO (oR (a:=.str t.1) ?_ ?_))))⟩
 ·rw[J8];exact(ixA (ixG (d:=tbD t) rfl rfl et)).2
 ·rw[J8];exact(ixA (ixG (d:=tbD t) rfl rfl et)).1
 ·exact tupleO_l _
end
end K41
namespace K41
open PySem L2 JP
variable[Md]
def zt {x:Wq D}{rs:Ww Row}(h:x=U (.lst (rs.map rowD))) (hl:rs.length<=60):∃fs:Ww Row,Cn fs/\(∀r,r∈fs↔r∈rs)/\fs.length<=rs.length/\frO (ae (aa x (U [])) f__law_stand)=U (.lst (fs.map rowD)):=by
 subst h;let⟨fs,h0,h1,h2,e⟩:=AF rs hl;exact⟨fs,h0,h1,h2,frG e⟩
def mvC (c:Ce):Mv->Ce->Ce
 |[],t=>t
 |q::mv,t=>mvC c mv (if c=.bk q.1 then q.2 else t)
theorem Hp (a0 a1 a2 a3 a4 a5:Wq (D×Bool)) (c:Ce):∀(mv:Mv) (t:Ce) (x8 x9:Wq (D×Bool)),∃y8 y9,am (λd δ=>ae ((aB (ah (af 8) (ah (af 9) (toNil)))) d δ) c9) (mv.map mvD) [a0,a1,a2,a3,a4,a5,U (ceD c,Y),U (ceD t,Y),x8,x9]=U (.next [a0,a1,a2,a3,a4,a5,U (ceD c,Y),U (ceD (mvC c mv t),Y),y8,y9])
 |[],t,x8,x9=>⟨x8,x9,by rfl⟩
 |q::mv,t,x8,x9=>by
  let⟨y8,y9,e⟩:=Hp a0 a1 a2 a3 a4 a5 c mv (if c=.bk q.1 then q.2 else t) (U (.int q.1,Y)) (U (ceD q.2,Y))
  refine⟨y8,y9,?_⟩
  rw[Ka];unfold am;let h:ae ((aB (ah (af 8) (ah (af 9) (toNil)))) (mvD q) [a0,a1,a2,a3,a4,a5,U (ceD c,Y),U (ceD t,Y),x8,x9]) c9=ifO (U (decide (c=.bk q.1))) (aE 7 (U (ceD q.2)) [a0,a1,a2,a3,a4,a5,U (ceD c,Y),U (ceD t,Y),U (.int q.1,Y),U (ceD q.2,Y)]) (nextO [a0,a1,a2,a3,a4,a5,U (ceD c,Y),U (ceD t,Y),U (.int q.1,Y),U (ceD q.2,Y)]):=by
   show ifO (eqO (U (ceD c)) (bw (aa (U (.str "blank")) (aa (U (.int q.1)) (U []))))) _ _=_;rw[oR rfl rfl,show D.tup [.str "blank",.int q.1]=ceD (.bk q.1) from rfl,HZ]
   rfl
  rw[h,show mvC c (q::mv) t=mvC c mv (if c=.bk q.1 then q.2 else t) from rfl]
  by_cases hc:c=.bk q.1
  ·rw[decide_eq_true hc];rw[if_pos hc]at e⊢;exact e
  ·rw[decide_eq_false hc];rw[if_neg hc]at e⊢;exact e
def xN {rs:Ww Row}(hl:rs.length<=60) (h4:∀q∈rs,q.2.length<=4) (m:Int×Ce):∃fs:Ww Row,Cn fs/\(∀r,r∈fs↔∃q∈rs,r=mN [m] q)/\f__law_moved [.lst (rs.map rowD),.lst [mvD m]]=U (.lst (fs.map rowD),V):=by
 obtain⟨mv,hmv⟩:∃mv:Mv,mv=[m]:=⟨_,rfl⟩;rw[show[mvD m]=mv.map mvD by rw[hmv];rfl]
 letI g:Row->Row:=λq=>(q.1,q.2.map λc=>mvC c mv c)
 let hg:∀q,g q=mN [m] q:=λq=>by
  refine Prod.ext rfl (K5 λc _=>?_)
  subst hmv;show(if c=.bk m.1 then m.2 else c)=led [m] c
  unfold led
  by_cases h:c=.bk m.1<;>simp[h]
 let⟨fs,f0,f1,f2,f4⟩:=zt (x:=U (.lst ((rs.map g).map rowD))) rfl (by simpa using hl)
 refine⟨fs,f0,λr=>?_,?_⟩
 ·rw[f1,NH]
  exact⟨λ⟨q,hq,e⟩=>⟨q,hq,by rw[<-hg,e]⟩,λ⟨q,hq,e⟩=>⟨q,hq,by rw[hg,e]⟩⟩
 let⟨⟨x3,x4,x5,x6,x7,x8,x9⟩,e⟩:=ka (γ:=Wq (D×Bool)×Wq (D×Bool)×Wq (D×Bool)×Wq (D×Bool)×Wq (D×Bool)×Wq (D×Bool)×Wq (D×Bool)) (f:=rowD) (h:=g) (xs:=rs) (acc:=[]) (y:=(B,B,B,B,B,B,B))
  (body:=λd δ=>ae ((aB (ah (af 3) (ah (af 4) (toNil)))) d δ) gC)
  (E:=λacc y=>[U (.lst (rs.map rowD),Y),U (.lst (mv.map mvD),Y),U (.lst (acc.map rowD),V),y.1,y.2.1,y.2.2.1,y.2.2.2.1,y.2.2.2.2.1,y.2.2.2.2.2.1,y.2.2.2.2.2.2]) (by simp;lia) λq hq acc ⟨x3,x4,x5,x6,x7,x8,x9⟩ ha=>by
   let⟨⟨y6,y7,y8,y9⟩,e⟩:=ka (γ:=Wq (D×Bool)×Wq (D×Bool)×Wq (D×Bool)×Wq (D×Bool)) (f:=ceD) (h:=λc=>mvC c mv c) (xs:=q.2) (acc:=[]) (y:=(x6,x7,x8,x9))
    (body:=λd δ=>ae ((af 6) d δ) gB)
    (E:=λcs y=>[U (.lst (rs.map rowD),Y),U (.lst (mv.map mvD),Y),U (.lst (acc.map rowD),V),U (.str q.1,Y),U (.tup (q.2.map ceD),Y),U (.lst (cs.map ceD),V),y.1,y.2.1,y.2.2.1,y.2.2.2]) (by have:=h4 q hq;simp;lia) λc hc cs ⟨x6,x7,x8,x9⟩ hcs=>by
     let⟨y8,y9,e⟩:=Hp (U (.lst (rs.map rowD),Y)) (U (.lst (mv.map mvD),Y)) (U (.lst (acc.map rowD),V)) (U (.str q.1,Y)) (U (.tup (q.2.map ceD),Y)) (U (.lst (cs.map ceD),V)) c mv c x8 x9;refine⟨(U (ceD c,Y),U (ceD (mvC c mv c),Y),y8,y9),?_⟩
     show ak (am _ _ _) _=_;refine(congrArg (λz=>ak z _) e).trans ?_
     rw[seqO_n];show jb 5 (U (ceD (mvC c mv c))) _=_;rw[gF (ds:=cs.map ceD) _ rfl (by simp;lia),Kn];rfl
   rw[MX]at e;refine⟨(U (.str q.1,Y),U (.tup (q.2.map ceD),Y),U (.lst ((q.2.map λc=>mvC c mv c).map ceD),Y),y6,y7,y8,y9),?_⟩
   show ak (am _ _ _) _=_;refine(congrArg (λz=>ak z _) e).trans ?_
   rw[seqO_n];show jb 2 (bw (aa (U (.str q.1)) (aa (U (.tup ((q.2.map λc=>mvC c mv c).map ceD))) (U [])))) _=_
   rw[oR rfl rfl,gF (ds:=acc.map rowD) _ rfl (by simp;lia),Kn];rfl
 exact stF (d:=.lst []) (lstO_s _ (by simp)) (stN e (rF f4))
end K41
namespace K41
open PySem L2 JP
variable[Md]
section
variable{tb:Ww (Kr×Int)}{ns:Ww Kr}{nu:Ww Int}(Rh:Dr tb ns nu)
include Rh
theorem D4 (k:Int) {s:Kr}(s1:1<=s.length) (s2:s.length<=100):∃t:Te,f__law_term [.int k,.str s,.lst (ns.map .str)]=U (teD t,Y):=by
 let l1:=qag.mpr Rh.nn;let⟨w,_,ew⟩:=uq (f:=D.str) Rh.nn (k / 4);let hl:lim=1000000:=rfl;let⟨z,_,ez⟩:=DU s (k / 4%(s.length:Int)) (by lia) (OT _ (by lia)) (Int.emod_lt_of_pos _ (by lia))
 rw[av (f:=f__law_term) (δ:=[U (.int k,Y),U (.str s,Y),U (.lst (ns.map D.str),Y)]) rfl rfl rfl];unfold gP;rw[eqG (i6 (rfl:rd Y 0 _=U (.int k)) rfl (by decide)) rfl]
 cases decide (k%4=0)with
 |true=>exact⟨.nm w,stR rfl (oR rfl (ixG rfl (i6 (oY rfl rfl (by decide)) (CS rfl) (by rw[J8];lia)) (by rw[J8];exact ew)))⟩
 |false=>
  refine⟨.any z,stI rfl (rO (oR (b:=.str z) rfl ?_))⟩
  show Co (U (.str s)) (cq (gz (U (.int k)) (U (.int 4))) (FV (U (.str s))))=_;rw[i6 (oY rfl rfl (by decide)) (lenS_s s (by lia)) (by lia)]
  exact ez
theorem uj (c st:Int) (h0:0<=st) (h1:st<=300) (m:Nat) (hm:m<=2) {s:Kr}(s1:1<=s.length) (s2:s.length<=100):∃ps:Ww Pat,ps.length=m/\(∀p∈ps,p.2.length<=4)/\f__law_patterns [.int c,.int st,.int m,.lst (tb.map tbD),.str s,.lst (ns.map .str)]=U (.lst (ps.map aG),V):=by
 rw[av (f:=f__law_patterns) (δ:=[U (.int c,Y),U (.int st,Y),U (.int m,Y),U (.lst (tb.map tbD),Y),U (.str s,Y),U (.lst (ns.map .str),Y),B,B,B,B,B]) rfl rfl rfl];let l:=qag.mpr Rh.tn;let⟨ps,⟨x7,x8,x9,x10⟩,p1,p2,e⟩:=vX (γ:=Wq (D×Bool)×Wq (D×Bool)×Wq (D×Bool)×Wq (D×Bool)) (n:=m) (P:=λp:Pat=>p.2.length<=4) (body:=λd δ=>ae ((af 7) d δ) du) (y:=(B,B,B,B))
  (E:=λacc y=>[U (.int c,Y),U (.int st,Y),U (.int m,Y),U (.lst (tb.map tbD),Y),U (.str s,Y),U (.lst (ns.map .str),Y),U (.lst (acc.map aG),V),y.1,y.2.1,y.2.2.1,y.2.2.2]) (by lia) λk hk acc ⟨x7,x8,x9,x10⟩ ha=>by
   let⟨t,ht,et⟩:=uq (f:=tbD) Rh.tn (mx c (st+10*(0+(k:Int))));let⟨t1,t2⟩:=Rh.ta t ht;let⟨ts,y10,q1,_,e⟩:=vX (γ:=Wq (D×Bool)) (n:=t.2.toNat) (P:=λ_:Te=>True) (body:=λd δ=>ae ((af 10) d δ) dv) (y:=x10)
    (E:=λts y=>[U (.int c,Y),U (.int st,Y),U (.int m,Y),U (.lst (tb.map tbD),Y),U (.str s,Y),U (.lst (ns.map .str),Y),U (.lst (acc.map aG),V),U (.int (0+(k:Int)),Y),U (.int (mx c (st+10*(0+(k:Int)))%(tb.length:Int)),Y),U (.lst (ts.map teD),V),y]) (by lia) λj hj ts y hts=>by
     let⟨t',e⟩:=D4 Rh (mx c (st+10*(0+(k:Int))+1+(0+(j:Int)))) s1 s2;refine⟨t',U (.int (0+(j:Int)),Y),trivial,?_⟩
     show jb 9 (shO (ae (aa (shO (ae (aa (U (.int c)) (aa (cw (cw (cw (U (.int st)) (wc (U (.int 10)) (U (.int (0+(k:Int)))))) (U (.int 1))) (U (.int (0+(j:Int))))) (U []))) f__law_mixed)) (aa (U (.str s)) (aa (U (.lst (ns.map .str))) (U [])))) f__law_term)) _=_;rw[E9 rfl (j4 (j4 (j4 rfl (mulI_s 10 _ (by lia))) rfl) rfl) (by lia) (by lia)]
     simp![consO_s,bindO_s,e,shO_s];rw[gF (ds:=ts.map teD) _ rfl (by simp;lia),Kn];rfl
   refine⟨(t.1,ts),(U (.int (0+(k:Int)),Y),U (.int (mx c (st+10*(0+(k:Int)))%(tb.length:Int)),Y),U (.lst (ts.map teD),Y),y10),by show ts.length<=4;lia,?_⟩
   show ak (aE 8 (cq (shO (ae (aa (U (.int c)) (aa (cw (U (.int st)) (wc (U (.int 10)) (U (.int (0+(k:Int)))))) (U []))) f__law_mixed)) (cK (U (.lst (tb.map tbD))))) _) _=_;rw[i6 (E9 rfl (j4 rfl (mulI_s 10 _ (by lia))) (by lia) (by lia)) (CS rfl) (by rw[J8];lia),J8]
   show ak (ae (rG (ixO (ixO (U (.lst (tb.map tbD))) (U (.int (mx c (st+10*(0+(k:Int)))%(tb.length:Int))))) (U (.int 1)))) _) _=_;rw[H5 (ixA (ixG (d:=tbD t) rfl rfl et)).2 (by lia),bindO_s]
   refine(congrArg (λz=>ak z _) e).trans ?_
   show jb 6 (bw (aa (ixO (ixO (U (.lst (tb.map tbD))) (U (.int (mx c (st+10*(0+(k:Int)))%(tb.length:Int))))) (U (.int 0))) (aa (U (.tup (ts.map teD))) (U [])))) _=_;rw[oR (ixA (ixG (d:=tbD t) rfl rfl et)).1 rfl,gF (ds:=acc.map aG) _ rfl (by simp;lia),Kn];rfl
 exact⟨ps,p1,p2,stF (d:=.lst []) (lstO_s _ (by simp)) (stN (bN (H5 rfl (by lia)) e) (rF rfl))⟩
end
theorem HC (a0 a2 a3:Wq (D×Bool)):∀(ts:Ww Te) (acc:Ww Kr) (x4:Wq (D×Bool)),acc.Nodup->acc.length+ts.length<=100->∃(acc':Ww Kr) (y4:Wq (D×Bool)),acc'.Nodup/\(∀l,l∈acc'↔l∈acc\/l∈ans ts)/\acc'.length<=acc.length+ts.length/\
  am (λd δ=>ae ((af 4) d δ) aS) (ts.map teD) [a0,U (.lst (acc.map .str),V),a2,a3,x4]=U (.next [a0,U (.lst (acc'.map .str),V),a2,a3,y4])
 |[],acc,x4,nd,_=>⟨acc,x4,nd,by simp[ans],by simp,by rfl⟩
 |t::ts,acc,x4,nd,hl=>by
  rw[Kl]at hl;let go:∀acc1:Ww Kr,acc1.Nodup->(∀l,l∈acc1↔l∈acc\/l∈ans [t])->acc1.length<=acc.length+1->ae ((af 4) (teD t) [a0,U (.lst (acc.map .str),V),a2,a3,x4]) aS=U (.next [a0,U (.lst (acc1.map .str),V),a2,a3,U (teD t,Y)])->∃(acc':Ww Kr) (y4:Wq (D×Bool)),acc'.Nodup/\(∀l,l∈acc'↔l∈acc\/l∈ans (t::ts))/\acc'.length<=acc.length+(t::ts).length/\
    am (λd δ=>ae ((af 4) d δ) aS) ((t::ts).map teD) [a0,U (.lst (acc.map .str),V),a2,a3,x4]=U (.next [a0,U (.lst (acc'.map .str),V),a2,a3,y4]):=λacc1 n1 m1 l1 e=>by
   let⟨acc',y4,h1,h2,h3,h4⟩:=HC a0 a2 a3 ts acc1 (U (teD t,Y)) n1 (by lia)
   refine⟨acc',y4,h1,λl=>?_,by simp;lia,?_⟩
   ·rw[h2,m1,or_assoc]
    cases t<;>simp[ans]
   ·rw[Ka];unfold am;rw[e];exact h4
  cases t with
  |nm w=>
   refine go acc nd (λl=>by simp[ans]) (by lia) ?_
   rfl
  |any l=>
   let e1:ae ((af 4) (teD (.any l)) [a0,U (.lst (acc.map .str),V),a2,a3,x4]) aS=ifO (U (!decide (l∈acc))) (jb 1 (U (.str l)) [a0,U (.lst (acc.map .str),V),a2,a3,U (teD (.any l),Y)]) (nextO [a0,U (.lst (acc.map .str),V),a2,a3,U (teD (.any l),Y)]):=by
    show ifO (jC (eqO (U (.str "any")) (U (.str "any"))) (be (U (.str l)) (U (.lst (acc.map .str))))) (jb 1 (U (.str l)) [a0,U (.lst (acc.map .str),V),a2,a3,U (teD (.any l),Y)]) (nextO [a0,U (.lst (acc.map .str),V),a2,a3,U (teD (.any l),Y)])=_;rw[aY,decide_eq_true rfl,Am];rfl
   by_cases h:l∈acc
   ·exact go acc nd (λx=>⟨.inl,λz=>z.elim id λz=>by simp_all [ans]⟩) (by lia) (by rw[e1,decide_eq_true h];rfl)
   ·refine go (acc++[l]) (qap.mpr ⟨nd,by simp,λx hx y hy e=>h (by simp_all)⟩) (λx=>by simp[ans]) (by simp) ?_
    rw[e1,decide_eq_false h,NL,ifO_t,gF (ds:=acc.map .str) _ rfl (by simp;lia),Kn];rfl
theorem DD (a0:Wq (D×Bool)):∀(ps:Ww Pat) (acc:Ww Kr) (x2 x3 x4:Wq (D×Bool)),(∀p∈ps,p.2.length<=4)->acc.Nodup->acc.length+4*ps.length<=100->∃(acc':Ww Kr) (y2 y3 y4:Wq (D×Bool)),acc'.Nodup/\(∀l,l∈acc'↔l∈acc\/l∈aI ps)/\acc'.length<=acc.length+4*ps.length/\
  am (λd δ=>ae ((aB (ah (af 2) (ah (af 3) (toNil)))) d δ) b9) (ps.map aG) [a0,U (.lst (acc.map .str),V),x2,x3,x4]=U (.next [a0,U (.lst (acc'.map .str),V),y2,y3,y4])
 |[],acc,x2,x3,x4,_,nd,_=>⟨acc,x2,x3,x4,nd,by simp[aI],by simp,by rfl⟩
 |p::ps,acc,x2,x3,x4,h4,nd,hl=>by
  rw[Kl]at hl;have:=h4 p (.head _);let⟨acc1,y4,n1,m1,l1,e1⟩:=HC a0 (U (.str p.1,Y)) (U (.tup (p.2.map teD),Y)) p.2 acc x4 nd (by lia)
  let⟨acc',z2,z3,z4,h1,h2,h3,h5⟩:=DD a0 ps acc1 (U (.str p.1,Y)) (U (.tup (p.2.map teD),Y)) y4 (λq hq=>h4 q (.tail _ hq)) n1 (by lia)
  refine⟨acc',z2,z3,z4,h1,λl=>by rw[h2,m1,or_assoc];simp[aI],by simp;lia,?_⟩
  rw[Ka];unfold am;have:ae ((aB (ah (af 2) (ah (af 3) (toNil)))) (aG p) [a0,U (.lst (acc.map .str),V),x2,x3,x4]) b9=U (.next [a0,U (.lst (acc1.map .str),V),U (.str p.1,Y),U (.tup (p.2.map teD),Y),y4]):=e1;rw[this];exact h5
def Fc {ps:Ww Pat}{us:Ww Kr}(nd:us.Nodup) (hm:∀l,l∈us↔l∈aI ps):dh (us.map D.str)=(uL ps).map D.str:=by
 let e:=(wY (f:=D.str) (λ_ _=>D.str.inj) (aI ps)).choose_spec.1
 refine Eq.trans ?_ e
 refine((L2.G.sortD_same (oV us) ?_).1).symm
 refine(Mw (L2.G.uniqD_nodup _) (nd.map _ λa b h z=>h (D.str.inj z))).mpr λd=>?_
 rw[L2.G.uniqD_mem,NH,NH];exact⟨λ⟨l,h,e⟩=>⟨l,(hm l).mpr h,e⟩,λ⟨l,h,e⟩=>⟨l,(hm l).mp h,e⟩⟩
def Bt {ps:Ww Pat}(hp:ps.length<=2) (h4:∀p∈ps,p.2.length<=4):f__law_letters [.lst (ps.map aG)]=U (.lst ((uL ps).map .str),V):=by
 let⟨us,y2,y3,y4,h1,h2,h3,e⟩:=DD (U (.lst (ps.map aG),Y)) ps [] B B B h4 LX (by simp;lia)
 refine stF (d:=.lst []) (lstO_s _ (by simp)) (stN e (rF ?_))
 have:=iN (c:=.st) (oV us) (.inr (fA (λ_=>rfl) us))
 rw[Fc (ps:=ps) h1 λl=>by rw[h2];simp]at this
 exact this
def JV:∀f:Nat,f<21->(rp "ABCDEFGHIJKLMNOPQRSTUVWXYZ" (U (f:Int)) (U ((f:Int)+5))).length=5/\(rp (rp "ABCDEFGHIJKLMNOPQRSTUVWXYZ" (U (f:Int)) (U ((f:Int)+5))) (U 2) B).length=3:=by decide +kernel
end K41
namespace K41
open PySem L2 JP
variable[Md]
def IY {x:Wq D}{ps:Ww Pat}(h:x=U (.lst (ps.map aG))) (hp:ps.length<=2) (h4:∀p∈ps,p.2.length<=4):frO (ae (aa x (U [])) f__law_letters)=U (.lst ((uL ps).map .str)):=by
 subst h;exact frG (Bt hp h4)
def JM {x:Wq D}{l u:Wq (Wq Int)}{z:Kr}{a b:Wq Int}(h:x=U (.str z)) (h1:l=U a) (h2:u=U b) (hz:z.length<=100):mA x l u=U (.str (rp z a b)):=by subst h h1 h2;exact cutSO_s _ _ _ (by simp;lia)
def wQ {x:Wq D}{i:Int}(h:x=U (.int i)):bQ x=U (U i):=by subst h;rfl
section
variable{tb:Ww (Kr×Int)}{ns:Ww Kr}{nu:Ww Int}(Rh:Dr tb ns nu)
include Rh
theorem JC {x y z u v w:Wq D}{c st:Int}{m:Nat}{s:Kr}(h:x=U (.int c)) (e1:y=U (.int st)) (e2:z=U (.int m)) (e3:u=U (.lst (tb.map tbD))) (e4:v=U (.str s)) (e5:w=U (.lst (ns.map .str))) (h0:0<=st) (h1:st<=300) (hm:m<=2) (s1:1<=s.length) (s2:s.length<=100):∃ps:Ww Pat,ps.length=m/\(∀p∈ps,p.2.length<=4)/\frO (ae (aa x (aa y (aa z (aa u (aa v (aa w (U []))))))) f__law_patterns)=U (.lst (ps.map aG)):=by
 let⟨ps,p1,p2,e⟩:=uj Rh c st h0 h1 m hm s1 s2;exact⟨ps,p1,p2,by simp_all⟩
theorem Fa (c:Int):∃R:Ru,Wf R/\f__law_rule [.int c,.lst (tb.map tbD),.lst (ns.map .str)]=U (ruD R,Y):=by
 obtain⟨f,hf,ef⟩:∃f:Nat,f<21/\mx c 99%21=(f:Int):=⟨(mx c 99%21).toNat,by lia,by lia⟩
 let⟨a5,a3⟩:=JV f hf;let L26:Str.length "ABCDEFGHIJKLMNOPQRSTUVWXYZ"=26:=by decide +kernel
 generalize hs:rp "ABCDEFGHIJKLMNOPQRSTUVWXYZ" (U (f:Int)) (U ((f:Int)+5))=s at a5 a3;let e0:cq (shO (ae (aa (U (.int c)) (aa (U (.int 99)) (U []))) f__law_mixed)) (U (.int 21))=U (.int (f:Int)):=ef▸i6 (E9 rfl rfl (by decide) (by decide)) rfl (by decide)
 let e1:mA (U (.str "ABCDEFGHIJKLMNOPQRSTUVWXYZ")) (bQ (U (.int (f:Int)))) (bQ (cw (U (.int (f:Int))) (U (.int 5))))=U (.str s):=hs▸JM rfl (wQ rfl) (wQ (j4 rfl rfl)) (by lia)
 let e2:mA (U (.str s)) (bQ (U (.int 2))) (U B)=U (.str (rp s (U 2) B)):=JM rfl rfl rfl (by lia)
 let⟨ps,p1,p2,ep⟩:=JC Rh (x:=U (.int c)) (y:=U (.int 100)) (z:=cw (U (.int 1)) (cq (U (.int c)) (U (.int 2)))) (u:=U (.lst (tb.map tbD))) (v:=mA (U (.str s)) (bQ (U (.int 2))) (U B)) (w:=U (.lst (ns.map .str))) (m:=(1+c%2).toNat) rfl rfl (by rw[j4 rfl (i6 rfl rfl (by decide))];congr 2;lia) rfl e2 rfl (by decide) (by decide) (by lia) (by lia) (by lia)
 obtain⟨us,u1,u2,eu⟩:∃us:Ww Kr,us.length<=8/\(∀l,l∈us↔l∈aI ps)/\frO (ae (aa (U (.lst (ps.map aG))) (U [])) f__law_letters)=U (.lst (us.map .str)):=⟨uL ps,Kf (iA ps) (Kf (aw p2) (by lia)),bf ps,IY rfl (by lia) p2⟩
 cases hc:decide (c / 2%3=0)with
 |false=>
  let⟨qs,q1,q2,eq⟩:=JC Rh (x:=U (.int c)) (y:=U (.int 140)) (z:=cw (U (.int 1)) (cq (gz (U (.int c)) (U (.int 6))) (U (.int 2)))) (u:=U (.lst (tb.map tbD))) (v:=U (.str s)) (w:=U (.lst (ns.map .str))) (m:=(1+c / 6%2).toNat) rfl rfl (by rw[j4 rfl (i6 (oY rfl rfl (by decide)) rfl (by decide))];congr 2;lia) rfl rfl rfl (by decide) (by decide) (by lia) (by lia) (by lia)
  exact⟨.must ps qs,⟨by lia,by lia,p2,q2⟩,stO e0 (stO e1 (stO ep (stO eu (stI ((eqG (i6 (oY rfl rfl (by decide)) rfl (by decide)) rfl).trans (congrArg U hc)) (rO (FZ rfl rfl eq))))))⟩
 |true=>
  let l3:(ns.length:Int)=3:=by rw[Rh.nl];rfl
  let⟨w1,_,ew1⟩:=qR (f:=D.str) (xs:=ns) (i:=c / 6%3) (by lia) (by lia)
  let⟨w2,_,ew2⟩:=qR (f:=D.str) (xs:=ns) (i:=(c / 6+1)%3) (by lia) (by lia)
  obtain⟨T,hT⟩:∃T:Ww Te,T=us.map Te.any++[Te.nm w1,Te.nm w2]:=⟨_,rfl⟩;let hne:T≠[]:=by rw[hT];simp
  let hTl:=qag.mpr hne;let⟨a,ha,ea⟩:=uq (f:=teD) hne (c / 24);let⟨b,hb,eb⟩:=uq (f:=teD) hne (c / 24+1+c / 120%3);let hw:∀t∈T,∀l,t=.any l->l∈aI ps:=λt ht l e=>by
   simp_all
  refine⟨.same ps a b,⟨by lia,p2,λl hl=>?_⟩,stO e0 (stO e1 (stO ep (stO eu (stT ((eqG (i6 (oY rfl rfl (by decide)) rfl (by decide)) rfl).trans (congrArg U hc)) ?_))))⟩
  ·rcases HJ hl with e|e
   ·exact hw a ha l e
   ·exact hw b hb l e
  ·let ec:aO (aC (af 8) (λδ=>U V) iC [B,B,B,B,B,B,B,B,B]) (us.map D.str)=U (us.map λl=>teD (.any l)):=aM λl _=>itG (oR rfl rfl)
   refine sqF (m3 (ds:=us.map D.str) rfl (by simp;lia) rfl ec (by simp;lia)) (sqO (d:=.lst (T.map teD)) ?_ (rtG (JF rfl rfl (d:=teD b) (c:=teD a) ?_ ?_)))
   ·show mn (U (.lst _)) (bR (aa (bw (aa (U (.str "name")) (aa (ixO (U (.lst (ns.map .str))) (cq (gz (U (.int c)) (U (.int 6))) (U (.int 3)))) (U [])))) (aa (bw (aa (U (.str "name")) (aa (ixO (U (.lst (ns.map .str))) (cq (cw (gz (U (.int c)) (U (.int 6))) (U (.int 1))) (U (.int 3)))) (U [])))) (U []))))=_
    rw[oR rfl (ixG rfl (i6 (oY rfl rfl (by decide)) rfl (by decide)) ew1),oR rfl (ixG rfl (i6 (j4 (oY rfl rfl (by decide)) rfl) rfl (by decide)) ew2)]
    simp![consO_s];rw[lstO_s _ (by simp),catO_s _ _ (by simp;lia),hT]
    simp[teD]
   ·exact ixG rfl (i6 (oY rfl rfl (by decide)) (CS rfl) (by rw[J8];lia)) (by rw[J8];exact ea)
   ·exact ixG rfl (i6 (j4 (j4 (oY rfl rfl (by decide)) rfl) (i6 (oY rfl rfl (by decide)) rfl (by decide))) (CS rfl) (by rw[J8];lia)) (by rw[J8];exact eb)
end
end K41
namespace K41
open PySem L2 JP
variable[Md]
def pkC (l:Kr):Bi->Ce->Ce
 |[],t=>t
 |q::b,t=>pkC l b (if q.1=l then q.2 else t)
theorem xX {l:Kr}:∀{b:Bi}{t:Ce},l∉b.map (·.1)->pkC l b t=t
 |[],_,_=>rfl
 |q::b,t,h=>by
  rw[Ka,KI,not_or]at h;unfold pkC;rw[if_neg λz=>h.1 z.symm,xX h.2]
nonrec theorem nJ {l:Kr}{c:Ce}:∀{b:Bi}{t:Ce},(b.map (·.1)).Nodup->gt b l=U c->pkC l b t=c/\(l,c)∈b
 |q::b,t,nd,h=>by
  let⟨h1,h2⟩:=qaf.mp nd;rw[ja]at h;unfold pkC;split at h
  ·rename_i z
   cases h;subst z;exact⟨by rw[if_pos rfl];exact xX h1,Kg ..⟩
  ·exact⟨(nJ h2 h).1,Kb _ (nJ (t:=t) h2 h).2⟩
theorem Ao (a0 a1 a2 a3 a5:Wq (D×Bool)) (l:Kr):∀(b:Bi) (t:Ce) (x7 x8:Wq (D×Bool)),∃y7 y8,tD 6 (aB (ah (af 7) (ah (af 8) (toNil)))) bM cC (b.map bq) [a0,a1,a2,a3,U (teD (.any l),Y),a5,U (ceD t,Y),x7,x8]=U (.next [a0,a1,a2,a3,U (teD (.any l),Y),a5,U (ceD (pkC l b t),Y),y7,y8])
 |[],t,x7,x8=>⟨x7,x8,rfl⟩
 |q::b,t,x7,x8=>by
  let⟨y7,y8,e⟩:=Ao a0 a1 a2 a3 a5 l b (if q.1=l then q.2 else t) (U (.str q.1,Y)) (U (ceD q.2,Y))
  refine⟨y7,y8,?_⟩
  rw[Ka,show pkC l (q::b) t=pkC l b (if q.1=l then q.2 else t) from rfl]
  refine bN (a:=[a0,a1,a2,a3,U (teD (.any l),Y),a5,U (ceD t,Y),U (.str q.1,Y),U (ceD q.2,Y)]) rfl ?_
  let ht:bM [a0,a1,a2,a3,U (teD (.any l),Y),a5,U (ceD t,Y),U (.str q.1,Y),U (ceD q.2,Y)]=U (decide (q.1=l)):=aY _ _;rw[ht]
  by_cases h:q.1=l
  ·rw[if_pos h]at e⊢;rw[decide_eq_true h];exact e
  ·rw[if_neg h]at e⊢;rw[decide_eq_false h];exact e
def zZ (q:Kr×Ce) (b:Bi):be (U (bq q)) (U (.lst (b.map bq)))=U (!decide (q∈b)):=xM (λ_ _=>BX) (λa=>vn a 13) q b
def Ju (l:Kr) (c:Ce):bw (aa (U (.str l)) (aa (U (ceD c)) (U [])))=U (bq (l,c)):=oR rfl rfl
def Ex (b:Bi):D.flats (b.map bq)=V:=by
 simp[D.flats_all,Kw,bq,D.flat,D.flats,jd]
abbrev eT (a0 a1 a2:Wq (D×Bool)) (b:Bi) (x4 x5 x6 x7 x8:Wq (D×Bool)):DEnv:=[a0,a1,a2,U (.lst (b.map bq),V),x4,x5,x6,x7,x8]
theorem kh (a0 a1 a2:Wq (D×Bool)):∀(ts:Ww Te) (cs:Ww Ce) (b:Bi) (x4 x5 x6 x7 x8:Wq (D×Bool)),(b.map (·.1)).Nodup->b.length+ts.length<=100->
  (match bnd ts cs b with
  |some b'=>∃y4 y5 y6 y7 y8,am (λd δ=>ae ((aB (ah (af 4) (ah (af 5) (toNil)))) d δ) bd) ((ts.zip cs).map λq=>.tup [teD q.1,ceD q.2]) (eT a0 a1 a2 b x4 x5 x6 x7 x8)=U (.next (eT a0 a1 a2 b' y4 y5 y6 y7 y8))
  |none=>am (λd δ=>ae ((aB (ah (af 4) (ah (af 5) (toNil)))) d δ) bd) ((ts.zip cs).map λq=>.tup [teD q.1,ceD q.2]) (eT a0 a1 a2 b x4 x5 x6 x7 x8)=U (.ret .non Y))
 |[],cs,b,x4,x5,x6,x7,x8,_,_=>⟨x4,x5,x6,x7,x8,by rfl⟩
 |.any l::ts,[],b,x4,x5,x6,x7,x8,_,_=>⟨x4,x5,x6,x7,x8,by rfl⟩
 |.nm l::ts,[],b,x4,x5,x6,x7,x8,_,_=>⟨x4,x5,x6,x7,x8,by rfl⟩
 |.nm w::ts,c::cs,b,x4,x5,x6,x7,x8,nd,hl=>by
  rw[Kl]at hl;let ih:=kh a0 a1 a2 ts cs b (U (teD (.nm w),Y)) (U (ceD c,Y)) (U (teD (.nm w),Y)) x7 x8 nd (by lia)
  let h0:eqO (U (.str "name")) (U (.str "any"))=U Y:=by rw[aY];simp[na]
  let e:ae ((aB (ah (af 4) (ah (af 5) (toNil)))) (.tup [teD (.nm w),ceD c]) (eT a0 a1 a2 b x4 x5 x6 x7 x8)) bd=ifO (U (!decide (Ce.nm w=c))) (bp (U .non)) (nextO (eT a0 a1 a2 b (U (teD (.nm w),Y)) (U (ceD c,Y)) (U (teD (.nm w),Y)) x7 x8)):=
   bN rfl (sqO rfl (ifF h0 (by rw[<-DH];rfl)))
  rw[MS,Ka];unfold am bnd;rw[e]
  by_cases hc:Ce.nm w=c
  ·rw[if_pos hc,decide_eq_true hc];exact ih
  simp_all
 |.any l::ts,c::cs,b,x4,x5,x6,x7,x8,nd,hl=>by
  rw[Kl]at hl;let⟨y7,y8,ep⟩:=Ao a0 a1 a2 (U (.lst (b.map bq),V)) (U (ceD c,Y)) l b c x7 x8;let epo:Ct 6 (aB (ah (af 7) (ah (af 8) (toNil)))) bM cC (bi (rd V 3 (eT a0 a1 a2 b (U (teD (.any l),Y)) (U (ceD c,Y)) (U (ceD c,Y)) x7 x8))) (eT a0 a1 a2 b (U (teD (.any l),Y)) (U (ceD c,Y)) (U (ceD c,Y)) x7 x8)=U (.next (eT a0 a1 a2 b (U (teD (.any l),Y)) (U (ceD c,Y)) (U (ceD (pkC l b c),Y)) y7 y8)):=by
   show(if D.flats (b.map bq)=V then _ else B)=_
   rw[if_pos (Ex b)];exact ep
  let ha:eqO (U (.str "any")) (U (.str "any"))=U V:=by rw[aY,decide_eq_true rfl]
  let e:∀b1:Bi,ifO (be (bw (aa (U (.str l)) (aa (U (ceD (pkC l b c))) (U [])))) (U (.lst (b.map bq)))) (jb 3 (bw (aa (U (.str l)) (aa (U (ceD (pkC l b c))) (U [])))) (eT a0 a1 a2 b (U (teD (.any l),Y)) (U (ceD c,Y)) (U (ceD (pkC l b c),Y)) y7 y8)) (nextO (eT a0 a1 a2 b (U (teD (.any l),Y)) (U (ceD c,Y)) (U (ceD (pkC l b c),Y)) y7 y8))=U (.next (eT a0 a1 a2 b1 (U (teD (.any l),Y)) (U (ceD c,Y)) (U (ceD (pkC l b c),Y)) y7 y8))->
    ae ((aB (ah (af 4) (ah (af 5) (toNil)))) (.tup [teD (.any l),ceD c]) (eT a0 a1 a2 b x4 x5 x6 x7 x8)) bd=ifO (U (!decide (pkC l b c=c))) (bp (U .non)) (nextO (eT a0 a1 a2 b1 (U (teD (.any l),Y)) (U (ceD c,Y)) (U (ceD (pkC l b c),Y)) y7 y8)):=λb1 hb=>
   bN rfl (sqO rfl (ifT ha (sqA (sqO rfl (sqA (sqN epo (sqN hb (by rw[<-mf];rfl))))))))
  rw[MS,Ka];unfold am bnd;cases eg:gt b l with
  |some c'=>
   let⟨k1,k2⟩:=nJ (t:=c) nd eg;rw[k1]at e;rw[e b (by rw[Ju,zZ,decide_eq_true k2];rfl)]
   by_cases hc:c'=c
   ·have:=kh a0 a1 a2 ts cs b (U (teD (.any l),Y)) (U (ceD c,Y)) (U (ceD c',Y)) y7 y8 nd (by lia)
    simp only;rw[if_pos hc,decide_eq_true hc];exact this
   simp_all
  |none=>
   let hn:=pR eg;rw[xX hn]at e;let nd':((b++[(l,c)]).map (·.1)).Nodup:=by
    rw[Kn];exact qap.mpr ⟨nd,by simp,λx hx y hy e=>hn (by simp at hy;rw[<-hy,<-e];exact hx)⟩
   let hm:(l,c)∉b:=λz=>hn (mt.mpr ⟨_,z,rfl⟩)
   rw[e (b++[(l,c)]) (by rw[Ju,zZ,decide_eq_false hm,NL,ifO_t,gF (ds:=b.map bq) _ rfl (by simp;lia),show b.map bq++[bq (l,c)]=(b++[(l,c)]).map bq by simp];rfl)]
   have:=kh a0 a1 a2 ts cs (b++[(l,c)]) (U (teD (.any l),Y)) (U (ceD c,Y)) (U (ceD c,Y)) y7 y8 nd' (by simp;lia)
   simp![decide_true,Mu,ifO_f];exact this
def yA {ts:Ww Te}{cs:Ww Ce}{b:Bi}(nd:(b.map (·.1)).Nodup) (hl:b.length+ts.length<=100):f__law_fitted [.tup (ts.map teD),.tup (cs.map ceD),.lst (b.map bq)]=U (match bnd ts cs b with|some b'=>(.lst (b'.map bq),V)|none=>(.non,Y)):=by
 have:=kh (U (.tup (ts.map teD),Y)) (U (.tup (cs.map ceD),Y)) (U (.lst (b.map bq),Y)) ts cs b B B B B B nd hl;let ez:∀k:Ww D->Wq Out,ae (yh V V (U (.tup (ts.map teD))) (U (.tup (cs.map ceD)))) k=k ((ts.zip cs).map λq=>.tup [teD q.1,ceD q.2]):=λk=>by
  simp![yh,HK,if_true,tupL_s,bindO_s,mF]
 show j3 (ak (ae (yh V V (U (.tup (ts.map teD))) (U (.tup (cs.map ceD)))) _) _)=_;rw[ez];cases eb:bnd ts cs b with
 |some b'=>
  rw[eb]at this;let⟨y4,y5,y6,y7,y8,e⟩:=this;exact stN e (rF rfl)
 |none=>
  rw[eb]at this;exact(congrArg (λz=>j3 (ak z _)) this).trans rfl
end K41
namespace K41
open PySem L2 JP
variable[Md]
def lfR (rows:Ww Row) (p:Pat) (b:Bi):Ww Bi:=rows.filterMap λr=>if r.1=p.1/\r.2.length=p.2.length then bnd p.2 r.2 b else B
def lf (rows:Ww Row):Ww Pat->Ww Bi->Ww Bi
 |[],S=>S
 |p::ps,S=>lf rows ps (S.flatMap (lfR rows p))
nonrec theorem vG:∀{ts:Ww Te}{cs:Ww Ce}{b b':Bi},ts.length=cs.length->(b.map (·.1)).Nodup->bnd ts cs b=U b'->(b'.map (·.1)).Nodup/\(∀l,l∈b'.map (·.1)↔l∈b.map (·.1)\/l∈ans ts)/\b'.length<=b.length+ts.length
 |[],[],b,b',_,nd,h=>by cases h;simp[ans];lia
 |.nm w::ts,c::cs,b,b',hl,nd,h=>by
  unfold bnd at h;split at h
  ·let⟨h1,h2,h3⟩:=vG (by simpa using hl) nd h
   exact⟨h1,h2,by simp;lia⟩
  ·cases h
 |.any l::ts,c::cs,b,b',hl,nd,h=>by
  unfold bnd at h;split at h
  ·rename_i c' eg
   split at h
   ·let⟨h1,h2,h3⟩:=vG (by simpa using hl) nd h
    refine⟨h1,λx=>?_,by simp;lia⟩
    rw[h2];let hm:l∈b.map (·.1):=mt.mpr ⟨_,(nJ (t:=c) nd eg).2,rfl⟩
    simp![ans,KI];constructor
    ·exact λz=>z.imp id .inr
    ·lia
   ·cases h
  ·rename_i eg
   let hn:=pR eg;let nd':((b++[(l,c)]).map (·.1)).Nodup:=by
    rw[Kn];exact qap.mpr ⟨nd,by simp,λx hx y hy e=>hn (by simp at hy;rw[<-hy,<-e];exact hx)⟩
   let⟨h1,h2,h3⟩:=vG (by simpa using hl) nd' h
   refine⟨h1,λx=>?_,by simp at h3⊢;lia⟩
   simp[h2,Kn,ans,or_assoc]
structure Bg (rows:Ww Row) (ps:Ww Pat) (b0 b:Bi):Prop where
 nd:(b.map (·.1)).Nodup
 ks:∀l,l∈b.map (·.1)↔l∈b0.map (·.1)\/l∈aI ps
 lb:∀l c,gt b0 l=U c->gt b l=U c
 ft:∀φ:Fit,(∀l c,gt b l=U c->φ l=c)->∀p∈ps,da rows φ p
def DK {b:Bi}{l:Kr}(h:l∈b.map (·.1)):∃c,gt b l=U c:=by
 cases e:gt b l with
 |some c=>lia
 |none=>exact absurd h (pR e)
nonrec theorem Dt {rows:Ww Row}{ps:Ww Pat}{p:Pat}{b0 b b':Bi}(Ri:Bg rows ps b0 b) (h:b'∈lfR rows p b):Bg rows (ps++[p]) b0 b'/\b'.length<=b.length+p.2.length:=by
 let⟨r,hr,e⟩:=qal.mp h;split at e
 ·rename_i hc
  let⟨h1,h2,h3⟩:=vG hc.2.symm Ri.nd e;let⟨s1,s2,s3⟩:=eI hc.2.symm e;refine⟨⟨h1,λl=>?_,λl c z=>s1 l c (Ri.lb l c z),λφ hφ q hq=>?_⟩,h3⟩
  ·rw[h2,Ri.ks,or_assoc];simp[aI]
  ·rcases qac.mp hq with hq|hq
   ·exact Ri.ft φ (λl c z=>hφ l c (s1 l c z)) q hq
   ·rw[qaa.mp hq]
    refine⟨r,hr,hc.1,s3 φ λl hl=>?_⟩
    let⟨c,ec⟩:=s2 l hl;rw[ec,hφ l c ec]
 ·cases e
theorem GA {rows:Ww Row}{b0:Bi}:∀{qs ps:Ww Pat}{S:Ww Bi}{n:Nat},(∀p∈qs,p.2.length<=4)->(∀b∈S,Bg rows ps b0 b/\b.length<=n)->∀b∈lf rows qs S,Bg rows (ps++qs) b0 b/\b.length<=n+4*qs.length
 |[],ps,S,n,_,h,b,hb=>by rw[Ls];exact h b hb
 |q::qs,ps,S,n,h4,h,b,hb=>by
  have:=GA (qs:=qs) (ps:=ps++[q]) (n:=n+4) (λp hp=>h4 p (.tail _ hp)) (λb' hb'=>by
   let⟨b1,h1,h2⟩:=qao.mp hb';let⟨k1,k2⟩:=h b1 h1;let⟨k3,k4⟩:=Dt k1 h2;have:=h4 q (.head _);exact⟨k3,by lia⟩) b hb
  rw[LJ,List.singleton_append]at this;exact⟨this.1,by have:=this.2;rw[Kl];lia⟩
theorem yJ {rows:Ww Row}{φ:Fit}:∀{qs:Ww Pat}{S:Ww Bi},(∀p∈qs,da rows φ p)->(∃b∈S,∀l c,gt b l=U c->φ l=c)->∃b∈lf rows qs S,∀l c,gt b l=U c->φ l=c
 |[],S,_,h=>h
 |q::qs,S,hq,⟨b,hb,hφ⟩=>by
  let⟨r,h1,h2,h3⟩:=hq q (.head _);let⟨b',e,hb'⟩:=iW q.2 b hφ;refine yJ (qs:=qs) (S:=S.flatMap (lfR rows q)) (λp hp=>hq p (.tail _ hp)) ⟨b',qao.mpr ⟨b,hb,qal.mpr ⟨r,h1,?_⟩⟩,hb'⟩
  simp_all
theorem C3 {rows:Ww Row}{p:Pat}:∀S:Ww Bi,(S.flatMap (lfR rows p)).length<=S.length*rows.length
 |[]=>by simp
 |b::S=>by
  rw[NI,K0,Kl,Q0];have:=C3 (rows:=rows) (p:=p) S;let h2:(lfR rows p b).length<=rows.length:=Me ..
  lia
abbrev bD2 (b:Bi):D:=.lst (b.map bq)
abbrev eV (a0 a1 a2 a3:Wq (D×Bool)) (p:Pat) (acc:Ww Bi) (x7 x8 x9:Wq (D×Bool)):DEnv:=[a0,a1,a2,a3,U (.str p.1,Y),U (.tup (p.2.map teD),Y),U (.lst (acc.map bD2),V),x7,x8,x9]
def Jb (a0 a1 a2 a3:Wq (D×Bool)) (p:Pat) (b:Bi) (nd:(b.map (·.1)).Nodup) (hb:b.length+p.2.length<=100) (rows:Ww Row) (acc:Ww Bi) (x8 x9:Wq (D×Bool)) (hl:acc.length+rows.length<=1000):∃y8 y9,am (λd δ=>ae ((af 8) d δ) dS) (rows.map rowD) (eV a0 a1 a2 a3 p acc (U (bD2 b,Y)) x8 x9)=U (.next (eV a0 a1 a2 a3 p (acc++lfR rows p b) (U (bD2 b,Y)) y8 y9)):=by
 let hn:(lfR rows p b).length<=rows.length:=Me ..;unfold lfR at hn⊢;rw[<-sX]at hn⊢;let⟨y,e⟩:=ij (γ:=Wq (D×Bool)×Wq (D×Bool)) (f:=rowD) (h:=λr=>(if r.1=p.1/\r.2.length=p.2.length then bnd p.2 r.2 b else B).toList) (xs:=rows) (acc:=acc) (y:=(x8,x9)) (Ri:=1000) (body:=λd δ=>ae ((af 8) d δ) dS) (E:=λacc y=>eV a0 a1 a2 a3 p acc (U (bD2 b,Y)) y.1 y.2) (by lia) λr _ acc y ha=>by
  let hc:=zm r p
  by_cases h:r.1=p.1/\r.2.length=p.2.length
  ·rw[decide_eq_true h]at hc
   simp![if_pos h]at ha⊢;let ef:=yA (ts:=p.2) (cs:=r.2) nd hb;cases e:bnd p.2 r.2 b with
   |none=>
    rw[e]at ef;exact⟨(U (rowD r,Y),U (.non,Y)),bN rfl (by rw[N1,Ls];exact ifG hc (sqO (shG ef) rfl))⟩
   |some b'=>
    rw[e]at ef ha;refine⟨(U (rowD r,Y),U (bD2 b',Y)),bN rfl (ifG hc (sqO (shG ef) (ifG rfl ((F3 (ds:=acc.map bD2) rfl rfl (by rw[J8];simp at ha;lia)).trans ?_))))⟩
    simp
  ·rw[decide_eq_false h]at hc
   simp![if_neg h];exact⟨(U (rowD r,Y),y.2),bN rfl (by rw[N1,Ls];exact ifN hc rfl)⟩
 exact⟨y.1,y.2,e⟩
theorem Dw {rows:Ww Row}(a1 a2 a3:Wq (D×Bool)) (p:Pat):∀(S acc:Ww Bi) (x7 x8 x9:Wq (D×Bool)),(∀b∈S,(b.map (·.1)).Nodup/\b.length+p.2.length<=100)->acc.length+S.length*rows.length<=1000->∃y7 y8 y9,am (λd δ=>ae ((af 7) d δ) dQ) (S.map bD2) (eV (U (.lst (rows.map rowD),Y)) a1 a2 a3 p acc x7 x8 x9)=U (.next (eV (U (.lst (rows.map rowD),Y)) a1 a2 a3 p (acc++S.flatMap (lfR rows p)) y7 y8 y9))
 |[],acc,x7,x8,x9,_,_=>⟨x7,x8,x9,by simp[am]⟩
 |b::S,acc,x7,x8,x9,hS,hl=>by
  rw[Kl,Q0]at hl;let hb:=hS b (.head _);let hn:(lfR rows p b).length<=rows.length:=Me ..;let⟨y8,y9,e⟩:=Jb (U (.lst (rows.map rowD),Y)) a1 a2 a3 p b hb.1 hb.2 rows acc x8 x9 (by generalize S.length*rows.length=k at hl;lia)
  let⟨z7,z8,z9,e2⟩:=Dw (rows:=rows) a1 a2 a3 p S (acc++lfR rows p b) (U (bD2 b,Y)) y8 y9 (λb hb=>hS b (.tail _ hb)) (by rw[K0];generalize S.length*rows.length=k at hl⊢;lia)
  refine⟨z7,z8,z9,?_⟩
  rw[Ka,NI,<-LJ];unfold am;have:ae ((af 7) (bD2 b) (eV (U (.lst (rows.map rowD),Y)) a1 a2 a3 p acc x7 x8 x9)) dQ=U (.next (eV (U (.lst (rows.map rowD),Y)) a1 a2 a3 p (acc++lfR rows p b) (U (bD2 b,Y)) y8 y9)):=e;rw[this];exact e2
theorem Dx {rows:Ww Row}(hr:rows.length<=20) (a1 a2:Wq (D×Bool)):∀(qs ps:Ww Pat) (b0:Bi) (S:Ww Bi) (x4 x5 x6 x7 x8 x9:Wq (D×Bool)) (n:Nat),(∀p∈qs,p.2.length<=4)->(∀b∈S,Bg rows ps b0 b/\b.length<=n)->n+4*qs.length<=50->S.length*20 ^ qs.length<=1000->∃y4 y5 y6 y7 y8 y9,(lf rows qs S).length<=1000/\am (λd δ=>ae ((aB (ah (af 4) (ah (af 5) (toNil)))) d δ) dX) (qs.map aG) [U (.lst (rows.map rowD),Y),a1,a2,U (.lst (S.map bD2),Y),x4,x5,x6,x7,x8,x9]=U (.next [U (.lst (rows.map rowD),Y),a1,a2,U (.lst ((lf rows qs S).map bD2),Y),y4,y5,y6,y7,y8,y9])
 |[],ps,b0,S,x4,x5,x6,x7,x8,x9,n,_,_,_,h=>⟨x4,x5,x6,x7,x8,x9,by simpa[lf]using h,by rfl⟩
 |q::qs,ps,b0,S,x4,x5,x6,x7,x8,x9,n,h4,hS,hn,hl=>by
  let hq:=h4 q (.head _);rw[Kl]at hn hl;let hk:S.length*rows.length<=S.length*20:=Nat.mul_le_mul_left _ hr;let hp:1<=20 ^ qs.length:=Nat.one_le_pow _ _ (by decide)
  let e20:S.length*20 ^ (qs.length+1)=S.length*20*20 ^ qs.length:=by rw[PM,QJ,Nat.mul_comm 20]
  let h20:S.length*20<=1000:=Kf (Nat.le_mul_of_pos_right _ hp) (e20▸hl);let⟨y7,y8,y9,e⟩:=Dw (rows:=rows) a1 a2 (U (.lst (S.map bD2),Y)) q S [] x7 x8 x9 (λb hb=>⟨(hS b hb).1.nd,by have:=(hS b hb).2;lia⟩) (by simp;lia)
  let fl:=C3 (rows:=rows) (p:=q) S;let⟨z4,z5,z6,z7,z8,z9,hz,e2⟩:=Dx hr a1 a2 qs (ps++[q]) b0 (S.flatMap (lfR rows q)) (U (.str q.1,Y)) (U (.tup (q.2.map teD),Y)) (U (.lst ((S.flatMap (lfR rows q)).map bD2),Y)) y7 y8 y9 (n+4) (λp hp=>h4 p (.tail _ hp)) (λb' hb'=>by
   let⟨b1,h1,h2⟩:=qao.mp hb';let⟨k1,k2⟩:=hS b1 h1;let⟨k3,k4⟩:=Dt k1 h2;exact⟨k3,by lia⟩) (by lia) (Kf (Nat.mul_le_mul_right _ (Kf fl hk)) (e20▸hl))
  refine⟨z4,z5,z6,z7,z8,z9,hz,?_⟩
  rw[Ka];unfold am;have:ae ((aB (ah (af 4) (ah (af 5) (toNil)))) (aG q) [U (.lst (rows.map rowD),Y),a1,a2,U (.lst (S.map bD2),Y),x4,x5,x6,x7,x8,x9]) dX=U (.next [U (.lst (rows.map rowD),Y),a1,a2,U (.lst ((S.flatMap (lfR rows q)).map bD2),Y),U (.str q.1,Y),U (.tup (q.2.map teD),Y),U (.lst ((S.flatMap (lfR rows q)).map bD2),Y),y7,y8,y9]):=
   bN rfl (sqF (d:=.lst []) (lstO_s _ (by simp)) (sqN e rfl))
  rw[this];exact e2
end K41
namespace K41
open PySem L2 JP
variable[Md]
abbrev Ft:=Ww Kr×Fit
abbrev ftD (q:Ft):D:=fL q.1 (q.1.map q.2)
theorem vO {α β:Type}{f:α->D}{g:β->D}{R:α->β->Prop}{F:D->Wq (Wq D)}:∀{xs:Ww α},(∀x∈xs,∃b,R x b/\F (f x)=U (U (g b)))->∃bs:Ww β,bs.length=xs.length/\(∀b∈bs,∃x∈xs,R x b)/\(∀x∈xs,∃b∈bs,R x b)/\aO F (xs.map f)=U (bs.map g)
 |[],_=>⟨[],rfl,(λ_ h=>nomatch h),(λ_ h=>nomatch h),rfl⟩
 |x::xs,h=>by
  let⟨b,hb,e⟩:=h x (.head _);let⟨bs,h1,h2,h3,h4⟩:=vO λx hx=>h x (.tail _ hx)
  refine⟨b::bs,by simp[h1],λc hc=>?_,λz hz=>?_,?_⟩
  ·rcases on.mp hc with rfl|hc
   ·exact⟨x,.head _,hb⟩
   ·simp_all
  ·rcases on.mp hz with rfl|hz
   ·exact⟨b,.head _,hb⟩
   ·simp_all
  ·rw[Ka];unfold aO;rw[h4,e];rfl
def D5 {rows:Ww Row}(hr:rows.length<=20) {ps:Ww Pat}(hp:ps.length<=2) (h4:∀p∈ps,p.2.length<=4) {q0:Ft}(nd:q0.1.Nodup) (hu:q0.1.length<=30):∃L:Ww Ft,L.length<=1000/\
  (∀q∈L,q.1.Nodup/\q.1.length<=50/\(∀l,l∈q.1↔l∈q0.1\/l∈aI ps)/\(∀l∈q0.1,q.2 l=q0.2 l)/\(∀p∈ps,da rows q.2 p)/\Sf q.1 q.2)/\
  (∀φ:Fit,(∀l∈q0.1,φ l=q0.2 l)->(∀p∈ps,da rows φ p)->∃q∈L,∀l∈q.1,q.2 l=φ l)/\
  f__law_fits [.lst (rows.map rowD),.lst (ps.map aG),ftD q0]=U (.lst (L.map ftD),V):=by
 let⟨us,φ0⟩:=q0;obtain⟨b0,hb0⟩:∃b0:Bi,b0=us.map λl=>(l,φ0 l):=⟨_,rfl⟩
 let k0:b0.map (·.1)=us:=by rw[hb0,K6];exact Oh us
 let e0:ftD (us,φ0)=bD2 b0:=by rw[hb0];show fL us (us.map φ0)=_;unfold fL;rw[cz]
 let g0:∀l c,gt b0 l=U c->φ0 l=c/\l∈us:=λl c h=>by
  let hm:=(nJ (t:=c) (by rw[k0];exact nd) h).2
  grind
 let bg:Bg rows [] b0 b0:=⟨by rw[k0];exact nd,λl=>by simp[aI],λ_ _ h=>h,λ_ _ _ h=>nomatch h⟩
 let hb0l:b0.length<=30:=by rw[hb0];simpa using hu
 let pw:(20:Nat) ^ ps.length<=400:=Kf (Pb (by decide) hp) (by decide)
 let hS:∀b∈[b0],Bg rows [] b0 b/\b.length<=30:=λb hb=>by rw[qaa.mp hb];exact⟨bg,hb0l⟩
 let⟨y4,y5,y6,y7,y8,y9,hz,e⟩:=Dx hr (U (.lst (ps.map aG),Y)) (U (bD2 b0,Y)) ps [] b0 [b0] B B B B B B 30 h4 hS (by lia) (by simp;lia)
 let hB:=GA h4 hS;let⟨L,l1,l2,l3,l4⟩:=vO (f:=bD2) (g:=ftD) (R:=λb q=>q.1.Perm (b.map (·.1))/\(∀l c,gt b l=U c->q.2 l=c)/\Sf q.1 q.2) (xs:=lf rows ps [b0]) (F:=aC (af 7) (λδ=>U V) iU [B,B,B,B,B,B,B,B,B,B]) λb hb=>by
  let⟨Ri,_⟩:=hB b hb;let⟨φ,hφ⟩:=vp (kn:=b.map (·.1)) (x:=b.map (·.2)) Ri.nd (by simp)
  let hp:∀q∈b,φ q.1=q.2:=λq hq=>by
   rw[K6]at hφ;exact(qak.mp hφ q hq).symm
  let⟨vs,pv,sf,ev⟩:=vI (b.map (·.1)) φ
  refine⟨(vs,φ),⟨pv,λl c h=>hp (l,c) (nJ (t:=c) Ri.nd h).2,sf⟩,itG ?_⟩
  let eb:bD2 b=fL (b.map (·.1)) ((b.map (·.1)).map φ):=by
   unfold fL;rw[<-hφ,<-(qaG rfl rfl:b=(b.map (·.1)).zip (b.map (·.2)))]
  rw[eb];exact ev
 rw[MX]at hB;refine⟨L,by lia,λq hq=>?_,λφ h1 h2=>?_,?_⟩
 ·let⟨b,hb,pv,hg,sf⟩:=l2 q hq
  let⟨Ri,hbl⟩:=hB b hb;refine⟨pv.nodup_iff.mpr Ri.nd,by rw[pv.length_eq,J8];lia,λl=>by rw[pv.mem_iff,Ri.ks,k0],λl hl=>?_,Ri.ft q.2 hg,sf⟩
  let⟨c,ec⟩:=DK (b:=b0) (l:=l) (by rw[k0];exact hl)
  rw[hg l c (Ri.lb l c ec)];exact(g0 l c ec).1.symm
 ·let⟨b,hb,hφ⟩:=yJ (S:=[b0]) h2 ⟨b0,.head _,λl c h=>(h1 l (g0 l c h).2).trans (g0 l c h).1⟩
  let⟨q,hq,pv,hg,_⟩:=l3 b hb;refine⟨q,hq,λl hl=>?_⟩
  let⟨c,ec⟩:=DK (pv.mem_iff.mp hl);rw[hg l c ec,hφ l c ec]
 ·rw[e0,av (f:=f__law_fits) (δ:=[U (.lst (rows.map rowD),Y),U (.lst (ps.map aG),Y),U (bD2 b0,Y),B,B,B,B,B,B,B]) rfl rfl rfl]
  refine stO (d:=.lst ([b0].map bD2)) ?_ (stN e (rF (m3 rfl (by simpa using hz) rfl l4 (by simp;lia))))
  rfl
def GE {x y z:Wq D}{rows:Ww Row}{ps:Ww Pat}{q0:Ft}(e1:x=U (.lst (rows.map rowD))) (e2:y=U (.lst (ps.map aG))) (e3:z=U (ftD q0)) (hr:rows.length<=20) (hp:ps.length<=2) (h4:∀p∈ps,p.2.length<=4) (nd:q0.1.Nodup) (hu:q0.1.length<=30):∃L:Ww Ft,L.length<=1000/\
  (∀q∈L,q.1.Nodup/\q.1.length<=50/\(∀l,l∈q.1↔l∈q0.1\/l∈aI ps)/\(∀l∈q0.1,q.2 l=q0.2 l)/\(∀p∈ps,da rows q.2 p)/\Sf q.1 q.2)/\
  (∀φ:Fit,(∀l∈q0.1,φ l=q0.2 l)->(∀p∈ps,da rows φ p)->∃q∈L,∀l∈q.1,q.2 l=φ l)/\
  frO (ae (aa x (aa y (aa z (U [])))) f__law_fits)=U (.lst (L.map ftD)):=by
 let⟨L,l1,l2,l3,e⟩:=D5 hr hp h4 nd hu;exact⟨L,l1,l2,l3,by simp_all⟩
def Iv {vs:Ww Kr}{ψ:Fit}{q:Ft}(n1:vs.Nodup) (n2:q.1.Nodup) (hm:∀l,l∈vs↔l∈q.1) (h:∀l∈q.1,q.2 l=ψ l) (s1:Sf vs ψ) (s2:Sf q.1 q.2):fL vs (vs.map ψ)=ftD q:=by
 show fL vs (vs.map ψ)=fL q.1 (q.1.map q.2);unfold fL;rw[cz,cz];let nm:∀{us:Ww Kr}(φ:Fit),us.Nodup->(us.map λl=>(l,φ l)).Nodup:=λφ h=>h.map _ λa b h z=>h (congrArg Prod.fst z)
 refine congrArg D.lst (dt (ye _) _ _ (λ_ h=>h) (((Mw (nm ψ n1) (nm q.2 n2)).mpr λx=>?_).map bq) s1 s2)
 grind
theorem Ad (t:Te) (φ:Fit) (a1:Wq (D×Bool)):∀(vs:Ww Kr) (x2 x3:Wq (D×Bool)),
  ((∃l∈vs,t=.any l)->am (λd δ=>ae ((aB (ah (af 2) (ah (af 3) (toNil)))) d δ) bA) ((vs.map λl=>(l,φ l)).map bq) [U (teD t,Y),a1,x2,x3]=U (.ret (ceD (ev φ t)) Y))/\
  ((¬∃l∈vs,t=.any l)->∃y2 y3,am (λd δ=>ae ((aB (ah (af 2) (ah (af 3) (toNil)))) d δ) bA) ((vs.map λl=>(l,φ l)).map bq) [U (teD t,Y),a1,x2,x3]=U (.next [U (teD t,Y),a1,y2,y3]))
 |[],x2,x3=>⟨λ⟨_,h,_⟩=>(nomatch h),λ_=>⟨x2,x3,by rfl⟩⟩
 |v::vs,x2,x3=>by
  let ih:=Ad t φ a1 vs (U (.str v,Y)) (U (ceD (φ v),Y));let e:ae ((aB (ah (af 2) (ah (af 3) (toNil)))) (bq (v,φ v)) [U (teD t,Y),a1,x2,x3]) bA=ifO (U (decide (t=.any v))) (bp (U (ceD (φ v)))) (nextO [U (teD t,Y),a1,U (.str v,Y),U (ceD (φ v),Y)]):=by
   refine bN rfl ?_
   show ifO (eqO (U (teD t)) (bw (aa (U (.str "any")) (aa (U (.str v)) (U []))))) _ _=_;rw[oR rfl rfl,wF _ _ (by unfold ok2;rw[vg t 15];rfl)]
   congr 2;refine decide_eq_decide.mpr ⟨λh=>?_,λh=>by rw[h];rfl⟩
   cases t with
   |any m=>simp[teD]at h;rw[h]
   |nm w=>simp[teD]at h;exact absurd h.1 (by decide +kernel)
  rw[Ka,Ka];unfold am;rw[e]
  by_cases h:t=.any v
  ·rw[decide_eq_true h]
   exact⟨λ_=>by rw[h];rfl,λz=>absurd ⟨v,.head _,h⟩ z⟩
  ·rw[decide_eq_false h]
   refine⟨λ⟨l,hl,el⟩=>ih.1 ⟨l,?_,el⟩,λz=>ih.2 λ⟨l,hl,el⟩=>z ⟨l,.tail _ hl,el⟩⟩
   rcases on.mp hl with rfl|hl
   ·exact absurd el h
   ·exact hl
def uK {x y:Wq D}{t:Te}{q:Ft}(h:x=U (teD t)) (h':y=U (ftD q)) (hl:∀l,t=.any l->l∈q.1):shO (ae (aa x (aa y (U []))) f__law_cell_of)=U (ceD (ev q.2 t)):=by
 subst h h';let ef:ftD q=.lst ((q.1.map λl=>(l,q.2 l)).map bq):=by show fL _ _=_;unfold fL;rw[cz]
 simp![consO_s,bindO_s];rw[ef,av (f:=f__law_cell_of) (δ:=[U (teD t,Y),U (.lst ((q.1.map λl=>(l,q.2 l)).map bq),Y),B,B]) rfl rfl rfl]
 let⟨h1,h2⟩:=Ad t q.2 (U (.lst ((q.1.map λl=>(l,q.2 l)).map bq),Y)) q.1 B B
 cases t with
 |any l=>
  show shO (j3 (ak (am _ _ _) _))=_;rw[h1 ⟨l,hl l rfl,rfl⟩];rfl
 |nm w=>
  let⟨y2,y3,e⟩:=h2 λ⟨_,_,z⟩=>nomatch z
  show shO (j3 (ak (am _ _ _) _))=_;rw[e];rfl
end K41
namespace K41
open PySem L2 JP
variable[Md]
theorem Ik:∀{R:Ru},Wf R->(mJ R).length<=2/\∀p∈mJ R,p.2.length<=4
 |.must _ _,h=>⟨h.1,h.2.2.1⟩
 |.same _ _ _,h=>⟨h.1,h.2.1⟩
theorem ix1:∀R:Ru,ixO (U (ruD R)) (U (.int 1))=U (.lst ((mJ R).map aG))
 |.must _ _=>rfl
 |.same _ _ _=>rfl
def iz {x y:Kr}(h:x≠y):eqO (U (.str x)) (U (.str y))=U Y:=by rw[aY,decide_eq_false h]
def cj (x:Kr):eqO (U (.str x)) (U (.str x))=U V:=by simp[aY]
def neG {x y:Wq D}{b:Bool}(h:eqO x y=U b):neO x y=U (!b):=by unfold neO;rw[h];rfl
def msn:(("must":Kr)≠"same"):=by decide +kernel
def clB (φ:Fit):Ru->Bool
 |.must _ _=>Y
 |.same _ a b=>cG (ev φ a)&&(cG (ev φ b)&&!decide (ev φ a=ev φ b))
section
variable{H:Ww Row}(hH:H.length<=20) {R:Ru}(wf:Wf R)
include hH wf
theorem Gx {q:Ft}(nd:q.1.Nodup) (hu:q.1.length<=30) (hl:∀l,l∈q.1↔l∈aI (mJ R)):∃b,f__law_is_broken [.lst (H.map rowD),ruD R,ftD q]=U (.bl b,Y)/\(b=Y↔Ok2 H q.2 R):=by
 cases R with
 |same ps a b=>
  let ha:=uK (x:=U (teD a)) (y:=U (ftD q)) rfl rfl λl z=>(hl l).mpr (wf.2.2 l (smA (.inl z)))
  let hb:=uK (x:=U (teD b)) (y:=U (ftD q)) rfl rfl λl z=>(hl l).mpr (wf.2.2 l (smA (.inr z)))
  let hc:=cj "same";refine⟨!decide (ev q.2 a=ev q.2 b),stR hc ?_,by simp[Ok2]⟩
  show ofB (neO (shO (ae (aa (U (teD a)) (aa (U (ftD q)) (U []))) f__law_cell_of)) (shO (ae (aa (U (teD b)) (aa (U (ftD q)) (U []))) f__law_cell_of)))=_;rw[ha,hb,mf];rfl
 |must ps qs=>
  let⟨L,l1,l2,l3,e⟩:=GE (x:=U (.lst (H.map rowD))) (y:=U (.lst (qs.map aG))) (z:=U (ftD q)) rfl rfl rfl hH wf.2.1 wf.2.2.2 nd hu;let hc:=iz msn;refine⟨decide (((L.map ftD).length:Int)=0),stI hc (rO ?_),?_⟩
  ·show ofB (eqO (cK (frO (ae (aa (U (.lst (H.map rowD))) (aa (U (.lst (qs.map aG))) (aa (U (ftD q)) (U [])))) f__law_fits))) (U (.int 0)))=_
   rw[e,lenL_l,eqO_int];rfl
  ·cases L with
   |nil=>
    refine⟨λh=>by simp at h,λ⟨χ,c1,c2⟩=>?_⟩
    let⟨_,h,_⟩:=l3 χ (λl h=>c1 l ((hl l).mp h)) c2
    cases h
   |cons p L=>
    let⟨_,_,_,h3,h4,_⟩:=l2 p (.head _);exact⟨λ_=>⟨p.2,λl h=>h3 l ((hl l).mpr h),h4⟩,λ_=>decide_eq_false (by simp;lia)⟩
theorem fS:∃Ri:Ww Ft,Ri.length<=1000/\(∀q∈Ri,q.1.Nodup/\(∀l,l∈q.1↔l∈aI (mJ R))/\(∀p∈mJ R,da H q.2 p)/\Sf q.1 q.2/\¬Ok2 H q.2 R)/\(∀φ:Fit,(∀p∈mJ R,da H φ p)->¬Ok2 H φ R->∃q∈Ri,∀l∈q.1,q.2 l=φ l)/\f__law_broken [.lst (H.map rowD),ruD R]=U (.lst (Ri.map ftD),V):=by
 classical
 let⟨w1,w4⟩:=Ik wf;let⟨L,l1,l2,l3,e⟩:=GE (x:=U (.lst (H.map rowD))) (y:=U (.lst ((mJ R).map aG))) (z:=U (ftD ([],λ_=>default))) rfl rfl rfl hH w1 w4 LX (by simp)
 let hl:∀q∈L,∀l,l∈q.1↔l∈aI (mJ R):=λq hq l=>by rw[(l2 q hq).2.2.1];simp
 let ok_eq:∀{φ ψ:Fit},(∀l∈aI (mJ R),φ l=ψ l)->Ok2 H φ R->Ok2 H ψ R:=λ{φ ψ} h z=>by
  cases R with
  |must ps qs=>let⟨χ,c1,c2⟩:=z;exact⟨χ,λl hl=>(c1 l hl).trans (h l hl),c2⟩
  |same ps a b=>
   show ev ψ a=ev ψ b;rw[<-AM λl w=>h l (wf.2.2 l (smA (.inl w))),<-AM λl w=>h l (wf.2.2 l (smA (.inr w)))];exact z
 refine⟨L.filter λq=>!decide (Ok2 H q.2 R),Kf (Lm ..) l1,λq hq=>?_,λφ hφ hn=>?_,rF (m3 (ds:=L.map ftD) (ε:=[U (.lst (H.map rowD),Y),U (ruD R,Y),B]) ?_ (by simpa using l1) rfl (bW λq hq=>?_) (by rw[J8];exact Kf (Lm ..) l1))⟩
 ·let⟨hq,hb⟩:=qad.mp hq
  let⟨h1,_,_,_,h5,h6⟩:=l2 q hq;exact⟨h1,hl q hq,h5,h6,by simpa using hb⟩
 ·let⟨q,hq,hx⟩:=l3 φ (λ_ h=>nomatch h) hφ
  refine⟨q,qad.mpr ⟨hq,?_⟩,hx⟩
  have:¬Ok2 H q.2 R:=λz=>hn (ok_eq (λl h=>hx l ((hl q hq l).mpr h)) z)
  simp[this]
 ·show bi (frO (ae (aa (U (.lst (H.map rowD))) (aa (ixO (U (ruD R)) (U (.int 1))) (aa (bR (U [])) (U [])))) f__law_fits))=_
  rw[ix1,lstO_s _ (by simp)]
  exact congrArg bi e
 ·let hlen:q.1.length<=30:=Kf (KV (l2 q hq).1 λl h=>(hl q hq l).mp h) (Kf (aw w4) (by lia))
  let⟨b,e,hb⟩:=Gx hH wf (l2 q hq).1 hlen (hl q hq);unfold aC;cases b with
  |false=>simp_all
  |true=>simp_all
theorem F9 {Ri:Ww Ft}(h1:∀q∈Ri,q.1.Nodup/\(∀l,l∈q.1↔l∈aI (mJ R))/\(∀p∈mJ R,da H q.2 p)/\Sf q.1 q.2/\¬Ok2 H q.2 R) (h2:∀φ:Fit,(∀p∈mJ R,da H φ p)->¬Ok2 H φ R->∃q∈Ri,∀l∈q.1,q.2 l=φ l):Ri=[]↔xu H R:=by
 rw[xZ];constructor
 ·grind
 ·intro k
  refine qat.mpr λq hq=>?_
  let⟨_,_,h3,_,h5⟩:=h1 q hq;exact h5 (k q.2 h3)
theorem qX {vs:Ww Kr}{ψ:Fit}(F:Fd H R vs ψ) {Ri:Ww Ft}(h1:∀q∈Ri,q.1.Nodup/\(∀l,l∈q.1↔l∈aI (mJ R))/\(∀p∈mJ R,da H q.2 p)/\Sf q.1 q.2/\¬Ok2 H q.2 R) (h2:∀φ:Fit,(∀p∈mJ R,da H φ p)->¬Ok2 H φ R->∃q∈Ri,∀l∈q.1,q.2 l=φ l):inO (U (fL vs (vs.map ψ))) (U (.lst (Ri.map ftD)))=U V:=by
 let⟨q,hq,hx⟩:=h2 ψ F.fit F.br;let⟨q1,q2,_,q4,_⟩:=h1 q hq;rw[Iv F.nd q1 (λl=>(F.vl l).trans (q2 l).symm) hx F.sf q4]
 unfold inO;simp![cQ,b2,ae,gd];let okf:∀q:Ft,okD 16 (ftD q)=V:=λq=>JQ q.1 (q.1.map q.2) 12
 rw[if_pos (by simp_all),decide_eq_true (LU hq)]
theorem mI {q:Ft}(hl:∀l,l∈q.1↔l∈aI (mJ R)):f__law_clash [ruD R,ftD q]=U (.bl (clB q.2 R),Y):=by
 cases R with
 |must ps qs=>
  rfl
 |same ps a b=>
  let hc:=neG (cj "same");let ha:=uK (x:=U (teD a)) (y:=U (ftD q)) rfl rfl λl z=>(hl l).mpr (wf.2.2 l (smA (.inl z)))
  let hb:=uK (x:=U (teD b)) (y:=U (ftD q)) rfl rfl λl z=>(hl l).mpr (wf.2.2 l (smA (.inr z)))
  refine opn rfl (stI hc (stO ha (stO hb (rO ?_))))
  show B8 (ofB (eqO (ixO (U (ceD (ev q.2 a))) (U (.int 0))) (U (.str "name")))) (B8 (ofB (eqO (ixO (U (ceD (ev q.2 b))) (U (.int 0))) (U (.str "name")))) (ofB (neO (U (ceD (ev q.2 a))) (U (ceD (ev q.2 b))))))=_;rw[Cg,Cg,mf];show _=U (D.bl (cG (ev q.2 a)&&(cG (ev q.2 b)&&!decide (ev q.2 a=ev q.2 b))));cases cG (ev q.2 a)<;>cases cG (ev q.2 b)<;>rfl
end
theorem zr {H:Ww Row}(hH:H.length<=20) (a1:Wq (D×Bool)):∀{RR:Ww Ru}(wf:∀R∈RR,Wf R) (x:Wq (D×Bool)),((∀R∈RR,xu H R)->∃y,am (λd δ=>ae ((af 2) d δ) bT) (RR.map ruD) [U (.lst (H.map rowD),Y),a1,x]=U (.next [U (.lst (H.map rowD),Y),a1,y]))/\((¬∀R∈RR,xu H R)->am (λd δ=>ae ((af 2) d δ) bT) (RR.map ruD) [U (.lst (H.map rowD),Y),a1,x]=U (.ret (.bl Y) Y))
 |[],_,x=>⟨λ_=>⟨x,rfl⟩,λh=>absurd (λ_ z=>nomatch z) h⟩
 |R::RR,wf,x=>by
  let⟨Ri,_,b1,b2,e⟩:=fS hH (wf R (.head _));let hd:=F9 hH (wf R (.head _)) b1 b2;let⟨i1,i2⟩:=zr hH a1 (RR:=RR) (λR h=>wf R (.tail _ h)) (U (ruD R,Y))
  let eb:ae ((af 2) (ruD R) [U (.lst (H.map rowD),Y),a1,x]) bT=ifO (U (decide (((Ri.map ftD).length:Int)>0))) (bp (U (.bl Y))) (nextO [U (.lst (H.map rowD),Y),a1,U (ruD R,Y)]):=by
   show ifO (cI gGt (cK (frO (f__law_broken [.lst (H.map rowD),ruD R]))) (U (.int 0))) _ _=_;rw[e];rfl
  rw[Ka];unfold am;rw[eb];cases Ri with
  |nil=>
   refine⟨λh=>i1 λR hR=>h R (.tail _ hR),λh=>i2 λz=>h λR' hR'=>?_⟩
   simp_all
  |cons d ds=>
   let k:¬xu H R:=λz=>nomatch hd.mpr z
   rw[decide_eq_true (by simp)]
   exact⟨λh=>absurd (h R (.head _)) k,λ_=>rfl⟩
def Aj {H:Ww Row}(hH:H.length<=20) {RR:Ww Ru}(wf:∀R∈RR,Wf R):∃b,f__law_keeps [.lst (H.map rowD),.lst (RR.map ruD)]=U (.bl b,Y)/\(b=V↔∀R∈RR,xu H R):=by
 let⟨h1,h2⟩:=zr hH (U (.lst (RR.map ruD),Y)) wf B
 by_cases h:∀R∈RR,xu H R
 ·let⟨y,e⟩:=h1 h
  exact⟨V,stN e (rO rfl),λ_=>h,λ_=>rfl⟩
 ·exact⟨Y,(congrArg (λz=>j3 (ak z _)) (h2 h)).trans rfl,(λz=>nomatch z),λz=>absurd z h⟩
end K41
namespace K41
open PySem L2 JP
variable[Md]
def Ie {a b:Wq Bool}(h:a=U Y):jC a b=U Y:=by subst h;rfl
def vR {a b r:Wq Bool}(h:a=U V) (k:b=r):jC a b=r:=by subst h;exact k
def orF {a b r:Wq Bool}(h:a=U Y) (k:b=r):orO a b=r:=by subst h;exact k
def Jy:(("same":Kr)≠"must"):=by decide +kernel
def JR:(("blank":Kr)≠"name"):=by decide +kernel
theorem wg:∀(ls:Ww Kr) (u:Int),eE ls u=(K1 ls.length).map λk=>(ls.getD k default,Ce.bk (u+(k:Int)))
 |[],_=>rfl
 |l::ls,u=>by
  rw[eE,wg ls (u+1),Kl,List.range_succ_eq_map,Ka,K6];simp;lia
section
variable{R:Ru}(wf:Wf R)
include wf
theorem Bj {ps qs:Ww Pat}(e:R=.must ps qs) (f:D) (u:Int):f__law_due [dL ps qs,f,.int u]=U (.lst ((eE (frL ps qs) u).map bq),V):=by
 subst e;let⟨h1,h2,h4,h5⟩:=wf;let hu:(uL qs).length<=8:=Kf (iA qs) (Kf (aw h5) (by lia))
 let hf:(frL ps qs).length<=8:=Kf (Lm ..) hu;let c0:=cj "must";let ec:aO (aC (af 7) (λδ=>be (rd Y 7 δ) (rd Y 3 δ)) jV [B,B,B,U (.lst ((uL ps).map .str),Y),B,B,B,B,B]) ((uL qs).map D.str)=U ((frL ps qs).map D.str):=by
  unfold frL;exact bW λl _=>itF (xM (λ_ _=>D.str.inj) (λ_=>rfl) l (uL ps)) rfl
 let ed:aO (aC (af 8) (λδ=>U V) jA [B,B,U (.int u,Y),B,U (.lst ((frL ps qs).map .str),Y),B,B,B,B]) (kg 0 (frL ps qs).length)=U ((eE (frL ps qs) u).map bq):=by
  rw[wg,K6];unfold kg;refine aM (f:=λk:Nat=>D.int (0+(k:Int))) λk hk=>itG ?_
  let hk:=qae.mp hk;refine(oR (a:=.str ((frL ps qs).getD k default)) (ixG (ds:=(frL ps qs).map D.str) rfl rfl ?_) (oR rfl (j4 rfl rfl))).trans ?_
  ·refine lU (by lia) ?_
   rw[show((0:Int)+(k:Int)).toNat=k by lia]
   simp[Lk,hk]
  ·show U (D.tup [.str ((frL ps qs).getD k default),.tup [.str "blank",.int (u+(0+(k:Int)))]])=U (D.tup [.str ((frL ps qs).getD k default),.tup [.str "blank",.int (u+(k:Int))]])
   rw[Int.zero_add]
 refine opn rfl (stT c0 (sqO (d:=.lst ((uL ps).map .str)) (IY rfl (by lia) h4) (sqO (d:=.lst ((frL ps qs).map .str)) (m3 (ds:=(uL qs).map D.str) (congrArg bi (IY rfl (by lia) h5)) (by simp;lia) rfl ec (by simp;lia)) ?_)))
 show bH (aq (ae (rG (cK (U (.lst ((frL ps qs).map D.str))))) _))=_;rw[lenL_l,J8];exact(congrArg bH (m3 (ds:=kg 0 (frL ps qs).length) (H5 rfl (by lia)) (by rw[fO];lia) rfl ed (by rw[J8,<-J8 (f:=(·.1)),fX];lia))).trans rfl
theorem BD {ps:Ww Pat}{a b:Te}(e:R=.same ps a b) {q:Ft}(hl:∀l,l∈q.1↔l∈aI ps) (hn:(cG (ev q.2 a)&&cG (ev q.2 b))=Y) (u:Int):f__law_due [bY ps a b,ftD q,.int u]=U (.lst [mvD (smv (ev q.2 a) (ev q.2 b))],V):=by
 subst e;let c0:=iz Jy;let ha:=uK (x:=U (teD a)) (y:=U (ftD q)) rfl rfl λl z=>(hl l).mpr (wf.2.2 l (smA (.inl z)))
 let hb:=uK (x:=U (teD b)) (y:=U (ftD q)) rfl rfl λl z=>(hl l).mpr (wf.2.2 l (smA (.inr z)))
 let one:∀{x:Wq D}{d:D},x=U d->bR (aa x (U []))=U (.lst [d]):=λh=>by simp_all
 refine opn rfl (stI c0 (stO ha (stO hb ?_)))
 generalize ev q.2 a=x at*;generalize ev q.2 b=y at*;cases x with
 |nm w=>
  cases y with
  |nm v=>cases hn
  |bk n=>
   rfl
 |bk n=>
  let c1:=iz JR;cases y with
  |nm w=>
   rfl
  |bk k=>
   let c2:=cj "blank"
   by_cases h:n<k
   ·let c3:cI gLt (U (.int n)) (U (.int k))=U V:=congrArg U (decide_eq_true h)
    refine(stT (orF c1 (vR c2 c3)) ((congrArg bH (one (oR rfl rfl))).trans rfl)).trans ?_
    simp[smv,h,mvD]
   ·let c3:cI gLt (U (.int n)) (U (.int k))=U Y:=congrArg U (decide_eq_false h)
    refine(stI (orF c1 (vR c2 c3)) (rF (one (oR rfl rfl)))).trans ?_
    simp[smv,h,mvD]
end
theorem yW {l:Kr}:∀{ts:Ww Te},Te.any l∈ts->l∈ans ts
 |t::ts,h=>by
  rcases on.mp h with e|h
  ·subst e;exact Kg ..
  ·have:=yW h
   cases t with
   |nm w=>exact this
   |any m=>exact Kb _ this
def w7 {qs:Ww Pat}(hq:qs.length<=2) (h4:∀p∈qs,p.2.length<=4) {q:Ft}(hl:∀l∈aI qs,l∈q.1):f__law_filled [.lst (qs.map aG),ftD q]=U (.lst ((rwF q.2 qs).map rowD),V):=by
 let⟨⟨x3,x4⟩,e⟩:=ka (γ:=Wq (D×Bool)×Wq (D×Bool)) (f:=aG) (h:=λp:Pat=>((p.1,p.2.map (ev q.2)):Row)) (xs:=qs) (acc:=[]) (y:=(B,B)) (body:=λd δ=>ae ((aB (ah (af 3) (ah (af 4) (toNil)))) d δ) fq)
  (E:=λacc y=>[U (.lst (qs.map aG),Y),U (ftD q,Y),U (.lst (acc.map rowD),V),y.1,y.2,B]) (by simp;lia) λp hp acc ⟨x3,x4⟩ ha=>by
   let h:=h4 p hp;refine⟨(U (.str p.1,Y),U (.tup (p.2.map teD),Y)),bN rfl ?_⟩
   let ec:aO (aC (af 5) (λδ=>U V) eK [B,U (ftD q,Y),B,B,B,B]) (p.2.map teD)=U (p.2.map λt=>ceD (ev q.2 t)):=aM λt ht=>itG (uK (t:=t) (q:=q) rfl rfl λl z=>hl l (bU.mpr ⟨p,hp,by subst z;exact yW ht⟩))
   rw[Kn];exact F3 (ds:=acc.map rowD) (d:=rowD (p.1,p.2.map (ev q.2))) ((oR rfl ((congrArg cL (m3 (ds:=p.2.map teD) rfl (by simp;lia) rfl ec (by simp;lia))).trans rfl)).trans (by simp[rowD])) rfl (by simp;lia)
 exact opn rfl (stF (d:=.lst []) (lstO_s _ (by simp)) (stN e (rF rfl)))
end K41
namespace K41
open PySem L2 JP
variable[Md]
def ID (m:Int×Ce):okD 16 (.lst [mvD m])=V:=by
 let⟨n,c⟩:=m;cases c<;>rfl
def Io (b:Bi):okD 16 (.lst (b.map bq))=V:=vt (n:=15) λd hd=>by
 let⟨q,_,rfl⟩:=mt.mp hd;exact vn q 12
def eqT {x y:Wq D}{d:D}(h:x=U d) (h':y=U d) (ok:okD 16 d=V):eqO x y=U V:=by
 subst h h';rw[wF _ _ (by unfold ok2;rw[ok];rfl),decide_eq_true rfl]
def chT {k n:Nat}(h:k<n) {z:Wq D}(hz:z=U (.int (n:Int))):chO (U (.int 0)) (U (.int (k:Int))) z=U V:=by
 subst hz;show U (decide ((0:Int)<=k)&&decide ((k:Int)<n))=_;rw[decide_eq_true (by lia),decide_eq_true (by lia)];rfl
def Be {x y:Wq D}(h:inO x y=U V):be x y=U Y:=by unfold be;rw[h];rfl
section
variable{RR:Ww Ru}(wf:∀R∈RR,Wf R) {rs:Ww Row}(hrs:rs.length<=20) (h4:∀q∈rs,q.2.length<=4)
include wf hrs h4
theorem BS {un un':Int}{t:D}{rs':Ww Row}(S:S1 RR rs un t rs' un'):f__law_step [.lst (rs.map rowD),.lst (RR.map ruD),t,.int un]=U (.lst (rs'.map rowD),V):=by
 let pre:∀{k:Nat}{R:Ru}{vs:Ww Kr}{ψ:Fit}{ms:Ww D}{z:Wq (D×Bool)},RR[k]?=U R->Fd rs R vs ψ->clB ψ R=Y->f__law_due [ruD R,fL vs (vs.map ψ),.int un]=U (.lst ms,V)->okD 16 (.lst ms)=V->
   j3 (ak (ifO (eqO (ixO (U (ruD R)) (U (.int 0))) (U (.str "same"))) (bH (frO (f__law_moved [.lst (rs.map rowD),.lst ms]))) (nextO [U (.lst (rs.map rowD),Y),U (.lst (RR.map ruD),Y),U (stD k vs ψ ms,Y),U (.int un,Y),U (ruD R,Y),U (.lst ms,Y)])) (λδ=>bH (frO (ae (aa (mn (rd Y 0 δ) (frO (ae (aa (ixO (rd Y 4 δ) (U (.int 2))) (aa (mn (ixO (rd Y 2 δ) (U (.int 1))) (rd Y 5 δ)) (U []))) f__law_filled))) (U [])) f__law_stand))))=z->
   f__law_step [.lst (rs.map rowD),.lst (RR.map ruD),stD k vs ψ ms,.int un]=z:=λ{k R vs ψ ms z} hk F hc hd ho kk=>by
  let hm:=Kv hk;let hkl:=(List.getElem?_eq_some_iff.mp hk).1
  let⟨Ri,_,b1,b2,eb⟩:=fS hrs (wf R hm);let c2:orO (be (U (fL vs (vs.map ψ))) (frO (f__law_broken [.lst (rs.map rowD),ruD R]))) (tyB (shO (f__law_clash [ruD R,fL vs (vs.map ψ)])))=U Y:=by
   rw[eb];refine orF (Be (qX hrs (wf R hm) F b1 b2)) ?_
   have:=mI hrs (wf R hm) (q:=(vs,ψ)) F.vl;rw[show fL vs (vs.map ψ)=ftD (vs,ψ) from rfl,this,hc];rfl
  refine opn rfl (stI (orF rfl (orF (neG (eqG rfl rfl)) (orF rfl ?_))) (stO (d:=ruD R) ?_ (stI c2 (stO (d:=.lst ms) (frG hd) (stI (orF rfl (neG (eqT rfl rfl ho))) kk)))))
  ·show eD (chO (U (.int 0)) (U (.int (k:Int))) (cK (U (.lst (RR.map ruD)))))=_
   rw[chT hkl (by simp)];rfl
  ·refine ixG (ds:=RR.map ruD) rfl rfl (lU (by lia) ?_)
   rw[Lj,Ky,hk];rfl
 cases S with
 |must k ps qs vs ψ χ rs' m f h1 h2 h0 h3=>
  let hw:=wf _ (Kv m);let⟨w1,w2,w4,w5⟩:=id hw;refine pre m f rfl (Bj hw rfl _ un) (Io _) (stI (iz msn) (rF ?_))
  let ef:mn (U (fL vs (vs.map ψ))) (U (.lst ((eE (frL ps qs) un).map bq)))=U (ftD (vs++frL ps qs,χ)):=by
   let hz:vs.zip (vs.map ψ)=vs.map λl=>(l,χ l):=by
    rw[cz];exact K5 λl hl=>by rw[h1 l ((f.vl l).mp hl)]
   let hb:eE (frL ps qs) un=(frL ps qs).map λl=>(l,χ l):=by
    let e1:eE (frL ps qs) un=(eE (frL ps qs) un).map λq=>(q.1,χ q.1):=((K5 λq hq=>by rw[h2 q hq];rfl).trans (Oh _)).symm
    let e2:((eE (frL ps qs) un).map (·.1)).map (λl=>(l,χ l))=(eE (frL ps qs) un).map λq=>(q.1,χ q.1):=K6
    rw[fX]at e2;exact e1.trans e2.symm
   let hv:vs.length<=8:=Kf (KV f.nd λl h=>(f.vl l).mp h) (Kf (aw w4) (by show 4*ps.length<=8;lia))
   let hn:(eE (frL ps qs) un).length<=8:=by rw[<-J8 (f:=(·.1)),fX];exact Kf (Lm ..) (Kf (iA qs) (Kf (aw w5) (by lia)))
   unfold fL;rw[catO_s _ _ (by simp;lia),hz]
   show U (D.lst _)=U (fL (vs++frL ps qs) ((vs++frL ps qs).map χ));unfold fL;rw[cz,Kn,Kn,<-hb]
  let eg:=w7 w2 w5 (q:=(vs++frL ps qs,χ)) λl hl=>by
   rcases Dd (ps:=ps) hl with h|h
   ·exact Li _ ((f.vl l).mpr h)
   ·exact Ly _ h
  let⟨fs,f0,f1,_,e⟩:=zt (x:=U (.lst ((rs++rwF χ qs).map rowD))) rfl (by simp;lia)
  obtain rfl:rs'=fs:=h0.eq f0 λq=>by rw[h3,f1,Nw]
  show frO (ae (aa (mn (U (.lst (rs.map rowD))) (frO (ae (aa (U (.lst (qs.map aG))) (aa (mn (U (fL vs (vs.map ψ))) (U (.lst ((eE (frL ps qs) un).map bq)))) (U []))) f__law_filled))) (U [])) f__law_stand)=_;rw[ef,show frO (ae (aa (U (D.lst (qs.map aG))) (aa (U (ftD (vs++frL ps qs,χ))) (U []))) f__law_filled)=U (.lst ((rwF χ qs).map rowD)) from frG eg,catO_s _ _ (by simp;lia),<-Kn]
  exact e
 |same k ps a b vs ψ rs' m f hn h0 h3=>
  let hw:=wf _ (Kv m);let hc:clB ψ (.same ps a b)=Y:=by
   show(cG (ev ψ a)&&(cG (ev ψ b)&&!decide (ev ψ a=ev ψ b)))=Y;rw[<-Qq,hn];rfl
  let hd:=BD hw rfl (q:=(vs,ψ)) f.vl hn un;let⟨fs,f0,f1,e⟩:=xN (rs:=rs) (by lia) h4 (smv (ev ψ a) (ev ψ b))
  obtain rfl:rs'=fs:=h0.eq f0 λq=>by rw[h3,f1]
  exact pre m f hc hd (ID _) (stT (cj _) ((congrArg (λz=>bH (frO z)) e).trans rfl))
end
end K41
namespace K41
open PySem L2 JP
variable[Md]
def xH (T:Ww Int):Ce->Ww Int
 |.bk n=>if n∈T then T else T++[n]
 |.nm _=>T
def A2 (T:Ww Int) (c:Ce):(xH T c).length<=T.length+1:=by
 cases c with
 |nm w=>exact NX _
 |bk n=>unfold xH;dsimp only;split<;>simp
def A8 {T:Ww Int}{c:Ce}{n:Int}:n∈xH T c↔n∈T\/c=.bk n:=by
 cases c with
 |nm w=>simp[xH]
 |bk k=>unfold xH;dsimp only;split<;>simp<;>grind
theorem sG {n:Int}:∀{cs:Ww Ce}{T:Ww Int},n∈cs.foldl xH T↔n∈T\/Ce.bk n∈cs
 |[],T=>by simp
 |c::cs,T=>by rw[Ml,sG (cs:=cs),A8,KI,or_assoc];grind
def wy {rs:Ww Row}(hrs:rs.length<=20) (h4:∀q∈rs,q.2.length<=4):∃ms:Ww Int,(∀n,n∈ms↔∃q∈rs,Ce.bk n∈q.2)/\ms.length<=1000/\f__law_blanks [.lst (rs.map rowD)]=U (.lst (ms.map D.int),V):=by
 let⟨hlen,⟨y2,y3,y4⟩,e⟩:=fF (γ:=Wq (D×Bool)×Wq (D×Bool)×Wq (D×Bool)) (f:=rowD) (F:=λ(T:Ww Int) (q:Row)=>q.2.foldl xH T) (m:=LW) (k:=4) (Ri:=500) (xs:=rs) (s:=[]) (y:=(B,B,B)) (body:=λd δ=>ae ((aB (ah (af 2) (ah (af 3) (toNil)))) d δ) e8)
  (E:=λT y=>[U (.lst (rs.map rowD),Y),U (.lst (T.map D.int),V),y.1,y.2.1,y.2.2]) (by simp;lia) λq hq T ⟨y2,y3,y4⟩ hT=>by
   let hq4:=h4 q hq;let⟨hl,z4,e⟩:=fF (γ:=Wq (D×Bool)) (f:=ceD) (F:=xH) (m:=LW) (k:=1) (Ri:=600) (xs:=q.2) (s:=T) (y:=y4) (body:=λd δ=>ae ((af 4) d δ) eS)
    (E:=λT y=>[U (.lst (rs.map rowD),Y),U (.lst (T.map D.int),V),U (.str q.1,Y),U (.tup (q.2.map ceD),Y),y]) (by lia) λc hc T y hT=>by
     refine⟨A2 T c,U (ceD c,Y),bN rfl ?_⟩
     cases c with
     |nm w=>
      rfl
     |bk n=>
      let c1:=cj "blank";let c2:be (U (.int n)) (U (.lst (T.map D.int)))=U (!decide (n∈T)):=xM (λ_ _=>D.int.inj) (λ_=>rfl) n T
      unfold xH;dsimp only
      by_cases h:n∈T
      ·rw[decide_eq_true h]at c2;rw[if_pos h];exact ifN (vR c1 c2) rfl
      ·rw[decide_eq_false h]at c2;rw[if_neg h,Kn]
       exact ifG (vR c1 c2) (F3 (ds:=T.map D.int) (d:=.int n) rfl rfl (by simp;lia))
   exact⟨by lia,(U (.str q.1,Y),U (.tup (q.2.map ceD),Y),z4),bN rfl e⟩
 let hm:∀(xs:Ww Row) (T:Ww Int) (n:Int),n∈xs.foldl (λT q=>q.2.foldl xH T) T↔n∈T\/∃q∈xs,Ce.bk n∈q.2:=by
  intro xs
  induction xs with
  |nil=>intro T n;simp
  |cons q xs ih=>simp[Ml,ih,sG,or_assoc]
 let⟨ms,pm,em⟩:=cx (f:=D.int) (aH ((rs.foldl (λT q=>q.2.foldl xH T) []).map D.int))
 let hl:=pm.length_eq;refine⟨ms,λn=>by rw[pm.mem_iff,hm];simp,by simp at hlen;lia,opn rfl (stF (d:=.lst []) (lstO_s _ (by simp)) (stN e (rF ?_)))⟩
 have:=iN (c:=.it) (ds:=(rs.foldl (λT q=>q.2.foldl xH T) []).map D.int) (ov (λ_=>rfl) (λ_ _=>rfl) _) (.inr (fA (λ_=>rfl) _))
 rw[em]at this;exact this
section
variable{RR:Ww Ru}(wf:∀R∈RR,Wf R)
include wf
theorem FN (a2 a3:Wq (D×Bool)) {rs rs':Ww Row}{un un':Int}{st:Ww D}(W:Wk RR rs un st rs' un'):∀x5:Wq (D×Bool),∃y5,am (λd δ=>ae ((af 5) d δ) cN) st [U (.lst (rs.map rowD),Y),U (.lst (RR.map ruD),Y),a2,a3,U (.int un,Y),x5]=U (.next [U (.lst (rs'.map rowD),Y),U (.lst (RR.map ruD),Y),a2,a3,U (.int un',Y),y5]):=by
 induction W with
 |nil rs un=>exact λx5=>⟨x5,rfl⟩
 | @cons rs rs' rs'' un un' un'' t st hl h4 s w ih=>
  intro x5;let⟨y5,e⟩:=ih (U (t,Y));refine⟨y5,?_⟩
  unfold am;let es:=BS wf hl h4 s;let e1:ae ((af 5) t [U (.lst (rs.map rowD),Y),U (.lst (RR.map ruD),Y),a2,a3,U (.int un,Y),x5]) cN=U (.next [U (.lst (rs'.map rowD),Y),U (.lst (RR.map ruD),Y),a2,a3,U (.int un',Y),U (t,Y)]):=by
   refine bN rfl (sqO (d:=.lst (rs'.map rowD)) (shG es) (ifF rfl (sqN rfl ?_)))
   let ix:∀{k:Nat}{R:Ru},RR[k]?=U R->ixO (U (.lst (RR.map ruD))) (U (.int (k:Int)))=U (ruD R):=λ{k R} h=>ixG (ds:=RR.map ruD) rfl rfl (lU (by lia) (by rw[Lj,Ky,h];rfl))
   cases s with
   |must k ps qs vs ψ χ rs' m f h1 h2 h0 h3=>
    let c:=cj "must";refine ifG ?_ ?_
    ·show eqO (ixO (ixO (U (.lst (RR.map ruD))) (U (.int (k:Int)))) (U (.int 0))) (U (.str "must"))=_
     rw[ix m];exact c
    rfl
   |same k ps a b vs ψ rs' m f hn h0 h3=>
    let c:=iz Jy;refine ifN ?_ rfl
    show eqO (ixO (ixO (U (.lst (RR.map ruD))) (U (.int (k:Int)))) (U (.int 0))) (U (.str "must"))=_;rw[ix m];exact c
  rw[e1];exact e
theorem Ae {rs rs':Ww Row}(hrs:rs.length<=20) (h4:∀q∈rs,q.2.length<=4) (h0:Nn rs) {ns:Ww Int}(hns:∀n,n∈ns↔∃q∈rs,Ce.bk n∈q.2) {un':Int}{st:Ww D}(W:Wk RR rs (mxB ns+1) st rs' un') {mo:Int}(hm:(st.length:Int)<=mo):f__law_walked [.lst (rs.map rowD),.lst (RR.map ruD),.lst st,.int mo]=U (.lst (rs'.map rowD),Y):=by
 let⟨ms,hms,hml,em⟩:=wy hrs h4;let⟨y5,e⟩:=FN wf (U (.lst st,Y)) (U (.int mo,Y)) W B;let c1:cI gGt (cK (U (.lst st))) (U (.int mo))=U Y:=by
  rw[lenL_l];exact congrArg U (decide_eq_false (by lia))
 refine opn rfl (stI (orF rfl c1) (stO (d:=.int (mxB ns+1)) (j4 (a:=mxB ns) ?_ rfl) (stN e (rO rfl))))
 let ec:mn (bR (aa (Aq (U (.int 1))) (U []))) (frO (f__law_blanks [.lst (rs.map rowD)]))=U (.lst ((-1::ms).map D.int)):=by
  rw[em];show mn (bR (U [.int (-1)])) (U (.lst (ms.map D.int)))=_;rw[lstO_s _ (by simp),catO_s _ _ (by simp;lia)];rfl
 show FY (mn (bR (aa (Aq (U (.int 1))) (U []))) (frO (f__law_blanks [.lst (rs.map rowD)])))=_;rw[ec,Hu (λn=>(hns n).trans (hms n).symm) λn hn=>by let⟨q,hq,h⟩:=(hns n).mp hn;exact h0 q hq n h]
 unfold FY;rw[if_neg (by simp)]
 unfold mX;simp![iX];rfl
end
end K41
namespace K41
open PySem L2 JP
variable[Md]
def fcn:(("full":Kr)≠"clash"):=by decide +kernel
def ocn:(("open":Kr)≠"clash"):=by decide +kernel
def ofn:(("open":Kr)≠"full"):=by decide +kernel
section
variable{RR:Ww Ru}(wf:∀R∈RR,Wf R)
include wf
theorem Iq {H:Ww Row}(hH:H.length<=20) (nc:H6 RR H) (a0 a1 a2 a3:Wq (D×Bool)):∃y5 y6,am (λd δ=>ae ((af 5) d δ) dY) (RR.map ruD) [a0,a1,a2,a3,U (.lst (H.map rowD),Y),B,B]=U (.next [a0,a1,a2,a3,U (.lst (H.map rowD),Y),y5,y6]):=by
 let⟨δ',e,x5,x6,rfl⟩:=qJ (body:=λd δ=>ae ((af 5) d δ) dY) (ds:=RR.map ruD) (δ:=[a0,a1,a2,a3,U (.lst (H.map rowD),Y),B,B]) (λδ=>∃x5 x6,δ=[a0,a1,a2,a3,U (.lst (H.map rowD),Y),x5,x6]) ⟨B,B,rfl⟩ λd hd δ hz=>by
  let⟨x5,x6,rfl⟩:=hz;let⟨R,hR,rfl⟩:=mt.mp hd;let⟨Ri,bl,b1,b2,eb⟩:=fS hH (wf R hR);let⟨δ',e,x6',rfl⟩:=qJ (body:=λd δ=>ae ((af 6) d δ) iY) (ds:=Ri.map ftD) (δ:=[a0,a1,a2,a3,U (.lst (H.map rowD),Y),U (ruD R,Y),x6]) (λδ=>∃x6,δ=[a0,a1,a2,a3,U (.lst (H.map rowD),Y),U (ruD R,Y),x6]) ⟨x6,rfl⟩ λd hd δ hz=>by
   let⟨x6,rfl⟩:=hz;let⟨q,hq,rfl⟩:=mt.mp hd;let⟨q1,q2,q3,q4,q5⟩:=b1 q hq;let hc:clB q.2 R=Y:=by
    cases R with
    |must ps qs=>rfl
    |same ps a b=>
     have:=nc ps a b hR q.2 q3 q5;show(cG (ev q.2 a)&&(cG (ev q.2 b)&&!decide (ev q.2 a=ev q.2 b)))=Y;rw[<-Qq,this];rfl
   let el:=mI hH (wf R hR) (q:=q) q2;rw[hc]at el;exact⟨_,.inl (bN rfl (ifN (congrArg (λz=>tyB (shO z)) el) rfl)),_,rfl⟩
  exact⟨_,.inl (bN rfl (bN (congrArg (λz=>bi (frO z)) eb) e)),_,_,rfl⟩
 exact⟨x5,x6,e⟩
theorem EY {rs rs':Ww Row}(hrs:rs.length<=20) (h4:∀q∈rs,q.2.length<=4) (h0:Nn rs) {ns:Ww Int}(hns:∀n,n∈ns↔∃q∈rs,Ce.bk n∈q.2) {un':Int}{st:Ww D}(W:Wk RR rs (mxB ns+1) st rs' un') (hrs':rs'.length<=20) {mo:Int}(hm:(st.length:Int)<=mo) {v:D}(F:Fin RR mo rs' st v):∃s:Kr,s≠""/\f__law_word [.lst (rs.map rowD),.lst (RR.map ruD),v,.int mo]=U (.str s,Y):=by
 let ew:=Ae wf hrs h4 h0 hns W hm;let⟨kb,ek,hkb⟩:=Aj hrs' wf
 rcases F with⟨k,rfl⟩|⟨k,ps,a,b,vs,ψ,hk,F,hb,rfl⟩|⟨k,nc,hl,rfl⟩
 ·obtain rfl:=hkb.mpr k
  refine⟨"full",by decide +kernel,opn rfl (stI (orF rfl (orF rfl rfl)) (stI (Ie (iz fcn)) (stO (d:=.lst (rs'.map rowD)) (shG ew) (stI (orF (neG (eqG rfl rfl)) (orF rfl (orF rfl (neG (eqT rfl rfl (zo rs')))))) (stR (vR (cj _) (congrArg (λz=>tyB (shO z)) ek)) rfl)))))⟩
 ·let hm':=Kv hk
  let hkl:=(List.getElem?_eq_some_iff.mp hk).1
  let⟨Ri,_,b1,b2,eb⟩:=fS hrs' (wf _ hm');let c3:chO (U (.int 0)) (U (.int (k:Int))) (cK (U (.lst (RR.map ruD))))=U V:=chT hkl (by simp)
  let ix:ixO (U (.lst (RR.map ruD))) (U (.int (k:Int)))=U (ruD (.same ps a b)):=ixG (ds:=RR.map ruD) rfl rfl (lU (by lia) (by rw[Lj,Ky,hk];rfl))
  let ci:inO (U (fL vs (vs.map ψ))) (frO (f__law_broken [.lst (rs'.map rowD),ruD (.same ps a b)]))=U V:=by rw[eb];exact qX hrs' (wf _ hm') F b1 b2
  let el:=mI hrs' (wf _ hm') (q:=(vs,ψ)) F.vl;let hc:clB ψ (.same ps a b)=V:=by
   show(cG (ev ψ a)&&(cG (ev ψ b)&&!decide (ev ψ a=ev ψ b)))=V;let hne:¬ev ψ a=ev ψ b:=λz=>F.br z
   rw[<-Qq,hb,decide_eq_false hne];rfl
  rw[hc]at el;let c4:=cj "clash";let c5:=cj "same";refine⟨"clash",by decide +kernel,opn rfl (stI (orF rfl (orF rfl rfl)) (stT (vR c4 (vR (eqG rfl rfl) (vR rfl c3))) (sqO (d:=.lst (rs'.map rowD)) (shG ew) (sqO (d:=ruD (.same ps a b)) ix (ifT (vR rfl (vR c5 ci)) (ifT (congrArg (λz=>tyB (shO z)) el) rfl))))))⟩
 ·obtain rfl:kb=Y:=by
   lia
  let⟨y5,y6,e⟩:=Iq wf hrs' nc (U (.lst (rs.map rowD),Y)) (U (.lst (RR.map ruD),Y)) (U (fuV "open" rs' st,Y)) (U (.int mo,Y));let hmo:((st.length:Int)=mo):=by lia
  let c6:neO (cK (U (.lst st))) (U (.int mo))=U Y:=by
   rw[lenL_l];exact(neG (eqG rfl rfl)).trans (by lia)
  refine⟨"open",by decide +kernel,opn rfl (stI (orF rfl (orF rfl rfl)) (stI (Ie (iz ocn)) (stO (d:=.lst (rs'.map rowD)) (shG ew) (stI (orF (neG (eqG rfl rfl)) (orF rfl (orF rfl (neG (eqT rfl rfl (zo rs')))))) (stI (Ie (iz ofn)) (stI (orF (neG (cj _)) (orF c6 (congrArg (λz=>tyB (shO z)) ek))) (stN e (rO rfl))))))))⟩
end
end K41
namespace K41
open PySem L2 JP
variable[Md]
def vQ (cs:Ww Int) {lo hi:Int}(h0:0<=lo) (h1:lo<=hi) {k:Nat}(hk:hi<=lo+k):∃xs:Ww Int,xs.length<=k/\sP (cs.map D.int) (U lo) (U hi)=xs.map D.int:=by
 let⟨a,rfl⟩:=QT h0;let⟨b,rfl⟩:=QT (Int.le_trans h0 h1);refine⟨(cs.drop (min a cs.length)).take (min b cs.length - min a cs.length),?_,?_⟩
 ·simp;lia
 ·unfold sP
  simp[uW,J8,Pj,Pk]
def JS {x1 x2 x3 x4 x5 x6:Wq D}{a b c d e f:D}(h1:x1=U a) (h2:x2=U b) (h3:x3=U c) (h4:x4=U d) (h5:x5=U e) (h6:x6=U f):bw (aa x1 (aa x2 (aa x3 (aa x4 (aa x5 (aa x6 (U [])))))))=U (.tup [a,b,c,d,e,f]):=by
 simp_all
def JN {x:Wq D}{l u:Wq (Wq Int)}{ds:Ww D}{a b:Wq Int}(h:x=U (.lst ds)) (h1:l=U a) (h2:u=U b):bi (iw x l u)=U (sP ds a b):=by subst h h1 h2;rfl
def EC {cs:Ww Int}{at':Int}(h0:0<=at') (h1:at'<cs.length):∃(rs:Ww Row) (RR:Ww Ru) (tb:Ww (Kr×Int)) (ns:Ww Kr) (nu:Ww Int) (e:Int),Dr tb ns nu/\(∀R∈RR,Wf R)/\RR.length<=3/\(∀q∈rs,q.2.length<=4)/\Nn rs/\rs.length<=4/\at'<e/\
  f__law_made [.lst (cs.map .int),.int at']=U (.tup [.lst (rs.map rowD),.lst (RR.map ruD),.lst (tb.map tbD),.lst (ns.map .str),.lst (nu.map .int),.int e],Y):=by
 rw[av (f:=f__law_made) (δ:=[U (.lst (cs.map .int),Y),U (.int at',Y),B,B,B,B,B,B,B,B,B]) rfl rfl rfl];let⟨c,_,ec⟩:=qR (f:=D.int) h0 h1;let⟨tb,t1,t2,et⟩:=yH c;let⟨ns,n1,en⟩:=yG (x:=gz (U (.int c)) (U (.int 7))) (y:=U (.int 3)) (oY rfl rfl (by decide)) rfl (by decide) (by decide)
 let⟨nu,u1,u0,eu⟩:=xA (c / 5);let Rh:Dr tb ns nu:=⟨t1,t2,n1,u1,u0⟩;let⟨xs,x1,ex⟩:=vQ cs (lo:=at'+1) (hi:=at'+1+1+c / 11%3) (k:=3) (by lia) (by lia) (by lia)
 let⟨ys,y1,ey⟩:=vQ cs (lo:=at'+1+1+c / 11%3) (hi:=at'+1+1+c / 11%3+c / 33%5) (k:=4) (by lia) (by lia) (by lia)
 let⟨RR,r1,r2,er⟩:=ph (f:=D.int) (g:=ruD) (P:=Wf) (xs:=xs) (F:=aC (af 10) (λδ=>U V) iM [B,B,B,U (.lst (tb.map tbD),Y),U (.lst (ns.map .str),Y),B,B,B,B,B,B]) λk _=>by
  let⟨R,hR,e⟩:=Fa Rh k;exact⟨R,hR,itG (show shO (f__law_rule [.int k,.lst (tb.map tbD),.lst (ns.map .str)])=_ by rw[e];rfl)⟩
 let⟨qs,q1,q2,eq⟩:=ph (f:=D.int) (g:=rowD) (P:=λr:Row=>r.2.length<=4/\∀n,Ce.bk n∈r.2->0<=n) (xs:=ys) (F:=aC (af 10) (λδ=>U V) iP [B,B,B,U (.lst (tb.map tbD),Y),U (.lst (ns.map .str),Y),U (.lst (nu.map .int),Y),B,B,B,B,B]) λk _=>by
  let⟨r,hr,e⟩:=HF Rh k;exact⟨r,hr,itG (show shO (f__law_row [.int k,.lst (tb.map tbD),.lst (ns.map .str),.lst (nu.map .int)])=_ by rw[e];rfl)⟩
 let⟨rs,_,s1,s2,es⟩:=zt (x:=U (.lst (qs.map rowD))) rfl (by lia)
 refine⟨rs,RR,tb,ns,nu,at'+1+1+c / 11%3+c / 33%5,Rh,r2,by lia,λq hq=>(q2 q ((s1 q).mp hq)).1,λq hq=>(q2 q ((s1 q).mp hq)).2,by lia,by lia,
  stO (ixG rfl rfl ec) (stO (d:=.lst (tb.map tbD)) ?_ (stO en (stO (d:=.lst (nu.map .int)) ?_ (stO (j4 (j4 (j4 rfl rfl) rfl) (i6 (oY rfl rfl (by decide)) rfl (by decide))) (stO (j4 rfl (i6 (oY rfl rfl (by decide)) rfl (by decide))) (stF (d:=.lst (RR.map ruD)) (m3 ((JN rfl (wQ (j4 rfl rfl)) (wQ rfl)).trans (congrArg U ex)) (by simp;lia) rfl er (by simp;lia)) (stO (d:=.lst (rs.map rowD)) ?_ (rO (JS rfl rfl rfl rfl rfl rfl)))))))))⟩
 ·simp_all
 ·simp_all
 ·refine Eq.trans (congrArg (λz=>frO (ae (aa z (U [])) f__law_stand)) ?_) es
  exact m3 ((JN rfl (wQ rfl) (wQ rfl)).trans (congrArg U ey)) (by simp;lia) rfl eq (by simp;lia)
def whF {t:DEnv->Wq Bool}{b:DEnv->Wq Out}{n:Nat}{δ:DEnv}(h:t δ=U Y):aV t b (n+1) δ=U (.next δ):=by
 unfold aV;rw[h]
def whT {t:DEnv->Wq Bool}{b:DEnv->Wq Out}{n:Nat}{δ δ':DEnv}(h:t δ=U V) (k:b δ=U (.next δ')):aV t b (n+1) δ=aV t b n δ':=by
 conv=>lhs;unfold aV
 rw[h,k]
def D8 (R:Ru):f__law_copy [ruD R]=U (ruD R,Y):=by
 cases R with
 |must ps qs=>
  rfl
 |same ps a b=>
  rfl
def Il (R:Ru):okD 14 (ruD R)=V:=by
 cases R with
 |must ps qs=>
  show([D.str "must",.lst (ps.map aG),.lst (qs.map aG)]).all (okD 13)=V;simp[okD.eq_3,zR 9]
 |same ps a b=>
  show([D.str "same",.lst (ps.map aG),teD a,teD b]).all (okD 13)=V;simp[okD.eq_3,zR 9,vg a 12,vg b 12]
def JD {x y:Wq D}{a b:D}(h:x=U a) (h':y=U b):bR (aa x (aa y (U [])))=U (.lst [a,b]):=by simp_all
abbrev eL (a0:Wq (D×Bool)) (cs:Ww Int) (at':Int) (x3 x4 x5 x6 x7 x8 x9 x10 x11 x12 x13:Wq (D×Bool)):DEnv:=[a0,U (.lst (cs.map .int),Y),U (.int at',Y),x3,x4,x5,x6,x7,x8,x9,x10,x11,x12,x13]
def Fj {RR:Ww Ru}{mo:Int}{rs:Ww Row}{S:Ww D}{v:D}(F:Fin RR mo rs S v) (hr:rs.length<=20) (hS:(S.length:Int)<=mo) (hm:mo<=100) (wf:∀R∈RR,Wf R):∃ds,v=.tup ds/\ds.length<=1000/\(ds.all λd=>match d with|.lst es=>decide (es.length<=lim)|.str _=>V|.int _=>V|_=>Y)=V:=by
 let h1:decide ((rs.map rowD).length<=lim)=V:=decide_eq_true (by simp;lia)
 let h2:decide (S.length<=lim)=V:=decide_eq_true (by simp;lia)
 rcases F with⟨_,rfl⟩|⟨k,ps,a,b,vs,ψ,hk,F,hb,rfl⟩|⟨_,_,_,rfl⟩
 ·exact⟨_,rfl,by simp,by simp![KG,NJ,h1,h2];rfl⟩
 ·let hw:=(wf _ (Kv hk))
  let hv:vs.length<=8:=Kf (KV F.nd λl h=>(F.vl l).mp h) (Kf (aw hw.2.1) (by have:=hw.1;show 4*ps.length<=8;lia))
  let h3:decide (((vs.zip (vs.map ψ)).map bq).length<=lim)=V:=decide_eq_true (by rw[J8,qaF,lim_eq];lia)
  refine⟨_,rfl,by simp,?_⟩
  show(V&&(decide (S.length<=lim)&&(V&&(decide (((vs.zip (vs.map ψ)).map bq).length<=lim)&&V))))=V;rw[h2,h3];rfl
 ·exact⟨_,rfl,by simp,by simp![KG,NJ,h1,h2];rfl⟩
def yV {RR:Ww Ru}(wf:∀R∈RR,Wf R) (hR:RR.length<=100) {N m:Nat}(hN:∀ps qs,Ru.must ps qs∈RR->qs.length<=N) {rs:Ww Row}(hrs:rs.length<=6) (h4:∀q∈rs,q.2.length<=4) (h0:Nn rs) {mo:Int}(m0:0<=mo) (hm:mo<=m) (hl:rs.length+N*m<=20) (hm':m<=100) {a0 x5 x6 x7 x10 x11 x12 x13:Wq (D×Bool)}{cs:Ww Int}{at' e:Int}:∃y10 y11 y12 y13,
  ak (aE 10 (bR (aa (iS (U (.lst (rs.map rowD)))) (aa (aq (ae (bi (U (.lst (RR.map ruD)))) (bJ Y [Y,Y,Y,Y,Y,Y,Y,Y,Y,Y,Y,Y,Y,Y] (af 12) (λδ=>U V) xO (eL a0 cs at' (U (.lst (rs.map rowD),Y)) (U (.lst (RR.map ruD),Y)) x5 x6 x7 (U (.int e,Y)) (U (.int mo,Y)) x10 x11 x12 x13)))) (U [])))) (eL a0 cs at' (U (.lst (rs.map rowD),Y)) (U (.lst (RR.map ruD),Y)) x5 x6 x7 (U (.int e,Y)) (U (.int mo,Y)) x10 x11 x12 x13)) (λδ=>ak (Bf Y 11 (ae (aa (ixO (rd Y 10 δ) (U (.int 0))) (aa (ixO (rd Y 10 δ) (U (.int 1))) (aa (rd Y 9 δ) (U [])))) f_full) δ) (λδ=>ak (ifO (orO (neO (rd Y 10 δ) (bR (aa (rd Y 3 δ) (aa (rd Y 4 δ) (U []))))) (eqO (shO (ae (aa (rd V 3 δ) (aa (rd V 4 δ) (aa (rd V 11 δ) (aa (rd V 9 δ) (U []))))) f__law_word)) (U (.str "")))) (bp (U (.bl Y))) (nextO δ)) (λδ=>ak (vr 11 13 δ) (λδ=>ak (ifO (neO (rd Y 10 δ) (bR (aa (rd Y 3 δ) (aa (rd Y 4 δ) (U []))))) (bp (U (.bl Y))) (nextO δ)) (λδ=>aE 2 (rd Y 8 δ) δ)))))=
   U (.next (eL a0 cs e (U (.lst (rs.map rowD),Y)) (U (.lst (RR.map ruD),Y)) x5 x6 x7 (U (.int e,Y)) (U (.int mo,Y)) y10 y11 y12 y13)):=by
 let⟨ns,st,rs',un',v,hns,W,r1,r2,r3,ef,F⟩:=FQ wf hR hN hrs h4 h0 m0 hm hl hm';let⟨s,hs,ew⟩:=EY wf (by lia) h4 h0 hns W r1 r3 F
 let⟨ds,rfl,hd1,hd2⟩:=Fj F r1 r3 (by lia) wf
 let okH:okD 16 (.lst [.lst (rs.map rowD),.lst (RR.map ruD)])=V:=by
  show([D.lst (rs.map rowD),.lst (RR.map ruD)]).all (okD 15)=V;simp[Cq 11,vt (n:=14) λd (hd:d∈RR.map ruD)=>by let⟨R,_,rfl⟩:=mt.mp hd;exact Il R]
 let ch:neO (U (.lst [.lst (rs.map rowD),.lst (RR.map ruD)])) (bR (aa (U (.lst (rs.map rowD))) (aa (U (.lst (RR.map ruD))) (U []))))=U Y:=neG (eqT rfl (JD rfl rfl) okH);refine⟨U (.lst [.lst (rs.map rowD),.lst (RR.map ruD)],Y),B,x12,B,sqO (d:=.lst [.lst (rs.map rowD),.lst (RR.map ruD)]) (JD rfl (m3 rfl (by simp;lia) rfl (aM λR _=>itG (shG (D8 R))) (by simp;lia))) (sqN (δ:=eL a0 cs at' (U (.lst (rs.map rowD),Y)) (U (.lst (RR.map ruD),Y)) x5 x6 x7 (U (.int e,Y)) (U (.int mo,Y)) (U (.lst [.lst (rs.map rowD),.lst (RR.map ruD)],Y)) (U (.tup ds,V)) x12 x13) ?_ (ifF (orF ch ?_) (sqN rfl (sqN (δ:=eL a0 cs at' (U (.lst (rs.map rowD),Y)) (U (.lst (RR.map ruD),Y)) x5 x6 x7 (U (.int e,Y)) (U (.int mo,Y)) (U (.lst [.lst (rs.map rowD),.lst (RR.map ruD)],Y)) B x12 B) ?_ (ifF ch (sqN rfl rfl))))))⟩
 ·show Bf Y 11 (f_full [.lst (rs.map rowD),.lst (RR.map ruD),.int mo]) _=_
  rw[ef];rfl
 ·show eqO (shO (f__law_word [.lst (rs.map rowD),.lst (RR.map ruD),.tup ds,.int mo])) (U (.str ""))=_
  rw[ew];exact iz hs
 ·exact if_pos (by rw[decide_eq_true hd1];exact hd2)
def ix0 (R:Ru) (RR:Ww Ru):ixO (U (.lst ((R::RR).map ruD))) (U (.int 0))=U (ruD R):=by rw[Ka,ixO_l,Jw]
def Bm (a0:Wq (D×Bool)) {cs:Ww Int}{at':Int}(h0:0<=at') (h1:at'<cs.length) (x3 x4 x5 x6 x7 x8 x9 x10 x11 x12 x13:Wq (D×Bool)):∃(e:Int) (y3 y4 y5 y6 y7 y8 y9 y10 y11 y12 y13:Wq (D×Bool)),at'<e/\ug (eL a0 cs at' x3 x4 x5 x6 x7 x8 x9 x10 x11 x12 x13)=U (.next (eL a0 cs e y3 y4 y5 y6 y7 y8 y9 y10 y11 y12 y13)):=by
 let⟨rs,RR,tb,ns,nu,e,Rh,wf,rl,h4,hn,hl,he,em⟩:=EC h0 h1;let⟨c,_,ec⟩:=qR (f:=D.int) h0 h1;let e1:Ib (shO (f__law_made [.lst (cs.map .int),.int at'])) (aB (ah (af 3) (ah (af 4) (ah (af 5) (ah (af 6) (ah (af 7) (ah (af 8) (toNil)))))))) (eL a0 cs at' x3 x4 x5 x6 x7 x8 x9 x10 x11 x12 x13)=U (.next (eL a0 cs at' (U (.lst (rs.map rowD),Y)) (U (.lst (RR.map ruD),Y)) (U (.lst (tb.map tbD),Y)) (U (.lst (ns.map .str),Y)) (U (.lst (nu.map .int),Y)) (U (.int e,Y)) x9 x10 x11 x12 x13)):=by
  rw[em];rfl
 let c1:eqO (cq (gz (ixO (U (.lst (cs.map .int))) (U (.int at'))) (U (.int 825))) (U (.int 6))) (U (.int 1))=U (decide (c / 825%6=1)):=eqG (i6 (oY (ixG rfl rfl ec) rfl (by decide)) rfl (by decide)) rfl
 let mo0:cq (gz (ixO (U (.lst (cs.map .int))) (U (.int at'))) (U (.int 165))) (U (.int 5))=U (.int (c / 165%5)):=i6 (oY (ixG rfl rfl ec) rfl (by decide)) rfl (by decide)
 let plain:∀{cc:Wq Bool},cc=U Y->_:=λ{cc} hc=>yV wf (by lia) (N:=2) (m:=4) (λps qs h=>(wf _ h).2.1) (by lia) h4 hn (mo:=c / 165%5) (by lia) (by lia) (by lia) (by decide) (a0:=a0) (x5:=U (.lst (tb.map tbD),Y)) (x6:=U (.lst (ns.map .str),Y)) (x7:=U (.lst (nu.map .int),Y)) (x10:=x10) (x11:=x11) (x12:=x12) (x13:=x13) (cs:=cs) (at':=at') (e:=e)
 by_cases hz:∃ps qs RR',c / 825%6=1/\RR=.must ps qs::RR'
 ·let⟨ps,qs,RR',hc,rfl⟩:=hz
  let⟨w1,w2,w3,w4⟩:=wf _ (.head _);let wf':∀R∈[Ru.must (ps.take 1) (qs.take 1)],Wf R:=λR hR=>by
   rw[qaa.mp hR];exact⟨by simp;lia,by simp;lia,λp hp=>w3 p (Nj hp),λp hp=>w4 p (Nj hp)⟩
  let⟨y10,y11,y12,y13,ee⟩:=yV wf' (by simp) (N:=1) (m:=12) (λps' qs' h=>by cases qaa.mp h;simp;lia) (rs:=rs.take 2) (by simp;lia) (λq hq=>h4 q (Nj hq)) (λq hq=>hn q (Nj hq)) (mo:=5+c / 165%8) (by lia) (by lia) (by simp;lia) (by decide) (a0:=a0) (x5:=U (.lst (tb.map tbD),Y)) (x6:=U (.lst (ns.map .str),Y)) (x7:=U (.lst (nu.map .int),Y)) (x10:=x10) (x11:=x11) (x12:=x12) (x13:=x13) (cs:=cs) (at':=at') (e:=e)
  rw[decide_eq_true hc]at c1;let c2:cI gGt (cK (U (.lst ((Ru.must ps qs::RR').map ruD)))) (U (.int 0))=U V:=by
   rw[lenL_l];exact congrArg U (decide_eq_true (by simp))
  let c3:eqO (ixO (ixO (U (.lst ((Ru.must ps qs::RR').map ruD))) (U (.int 0))) (U (.int 0))) (U (.str "must"))=U V:=by rw[ix0];exact cj "must"
  let mo1:cw (U (.int 5)) (cq (gz (ixO (U (.lst (cs.map .int))) (U (.int at'))) (U (.int 165))) (U (.int 8)))=U (.int (5+c / 165%8)):=j4 rfl (i6 (oY (ixG rfl rfl ec) rfl (by decide)) rfl (by decide))
  let er:bR (aa (bw (aa (U (.str "must")) (aa (iw (ixO (ixO (U (.lst ((Ru.must ps qs::RR').map ruD))) (U (.int 0))) (U (.int 1))) (U B) (bQ (U (.int 1)))) (aa (iw (ixO (ixO (U (.lst ((Ru.must ps qs::RR').map ruD))) (U (.int 0))) (U (.int 2))) (U B) (bQ (U (.int 1)))) (U []))))) (U []))=U (.lst ([Ru.must (ps.take 1) (qs.take 1)].map ruD)):=by
   let k1:iw (ixO (U (ruD (Ru.must ps qs))) (U (.int 1))) (U B) (bQ (U (.int 1)))=U (.lst ((ps.take 1).map aG)):=congrArg (λz=>U (D.lst z)) (kq _ ps 1)
   let k2:iw (ixO (U (ruD (Ru.must ps qs))) (U (.int 2))) (U B) (bQ (U (.int 1)))=U (.lst ((qs.take 1).map aG)):=congrArg (λz=>U (D.lst z)) (kq _ qs 1)
   rw[ix0,FZ rfl k1 k2];exact lstO_s _ (by simp)
  let ek:iw (U (.lst (rs.map rowD))) (U B) (bQ (U (.int 2)))=U (.lst ((rs.take 2).map rowD)):=congrArg (λz=>U (D.lst z)) (kq _ rs 2)
  exact⟨e,_,_,_,_,_,_,_,_,_,_,_,he,sqN e1 (sqO mo0 (ifT (vR c1 (vR c2 c3)) (sqA (sqO er (sqA (sqO ek (sqO mo1 ee)))))))⟩
 ·let⟨y10,y11,y12,y13,ee⟩:=plain (cc:=U Y) rfl
  let cf:jC (eqO (cq (gz (ixO (U (.lst (cs.map .int))) (U (.int at'))) (U (.int 825))) (U (.int 6))) (U (.int 1))) (jC (cI gGt (cK (U (.lst (RR.map ruD)))) (U (.int 0))) (eqO (ixO (ixO (U (.lst (RR.map ruD))) (U (.int 0))) (U (.int 0))) (U (.str "must"))))=U Y:=by
   rw[c1]
   by_cases hc:c / 825%6=1
   ·refine vR (congrArg U (decide_eq_true hc)) ?_
    cases RR with
    |nil=>rfl
    |cons R RR'=>
     let c2:cI gGt (cK (U (.lst ((R::RR').map ruD)))) (U (.int 0))=U V:=by
      rw[lenL_l];exact congrArg U (decide_eq_true (by simp))
     refine vR c2 ?_
     cases R with
     |must ps qs=>exact absurd ⟨ps,qs,RR',hc,rfl⟩ hz
     |same ps a b=>rw[ix0];rfl
   ·exact Ie (congrArg U (decide_eq_false hc))
  exact⟨e,_,_,_,_,_,_,_,_,_,_,_,he,sqN e1 (sqO mo0 (ifF cf (sqN rfl ee)))⟩
def Fo (a0:Wq (D×Bool)) (cs:Ww Int) (at':Int) (x3 x4 x5 x6 x7 x8 x9 x10 x11 x12 x13:Wq (D×Bool)):tN (eL a0 cs at' x3 x4 x5 x6 x7 x8 x9 x10 x11 x12 x13)=U (decide (at'<cs.length)):=by
 show cI gLt (U (.int at')) (cK (U (.lst (cs.map .int))))=_;simp
def CC (a0:Wq (D×Bool)) (cs:Ww Int) (m:Nat):∀(fuel:Nat) (at':Int) (x3 x4 x5 x6 x7 x8 x9 x10 x11 x12 x13:Wq (D×Bool)),0<=at'->(cs.length:Int)<=at'+m->m<fuel->∃δ,aV tN ug fuel (eL a0 cs at' x3 x4 x5 x6 x7 x8 x9 x10 x11 x12 x13)=U (.next δ):=by
 induction m with
 |zero=>
  intro fuel at' x3 x4 x5 x6 x7 x8 x9 x10 x11 x12 x13 h0 hm hf;obtain⟨f,rfl⟩:∃f,fuel=f+1:=⟨fuel - 1,by lia⟩
  exact⟨_,whF ((Fo ..).trans (congrArg U (decide_eq_false (by lia))))⟩
 |succ m ih=>
  intro fuel at' x3 x4 x5 x6 x7 x8 x9 x10 x11 x12 x13 h0 hm hf;obtain⟨f,rfl⟩:∃f,fuel=f+1:=⟨fuel - 1,by lia⟩
  by_cases h:at'<cs.length
  ·let⟨e,y3,y4,y5,y6,y7,y8,y9,y10,y11,y12,y13,he,eb⟩:=Bm a0 h0 h x3 x4 x5 x6 x7 x8 x9 x10 x11 x12 x13
   rw[whT ((Fo ..).trans (congrArg U (decide_eq_true h))) eb];exact ih f e y3 y4 y5 y6 y7 y8 y9 y10 y11 y12 y13 (by lia) (by lia) (by lia)
  ·exact⟨_,whF ((Fo ..).trans (congrArg U (decide_eq_false h)))⟩
def pure (ns:Ww Int) (hn:ns.length<=63):f_law [.lst (ns.map D.int)]=U (.bl V,Y):=by
 obtain⟨cs,hcs⟩:∃cs:Ww Int,cs=ns.take 40++[0,0]:=⟨_,rfl⟩;let⟨δ,e⟩:=CC (U (.lst (ns.map D.int),Y)) cs 42 1000 0 B B B B B B B B B B B (by decide) (by rw[hcs];simp;lia) (by decide)
 refine stO (d:=.lst (cs.map D.int)) ?_ (stO rfl (stN e (rO rfl)))
 show mn (U (.lst (sP (ns.map D.int) B (U ((40:Nat):Int))))) (bR (U [.int 0,.int 0]))=_;rw[kq,lstO_s _ (by simp),catO_s _ _ (by simp;lia),hcs,Kn];rfl
end K41
namespace L2
open PySem PySem.Spec PyProof.Rows PySem.W PySem.Calls
theorem nt {a:Kp}{o:PC}:∀{l:Frag},l.lookup a=U o->(a,o)∈l
 |[],h=>nomatch h
 |(b,p)::l,h=>by
  rw[PW]at h;cases e:a==b with
  |true=>rw[e]at h;cases h;rw[beq_iff_eq.mp e];exact .head _
  |false=>rw[e]at h;exact .tail _ (nt h)
nonrec theorem v5 (h:LF) {a:Kp}{o:PC}(e:(Ew h).lookup a=U o):h.get? a=U o/\(o.cls != .type "list")=V:=by
 let⟨b,_,hb⟩:=qal.mp (nt e);let⟨p,h1,h2⟩:=Option.bind_eq_some_iff.mp hb;split at h2
 ·rename_i z
  cases h2;exact⟨h1,(Bool.and_eq_true_iff.mp z).2⟩
 ·cases h2
structure Seen (defs:Ww (Kr×Lr)) (bl:Ww Kr) (cs:Ww (Kr×Kp)) (K:Frag):Prop where
 fn:defs.map (λp=>Ig K p.1)=defs.map λp=>U (B4 p.1 p.2)
 bl:bl.map (nsIn K mainGlobals)=bl.map λ_=>U B
 cd:cs.map (λp=>u9 K p.1)=cs.map λp=>U (.ref p.2)
theorem Au {α β:Type}{f g:α->β}:∀{l:Ww α}{i:Nat}{x:α},l.map f=l.map g->l[i]?=U x->f x=g x
 |[],_,_,_,h=>by simp at h
 |y::l,0,x,e,h=>by cases h;exact(P0 e).1
 |y::l,i+1,x,e,h=>Au (P0 e).2 h
def map_mem {α β:Type}{f g:α->β}{l:Ww α}{x:α}(e:l.map f=l.map g) (h:x∈l):f x=g x:=by
 simp_all
section
variable[Md] {defs:Ww (Kr×Lr)}{bl:Ww Kr}{cs:Ww (Kr×Kp)}
nonrec theorem Seen.df0 (S:Seen defs bl cs Md.K) (X:Md.K.In Md.base) (G:Md.base.Ns mainGlobals Md.mg) (i:Nat) {x:Kr}{st:Lr}(e:defs[i]?=U (x,st)):∃f fd,Fun Md.K x x st f fd/\Md.mg x=U (.ref f)/\u9 Md.K x=U fd.code:=by
 let q:Ig Md.K x=U (B4 x st):=Au S.fn e;unfold Ig at q;unfold u9;split at q
 ·rename_i f hf
  split at q
  ·rename_i oc od fd sl hl
   split at q
   ·rename_i hc
    refine⟨f,fd,⟨⟨oc,od,fd.kwdefaults,fd.doc,fd.pyModule,fd.annotations,fd.code,fd.closureTuple,sl,?_,hl,hc⟩,?_⟩,mg_of X G hf,rfl⟩
    ·let q':=Lv q
     let⟨a1,a2,a3,a4,a5,a6,a7,a8,a9,a10,a11,a12,a13,a14,a15⟩:=fd;simp![HE,B4,Prod.mk.injEq]at q'
     lia
    ·unfold keepIn;dsimp only;rw[hl]
   ·cases q
  ·cases q
 ·cases q
def Seen.df (S:Seen defs bl cs Md.K) (X:Md.K.In Md.base) (G:Md.base.Ns mainGlobals Md.mg) (i:Nat) {x:Kr}{st:Lr}(e:defs[i]?=U (x,st)):Df x st:=by
 let⟨f,fd,F,hm,_⟩:=S.df0 X G i e;exact⟨f,fd,F,hm⟩
def Seen.dfC (S:Seen defs bl cs Md.K) (X:Md.K.In Md.base) (G:Md.base.Ns mainGlobals Md.mg) (i j:Nat) {x:Kr}{st:Lr}{c:Kp}(e:defs[i]?=U (x,st)) (e':cs[j]?=U (x,c)):DfC x st c:=by
 let⟨f,fd,F,hm,hc⟩:=S.df0 X G i e;exact⟨f,fd,F,hm,Lv (hc.symm.trans (Au S.cd e'))⟩
def Seen.txt (S:Seen defs bl cs Md.K) (X:Md.K.In Md.base) (G:Md.base.Ns mainGlobals Md.mg):Txb bl:=λx hx=>mg_none_of X G (map_mem S.bl hx)
end
def JO (tb:Tb) (cs:Ww (Kr×Kp)) (K:Frag):Prop:=(tb.zip cs).map (λq=>codeHdIn K q.2.2 q.1.1)=(tb.zip cs).map (λ_=>V)/\tb.map (λq=>K.lookup q.1)=tb.map (λ_=>B)
def YH (tb:Tb) (defs:Ww (Kr×Lr)) (bl:Ww Kr) (cs:Ww (Kr×Kp)) (_:LY) (h:LF):Prop:=∃K:Frag,K.In h/\Seen defs bl cs K/\tb.map (λq=>h.get? q.1)=tb.map (λ_=>U Ic)/\JO tb cs K/\∀b o,K.lookup b=U o->(o.cls != .type "list")=V
section
variable{tb:Tb}{defs:Ww (Kr×Lr)}{bl:Ww Kr}{cs:Ww (Kr×Kp)}
def yh_of (w:LY) (s:J5) (e:YfH tb defs bl cs s=YaH tb defs bl cs w):YH tb defs bl cs w s.heap:=by
 unfold YfH YaH at e;simp![Prod.mk.injEq]at e;exact⟨Ew s.heap,λa o h=>(v5 _ h).1,⟨e.1,e.2.1,e.2.2.1⟩,e.2.2.2.1,⟨e.2.2.2.2.1,e.2.2.2.2.2⟩,λa o h=>(v5 _ h).2⟩
def yh_keeps (w:LY) (h h':LF) (y:YH tb defs bl cs w h) (k:∀b o,h.get? b=U o->h'.get? b=U o):YH tb defs bl cs w h':=by
 let⟨K,hK,hS,ht,hc⟩:=y;exact⟨K,hK.keeps k,hS,K5 λq hq=>k _ _ (map_mem ht hq),hc⟩
end
theorem xQ {α β:Type}:∀{l:Ww α}{m:Ww β}{x:α},l.length=m.length->x∈l->∃y,(x,y)∈l.zip m
 |a::l,b::m,x,e,h=>by
  rcases on.mp h with rfl|h
  ·exact⟨b,.head _⟩
  ·let⟨y,hy⟩:=xQ (Qn e) h
   exact⟨y,.tail _ hy⟩
theorem sr [Md] {P:Params}{h:LF}{m:Bool}{M:Mp}:∀{ns:Ww Int}{vs:Ww J4},WellAll P h vs (ns.map WData.int)->Rs m M (ns.map D.int) vs
 |[],_,w=>by cases w;rfl
 |n::ns,_,w=>by
  cases w with
  |cons a b=>cases a;exact⟨_,_,rfl,⟨_,rfl⟩,sr b⟩
def GQ {l:OpenLaw}{n:Nat}(hn:l.most=U n) {args:Ww WData}(hpre:l.row.toRowW.claim.pre args=V):∃ns:Ww Int,args=[.list (ns.map .int)]/\ns.length<=n:=by
 let⟨d,r,rfl,h1,h2⟩:=hasAllW_cons (show WShape.hasAll [] args [.list .int]=V from(pre_splitW hpre).1)
 obtain rfl:=hasAllW_nil h2;let⟨xs,rfl,h3⟩:=hasW_list h1;let⟨ns,rfl⟩:=items_int h3;refine⟨ns,rfl,?_⟩
 let hc:l.pre.holds [] {args:=[.list (ns.map .int)]}=V:=(pre_splitW hpre).2;let h4:=(holds_andW hc).1;rw[hn]at h4;let h5:=condW_of (show(WTm.not (.lt (.lit (.int (n:Int))) (.len (.arg 0)))).holds [] {args:=[.list (ns.map .int)]}=V from h4) (w_not (w_lt w_lit (w_len_list (w_arg rfl))))
 simp_all
theorem walk_N {l:OpenLaw}{n k:Nat}{q:Lw}{loose:Ww Kr}{XP:(Kr->Wq J4)->LF->Prop}{d:DefRec}{tb:Tb}{defs:Ww (Kr×Lr)}{bl:Ww Kr}{cs:Ww (Kr×Kp)}{f:Ww D->Wq (D×Bool)}
  (hn:l.most=U n) (hn2:n<=sizeLine) (hdf:d.params.defaults=[]) (hr:Room k callerA) (hcs:tb.length=cs.length)
  (F:∀I:Md,I.tb=tb->I.P=l.prog->Seen defs bl cs I.K->JO tb cs I.K->I.K.In I.base->I.base.Ns mainGlobals I.mg->FnM k d.name f)
  (hf:∀(_:Md) (ns:Ww Int),ns.length<=n->f [.lst (ns.map D.int)]=U (.bl V,Y)):
  WalkO q loose XP (YH tb defs bl cs) l.row.toRowW d [] (λf vs=>PySem.call f vs):=by
 intro w s₀ s₁ mg mb G Rg fa o pm cd doc dV kV ho hd hcd hD hmg hg args vals as hpre hlay hrd hwl hlo;let⟨ns,rfl,hlen⟩:=GQ hn hpre;let⟨K,KX,S,ht,hL,hno⟩:=Rg;cases hwl with
 |cons w1 w2=>
 cases w2;cases w1 with
 | @list a vs _ ha hall=>
 let hsy:a≠sysModules:=by
  cases hrd with
  |cons r1 r2=>cases r1 with
   |list h1 h2 h3 h4=>simp_all
 let hT:∀q∈tb,s₁.heap.get? q.1=U Ic/\K.lookup q.1=B/\isCodeTable s₁.heap q.1:=λq hq=>⟨map_mem ht hq,map_mem hL.2 hq,by
  let⟨c,hz⟩:=xQ hcs hq;let⟨o,vs,_,_,_,_,_,_,_,e1,e2,e3,e4,_⟩:=codeHd_of_K KX (map_mem hL.1 hz);exact⟨c.2,o,vs,e1,e2,e3,e4⟩⟩
 letI hd:=a::tb.map (·.1)
 let un:∀{b:Kp}{o:PC},s₁.heap.get? b=U o->(∀vs n,o.data≠.seq vs n)->(∀vs,o.data≠.fields vs)->b∉hd:=λ{b o} e n1 n2 z=>by
  rcases on.mp z with rfl|z
  ·rw[ha]at e;cases e;exact n1 _ _ rfl
  ·let⟨q,hq,rfl⟩:=mt.mp z
   rw[(hT q hq).1]at e;cases e;exact n2 _ rfl
 letI base:=hideAll s₁.heap hd
 let nsK:∀{b:Kp}{m:Kr->Wq J4},s₁.heap.Ns b m->base.Ns b m:=λ{b m} ⟨o,es,ep,e,d,r⟩=>⟨o,es,ep,hideAll_get _ e (un e (λ_ _ z=>by lia) λ_ z=>by lia),d,r⟩
 let hKb:K.In base:=λb o e=>hideAll_get _ (KX b o e) λz=>by
  rcases on.mp z with rfl|z
  ·have:=KX _ _ e
   grind
  ·let⟨q,hq,rfl⟩:=mt.mp z
   rw[(hT q hq).2.1]at e;cases e
 letI I:Md:=⟨l.prog,w,K,mg,base,tb,s₁.os,s₁.gens⟩
 letI ob:PC:={cls:=.type "list",data:=.seq vs.toArray}
 letI M:Mp:=λb=>if b=a then U (.f,ob) else if b∈tb.map (·.1) then B else(s₁.heap.get? b).map λo=>(.p,o)
 let Ma:M a=U (.f,ob):=if_pos rfl;let ta:∀q∈tb,q.1≠a:=λq hq e=>by have:=(hT q hq).1;rw[e,ha]at this;cases this
 let Mt:∀q∈tb,M q.1=B:=λq hq=>(if_neg (ta q hq)).trans (if_pos (LU hq))
 let Mp':∀{b o},s₁.heap.get? b=U o->b∉hd->M b=U (.p,o):=λ{b o} e z=>by
  grind
 let Mb:∀{b},b∈hd->b=a\/∃q∈tb,b=q.1:=λ{b} z=>(on.mp z).imp id λz=>by let⟨q,hq,e⟩:=mt.mp z;exact⟨q,hq,e.symm⟩
 let Mi:∀{b k o},M b=U (k,o)->(b=a/\k=.f/\o=ob)\/(k=.p/\s₁.heap.get? b=U o):=λ{b k o} e=>by
  by_cases z:b∈hd
  ·grind
  ·cases h:s₁.heap.get? b with
   |some o'=>simp_all
   |none=>
    grind
 let Ri:Bas M s₁:=by
  refine⟨⟨rfl,rfl⟩,λb k o e=>?_,λb o e=>Mp' (of_hideAll _ e) λz=>?_,λq hq=>⟨Mt q hq,#[],(hT q hq).1,trivial,λ_ _ e=>nomatch e⟩,λb i o e=>?_,λb o e=>?_,λk o e=>?_⟩
  ·rcases Mi e with⟨rfl,_,rfl⟩|⟨_,e⟩
   ·exact ha
   ·exact e
  ·cases (show base.get? b=B from hideAll_none _ z).symm.trans e
  ·rcases Mi e with⟨_,z,_⟩|⟨z,_⟩<;>cases z
  ·by_cases z:b∈hd
   ·rcases Mb z with rfl|z
    ·exact .inl (by rw[Ma];simp)
    ·exact .inr z
   ·exact .inl (by rw[Mp' e z];simp)
  ·rcases Mi e with⟨z,_,_⟩|⟨z,_⟩
   ·lia
   ·exact z
 let hM:Mod:=⟨hKb,nsK G.T.g,⟨mb,nsK G.T.b,G.T.builtins⟩,let ⟨mc,h1,h2⟩:=G.T.nolimit;⟨mc,nsK h1,h2⟩,by
  let⟨bm,ob,b1,b2,b3,b4,b5,b6⟩:=G.T.bmain;exact⟨bm,ob,b1,b2,hideAll_get _ b3 (un b3 (λ_ _ z=>by lia) λ_ z=>by lia),b4,b5,b6⟩⟩
 let⟨p,hp,_,hc⟩:=(F I rfl rfl S hL hKb (nsK G.T.g)).ex;cases hmg.symm.trans hp;let hw:Rs Y M (ns.map D.int) vs:=sr hall;let hlv:vs.length<=sizeLine:=by have:=hw.length;rw[J8]at this;lia
 refine enter_call (Qe (hc hr hM Ri (us:=[.ref a]) (ds:=[.lst (ns.map D.int)]) ⟨_,_,rfl,⟨a,ob,vs,rfl,⟨.f,Ma,rfl⟩,⟨hlv,_,rfl⟩,hw⟩,rfl⟩ (hf I ns hlen)) λr s' hq=>?_)
 let⟨v,X',M1,δ1,rfl,hs,J,hv⟩:=hq;obtain rfl:v=.bool V:=hv;let key:∀b o,s₁.heap.get? b=U o->s'.heap.get? b=U o\/∃q∈tb,b=q.1:=λb o e=>by
  by_cases z:b∈hd
  ·rcases Mb z with rfl|z
   ·rw[ha]at e;cases e
    exact .inl (J.heap _ _ _ (rdf.mp (hs.f _ _ (rdf.mpr Ma))))
   ·exact .inr z
  ·exact .inl (J.heap _ _ _ (hs.p _ _ (Mp' e z)))
 refine⟨.inl ⟨.bool V,.bool V,[],rfl,λ_=>rfl,.bool V,?_,λ_=>⟨OP,λ_ hm=>(nomatch hm)⟩⟩,⟨λb o e=>?_,λb o e=>?_⟩,J.og.1,.of_eq (J.og.2.trans hg)⟩
 ·exact postW_of (r:=l.row.toRowW) (X:=(V==V)) (show WShape.has [] (.bool V) .bool=V by rfl)
   (show(WTm.eq .res (.lit (.bool V))).value [] {args:=_,res:=U (.bool V),after:=_}=U (.bool (V==V)) from w_eq_bool (w_res rfl) w_lit) rfl
 ·rcases key b o e with h|⟨q,hq,rfl⟩
  ·exact .inl h
  ·rw[(hT q hq).1]at e;cases e
   let⟨_,ps,h,_⟩:=J.tabs q hq;exact .inr (.inl ⟨(hT q hq).2.2,rfl,#[],ps,rfl,by rw[h];simp[Ic]⟩)
 ·rcases key b o e with h|⟨q,hq,rfl⟩
  ·exact⟨o,h⟩
  ·let⟨_,ps,h,_⟩:=J.tabs q hq
   exact⟨_,h⟩
end L2
namespace K41
open PySem L2 Md
def all_mk [Md] {c_ P_:Kp}(S:Seen defsK blK [("search_order",c_)] K) (X:K.In base) (G:base.Ns mainGlobals mg) (hLP:((P_,("search_order.<locals>.<lambda>":Kr)):Kp×Kr)∈tb) (hTu:∀q∈tb,q.1=P_->q=(P_,("search_order.<locals>.<lambda>":Kr))) (hLC:PySem.W.codeHdIn K c_ P_=V):FnM 10 "law" f_law:=by
 let T:=S.txt X G;let M_stand_of:=xm T (S.df X G 0 rfl);let M_blanks_of:=tI T (S.df X G 1 rfl);let M_exchanged:=uJ T (S.df X G 2 rfl);let M_moved:=D6 T (S.df X G 3 rfl) M_stand_of M_exchanged;let M_filled:=Cf T (S.df X G 4 rfl) M_exchanged;let M_letters_of:=sn T (S.df X G 5 rfl);let M_binding_of:=qA T (S.df X G 6 rfl);let M_bindings:=xD T (S.df X G 7 rfl) M_binding_of;let M_is_linked:=uD T (S.df X G 8 rfl) M_letters_of;let M_search_order:=mL T (S.dfC X G 9 0 rfl rfl) hLP hTu (PySem.W.codeHd_of_K X hLC) M_letters_of M_bindings M_is_linked;let M_places_of:=sZ T (S.df X G 10 rfl);let M_grouped:=yB T (S.df X G 11 rfl);let M_picked:=AE T (S.df X G 12 rfl);let M_extended:=xv T (S.df X G 13 rfl) M_picked;let M_joined_from:=oB T (S.df X G 14 rfl) M_letters_of M_search_order M_places_of M_grouped M_picked M_extended;let M_joined:=Ca T (S.df X G 15 rfl) M_joined_from;let M_fit_with:=xy T (S.df X G 16 rfl) M_letters_of M_joined_from;let M_fresh:=EG T (S.df X G 17 rfl) M_letters_of;let M_two_terms:=tJ T (S.df X G 18 rfl);let M_deciding_letters:=iq T (S.df X G 19 rfl) M_letters_of M_two_terms;let M_is_unlike:=tH T (S.df X G 20 rfl);let M_two_cells:=uf T (S.df X G 21 rfl) M_filled M_two_terms;let M_broken_cells:=mU T (S.df X G 22 rfl) M_joined M_deciding_letters M_is_unlike M_two_cells;let M_urgency_of:=rK T (S.df X G 23 rfl) M_fresh;let M_age:=Jp T (S.df X G 24 rfl);let M_next_broken:=pI T (S.df X G 25 rfl) M_fit_with M_deciding_letters M_broken_cells M_urgency_of M_age;let M_is_clash:=xC T (S.df X G 26 rfl) M_two_cells;let M_same_moves:=qG T (S.df X G 27 rfl) M_two_cells;let M_fresh_moves:=pn T (S.df X G 28 rfl) M_fresh;let M_full:=Hb T (S.df X G 29 rfl) M_stand_of M_blanks_of M_moved M_filled M_next_broken M_is_clash M_same_moves M_fresh_moves;let M__law_whole:=sC T (S.df X G 30 rfl);let M__law_mixed:=qv T (S.df X G 31 rfl);let M__law_words:=sk T (S.df X G 32 rfl) M__law_mixed;let M__law_numbers:=mV T (S.df X G 33 rfl) M__law_mixed;let M__law_drawn:=qZ T (S.df X G 34 rfl);let M__law_row:=wE T (S.df X G 35 rfl) M__law_mixed M__law_drawn;let M__law_tables:=oK T (S.df X G 36 rfl) M__law_mixed M__law_words;let M__law_stand:=rg T (S.df X G 37 rfl);let M__law_moved:=qq T (S.df X G 38 rfl) M__law_stand;let M__law_blanks:=oU T (S.df X G 39 rfl);let M__law_term:=tw T (S.df X G 40 rfl);let M__law_patterns:=lB T (S.df X G 41 rfl) M__law_mixed M__law_term;let M__law_letters:=mZ T (S.df X G 42 rfl);let M__law_rule:=tG T (S.df X G 43 rfl) M__law_mixed M__law_patterns M__law_letters;let M__law_fitted:=pM T (S.df X G 44 rfl);let M__law_fits:=tA T (S.df X G 45 rfl) M__law_fitted;let M__law_cell_of:=mY T (S.df X G 46 rfl);let M__law_is_broken:=j7 T (S.df X G 47 rfl) M__law_fits M__law_cell_of;let M__law_broken:=oD T (S.df X G 48 rfl) M__law_fits M__law_is_broken;let M__law_clash:=q9 T (S.df X G 49 rfl) M__law_cell_of;let M__law_keeps:=rm T (S.df X G 50 rfl) M__law_broken;let M__law_filled:=pJ T (S.df X G 51 rfl) M__law_cell_of;let M__law_due:=wP T (S.df X G 52 rfl) M__law_letters M__law_cell_of;let M__law_step:=uh T (S.df X G 53 rfl) M__law_whole M__law_stand M__law_moved M__law_broken M__law_clash M__law_filled M__law_due;let M__law_walked:=oP T (S.df X G 54 rfl) M__law_blanks M__law_step;let M__law_word:=uQ T (S.df X G 55 rfl) M__law_whole M__law_broken M__law_clash M__law_keeps M__law_walked;let M__law_copy:=tC T (S.df X G 56 rfl);let M__law_made:=tT T (S.df X G 57 rfl) M__law_words M__law_numbers M__law_row M__law_tables M__law_stand M__law_rule;let M_law:=Jm T (S.df X G 58 rfl) M_full M__law_word M__law_copy M__law_made;exact M_law
end K41
open PySem
set_option maxRecDepth 100000 in
set_option maxHeartbeats 0 in
theorem PySem.Challenge.cw_mustrows_k41_full_step_by_step_holds : PySem.Challenge.rw_mustrows_k41_full_step_by_step.Holds := by
 refine PySem.W.holds_law K41.hl1 λsaid=>?_
 refine PySem.W.holds_open (d:=PySem.DefRec.mk "law" (L2.defArgs K41.s_law) (L2.defBody K41.s_law) (L2.defScope K41.s_law) K41.s_law.pos) (kwd:=[]) (q:=Qw PySem.Challenge.pw_mustrows_k41_full_step_by_step Ep) (loose:=[]) (Xt:=λ_=>V) (XP:=λ_ _=>True) (Yf:=L2.YfH tbK K41.defsK K41.blK csK) (Ya:=L2.YaH tbK K41.defsK K41.blK csK) (YP:=L2.YH tbK K41.defsK K41.blK csK) (N:=2000) ?hl L2.yh_of L2.yh_keeps (λ_ _=>trivial) (λ_ _ _ _ _=>trivial) (by kernel_rfl) (by kernel_rfl) (by kernel_rfl) (λs _=>PySem.W.recFacts_of (by kernel_rfl)) (by kernel_rfl) said K41.hl7 ⟨rfl,rfl,rfl,rfl,rfl,by decide +kernel⟩ ?hw ?hc
 case hl=>exact K41.hl0
 case hw=>w_witness2
 case hc=>
  refine L2.walk_N (l:=PySem.Challenge.rw_mustrows_k41_full_step_by_step) (n:=63) (k:=10) (f:=K41.f_law) rfl (by decide) rfl ⟨rfl,by decide,by decide⟩ rfl (λI ht _ S L X G=>?_) (λ_ ns hl=>K41.pure ns hl)
  let h0:((67,("search_order.<locals>.<lambda>":Kr)):Kp×Kr)∈tbK:=.head _;exact K41.all_mk S X G (ht▸h0) (λq hq _=>qaa.mp (ht▸hq:q∈tbK)) (L2.map_mem L.1 (.head _))
