import PyProof.Rows.All
import Wide.All
import OpenK.AllK
import Wide.FinOn
import Lean
import PyProof.EqAt
import PyProof.EqKinds
import PyProof.TupleCall
import PyProof.DictRoadsH
import PyProof.NeKinds
import KE.KLam
import KE.KNestM
import PyProof.ConsumeWalk
import PyProof.DictIter
import PyProof.DictWalks
import PyProof.ListStr
import PyProof.ZipIter
import PyProof.EnumStmt
import PyProof.ListRange
import PyProof.Rows.SortRuns
import KE.KSortTup
import PyProof.MinMaxWalk
import PyProof.WalkInts
import KE.KMinBuiltin
import KE.KSortKey
import PyProof.DictItems
import PyProof.DictValues
import KE.KDictOf
import PyProof.DictUpdate
import PyProof.DictTruth
import PySem.Challenge.RW_mustrows_k22_renamed
set_option Elab.async false
set_option linter.all false
set_option maxRecDepth 100000
set_option maxHeartbeats 4000000
set_option compiler.extract_closed false
set_option tactic.hygienic false
local macro_rules|`(def $i:declId $s:optDeclSig $v:declVal)=>`(noncomputable def $i:declId $s:optDeclSig $v:declVal)
local macro_rules|`(abbrev $i:declId $s:optDeclSig $v:declVal)=>`(noncomputable abbrev $i:declId $s:optDeclSig $v:declVal)
local macro_rules|`(tactic|obtain $p:rcasesPatMed:=$e:term)=>do
  let n:=(p.raw.reprint.getD "").foldl (λn c=>if c==',' then n+1 else n) 0
  let q:=Lean.mkIdent `hzz
  if n<2 then `(tactic|rcases $e:term with $p:rcasesPatMed) else `(tactic|(refine Classical.byContradiction fun $q=>?_;rcases $e:term with $p:rcasesPatMed;refine $q ?_;clear $q))
local macro_rules|`(nonrec theorem $i:declId $s:declSig $v:declVal)=>`(set_option tactic.hygienic true in theorem $i:declId $s:declSig $v:declVal)
local macro_rules|`(tactic|let $x:ident$[:$t]?:=$e)=>`(tactic|have $x:ident$[:$t]?:=$e)
local macro_rules|`(Qq $x)=>`(Option $x)
local macro_rules|`(Qw $x)=>`(List $x)
local macro_rules|`(tactic|simp! [$xs,*] $[$l:location]?)=>`(tactic|simp only [$xs,*] $[$l:location]?)
local macro_rules|`(tactic|let $p:term:=$e:term)=>do
  let P:=`Lean.Parser.Tactic
  let N:=λn a=>Lean.mkNode (P++n) a
  let z:=λa=>Lean.mkNode Lean.nullKind a
  let r:=p.raw.rewriteBottomUp λs=>if s.isIdent then N `rcasesPat.one #[s] else if s.getKind==`Lean.Parser.Term.hole then N `rcasesPat.ignore #[s[0]] else if s.getKind==`Lean.Parser.Term.anonymousCtor then N `rcasesPat.tuple #[s[0],z (s[1].getArgs.mapIdx λi x=>if i%2==0 then N `rcasesPatLo #[N `rcasesPatMed #[z #[x]],z #[]] else x),s[2]] else s
  let q:Lean.TSyntax (P++`rcasesPatMed):=⟨N `rcasesPatMed #[z #[r]]⟩
  `(tactic|obtain $q:rcasesPatMed:=$e:term)
open List renaming mem_map→mt,mem_singleton→on,mem_cons→qaa,mem_append→qab,all_eq_true→qac,mem_range→qad,nodup_cons→qae,mem_filter→qaf,mem_iff_getElem→qag,mem_reverse→qah,pairwise_cons→qai,pairwise_iff_getElem→qaj,pairwise_map→qak,length_eq_zero_iff→qal,length_pos_iff→qam,nodup_append→qan,mem_flatMap→qao,perm_middle→qap,cons→qaq,set→qar,count_eq_zero→qas,idxOf_lt_length_iff→qat,getElem_inj→qau,take_sublist→qav,set_comm→qaw,mem_take_iff_getElem→qax,reverse_append→qay,perm_append_comm→qaz,pairwise_append→qaA,pairwise_reverse→qaB,filter_cons→qaC,mem_filterMap→qaD,flatMap_cons→qaE,any_eq_true→qaF,append_of_mem→qaG,map_inj_right→qaH,count_append→qaI,filter_append→qaJ,count_pos_iff→qaK,filter_sublist→qaL
open PySem renaming wpAny_bind→HJ,wpAny_pure→HK,Value→HM,Shared→HN,Addr→HZ,Spec→H9,Around→Ia,Str→Ih,wpAny_call_entry→Ii,wpAny_holding→Ij,wpAny_newObj_type→Ir,SetTable→IA,wpAny_callSpecial?_slot→IC,wpAny_Call_Name_kw→IN,codeAny_builtin→IW,Program→IZ,mem_of_lookup→Jc,wpAny_truthy_bool→Jh,wpAny_seqItems→Jk,plainId_quiet→Jo,Stmt→Jp,Heap→Jr,wpAny_rule→Ju,wpAny_mono→Jv,wpAny_setState_of→Jx,wpAny_setField_rec→Jy,World→JA,wpAny_setField→JN,wpAny_updateSeq→JS,wpAny_notOrdered_dict→Kd,wpAny_isInstance→Kf,Scope→Kg,DictEntry→Kk,wpAny_typeOf→Kn,wpAny_Name→Kr,NameKind→Kt,wpAny_specialOf→Kx,wpAny_dictEntries→KA,wpAny_tryCatch→KP,wpAny_forIn_list→KQ,wpAny_Expr_any→KR,wpAny_letGo→KZ,wpAny_field→K0,sizeLine_eq→K1,call_meets→K2,wpAny_passesOwn→K5,wpAny_attempt→K6,wpAny_pyIter_list→Lb,slot_dict_getitem→Ld,Builtin→Lo,wpAny_setEntries_of→Lr,wpAny_comprehension_free→Lw,list_append→Ly,wpAny_pyIter_slot→LM,wpAny_fieldsOf→LN,wpAny_Call_method_late→LO,wpAny_Assign_Name→LR,Obj→LW,wpAny_isTrue_Compare1→L5,wpAny_typeNameOfWhole_itemiter→L8,Result→L9,wpAny_typeNameOfWhole_keyiter→Mj,wpAny_of_eq→Ml,wpAny_loadPart'→Mr,codeAny_mono→Mx,wpAny_load→ME,isSubtype_stop→MF,IsItemIter→MJ,wpAny_storeSet_of→MO,wpAny_sequenceKey→MP,wpAny_Return_some→MQ,Pos→MR,wpAny_typeNameOf_keyiter→MT,wpAny_handled→MU,wpAny_askSetting→Nb,wpAny_Call_method0_late→Nc,Arguments→Ni,wpAny_pyNext_list_item→Nk,wpAny_isOneOf_itemiter→Nl,wpAny_call→Nn,evalArgs_none→Np,wpAny_execs_nil→Nt,wpAny_dictEpoch→Nu,wpAny_pyNext_list_end→Nz,wpAny_throw→NG,wpAny_runValue→NH,codeAny_extend_loopS→NI,callType_codes→NJ,FuncData→NN,wpAny_standAt→NZ,Sem→N1,entry_dict_getitem→N6,IsPair→Oa,wpAny_assign_Name→Oq,concat_meets→Ox,args_dict_getitem→Oz,boot_len→OA,noFill_tuple_add→OM,ItemsOf→Pa,wpAny_newTuple→Pb,entryFor_alias→Pf
open PySem.Heap renaming get?_push_of_some→HL,get?_push_size→HO,get?_update_other→HX,lt_size→H6,get?_update_self→H7,SameBut→IM,size_push→IP,get?_none_of_le→La,ExtBut→MA
open List renaming map_cons→HP,mem_of_getElem?→HR,length_map→HT,getElem?_set_ne→H0,length_cons→H3,mem_map_of_mem→H4,getElem?_map→H8,mem_cons_of_mem→Ic,mem_cons_self→Ik,map_append→Ip,range→Iu,all_cons→Iw,map_map→Ix,all_eq_true→Iz,mem_cons→ID,getElem?_set_self→IE,length_append→IJ,size_toArray→IR,nodup_append→IS,getElem?_cons_succ→IT,getElem?_cons_zero→Jb,not_mem_nil→Je,nodup_nil→Jf,append_assoc→Jg,map_congr_left→Jj,drop_eq_getElem_cons→Jl,getElem?_append_left→Jz,length_filter_le→JC,getElem?_eq_getElem→JE,set_cons_zero→JJ,set_cons_succ→JK,pairwise_append→JO,mem_append_left→JQ,getElem_mem→JR,take_of_length_le→J2,getD_eq_getElem?_getD→J3,nodup_cons→J8,length→J9,append_nil→Ka,mem_singleton→Km,take_append_drop→Ko,length_nil→Ku,count_eq_zero_of_not_mem→KN,all_map→KO,perm_ext_iff_of_nodup→K7,mem_erase_of_ne→K8,getElem?_append_right→K9,extract_eq_take_drop→Lg,zipWith→LA,length_range→LB,getElem?_set→LC,map_snd_zip→LJ,map_fst_zip→LK,length_take→LL,mem_filter→L6,foldl_cons→L7,set_set→Mg,all_nil→Mh,ext_getElem?→Mz,map_take→MC,pairwise_singleton→MK,nodup_range→ML,drop_of_length_le→MS,mem_append→MX,mem_append_right→MZ,getElem?_toArray→Na,getElem_of_mem→Nw,filterMap_cons→Nx,map_drop→NB,reverse_perm→NP,mem_map→NQ,eraseIdx_eq_take_drop_succ→NV,zipIdx_cons→N2,lookup_cons→N3,drop_length→N4,of_mem_zip→Oh,nil_append→Oi,length_set→Oj,idxOf_cons→Ol,forIn_cons→Om,replicate→OH,length_eraseIdx_of_lt→OI,getElem?_zip_eq_some→OR,length_erase_of_mem→OY,getElem?_take_of_lt→OZ,getElem?_singleton→O4,pairwise_lt_range→O8,length_pos_of_mem→O9,modify_zero_cons→Pj,modify_succ_cons→Pk,length_singleton→Pl,eq_nil_or_concat→Pm,dropLast_eq_take→Pn,concat_eq_append→Po,getElem_toArray→Ps
open Nat renaming le_refl→HQ,ne_of_lt→Il,zero_le→Im,lt_succ_self→IY,le_trans→Ja,strongRecOn→Jq,ne_of_gt→JI,lt_irrefl→J0,le_succ→Kl,zero_add→KS,not_lt_zero→KT,lt_trichotomy→LF,lt_succ_of_lt→LG,min_eq_left→Me,add_sub_cancel'→Mf,succ_pos→Mm,mod_lt→MV,blt→MW,lt_of_lt_of_le→NK,mul_succ→NT,lt_or_ge→NU,le_add_right→N9,add_assoc→O3,add_sub_cancel_left→O7,lt_trans→Ph,le_of_lt→Pi
open PyProof.Rows renaming Keyed→HU,wpS_bind→HV,wpS_pure→H5,SortSt→II,wpS_forRange→Jw,callWith_builtin1→JZ,wpS_mono→Kz,wpS_modify→KC,callWith_type1→KF,SortKind→Lx,wpS_get→MN,Subscript_→No,wpS_lift→NF,plain_sorted→Os,entry_sorted→Ov,args_sorted1→Oy,kind_sorted→OV,tail_any→Pe
open Bool renaming and_eq_true→HW,false_eq_true→Ig,false_ne_true→JM,true_and→KW,and_true→KY,not_eq_true'→K3,eq_iff_iff→Lp,not_true→NC,not_eq_false'→NE,or_eq_true→Oo,or_false→O1
open List.Nodup renaming length_le_of_subset→H2,idxOf_getElem→N5
open Ne renaming symm→Ib
open PySem.Calls renaming spliced_cons→Ie,spliced_nil→IX,callWith_builtin→JX,Name_function_global→JY,call_function_entry→Kp,loadGlobal_global→KB,evalArgs_plain→LX
open PySem.SetTable renaming below→Io,turns→Iy,runEnd→IB,Probe→Jt,bits→JB,grown→Kc,insertAt→Lq,advance→Lz,toList_insertAt→Mq,insertAt_perm→MB,leap→Nd,sizeAbove→Nj,fresh→N0,slot→Of,probeStart→O2,layClean→Pg
open PySem.Obj renaming data_mapFields→IF,mapSeq→IK,isFreed_of_fields→JD,mapFields→JF,cls_mapFields→K4,putSet→LV,data_mapDictKeys→Nq,isFreed_of_dict→NA
open PySem.Heap.SameBut renaming update→IG
open PyProof.Rows.SortSt renaming mk'→IQ
open PySem.Str renaming ofString→IU,length_append→LD
open Array renaming toList_append→IV,getElem?_eq_getElem→Jd,getElem?_toList→Ji,length_toList→J6,toList_push→Kh,getElem?_eq_none→Ki,toList_extract→LY,getElem_toList→LZ,getElem?_setIfInBounds→L4,forIn_toList→Mn,toList_reverse→Nh,size_extract→ND,toList_setIfInBounds→OF,getD→OG,getElem?_replicate→OU,toList_modify→Pw
open ForInStep renaming yield→Jm,done→NY
open PySem.Value renaming none→JG,type→JW,ref→Kq
open Option.some renaming inj→JT,injEq→KJ
open PySem.Builtin.Tuple renaming tupleHashOf→JU
open PySem.Shared renaming TypeIs→JV
open Classical renaming byContradiction→J4
open PySem.Builtin.List renaming listSameRef→J7,listExtendWith→LI,listTooLong→NS
open PySem.SetTable.layClean renaming free→Kb
open PySem.F renaming plainAttrs_list→Ke,slot_list_append→KV,args_list_append_2→Lh,plainAttrs_dict→Ll,entry_list_append→Lm,plain_min_loop→Lu,type_list_append→Mu,args_tuple_add_2→Mw,entry_tuple_add→My,slot_tuple_add→MG,entry_min_loop→MH,entry_proto_collect→Nr,plain_extend_loop→NO,plain_list_iadd→Ob,entry_list_iadd→Oe,type_list_extend→OB,type_dict_update→OC,slot_list_extend→OD,slot_dict_update→OE,slot_dict_itemiterator_next→OJ,slot_dict_itemiterator_iter→OK,slot_dict_keyiterator_next→OT,slot_dict_get→OX,slot_tuple_iterator_next→O6
open PySem.SetTable.probe renaming go→Kj
open Int renaming emod_nonneg→Kv,toNat_natCast→Kw,eq_ofNat_of_zero_le→Lv,natCast_nonneg→NL,emod_lt_of_pos→NM,zero_add→NX
open Break.runK renaming match_1→Ky
open PySem.PassesOwn renaming never→KG
open List.cons renaming injEq→KH
open PySem.Builtin.Str renaming strSliceIndices→KM
open List.Perm renaming refl→KU,append_left→MI,swap→NW
open PySem.NameKind renaming free→Le,cell→Nf
open PySem.W renaming kia_one→Li,callWith_K→Lj,keepIn→N7,CodeHd→N8,kat_cons→Ou,view→OO,fnOf→OP,cellsFrom_some→OQ
open PySem.Builtin.Dict renaming showsAll→Ln
open Prod.mk renaming injEq→LH
open PySem.SetTable.below renaming go→LU
open Nat.succ renaming inj→L0
open List.Pairwise renaming nil→L3
open PySem.IsL renaming update→Ms
open PySem.Builtin.Dict_items renaming pairFromOwner→MD
open PySem.SeqAt renaming EqAt→MM
open PySem.SeqAt.EqAt renaming int_int→MY,str_str→OW
open PySem.Builtin.SmallTypes renaming nextOf→Ng
open Sum renaming inl→Nv
open PySem.AutoSeq1 renaming list_extend_list_list_0→Ny,wpAny_loadPart'→Op
open PySem.Code renaming builtin→NR
open PySem.PyData renaming keyHash→Og
open Function renaming comp→On,comp_def→Pp
open PySem.pickOrder renaming go→Ot
open LawfulMonad renaming pure_bind→OL
open PySem.Txt renaming join→ON
open Eq renaming trans→O0
open PySem.ItemsOf renaming nil→O5
open Prod renaming ext→Pq
open PyProof.Rows.F renaming entry_set_update_loop→Pu
open Option renaming some→U,none→B
open Bool renaming false→Y,true→V
namespace L2
open PySem PySem.W
def defArgs (s:Jp):Ni:=match s with
 |.FunctionDef _ a _ _ _ _ _ _ _ _=>a
 |_=>{posonlyargs:=[],args:=[],vararg:=B,kwonlyargs:=[],kw_defaults:=[],kwarg:=B,defaults:=[]}
def defBody (s:Jp):Qw Jp:=match s with
 |.FunctionDef _ _ b _ _ _ _ _ _ _=>b
 |_=>[]
def defScope (s:Jp):Kg:=match s with
 |.FunctionDef _ _ _ _ _ _ sc _ _ _=>sc
 |_=>{kind:=.function,names:=[],isGenerator:=Y,isCoroutine:=Y}
def CW (h:Jr):Frag:=(Iu h.objs.size).filterMap λa=>(h.get? a).bind λo=>if(o.cls != .none||a==mainGlobals)&&o.cls != .type "list" then U (a,o) else B
abbrev FSig:=Ih×Ih×Ni×FuncBody×Kg×HZ×Qw (Ih×HZ)×HM×HZ
def yh (fd:NN):FSig:=(fd.name,fd.qualname,fd.params,fd.body,fd.scope,fd.globals,fd.closure,fd.defaults,fd.builtins)
def FS (K:Frag) (x:Ih):Qq FSig:=match nsIn K mainGlobals x with
 |some (U (.ref f))=>(match K.lookup f with
  |some ⟨_,_,.func fd,_⟩=>if codeIn K fd.code x then U (yh fd) else B
  |_=>B)
 |_=>B
def yZ (x:Ih) (st:Jp):FSig:=(x,x,defArgs st,.stmts (defBody st),defScope st,mainGlobals,[],.none,builtinsNs)
def rG (K:Frag) (x:Ih):Qq HM:=match nsIn K mainGlobals x with
 |some (U (.ref f))=>(match K.lookup f with
  |some ⟨_,_,.func fd,_⟩=>U fd.code
  |_=>B)
 |_=>B
def FQ (n:String):Qq (Qq HM)->Bool|some (U (.builtin y))=>y==n|_=>Y
def noA:Qq (Qq HM)->Bool|some B=>V|_=>Y
def Gq:Qq HM->Bool|some (.type y)=>y=="function"|_=>Y
def Hq (K:Frag) (C:HZ) (ns:Qw Ih):Bool:=keepIn K (.ref C)&&makesIn K C&&plainOver K C&&hasDictIn K C&&FQ "object.__getattribute__" (findIn K (.ref C) "__getattribute__")&&FQ "object.__setattr__" (findIn K (.ref C) "__setattr__")&&ns.all λn=>noA (findIn K (.ref C) n)
def FW (K:Frag) (c q:Ih) (ns:Qw Ih):Qq FSig:=match nsIn K mainGlobals c with
 |some (U (.ref C))=>if Hq K C ns then(match findIn K (.ref C) "__init__" with
  |some (U (.ref f))=>if Gq (typeIn K (.ref f)) then(match K.lookup f with
   |some ⟨_,_,.func fd,_⟩=>if codeIn K fd.code q then U (yh fd) else B
   |_=>B) else B
  |_=>B) else B
 |_=>B
def F0 (q:Ih) (st:Jp):FSig:=("__init__",q,defArgs st,.stmts (defBody st),defScope st,mainGlobals,[],.none,builtinsNs)
abbrev KL:=Qw ((Ih×Ih)×Qw Ih×Jp)
def FT:LW:={cls:=.none,data:=.fields #[]}
abbrev Tb:=Qw (HZ×Ih)
def YfH (tb:Tb) (kl:KL) (defs:Qw (Ih×Jp)) (bl:Qw Ih) (cs:Qw (Ih×HZ)) (s:HN):=
 (λ(h:Jr) (K:Frag)=>(kl.map (λp=>FW K p.1.1 p.1.2 p.2.1),defs.map (λp=>FS K p.1),bl.map (nsIn K mainGlobals),cs.map (λp=>rG K p.1),tb.map (λq=>h.get? q.1),(tb.zip cs).map (λq=>codeHdIn K q.2.2 q.1.1),tb.map (λq=>K.lookup q.1))) s.heap (CW s.heap)
def YaH (tb:Tb) (kl:KL) (defs:Qw (Ih×Jp)) (bl:Qw Ih) (cs:Qw (Ih×HZ)) (_:JA):=
 (kl.map (λp=>U (F0 p.1.2 p.2.2)),defs.map (λp=>U (yZ p.1 p.2)),bl.map (λ_=>U (B:Qq HM)),cs.map (λp=>U (Kq p.2)),tb.map (λ_=>U FT),(tb.zip cs).map (λ_=>V),tb.map (λ_=>(B:Qq LW)))
end L2
namespace K22
open PySem L2
def top (i:Nat):Jp:=PySem.Challenge.pw_mustrows_k22_renamed.main.body.getD i (.Pass ⟨0,0,0,0⟩)
def GH:Jp->Jp|.ClassDef _ _ _ b .. =>b.headD (.Pass ⟨0,0,0,0⟩)|s=>s
abbrev jU:Jp:=top 1
abbrev fJ:Jp:=top 4
abbrev kZ:Jp:=top 3
abbrev eI:Jp:=top 7
abbrev jf:Jp:=top 15
abbrev du:Jp:=top 16
abbrev cm:Jp:=GH (top 9)
abbrev pn:Jp:=top 18
abbrev fU:Jp:=top 17
abbrev v9:Jp:=top 21
abbrev lC:Jp:=top 20
abbrev iv:Jp:=top 19
abbrev sU:Jp:=top 13
abbrev dS:Jp:=top 12
abbrev rm:Jp:=top 14
abbrev f9:Jp:=top 11
abbrev sg:Jp:=top 10
abbrev dO:Jp:=top 8
abbrev nz:Jp:=top 6
abbrev iC:Jp:=top 23
abbrev iA:Jp:=top 24
abbrev iB:Jp:=top 25
abbrev fK:Jp:=top 26
abbrev iz:Jp:=top 27
abbrev kT:Jp:=top 28
abbrev gF:Jp:=top 29
abbrev il:Jp:=top 30
abbrev fj:Jp:=top 31
abbrev iw:Jp:=top 32
abbrev gC:Jp:=top 33
abbrev dP:Jp:=top 34
abbrev jS:Jp:=top 35
abbrev gv:Jp:=top 36
abbrev fL:Jp:=top 37
abbrev ic:Jp:=top 38
abbrev jW:Jp:=top 39
abbrev s_law:Jp:=top 40
abbrev blK:Qw Ih:=["bool","dict","enumerate","int","isinstance","len","list","min","range","set","sorted","str","tuple","zip"]
abbrev bO:Qw Ih:=["rows","colours"]
def defsK:Qw (Ih×Jp):=([("blanks_of",jU),("cluster_from",fJ),("clusters",kZ),("rows_of_names",eI),("counts_of",jf),("pairs_of_alone",du),("part_of",pn),("loose_parts",fU),("shade",v9),("looks_of",lC),("told_apart",iv),("rarity",sU),("blank_to_mark",dS),("marked",rm),("part_paired",f9),("paired",sg),("plain_colours",dO),("renamed",nz)]:Qw (Ih×Jp))++([("_law_whole",iC),("_law_mixed",iA),("_law_words",iB),("_law_numbers",fK),("_law_drawn",iz),("_law_row",kT),("_law_tables",gF),("_law_stand",il),("_law_is_cell",fj),("_law_moved",iw),("_law_blanks",gC),("_law_is_moves",dP),("_law_same",jS),("_law_orders",gv),("_law_any_way",fL),("_law_right",ic),("_law_bent",jW),("law",s_law)]:Qw (Ih×Jp))
def klK:KL:=[(("Painted","Painted.__init__"),bO,cm)]
end K22
section
open PySem
def BU:Qw Nat:=((PySem.Challenge.pw_mustrows_k22_renamed.main.body.zipIdx.filter λp=>match p.1 with|.FunctionDef .. =>V|.ClassDef .. =>V|_=>Y).map (·.2))
def tbK:L2.Tb:=[(83,"blank_to_mark.<locals>.<lambda>")]
def csK:Qw (Ih×HZ):=[("blank_to_mark",87)]
set_option maxHeartbeats 0 in
theorem K22.hl0:PySem.W.LeftO PySem.Challenge.rw_mustrows_k22_renamed.row.prog (OO PySem.Challenge.pw_mustrows_k22_renamed BU) [] (λ_=>V) (L2.YfH tbK K22.klK K22.defsK K22.blK csK) (L2.YaH tbK K22.klK K22.defsK K22.blK csK) 2000:=λw=>by kernel_rfl
set_option maxHeartbeats 0 in
theorem K22.hl1:PySem.Challenge.rw_mustrows_k22_renamed.wellSaid=V:=by kernel_rfl
set_option maxHeartbeats 0 in
theorem K22.hl7:(PySem.W.chainsOk (OO PySem.Challenge.pw_mustrows_k22_renamed BU)&&PySem.W.opensWell PySem.Challenge.rw_mustrows_k22_renamed.row.prog&&(PySem.W.frees PySem.Challenge.rw_mustrows_k22_renamed.row.toRowW&&PySem.Challenge.rw_mustrows_k22_renamed.row.within.isEmpty))=V:=by kernel_rfl
end
namespace L2
open PySem PySem.Spec PyProof.Rows
abbrev Key:=Sum Int Ih
inductive D where
 |non|bl (b:Bool)|int (i:Int)|str (x:Ih)|tup (ds:Qw D)|lst (ds:Qw D)|dK (ks:Qw Key) (vs:Qw D)
 |dD (ks vs:Qw D)|ob (c:Ih) (ks:Qw Ih) (vs:Qw D)|dL (ks:Qw Key) (vs:Qw D)|loc (c:Qq Ih) (j:Nat)|ptr (a:HZ)
mutual
noncomputable def D.beq:D->D->Bool
 |.non,.non=>V
 |.bl a,.bl b=>a==b
 |.int a,.int b=>a==b
 |.str a,.str b=>decide (a=b)
 |.tup a,.tup b=>D.beqs a b
 |.lst a,.lst b=>D.beqs a b
 |.dK ka a,.dK kb b=>decide (ka=kb)&&D.beqs a b
 |.dD ka a,.dD kb b=>D.beqs ka kb&&D.beqs a b
 |.ob c k a,.ob d l b=>decide (c=d)&&decide (k=l)&&D.beqs a b
 |.dL ka a,.dL kb b=>decide (ka=kb)&&D.beqs a b
 |.loc a i,.loc b j=>decide (a=b)&&decide (i=j)
 |.ptr a,.ptr b=>decide (a=b)
 |_,_=>Y
noncomputable def D.beqs:Qw D->Qw D->Bool
 |[],[]=>V
 |a::as,b::bs=>D.beq a b&&D.beqs as bs
 |_,_=>Y
end
mutual
theorem D.beq_iff:∀(a b:D),D.beq a b=V↔a=b
 |.non,b=>by cases b<;>simp[D.beq]
 |.bl a,b=>by cases b<;>simp[D.beq]
 |.int a,b=>by cases b<;>simp[D.beq]
 |.str a,b=>by cases b<;>simp[D.beq]
 |.tup a,b=>by cases b<;>simp[D.beq];exact D.beqs_iff a _
 |.lst a,b=>by cases b<;>simp[D.beq];exact D.beqs_iff a _
 |.dK ka a,b=>by cases b<;>simp[D.beq];rw[D.beqs_iff a];simp
 |.dD ka a,b=>by cases b<;>simp[D.beq];rw[D.beqs_iff ka,D.beqs_iff a]
 |.ob c ka a,b=>by cases b<;>simp[D.beq];rw[D.beqs_iff a,and_assoc]
 |.dL ka a,b=>by cases b<;>simp[D.beq];rw[D.beqs_iff a];simp
 |.loc c a,b=>by cases b<;>simp[D.beq]
 |.ptr a,b=>by cases b<;>simp[D.beq]
theorem D.beqs_iff:∀(a b:Qw D),D.beqs a b=V↔a=b
 |[],b=>by cases b<;>simp[D.beqs]
 |a::as,b=>by cases b<;>simp[D.beqs];rw[D.beq_iff a,D.beqs_iff as]
end
noncomputable instance:DecidableEq D:=λa b=>if h:D.beq a b=V then isTrue ((D.beq_iff a b).mp h) else isFalse λe=>h ((D.beq_iff a b).mpr e)
abbrev DEnv:=Qw (Qq (D×Bool))
class Md where
 P:IZ
 w:JA
 K:PySem.W.Frag
 mg:Ih->Qq HM
 base:Jr
 tb:Qw (HZ×Ih)
 os:OsState
 gens:Array GenState
open Md
variable[Md]
inductive Rl where|f|p|o (i:Nat)|q (i:Nat)|s (j:Nat)
def Rl.own:Rl->Bool|.f=>Y|.p=>Y|_=>V
def Rl.uq:Rl->Bool|.o _=>V|.s _=>V|_=>Y
abbrev Mp:=HZ->Qq (Rl×LW)
def upd (M:Mp) (a:HZ) (x:Qq (Rl×LW)):Mp:=λb=>if b=a then x else M b
omit [Md] in
theorem ah {M:Mp}:upd M a x a=x:=if_pos rfl
omit [Md] in
theorem ai {M:Mp}(h:b≠a):upd M a x b=M b:=if_neg h
def Rl.ok (m:Bool):Rl->Bool|.f=>V|.p=>Y|_=>m
def Rd (m:Bool) (M:Mp) (a:HZ) (o:LW):Prop:=∃k,M a=U (k,o)/\k.ok m=V
def Sub (m:Bool) (M:Mp) (m':Bool) (M':Mp):Prop:=∀a o,Rd m M a o->Rd m' M' a o
def Ext (M M':Mp):Prop:=∀a,M' a=M a\/(M a=B/\∃o,M' a=U (.f,o))
def Ext.refl:Ext M M:=λ_=>.inl rfl
def Ext.trans (h:Ext M N) (g:Ext N O):Ext M O:=λa=>by
 rcases h a with e|⟨e,o,e'⟩<;>rcases g a with q|⟨q,o',q'⟩<;>grind
def Ext.sub (h:Ext M M'):Sub m M m M':=λa o ⟨k,e,hk⟩=>⟨k,by rcases h a with z|z<;>grind,hk⟩
def cT:Nat->D->Bool
 |_,.int _=>V
 |_,.str _=>V
 |n+1,.tup ds=>ds.all (cT n)
 |_,_=>Y
mutual
noncomputable def cK (w:JA):D->Int
 |.int i=>hashInt i
 |.str x=>hashStr w x
 |.tup ds=>reduceHash (JU (r7 w ds))
 |_=>0
noncomputable def r7 (w:JA):Qw D->Qw Int
 |[]=>[]
 |d::ds=>cK w d::r7 w ds
end
def xN:D->Bool|.tup _=>V|_=>Y
def LstO (o:LW) (vs:Qw HM):Prop:=vs.length<=sizeLine/\∃n,o={cls:=.type "list",data:=.seq vs.toArray n}
def TupO (o:LW) (vs:Qw HM):Prop:=(vs.length<=sizeLine/\o.dict=B)/\o.cls=.type "tuple"/\∃n,o.data=.seq vs.toArray n
def kD:Key->D
 |.inl i=>.int i
 |.inr x=>.str x
def kOk:Bool->D->Bool
 |b,.int _=>!b
 |b,.str _=>!b
 |b,.tup ds=>b&&cT 8 (.tup ds)
 |_,_=>Y
def DcO (b:Bool) (o:LW) (ks:Qw D) (us vs:Qw HM):Prop:=ks.length<=sizeLine/\o.ExactDict/\ks.Nodup/\ks.all (kOk b)=V/\∃es ep,o.data=.dict es ep/\
 es.toList.map (·.hash)=ks.map (cK w)/\es.toList.map (·.key)=us/\es.toList.map (·.val)=vs
def Ks:Qw Key->Qw HM->Prop
 |[],vs=>vs=[]
 |.inl i::ks,vs=>∃t r,vs=.int i t::r/\Ks ks r
 |.inr x::ks,vs=>∃t r,vs=.str x t::r/\Ks ks r
def InsO (c:Ih) (o:LW) (a:HZ):Prop:=∃C,mg c=U (.ref C)/\o=PySem.W.instObj C a
def At:Qw Ih->Qw HM->Qw Kk->Prop
 |[],vs,es=>vs=[]/\es=[]
 |k::ks,vs,es=>∃v r e t tk,vs=v::r/\es=e::t/\e.key=.str k tk/\e.val=v/\At ks r t
def AtO (o:LW) (ks:Qw Ih) (vs:Qw HM):Prop:=ks.Nodup/\ks.length<=100/\∃es n,o=PySem.W.dictOf es n/\At ks vs es
mutual
noncomputable def R (m:Bool) (M:Mp):D->HM->Prop
 |.non,v=>v=.none
 |.bl b,v=>v=.bool b
 |.int i,v=>∃t,v=.int i t
 |.str x,v=>∃t,v=.str x t
 |.tup ds,v=>∃a o vs,v=.ref a/\Rd m M a o/\TupO o vs/\Rs m M ds vs
 |.lst ds,v=>∃a o vs,v=.ref a/\Rd m M a o/\LstO o vs/\Rs m M ds vs
 |.dK ks ds,v=>∃a o us vs,v=.ref a/\Rd m M a o/\DcO Y o (ks.map kD) us vs/\Ks ks us/\Rs m M ds vs
 |.dD ks ds,v=>∃a o us vs,v=.ref a/\Rd m M a o/\DcO V o ks us vs/\Rs m M ks us/\Rs m M ds vs
 |.ob c ks ds,v=>∃x ox a o vs,v=.ref x/\Rd m M x ox/\InsO c ox a/\Rd m M a o/\AtO o ks vs/\Rs m M ds vs
 |.dL _ _,_=>False
 |.loc _ _,_=>False
 |.ptr a,v=>v=.ref a
noncomputable def Rs (m:Bool) (M:Mp):Qw D->Qw HM->Prop
 |[],vs=>vs=[]
 |d::ds,vs=>∃v r,vs=v::r/\R m M d v/\Rs m M ds r
end
def Cm (m:Bool) (M:Mp):D->LW->Prop
 |.lst ds,o=>∃vs,LstO o vs/\Rs m M ds vs
 |.dK ks ds,o=>∃us vs,DcO Y o (ks.map kD) us vs/\Ks ks us/\Rs m M ds vs
 |.dD ks ds,o=>∃us vs,DcO V o ks us vs/\Rs m M ks us/\Rs m M ds vs
 |_,_=>False
abbrev C (M:Mp):D->LW->Prop:=Cm Y M
mutual
theorem R.to (h:Sub m M m' M'):∀{d v},R m M d v->R m' M' d v
 |.non,v,r=>by exact r
 |.bl b,v,r=>by exact r
 |.int i,v,r=>by exact r
 |.str x,v,r=>by exact r
 |.tup ds,v,r=>by let⟨a,o,vs,e,q,t,rs⟩:=r;exact⟨a,o,vs,e,h _ _ q,t,Rs.to h rs⟩
 |.lst ds,v,r=>by let⟨a,o,vs,e,q,t,rs⟩:=r;exact⟨a,o,vs,e,h _ _ q,t,Rs.to h rs⟩
 |.dK ks ds,v,r=>by let⟨a,o,us,vs,e,q,t,rk,rs⟩:=r;exact⟨a,o,us,vs,e,h _ _ q,t,rk,Rs.to h rs⟩
 |.dD ks ds,v,r=>by let⟨a,o,us,vs,e,q,t,rk,rs⟩:=r;exact⟨a,o,us,vs,e,h _ _ q,t,Rs.to h rk,Rs.to h rs⟩
 |.ob c ks ds,v,r=>by let⟨x,ox,a,o,vs,e,q,i,p,t,rs⟩:=r;exact⟨x,ox,a,o,vs,e,h _ _ q,i,h _ _ p,t,Rs.to h rs⟩
 |.dL _ _,v,r=>by exact r
 |.loc _ _,v,r=>by exact r
 |.ptr _,v,r=>by exact r
theorem Rs.to (h:Sub m M m' M'):∀{ds vs},Rs m M ds vs->Rs m' M' ds vs
 |[],vs,r=>r
 |d::ds,vs,r=>by let⟨v,r,e,h1,h2⟩:=r;exact⟨v,r,e,h1.to h,Rs.to h h2⟩
end
def Cm.to (c:Cm m M d o) (h:Sub m M m' M'):Cm m' M' d o:=by
 cases d with
 |lst ds=>let⟨vs,h1,h2⟩:=c;exact⟨vs,h1,h2.to h⟩
 |dK ks ds=>let⟨us,vs,h1,h2,h3⟩:=c;exact⟨us,vs,h1,h2,h3.to h⟩
 |dD ks ds=>let⟨us,vs,h1,h2,h3⟩:=c;exact⟨us,vs,h1,h2.to h,h3.to h⟩
 |_=>exact c
def Cm.rep (c:Cm m M d o) (h:Sub m M m' M') (q:Rd m' M' a o):R m' M' d (.ref a):=by
 cases d with
 |lst ds=>let⟨vs,h1,h2⟩:=c;exact⟨a,o,vs,rfl,q,h1,h2.to h⟩
 |dK ks ds=>let⟨us,vs,h1,h2,h3⟩:=c;exact⟨a,o,us,vs,rfl,q,h1,h2,h3.to h⟩
 |dD ks ds=>let⟨us,vs,h1,h2,h3⟩:=c;exact⟨a,o,us,vs,rfl,q,h1,h2.to h,h3.to h⟩
 |_=>exact False.elim c
def Sub.weak:Sub Y M m M:=λa o ⟨k,e,h⟩=>⟨k,e,by cases k<;>simp_all [Rl.ok]⟩
def R.weak (r:R Y M d v):R m M d v:=r.to Sub.weak
def Rs.weak (r:Rs Y M d v):Rs m M d v:=r.to Sub.weak
def R.up (r:R m M d v) (h:Ext M M'):R m M' d v:=r.to h.sub
def Rs.up (r:Rs m M d v) (h:Ext M M'):Rs m M' d v:=r.to h.sub
theorem Rs.length:∀{ds vs},Rs m M ds vs->ds.length=vs.length
 |[],_,h=>by subst h;rfl
 |d::ds,_,⟨v,r,e,_,h⟩=>by subst e;simp[Rs.length h]
theorem Rs.get:∀{ds vs} {i:Nat}{d},Rs m M ds vs->ds[i]?=U d->∃v,vs[i]?=U v/\R m M d v
 |[],_,_,_,_,e=>by simp at e
 |x::ds,_,0,d,⟨v,r,rfl,h,_⟩,e=>by simp_all
 |x::ds,_,i+1,d,⟨v,r,rfl,_,h⟩,e=>by simpa using Rs.get (i:=i) h (by trivial)
theorem Rs.append:∀{ds vs es us},Rs m M ds vs->Rs m M es us->Rs m M (ds++es) (vs++us)
 |[],_,_,_,rfl,t=>t
 |d::ds,_,_,_,⟨v,r,rfl,h,h2⟩,t=>⟨v,_,rfl,h,Rs.append h2 t⟩
def Rs.one (h:R m M d v):Rs m M [d] [v]:=⟨v,[],rfl,h,rfl⟩
theorem Rs.drop:∀{ds vs} (n:Nat),Rs m M ds vs->Rs m M (ds.drop n) (vs.drop n)
 |_,_,0,h=>h
 |[],_,n+1,h=>by subst h;rfl
 |d::ds,_,n+1,⟨v,r,rfl,_,h⟩=>Rs.drop n h
theorem Rs.take:∀{ds vs} (n:Nat),Rs m M ds vs->Rs m M (ds.take n) (vs.take n)
 |_,_,0,_=>rfl
 |[],_,n+1,h=>by subst h;rfl
 |d::ds,_,n+1,⟨v,r,rfl,q,h⟩=>⟨v,_,rfl,q,Rs.take n h⟩
structure Cx where
 A:Ia
 N:Qw Ih
 env:Env
 fn:Bool
 S:Qw HZ:=[]
def Vis (sc:Kg) (x:Ih):Prop:=sc.names.lookup x=U .local\/sc.names.lookup x=U .cell\/sc.names.lookup x=U .free
def Loc (sc:Kg) (x:Ih):Prop:=sc.names.lookup x=U .local\/sc.names.lookup x=U .cell
def zj (env:Env) (h:Jr) (m:Ih->Qq HM) (x:Ih) (u:HM):Prop:=
 (env.kindOf x=U .local/\m x=U u)\/((env.kindOf x=U .cell\/env.kindOf x=U .free)/\∃c,env.cells.lookup x=U c/\h.IsCell c (U u))
structure Mod:Prop where
 kin:K.In base
 glob:base.Ns mainGlobals mg
 blt:∃mb,base.Ns builtinsNs mb/\∀x:Ih,x≠"__name__"->mb x=bootBuiltins x
 nolimit:base.NoLimit
 bmain:∃bm ob,mg "__builtins__"=U (.ref bm)/\bm≠builtinsNs/\base.get? bm=U ob/\ob.cls=.type "module"/\ob.dict=U builtinsNs/\ob.data=.plain
structure Room (k:Nat) (A:Ia):Prop where
 hd:A.handled=B
 dp:A.depth+3*k+5<recursionLimit
 un:A.units+16*k+200<cLine
structure Cx.Ok (X:Cx):Prop where
 mod:Mod
 kind:X.env.scope.kind=.function
 glob:X.env.globals=mainGlobals
 blt:X.env.builtins=builtinsNs
 inj:∀x y c,X.env.cells.lookup x=U c->X.env.cells.lookup y=U c->x=y
 has:∀x,(X.env.kindOf x=U .cell\/X.env.kindOf x=U .free)->∃c,X.env.cells.lookup x=U c
 room:Room 0 X.A
def TabOk (M:Mp) (h:Jr):Prop:=∀q∈tb,M q.1=B/\∃ps,h.get? q.1=U {cls:=.none,data:=.fields ps}/\TriplesOk ps.toList/\
 ∀pos cv,codeAmong pos ps.toList=U cv->∃c oc vs t,cv=.ref c/\M c=U (.f,oc)/\oc.data=.fields vs/\vs[1]?=U (.str q.2 t)
structure Free (X:Cx) (M:Mp) (a:HZ):Prop where
 m:M a=B
 l:a≠X.env.locals
 c:∀x,X.env.cells.lookup x≠U a
 t:∀q∈tb,a≠q.1
 s:a≠sysModules
 n:a∉X.S
structure Fre (X:Cx) (M:Mp) (a:HZ):Prop where
 m:M a=B
 l:a≠X.env.locals
 c:∀x,X.env.cells.lookup x≠U a
 t:∀q∈tb,a≠q.1
 s:a≠sysModules
def Free.fre (f:Free X M a):Fre X M a:=⟨f.m,f.l,f.c,f.t,f.s⟩
def Iq (M:Mp) (i:Nat):Qw D->Qw HZ->Prop
 |[],as=>as=[]
 |d::ds,as=>∃a r o,as=a::r/\M a=U (.q i,o)/\C M d o/\Iq M i ds r
def Vx (M:Mp) (S:Qw HZ) (n i:Nat) (u:HM):D->Prop
 |.ob c ks ds=>∃x ox a o vs,u=.ref x/\M x=U (.f,ox)/\InsO c ox a/\M a=U (.o i,o)/\AtO o ks vs/\Rs Y M ds vs
 |.dL ks ds=>∃l o us as,u=.ref l/\M l=U (.o i,o)/\DcO Y o (ks.map kD) us (as.map Kq)/\Ks ks us/\as.Nodup/\Iq M i ds as
 |.loc B j=>∃a,S[j - n]?=U a/\n<=j/\u=.ref a
 |.loc (U c) j=>∃a x ox,S[j - n]?=U a/\n<=j/\u=.ref x/\M x=U (.f,ox)/\InsO c ox a
 |_=>False
def Va (M:Mp) (S:Qw HZ) (n i:Nat) (d:D) (u:HM):Bool->Prop
 |false=>R Y M d u
 |true=>(∃a o,u=.ref a/\M a=U (.o i,o)/\C M d o)\/Vx M S n i u d
def Ca (M:Mp) (d:D) (o:LW):Prop:=C M d o\/∃c ks ds vs,d=.ob c ks ds/\AtO o ks vs/\Rs Y M ds vs
def Ow (o:LW):Prop:=o.cls≠.type "tuple"/\∀vs,o.data≠.fields vs
structure Inv (X:Cx) (M:Mp) (δ:DEnv) (s:HN):Prop where
 ok:X.Ok
 og:s.os=Md.os/\s.gens=gens
 heap:∀a k o,M a=U (k,o)->s.heap.get? a=U o
 base:∀a o,base.get? a=U o->M a=U (.p,o)
 loc:∃m,s.heap.Ns X.env.locals m/\∀i x d b,X.N[i]?=U x->δ[i]?=U (U (d,b))->Vis X.env.scope x->∃u,zj X.env s.heap m x u/\Va M X.S X.N.length i d u b
 free:M X.env.locals=B
 cell:∀x c,X.env.cells.lookup x=U c->(∃v,s.heap.IsCell c v)/\(M c=B\/(X.fn=Y/\∃o,M c=U (.p,o)))
 tabs:TabOk M s.heap
 own:∀a k o,M a=U (k,o)->k.own=V->Ow o
 uni:∀a b k o o',k.uq=V->M a=U (k,o)->M b=U (k,o')->a=b
 len:δ.length=X.N.length+X.S.length
 sto:∀(p:Nat) a d,X.S[p]?=U a->δ[X.N.length+p]?=U (U (d,V))->∃o,M a=U (.s p,o)/\Ca M d o
 sys:∀k o,M sysModules=U (k,o)->k=.p
 sx:∀a∈X.S,(∃o,s.heap.get? a=U o)/\∀k o,M a=U (k,o)->k.own=V->∃p,k=.s p
abbrev WP (X:Cx) (t:N1 α) (Q:α->HN->Prop) (s:HN):Prop:=wpAny (model P w) X.A t Q (λ_ _=>False) s
end L2
namespace L2
open PySem PySem.Spec PyProof.Rows Md
variable[Md]
def rdf:Rd Y M a o↔M a=U (.f,o):=⟨λ⟨k,e,h⟩=>by cases k<;>simp_all [Rl.ok],λe=>⟨.f,e,rfl⟩⟩
theorem Iq.to {M M':Mp}(hs:Sub Y M Y M') (ho:∀a o,M a=U (.q i,o)->M' a=U (.q i,o)):∀{ds as},Iq M i ds as->Iq M' i ds as
 |[],_,h=>h
 |d::ds,_,⟨a,r,o,e,q,c,t⟩=>⟨a,r,o,e,ho _ _ q,c.to hs,Iq.to hs ho t⟩
def Ca.to {M M':Mp}(c:Ca M d o) (h:Sub Y M Y M'):Ca M' d o:=c.imp (λc=>c.to h) λ⟨c,ks,ds,vs,e,h1,h2⟩=>⟨c,ks,ds,vs,e,h1,h2.to h⟩
def Vx.to {M M':Mp}(h:Vx M S n i u d) (hs:Sub Y M Y M') (ho:∀a k o,k=.o i\/k=.q i->M a=U (k,o)->M' a=U (k,o)):Vx M' S n i u d:=by
 let f:∀{x ox},M x=U (.f,ox)->M' x=U (.f,ox):=λq=>rdf.mp (hs _ _ (rdf.mpr q))
 cases d with
 |ob c ks ds=>let⟨x,ox,a,o,vs,h1,h2,h3,h4,h5,h6⟩:=h;exact⟨x,ox,a,o,vs,h1,f h2,h3,ho _ _ _ (.inl rfl) h4,h5,h6.to hs⟩
 |dL ks ds=>let⟨l,o,us,as,h1,h2,h3,h4,h5,h6⟩:=h;exact⟨l,o,us,as,h1,ho _ _ _ (.inl rfl) h2,h3,h4,h5,h6.to hs λa o=>ho a _ o (.inr rfl)⟩
 |loc c j=>
  cases c with
  |none=>exact h
  |some c=>let⟨a,x,ox,h1,h2,h3,h4,h5⟩:=h;exact⟨a,x,ox,h1,h2,h3,f h4,h5⟩
 |_=>exact h
def Va.to {M M':Mp}(h:Va M S n i d u b) (hs:Sub Y M Y M') (ho:∀a k o,k=.o i\/k=.q i->M a=U (k,o)->M' a=U (k,o)):Va M' S n i d u b:=by
 cases b with
 |false=>exact R.to hs h
 |true=>exact h.imp (λ⟨a,o,e,q,c⟩=>⟨a,o,e,ho _ _ _ (.inl rfl) q,c.to hs⟩) λz=>z.to hs ho
def nx:D->Bool|.ob _ _ _=>Y|.dL _ _=>Y|.loc _ _=>Y|_=>V
def Vx.nx (h:Vx M S n i u d):nx d=Y:=by cases d<;>first|rfl|exact h.elim
def Va.own (h:Va M S n i d u V) (hd:nx d=V):∃a o,u=.ref a/\M a=U (.o i,o)/\C M d o:=h.elim id λz=>by have:=z.nx;simp_all
def TabOk.to {M M':Mp}(h:TabOk M hp) (hs:Sub Y M Y M') (hn:∀q∈tb,M' q.1=B) (k:∀q∈tb,∀o,hp.get? q.1=U o->hp'.get? q.1=U o):TabOk M' hp':=λq hq=>by
 let⟨_,ps,e,t,r⟩:=h q hq;refine⟨hn q hq,ps,k q hq _ e,t,λpos cv z=>?_⟩
 let⟨c,oc,vs,t,e1,e2,e3⟩:=r pos cv z;exact⟨c,oc,vs,t,e1,rdf.mp (hs _ _ (rdf.mpr e2)),e3⟩
def qC {env:Env}{h h':Jr}(l:zj env h m x u) (k:∀c o,env.cells.lookup x=U c->h.get? c=U o->h'.get? c=U o):zj env h' m x u:=by
 rcases l with l|⟨q,c,e,o,h1,h2⟩
 ·exact .inl l
 ·exact .inr ⟨q,c,e,o,k c o e h1,h2⟩
def Lk (X:Cx) (h:Jr) (x:Ih) (u:HM):Prop:=∃m,h.Ns X.env.locals m/\zj X.env h m x u
def Lk.inj (a:Lk X h x u) (b:Lk X h x v):u=v:=by
 let⟨m,⟨o,es,ep,h1,h2,_,h3⟩,l⟩:=a;let⟨m',⟨o',es',ep',h1',h2',_,h3'⟩,l'⟩:=b;rw[h1]at h1';cases h1';rw[h2]at h2';cases h2'
 rcases l with⟨k,z⟩|⟨k,c,e,o1,z1,z2⟩<;>rcases l' with⟨k',z'⟩|⟨k',c',e',o2,z1',z2'⟩
 ·rw[<-h3,h3',z']at z;cases z;rfl
 ·rw[k]at k';simp at k'
 ·rw[k']at k;simp at k
 ·rw[e]at e';cases e';rw[z1]at z1';cases z1';rw[z2]at z2';cases z2';rfl
section
variable{X:Cx}{M M':Mp}{δ:DEnv}{s s':HN}
def Inv.mp (I:Inv X M δ s) (hs:Sub Y M Y M') (hh:∀a k o,M' a=U (k,o)->s'.heap.get? a=U o) (kp:∀b o,¬Free X M b->(∀k o',M b=U (k,o')->k=.p)->s.heap.get? b=U o->s'.heap.get? b=U o)
  (hp:∀a o,M a=U (.p,o)->(Md.base.get? a=U o\/∃x,X.env.cells.lookup x=U a)->M' a=U (.p,o)) (hn:∀a,M a=B->¬Fre X M a->M' a=B)
  (ow:∀a k o,M' a=U (k,o)->k.own=V->Ow o) (un:∀a b k o o',k.uq=V->M' a=U (k,o)->M' b=U (k,o')->a=b) (sy:∀k o,M' sysModules=U (k,o)->k=.p) (hl:δ'.length=δ.length)
  (nm:∀i x d b,X.N[i]?=U x->Vis X.env.scope x->δ'[i]?=U (U (d,b))->∃d0 b0,δ[i]?=U (U (d0,b0))/\∀u,Lk X s.heap x u->Va M X.S X.N.length i d0 u b0->Va M' X.S X.N.length i d u b)
  (st:∀(p:Nat) a d,X.S[p]?=U a->δ'[X.N.length+p]?=U (U (d,V))->(δ[X.N.length+p]?=U (U (d,V))/\∀o,M a=U (.s p,o)->M' a=U (.s p,o))\/∃o,M' a=U (.s p,o)/\Ca M' d o)
  (ex:∀a∈X.S,(∀k o,M a=U (k,o)->∃o',s'.heap.get? a=U o')/\∀k o,M' a=U (k,o)->k.own=V->(∃o',M a=U (k,o'))\/∃p,k=.s p) (hg:s'.os=s.os/\s'.gens=s.gens:=by exact⟨rfl,rfl⟩):Inv X M' δ' s':=by
 let nc:∀x c,X.env.cells.lookup x=U c->¬Fre X M c:=λx c e f=>f.c x e
 let kc:∀x c o,X.env.cells.lookup x=U c->s.heap.get? c=U o->s'.heap.get? c=U o:=λx c o e=>kp c o (λf=>nc x c e f.fre) λk o' z=>by
  rcases(I.cell x c e).2 with w|⟨_,o2,w⟩<;>rw[w]at z<;>cases z;rfl
 let⟨m,⟨oL,es,ep,h1,h2⟩,hl'⟩:=I.loc;refine⟨I.ok,⟨hg.1.trans I.og.1,hg.2.trans I.og.2⟩,hh,λa o e=>hp a o (I.base a o e) (.inl e),⟨m,⟨oL,es,ep,kp _ _ (λf=>f.l rfl) (λk o z=>by rw[I.free]at z;cases z) h1,h2⟩,λi x d b e1 e2 e3=>?_⟩,hn _ I.free λf=>f.l rfl,λx c e=>?_,I.tabs.to hs (λq h=>hn _ (I.tabs q h).1 λz=>z.t q h rfl) (λq h o=>kp _ o (λf=>f.t q h rfl) λk o' z=>by rw[(I.tabs q h).1]at z;cases z),ow,un,hl.trans I.len,λp a d e z=>(st p a d e z).elim (λ⟨z,w⟩=>by let⟨o,h1,h2⟩:=I.sto p a d e z;exact⟨o,w o h1,h2.to hs⟩) id,sy,λa ha=>?_⟩
 ·let⟨d0,b0,z1,z2⟩:=nm i x d b e1 e3 e2
  let⟨u,l,v⟩:=hl' i x d0 b0 e1 z1 e3;exact⟨u,qC l λc o=>kc x c o,z2 u ⟨m,⟨oL,es,ep,h1,h2⟩,l⟩ v⟩
 ·let⟨⟨v,o,z1,z2⟩,z3⟩:=I.cell x c e
  exact⟨⟨v,o,kc x c o e z1,z2⟩,z3.imp (λz=>hn c z (nc x c e)) λ⟨f,o,q⟩=>⟨f,o,hp c o q (.inr ⟨x,e⟩)⟩⟩
 ·let⟨⟨o,e⟩,h⟩:=I.sx a ha
  refine⟨?_,λk o z w=>((ex a ha).2 k o z w).elim (λ⟨o',z⟩=>h k o' z w) id⟩
  cases q:M a with
  |none=>exact⟨o,kp a o (λf=>f.n ha) (λk o' z=>by rw[q]at z;cases z) e⟩
  |some x=>exact(ex a ha).1 x.1 x.2 q
def Inv.wr (I:Inv X M δ s) (fp:Qw HZ) (hf:∀b∈fp,Free X M b) (k:∀b o,b∉fp->s.heap.get? b=U o->s'.heap.get? b=U o) (hg:s'.os=s.os/\s'.gens=s.gens:=by exact⟨rfl,rfl⟩):Inv X M δ s':=
 I.mp (λ_ _ h=>h) (λa r o e=>k a o (λz=>by have:=(hf a z).m;simp_all) (I.heap a r o e)) (λb o h _=>k b o λz=>h (hf b z)) (λ_ _ h _=>h) (λ_ h _=>h) I.own I.uni I.sys rfl (λi x d b _ _ e=>⟨d,b,e,λ_ _ h=>h⟩) (λp a d _ z=>.inl ⟨z,λ_ h=>h⟩) (λa _=>⟨λr o e=>⟨o,k a o (λz=>by have:=(hf a z).m;simp_all) (I.heap a r o e)⟩,λk o e _=>.inl ⟨o,e⟩⟩) hg
def Inv.kp (I:Inv X M δ s) (k:∀b o,s.heap.get? b=U o->s'.heap.get? b=U o) (hg:s'.os=s.os/\s'.gens=s.gens:=by exact⟨rfl,rfl⟩):Inv X M δ s':=I.wr [] (λ_ h=>nomatch h) (λb o _=>k b o) hg
def Inv.tok (I:Inv X M δ s):Inv X M δ {s with toks:=t}:=I.kp λ_ _ h=>h
def Inv.push (I:Inv X M δ s):Inv X M δ {s with heap:=s.heap.push o,toks:=t}:=I.kp λ_ _ h=>HL _ h
theorem Inv.re (I:Inv X M δ s) (hs:Sub Y M Y M') (ho:∀k a o,k.own=V->M a=U (k,o)->M' a=U (k,o)) (hp:∀a o,M a=U (.p,o)->(Md.base.get? a=U o\/∃x,X.env.cells.lookup x=U a)->M' a=U (.p,o))
  (hn:∀a k o,M' a=U (k,o)->M a=U (k,o)\/(s.heap.get? a=U o/\Free X M a/\k.own=Y)):Inv X M' δ s:=by
 let ow:∀{a k o},M' a=U (k,o)->k.own=V->M a=U (k,o):=λ{a k o} e h=>(hn a _ o e).elim id λz=>by have:=z.2.2;simp_all
 refine I.mp hs (λa k o e=>(hn a k o e).elim (I.heap a k o) λz=>z.1) (λ_ _ _ _ h=>h) hp (λa e hf=>?_) (λa k o e h=>I.own a k o (ow e h) h) (λa b k o o' h e e'=>I.uni a b k o o' h (ow e (by cases k<;>first|rfl|cases h)) (ow e' (by cases k<;>first|rfl|cases h))) (λk o e=>(hn _ k o e).elim (I.sys k o) λz=>absurd rfl z.2.1.s) rfl (λi x d b _ _ e=>⟨d,b,e,λu _ v=>v.to hs λa k o h=>ho k a o (by rcases h with rfl|rfl<;>rfl)⟩) (λp a d _ z=>.inl ⟨z,λo q=>ho _ _ _ rfl q⟩) λa _=>⟨λk o e=>⟨o,I.heap _ _ _ e⟩,λk o e w=>.inl ⟨o,ow e w⟩⟩
 cases q:M' a with
 |none=>rfl
 |some p=>rcases hn a p.1 p.2 q with z|z;simp_all;exact absurd z.2.1.fre hf
def br (h:M a=B):Sub m M m (upd M a x):=λb o ⟨k,e,z⟩=>⟨k,by grind [ai],z⟩
def bQ (h:M a=B):Ext M (upd M a (U (.f,o))):=λb=>by
 by_cases q:b=a
 ·subst q;exact .inr ⟨h,o,ah⟩
 ·exact .inl (ai q)
def Inv.put (I:Inv X M δ s) (hf:Free X M a) (e:s.heap.get? a=U o) (hk:k.own=Y:=by rfl):Inv X (upd M a (U (k,o))) δ s:=by
 let ne:∀{b x},M b=U x->b≠a:=λh q=>by simp_all [hf.m]
 refine I.re (br hf.m) (λk b o _ h=>by rw[ai (ne h)];exact h) (λb o h _=>by rw[ai (ne h)];exact h) λb k' o' h=>?_
 by_cases q:b=a
 ·simp_all [ah]
 ·rw[ai q]at h;exact .inl h
def Inv.fresh (I:Inv X M δ s) (h:s.heap.objs.size<=a):Free X M a:=by
 let no:∀{b o},s.heap.get? b=U o->a≠b:=λe q=>by subst q;exact absurd (H6 e) (by exact Nat.not_lt.mpr h)
 refine⟨?_,?_,λx e=>?_,λq hq=>?_,λz=>?_,λz=>?_⟩
 ·cases q:M a with
  |none=>rfl
  |some p=>exact absurd rfl (no (I.heap a p.1 p.2 q))
 ·let⟨m,⟨o,es,ep,h1,h2⟩,_⟩:=I.loc
  exact no h1
 ·let⟨⟨v,o,h1,h2⟩,_⟩:=I.cell x a e
  exact no h1 rfl
 ·let⟨_,ps,e,_⟩:=I.tabs q hq
  exact no e
 ·let⟨o,es,ep,h1,_⟩:=I.ok.mod.glob
  have:=H6 (I.heap _ _ _ (I.base _ _ h1));rw[z]at h;exact absurd (NK this h) (by decide)
 ·let⟨⟨o,e⟩,_⟩:=I.sx a z
  exact no e rfl
def Inv.new (I:Inv X M δ s) (hf:o.isFreed=Y:=by rfl):Inv X (upd M s.heap.objs.size (U (.f,o))) δ {s with heap:=s.heap.push o,toks:=t}:=
 I.push.put (I.fresh (HQ _)) (HO _ hf)
def Inv.kIn (I:Inv X M δ s):K.In s.heap:=I.ok.mod.kin.keeps λb o e=>I.heap _ _ _ (I.base b o e)
def Inv.bk (I:Inv X M δ s):∀b o,Md.base.get? b=U o->s.heap.get? b=U o:=λb o e=>I.heap _ _ _ (I.base b o e)
def Ad {N:Qw Ih}(hN:N.Nodup) {i j:Nat}(a:N[i]?=U x) (b:N[j]?=U x):i=j:=by
 let⟨h1,e1⟩:=List.getElem?_eq_some_iff.mp a
 let⟨h2,e2⟩:=List.getElem?_eq_some_iff.mp b
 exact(qau hN).mp (e1.trans e2.symm)
structure Lc (X:Cx) (i:Nat) (x:Ih):Prop where
 n:X.N[i]?=U x
 nd:X.N.Nodup
 l:X.env.scope.names.lookup x=U .local\/(X.env.scope.names.lookup x=U .cell/\X.fn=V)
def Inv.cne (I:Inv X M δ s) (e:X.env.cells.lookup x=U c):c≠X.env.locals:=λz=>by
 let⟨⟨v,o,ho,hd⟩,_⟩:=I.cell x c e;let⟨m,⟨o',es,ep,ho',hd',_⟩,_⟩:=I.loc
 simp_all
def Inv.store {Q:Unit->HN->Prop}(I:Inv X M δ s) (hx:Lc X i x) (r:Va M X.S X.N.length i d u b) (h:∀s' c,Inv X M (δ.set i (U (d,b))) s'->IM c s.heap s'.heap->(c=X.env.locals\/X.env.cells.lookup x=U c)->Q () s'):WP X (storeName X.env x u) Q s:=by
 let⟨m,hn,hl⟩:=id I.loc;let hN:=(List.getElem?_eq_some_iff.mp hx.n).1
 let hi:i<δ.length:=by rw[I.len];lia
 let go:∀{h':Jr}{t:Nat}{m':Ih->Qq HM}{c},h'.Ns X.env.locals m'->IM c s.heap h'->(c=X.env.locals\/(X.fn=V/\X.env.cells.lookup x=U c/\h'.IsCell c (U u)))->zj X.env h' m' x u->(∀y v,y≠x->zj X.env s.heap m y v->zj X.env h' m' y v)->Q () {s with heap:=h',toks:=t}:=by
  intro h' t m' c hn' hs hc lx ly;let mc:M c=B:=by
   rcases hc with rfl|⟨f,e,_⟩
   ·exact I.free
   ·exact(I.cell x c e).2.elim id λz=>by simp_all
  let k:∀b o,b≠c->s.heap.get? b=U o->h'.get? b=U o:=λb o q e=>(hs.2 b q).trans e
  let ck:∀y d,X.env.cells.lookup y=U d->d≠c->∀v,s.heap.IsCell d v->h'.IsCell d v:=λy d e q v ⟨o,h1,h2⟩=>⟨o,k d o q h1,h2⟩
  refine h _ c ⟨I.ok,I.og,λa r o e=>k a o (λz=>by lia) (I.heap a r o e),I.base,⟨m',hn',λj y e b' e1 e2 e3=>?_⟩,I.free,λy d e=>⟨?_,(I.cell y d e).2⟩,I.tabs.to (λ_ _ h=>h) (λq h=>(I.tabs q h).1) λq hq o=>k _ o ?_,I.own,I.uni,by simpa using I.len,λp a d e z=>I.sto p a d e (by rw[H0 (by lia)]at z;exact z),I.sys,λa ha=>?_⟩ hs (hc.imp id λz=>z.2.1)
  ·by_cases hj:j=i
   ·subst hj
    rw[hx.n]at e1;cases e1;rw[IE hi]at e2;cases e2
    exact⟨u,lx,r⟩
   ·rw[H0 (Ib hj)]at e2
    let⟨v,l,q⟩:=hl j y e b' e1 e2 e3;exact⟨v,ly y v (λz=>hj (Ad hx.nd e1 (z▸hx.n))) l,q⟩
  ·by_cases q:d=c
   ·subst q
    rcases hc with rfl|⟨_,_,z⟩
    ·exact absurd rfl (I.cne e)
    ·exact⟨_,z⟩
   ·let⟨⟨v,z⟩,_⟩:=I.cell y d e
    exact⟨v,ck y d e q v z⟩
  ·rintro rfl
   let⟨_,ps,e,_⟩:=I.tabs q hq
   rcases hc with z|⟨_,e',o,z⟩
   ·let⟨o,es,ep,h1,h2,_⟩:=hn;lia
   ·let⟨⟨v,o,h1,h2⟩,_⟩:=I.cell x _ e';lia
  ·let⟨⟨o,e⟩,h⟩:=I.sx a ha
   refine⟨?_,h⟩
   by_cases z:a=c
   ·subst z
    rcases hc with rfl|⟨_,_,o',z,_⟩
    ·let⟨o',_,_,z,_⟩:=hn';exact⟨o',z⟩
    ·exact⟨o',z⟩
   ·exact⟨o,k a o z e⟩
 rcases hx.l with hk|⟨hk,hf⟩
 ·refine wpAny_storeName_local hk hn (λh' hn' hs=>go hn' hs (.inl rfl) (.inl ⟨hk,by simp⟩) λy v hy l=>?_) (by rw[I.ok.kind];rfl)
  rcases l with l|⟨q,c,e,z⟩
  ·exact .inl ⟨l.1,by simp[hy,l.2]⟩
  ·exact .inr ⟨q,c,e,z.sameBut hs (I.cne e)⟩
 ·let⟨c,hc⟩:=I.ok.has x (.inl hk)
  let⟨⟨v₀,z⟩,_⟩:=I.cell x c hc;refine wpAny_storeName_cell I.ok.kind hk hc z λh' hc' hs=>go (t:=s.toks) (hn.sameBut hs (Ib (I.cne hc))) hs (.inr ⟨hf,hc,hc'⟩) (.inr ⟨.inl hk,c,hc,hc'⟩) λy v hy l=>?_
  rcases l with l|⟨q,d,e,z'⟩
  ·exact .inl l
  ·exact .inr ⟨q,d,e,z'.sameBut hs λq=>hy (I.ok.inj _ _ _ e (q▸hc))⟩
def Inv.chg1 {κ:Rl}(I:Inv X M δ s) (hκ:κ.own=V) (q:M a=U (κ,o)) (k:∀b ob,b≠a->s.heap.get? b=U ob->s'.heap.get? b=U ob) (h1:s'.heap.get? a=U o') (h2:Ow o') (hl:δ'.length=δ.length)
  (nm:∀j x d b,X.N[j]?=U x->Vis X.env.scope x->δ'[j]?=U (U (d,b))->(κ≠.o j/\κ≠.q j/\δ[j]?=U (U (d,b)))\/∃d0 b0,δ[j]?=U (U (d0,b0))/\∀u,Va M X.S X.N.length j d0 u b0->Va (upd M a (U (κ,o'))) X.S X.N.length j d u b)
  (st:∀p d,δ'[X.N.length+p]?=U (U (d,V))->(κ≠.s p/\δ[X.N.length+p]?=U (U (d,V)))\/(κ=.s p/\Ca M d o')) (hst:∀(p:Nat) b,X.S[p]?=U b->κ=.s p->b=a:=by exact λ_ _ _ h=>nomatch h) (hg:s'.os=s.os/\s'.gens=s.gens:=by exact⟨rfl,rfl⟩):
  Inv X (upd M a (U (κ,o'))) δ' s'/\Sub Y M Y (upd M a (U (κ,o')))/\∀b ob,M b=U (.p,ob)↔upd M a (U (κ,o')) b=U (.p,ob):=by
 let na:∀{b k ob},M b=U (k,ob)->k.own=Y->b≠a:=λh w z=>by subst z;rw[q]at h;cases h;rw[hκ]at w;cases w
 let hs:Sub Y M Y (upd M a (U (κ,o'))):=λb ob r=>by
  rw[rdf]at r⊢;rw[ai (na r rfl)];exact r
 let kp:∀b ob,M b=U (.p,ob)↔upd M a (U (κ,o')) b=U (.p,ob):=λb ob=>by
  by_cases z:b=a
  ·subst z;rw[ah,q];constructor<;>intro w<;>cases w<;>cases hκ
  ·rw[ai z]
 let ow:∀{b j ob},upd M a (U (κ,o')) b=U (j,ob)->∃ob',M b=U (j,ob'):=λ{b j ob} z=>by
  grind [ah,ai]
 refine⟨I.mp hs (λb r ob z=>?_) (λb ob _ z w=>k b ob (λy=>by subst y;rw[z _ _ q]at hκ;cases hκ) w) (λb ob z _=>(kp b ob).mp z) (λb z _=>by rw[ai (λy=>by subst y;rw[q]at z;cases z)];exact z) (λb j ob z w=>?_) (λb c j ob oc w z z'=>?_) (λr ob z=>?_) hl (λj x d b e1 e2 e3=>?_) (λp b d e z=>?_) (λb _=>⟨λr ob z=>?_,λk ob z _=>.inl (ow z)⟩) hg,hs,kp⟩
 ·by_cases z2:b=a
  ·subst z2;rw[ah]at z;cases z;exact h1
  ·rw[ai z2]at z;exact k b ob z2 (I.heap b r ob z)
 ·by_cases z2:b=a
  ·subst z2;rw[ah]at z;cases z;exact h2
  ·rw[ai z2]at z;exact I.own b j ob z w
 ·let⟨_,w1⟩:=ow z;let⟨_,w2⟩:=ow z';exact I.uni _ _ _ _ _ w w1 w2
 ·let⟨_,w1⟩:=ow z;exact I.sys _ _ w1
 ·rcases nm j x d b e1 e2 e3 with⟨z1,z2,z3⟩|z
  ·exact⟨d,b,z3,λu _ v=>v.to hs λc k ob hk w=>by rw[ai (λy=>by subst y;rw[q]at w;cases w;rcases hk with y|y;exact z1 y;exact z2 y)];exact w⟩
  ·let⟨d0,b0,z1,z2⟩:=z;exact⟨d0,b0,z1,λu _=>z2 u⟩
 ·rcases st p d z with w|⟨rfl,w⟩
  ·exact .inl ⟨w.2,λob h=>by rw[ai (λy=>by subst y;rw[q]at h;cases h;exact w.1 rfl)];exact h⟩
  ·exact .inr ⟨o',by rw[hst p b e rfl];exact ah,w.to hs⟩
 ·by_cases y:b=a
  ·subst y;exact⟨o',h1⟩
  ·exact⟨ob,k b ob y (I.heap _ _ _ z)⟩
def Inv.chg (I:Inv X M δ s) (e:δ[i]?=U (U (d,V))) (hN:X.N[i]?=U x) (q:M a=U (.o i,o)) (k:∀b ob,b≠a->s.heap.get? b=U ob->s'.heap.get? b=U ob) (h1:s'.heap.get? a=U o') (h2:Ow o') (h3:C M d' o') (hd:nx d=V:=by rfl) (hg:s'.os=s.os/\s'.gens=s.gens:=by exact⟨rfl,rfl⟩):
  Inv X (upd M a (U (.o i,o'))) (δ.set i (U (d',V))) s'/\Sub Y M Y (upd M a (U (.o i,o')))/\∀b ob,M b=U (.p,ob)↔upd M a (U (.o i,o')) b=U (.p,ob):=by
 let hi:i<X.N.length:=(List.getElem?_eq_some_iff.mp hN).1
 let hs:Sub Y M Y (upd M a (U (.o i,o'))):=λb ob r=>by
  rw[rdf]at r⊢;rw[ai (λz=>by lia)];exact r
 refine I.chg1 rfl q k h1 h2 (by simp) (λj x d1 b e1 e2 e3=>?_) (λp d1 z=>.inl ⟨λw=>(nomatch w),by rw[H0 (by lia)]at z;exact z⟩) (hg:=hg)
 by_cases hj:j=i
 ·subst hj
  rw[IE (List.getElem?_eq_some_iff.mp e).1]at e3;cases e3
  refine .inr ⟨d,V,e,λu v=>.inl ?_⟩
  let⟨a',o1,rfl,q',c⟩:=v.own hd;obtain rfl:=I.uni _ _ _ _ _ rfl q q';exact⟨a,o',rfl,ah,h3.to hs⟩
 ·exact .inl ⟨λw=>hj (by injection w with w;exact w.symm),λw=>(nomatch w),by rw[H0 (Ib hj)]at e3;exact e3⟩
def dis (i:Nat) (M:Mp):Mp:=λa=>match M a with|some (.o j,o)=>if j=i then B else U (.o j,o)|x=>x
def vG (h:M a=U (k,o)) (hk:k≠.o i):dis i M a=U (k,o):=by unfold dis;rw[h];cases k<;>simp_all
def Eo (h:dis i M a=U (k,o)):M a=U (k,o)/\k≠.o i:=by
 unfold dis at h;split at h
 ·lia
 ·simp_all
def zh (h:M a=B):dis i M a=B:=by unfold dis;rw[h]
def GP:Sub Y M Y (dis i M):=λ_ _ q=>rdf.mpr (vG (rdf.mp q) λz=>nomatch z)
def Inv.setOwn1 (I:Inv X M δ s) {as:Qw HZ}{N:Mp}(hx:Lc X i x) (hf:∀b∈as,Free X M b) (hN:∀b,b∉as->N b=dis i M b) (hA:∀b∈as,∃k o,N b=U (k,o)/\s.heap.get? b=U o/\Ow o/\(k=.o i\/k=.q i)) (h1:∀b∈as,∀c∈as,∀o o',N b=U (.o i,o)->N c=U (.o i,o')->b=c) (v:Va N X.S X.N.length i d u V) {Q:Unit->HN->Prop}
  (h:∀s' c,Inv X N (δ.set i (U (d,V))) s'->Sub Y M Y N->(∀b ob,M b=U (.p,ob)↔N b=U (.p,ob))->IM c s.heap s'.heap->(c=X.env.locals\/X.env.cells.lookup x=U c)->(∀b,M b=B->b∉as->N b=B)->Q () s'):WP X (storeName X.env x u) Q s:=by
 let kn:∀{b k o},N b=U (k,o)->(b∈as/\s.heap.get? b=U o/\Ow o/\(k=.o i\/k=.q i))\/(b∉as/\M b=U (k,o)/\k≠.o i):=λ{b k o} e=>by
  by_cases z:b∈as
  ·let⟨k',o',w1,w2⟩:=hA b z;rw[e]at w1;cases w1;exact .inl ⟨z,w2⟩
  ·rw[hN b z]at e;exact .inr ⟨z,Eo e⟩
 let na:∀{b k o},M b=U (k,o)->b∉as:=λe z=>by rw[(hf _ z).m]at e;cases e
 let fwd:∀{b k o},M b=U (k,o)->k≠.o i->N b=U (k,o):=λe z=>by rw[hN _ (na e)];exact vG e z
 let hs:Sub Y M Y N:=λb ob q=>rdf.mpr (fwd (rdf.mp q) λz=>nomatch z)
 let hp:∀b ob,M b=U (.p,ob)↔N b=U (.p,ob):=λb ob=>⟨λq=>fwd q λz=>(nomatch z),λq=>(kn q).elim (λz=>by rcases z.2.2.2 with w|w<;>cases w) λz=>z.2.1⟩
 let nn:∀b,M b=B->b∉as->N b=B:=λb q z=>by rw[hN b z];exact zh q
 let J:Inv X N (δ.set i B) s:=by
  refine I.mp hs (λb r ob z=>(kn z).elim (λw=>w.2.1) λw=>I.heap b r ob w.2.1) (λ_ _ _ _ z=>z) (λb ob z _=>(hp b ob).mp z) (λb z w=>nn b z λy=>w (hf b y).fre) (λb j ob z w=>(kn z).elim (λy=>y.2.2.1) λy=>I.own b j ob y.2.1 w) (λb c j ob oc w z z'=>?_) (λr ob z=>(kn z).elim (λy=>absurd rfl (hf _ y.1).s) λy=>I.sys r ob y.2.1) (by simp) (λj y e b e1 e2 e3=>?_) (λp b d e w=>.inl ⟨?_,λob z=>fwd z λw=>(nomatch w)⟩) λb hb=>⟨λr ob z=>⟨ob,I.heap _ _ _ z⟩,λk ob z _=>(kn z).elim (λy=>absurd hb (hf b y.1).n) λy=>.inl ⟨ob,y.2.1⟩⟩
  ·rcases kn z with⟨z1,z2,_,z3⟩|⟨z1,z2,z3⟩<;>rcases kn z' with⟨y1,y2,_,y3⟩|⟨y1,y2,y3⟩
   ·rcases z3 with rfl|rfl
    ·exact h1 b z1 c y1 _ _ z z'
    ·cases w
   ·rcases z3 with rfl|rfl
    ·exact absurd rfl y3
    ·cases w
   ·rcases y3 with rfl|rfl
    ·exact absurd rfl z3
    ·cases w
   ·exact I.uni _ _ _ _ _ w z2 y2
  ·let hj:j≠i:=λz=>by subst z;rw[LC]at e3;split at e3<;>simp_all
   rw[H0 (Ib hj)]at e3
   refine⟨e,b,e3,λu _ v=>v.to hs λc k ob hk z=>fwd z ?_⟩
   rintro rfl
   rcases hk with hk|hk<;>cases hk
   exact hj rfl
  ·have:=(List.getElem?_eq_some_iff.mp hx.n).1
   rw[H0 (by lia)]at w;exact w
 refine J.store hx (d:=d) (b:=V) v λs' c I' h1 h2=>h s' c ?_ hs hp h1 h2 nn
 simp_all
def C.ow {M:Mp}(c:C M d o):Ow o:=by
 cases d with
 |lst ds=>let⟨vs,⟨_,n,rfl⟩,_⟩:=c;exact⟨by simp,λ_ z=>nomatch z⟩
 |dK ks ds=>let⟨us,vs,⟨_,h1,_,_,es,ep,h2,_⟩,_⟩:=c;exact⟨by rw[h1.1];simp,λ_ z=>by lia⟩
 |dD ks ds=>let⟨us,vs,⟨_,h1,_,_,es,ep,h2,_⟩,_⟩:=c;exact⟨by rw[h1.1];simp,λ_ z=>by lia⟩
 |_=>exact False.elim c
def Inv.setOwn (I:Inv X M δ s) (f:Free X M a) (e:s.heap.get? a=U o) (c:C M d o) (hx:Lc X i x) {Q:Unit->HN->Prop}
  (h:∀s' M' c,Inv X M' (δ.set i (U (d,V))) s'->Sub Y M Y M'->(∀b ob,M b=U (.p,ob)↔M' b=U (.p,ob))->IM c s.heap s'.heap->(c=X.env.locals\/X.env.cells.lookup x=U c)->(∀b,M b=B->b≠a->M' b=B)->Q () s'):WP X (storeName X.env x (.ref a)) Q s:=by
 let hs:Sub Y M Y (upd (dis i M) a (U (.o i,o))):=λb ob q=>by
  rw[rdf]at q⊢;rw[ai (λz=>by simp_all [f.m])];exact vG q λz=>nomatch z
 refine I.setOwn1 (as:=[a]) (N:=upd (dis i M) a (U (.o i,o))) hx (λb hb=>by rw[on.mp hb];exact f) (λb hb=>ai λz=>hb (by simp[z])) (λb hb=>by rw[on.mp hb];exact⟨_,o,ah,e,c.ow,.inl rfl⟩) (λb hb c hc _ _ _ _=>by rw[on.mp hb,on.mp hc]) (.inl ⟨a,o,rfl,ah,c.to hs⟩) λs' c h1 h2 h3 h4 h5 h6=>h s' _ c h1 h2 h3 h4 h5 λb z w=>h6 b z (by simpa using w)
def Rl.fz (i:Nat):Rl->Rl|.o j=>if j=i then .f else .o j|.q j=>if j=i then .f else .q j|k=>k
def fz (i:Nat) (M:Mp):Mp:=λa=>match M a with|some (k,o)=>U (k.fz i,o)|none=>B
def oQ (h:M a=U (k,o)):fz i M a=U (k.fz i,o):=by unfold fz;rw[h]
def Rl.fz_ne {k:Rl}(h1:k≠.o i) (h2:k≠.q i):k.fz i=k:=by unfold Rl.fz;split<;>simp_all
def Rl.fz_is {k:Rl}:(k.fz i=k/\k≠.o i/\k≠.q i)\/(k.fz i=.f/\(k=.o i\/k=.q i)):=by
 cases k with
 |o j=>by_cases h:j=i<;>simp[Rl.fz,h]
 |q j=>by_cases h:j=i<;>simp[Rl.fz,h]
 |_=>simp[Rl.fz]
def AC (h:fz i M a=U (k,o)):∃k',M a=U (k',o)/\((k=k'/\k'≠.o i/\k'≠.q i)\/(k=.f/\(k'=.o i\/k'=.q i))):=by
 cases q:M a with
 |none=>unfold fz at h;rw[q]at h;cases h
 |some p=>let⟨k',o'⟩:=p;rw[oQ q]at h;cases h;exact⟨k',rfl,Rl.fz_is⟩
def frD:D->Qq D
 |.loc _ _=>B
 |.dL ks vs=>U (.dK ks vs)
 |d=>U d
theorem Iq.rs {M M':Mp}(hs:Sub Y M Y M') (ho:∀a o,M a=U (.q i,o)->M' a=U (.f,o)):∀{ds as},Iq M i ds as->Rs Y M' ds (as.map Kq)
 |[],_,h=>by subst h;rfl
 |d::ds,_,⟨a,r,o,e,q,c,t⟩=>by subst e;exact⟨_,_,rfl,c.rep hs (rdf.mpr (ho _ _ q)),Iq.rs hs ho t⟩
def Inv.frz (I:Inv X M δ s) (e:δ[i]?=U (U (d,V))) (hN:X.N[i]?=U x) (hd:frD d=U d'):∃M',Sub Y M Y M'/\(∀a o,M a=U (.p,o)↔M' a=U (.p,o))/\(∀a,M a=B↔M' a=B)/\Inv X M' (δ.set i (U (d',Y))) s:=by
 let hi:i<X.N.length:=(List.getElem?_eq_some_iff.mp hN).1
 let hs:Sub Y M Y (fz i M):=λb ob r=>by rw[rdf]at r⊢;rw[oQ r];rfl
 let hp:∀b ob,M b=U (.p,ob)↔fz i M b=U (.p,ob):=λb ob=>⟨λq=>by rw[oQ q];rfl,λq=>by
  let⟨k',h1,h2⟩:=AC q;rcases h2 with⟨rfl,_⟩|⟨h,_⟩;exact h1;cases h⟩
 let hn:∀b,M b=B↔fz i M b=B:=λb=>⟨λq=>by unfold fz;rw[q],λq=>by
  cases w:M b with
  |none=>rfl
  |some p=>rw[oQ w]at q;cases q⟩
 let ow:∀{b k ob},fz i M b=U (k,ob)->k.own=V->M b=U (k,ob):=λ{b k ob} q h=>by
  let⟨k',h1,h2⟩:=AC q;rcases h2 with⟨rfl,_⟩|⟨rfl,_⟩;exact h1;cases h
 let uo:∀{k:Rl},k.uq=V->k.own=V:=λ{k} h=>by cases k<;>first|rfl|cases h
 refine⟨_,hs,hp,hn,I.mp hs (λb k ob z=>by let⟨k',h1,_⟩:=AC z;exact I.heap _ _ _ h1) (λ_ _ _ _ z=>z) (λb ob z _=>(hp b ob).mp z) (λb z _=>(hn b).mp z) (λb k ob z w=>I.own _ _ _ (ow z w) w) (λb c k ob oc w z z'=>I.uni _ _ _ _ _ w (ow z (uo w)) (ow z' (uo w))) (λk ob z=>?_) (by simp) (λj y e1 b e2 e3 e4=>?_) (λp b d _ w=>.inl ⟨by rw[H0 (by lia)]at w;exact w,λob z=>by rw[oQ z];rfl⟩) λb _=>⟨λr ob z=>⟨ob,I.heap _ _ _ z⟩,λk ob z w=>.inl ⟨ob,ow z w⟩⟩⟩
 ·let⟨k',h1,h2⟩:=AC z
  obtain rfl:=I.sys _ _ h1
  rcases h2 with⟨h,_⟩|⟨_,h|h⟩
  ·exact h
  ·cases h
  ·cases h
 ·by_cases hj:j=i
  ·subst hj
   rw[IE (List.getElem?_eq_some_iff.mp e).1]at e4;cases e4
   refine⟨d,V,e,λu _ v=>?_⟩
   let fo:∀{a o},M a=U (.o j,o)->fz j M a=U (.f,o):=λq=>by rw[oQ q];simp[Rl.fz]
   rcases v with⟨a,o,rfl,q,c⟩|v
   ·have:d'=d:=by cases d<;>first|(cases hd;rfl)|exact c.elim
    subst this;exact c.rep hs (rdf.mpr (fo q))
   ·cases d with
    |ob c ks ds=>cases hd;let⟨x,ox,a,o,vs,h1,h2,h3,h4,h5,h6⟩:=v;exact⟨x,ox,a,o,vs,h1,hs _ _ (rdf.mpr h2),h3,rdf.mpr (fo h4),h5,h6.to hs⟩
    |dL ks ds=>cases hd;let⟨l,o,us,as,h1,h2,h3,h4,h5,h6⟩:=v;exact⟨l,o,us,_,h1,rdf.mpr (fo h2),h3,h4,h6.rs hs λa o q=>by rw[oQ q];simp[Rl.fz]⟩
    |loc c k=>cases hd
    |_=>exact v.elim
  ·rw[H0 (Ib hj)]at e4
   refine⟨e1,b,e4,λu _ v=>v.to hs λc k ob hk z=>?_⟩
   rw[oQ z,Rl.fz_ne]<;>rintro rfl<;>rcases hk with hk|hk<;>cases hk<;>exact hj rfl
end
end L2
namespace L2
open PySem PySem.Spec PyProof.Rows Md
variable[Md]
structure Sx (M M':Mp):Prop where
 f:Sub Y M Y M'
 p:∀a o,M a=U (.p,o)->M' a=U (.p,o)
 n:∀a o,M' a=U (.p,o)->M a=U (.p,o)
def Sx.refl:Sx M M:=⟨λ_ _ h=>h,λ_ _ h=>h,λ_ _ h=>h⟩
def Sx.trans (a:Sx M N) (b:Sx N O):Sx M O:=⟨λ_ _ h=>b.f _ _ (a.f _ _ h),λ_ _ h=>b.p _ _ (a.p _ _ h),λ_ _ h=>a.n _ _ (b.n _ _ h)⟩
def Ext.sx (h:Ext M M'):Sx M M':=⟨h.sub,λa o e=>by rcases h a with z|z<;>grind,λa o e=>by rcases h a with z|z<;>grind⟩
section
variable{X X':Cx}{M M' M1:Mp}{δ δ1:DEnv}{s s1:HN}
open Classical in
noncomputable def pin (X:Cx) (M:Mp) (h:Jr):Mp:=λa=>if Free X M a then(h.get? a).map λo=>(.p,o) else M a
open Classical in
noncomputable def unp (X:Cx) (M:Mp) (h:Jr) (M1:Mp):Mp:=λa=>if Free X M a/\h.get? a≠B then B else M1 a
def kY (h:M a=U x):pin X M hp a=U x:=by unfold pin;rw[if_neg λf=>by rw[f.m]at h;cases h];exact h
def dH:Sub m M m (pin X M hp):=λa o ⟨k,e,h⟩=>⟨k,kY e,h⟩
nonrec theorem Inv.pin (I:Inv X M δ s):Inv X (pin X M s.heap) δ s:=I.re dH (λ_ _ _ _=>kY) (λ_ _ h _=>kY h) λa k o e=>by
 unfold L2.pin at e;split at e
 ·rename_i f
  cases q:s.heap.get? a with
  |none=>simp_all
  |some o'=>rw[q]at e;cases e;exact .inr ⟨rfl,f,rfl⟩
 ·exact .inl e
def Inv.unp (I:Inv X M δ s) (J:Inv X M1 δ1 s1) (e:Sx (L2.pin X M s.heap) M1):Inv X (unp X M s.heap M1) δ1 s1/\Sx M (unp X M s.heap M1)/\Sub Y M1 Y (unp X M s.heap M1)/\(∀a,M1 a=B->unp X M s.heap M1 a=B)/\(∀a k o,k.own=V->M1 a=U (k,o)->unp X M s.heap M1 a=U (k,o))/\∀a o,Free X M a->s.heap.get? a=U o->s1.heap.get? a=U o/\Free X (unp X M s.heap M1) a:=by
 let key:∀{a o},Free X M a->s.heap.get? a=U o->M1 a=U (.p,o):=λ{a o} f q=>e.p a o (by unfold L2.pin;simp_all)
 let keep:∀{a k o},M1 a=U (k,o)->(k=.p->¬Free X M a)->L2.unp X M s.heap M1 a=U (k,o):=λ{a k o} q h=>by
  unfold L2.unp;rw[if_neg];exact q
  rintro⟨f,z⟩
  cases w:s.heap.get? a with
  |none=>exact z w
  |some o'=>simp_all
 refine⟨J.re (λa o q=>rdf.mpr (keep (rdf.mp q) λz=>nomatch z)) (λk a o w q=>keep q λz=>by subst z;cases w) (λa o q h=>keep q λ_ f=>?_) (λa k o q=>.inl ?_),⟨λa o q=>rdf.mpr (keep (rdf.mp (e.f _ _ (dH _ _ q))) λz=>nomatch z),λa o q=>keep (e.p a o (kY q)) λ_ f=>(by rw[f.m]at q;cases q),λa o q=>?_⟩,λa o q=>rdf.mpr (keep (rdf.mp q) (λz=>nomatch z)),λa q=>(by unfold L2.unp;split<;>first|rfl|exact q),λa k o w q=>keep q (λz=>by subst z;cases w),λa o f q=>⟨J.heap _ _ _ (key f q),?_,f.l,f.c,f.t,f.s,f.n⟩⟩
 ·rcases h with h|⟨x,h⟩
  ·have:=I.base _ _ h;simp_all [f.m]
  ·exact f.c x h
 ·unfold L2.unp at q;split at q;cases q;exact q
 ·unfold L2.unp at q;split at q
  ·cases q
  ·have:=e.n a o q
   unfold L2.pin at this;grind
 ·exact if_pos ⟨f,by simp[q]⟩
open Classical in
noncomputable def cal (m ko:Bool) (M:Mp) (h:Jr) (ex:Qw HZ):Mp:=λa=>match M a with
 |some (k,o)=>U (if k.own then if m then .f else if ko then k else .p else k,o)
 |none=>if a∈ex\/(∃q∈tb,a=q.1) then B else(h.get? a).map λo=>(.p,o)
open Classical in
noncomputable def bak (M:Mp) (h:Jr) (ex:Qw HZ) (M1:Mp):Mp:=λa=>match M a with
 |some x=>U x
 |none=>if h.get? a≠B/\a∉ex then B else match M1 a with|some (.f,o)=>U (.f,o)|_=>B
def j9:Sub m M Y (cal m ko M hp ex):=λa o ⟨k,e,h⟩=>by
 refine rdf.mpr ?_;unfold cal;cases k<;>simp_all [Rl.ok,Rl.own]
theorem i8:Ext M (bak M hp ex M1):=λa=>by
 unfold bak;cases e:M a with
 |some x=>exact .inl rfl
 |none=>
  dsimp only;split
  ·exact .inl rfl
  ·cases q:M1 a with
   |none=>exact .inl rfl
   |some x=>let⟨k,o⟩:=x;cases k<;>first|exact .inl rfl|exact .inr ⟨rfl,_,rfl⟩
structure Lft (M1:Mp) (s1:HN):Prop where
 og:s1.os=Md.os/\s1.gens=gens
 heap:∀a k o,M1 a=U (k,o)->s1.heap.get? a=U o
 tabs:TabOk M1 s1.heap
 sys:∀k o,M1 sysModules=U (k,o)->k=.p
def Inv.lft (J:Inv X M δ s):Lft M s:=⟨J.og,J.heap,J.tabs,J.sys⟩
def Inv.ret (I:Inv X M δ s) (J:Lft M1 s1) (hf:∀b∈ex,Fre X M b) (hx:∀b∈ex,b∈X.S->∃o,s1.heap.get? b=U o) (e:Sx (cal m ko M s.heap ex) M1) (eo:∀a k o,k.own=V->cal m ko M s.heap ex a=U (k,o)->M1 a=U (k,o)):Inv X (bak M s.heap ex M1) δ s1/\Sub Y M1 m (bak M s.heap ex M1):=by
 let c1:∀{a k o},M a=U (k,o)->∃k',cal m ko M s.heap ex a=U (k',o)/\(k'=.f->k.ok m=V)/\(k=.f->k'=.f):=λ{a k o} h=>by
  unfold cal;rw[h];cases k<;>cases m<;>cases ko<;>simp_all [Rl.ok,Rl.own]
 let c2:∀{a o},M a=B->s.heap.get? a=U o->a∉ex->(∀q∈tb,a≠q.1)->cal m ko M s.heap ex a=U (.p,o):=λ{a o} h q h1 h2=>by
  unfold cal;rw[h];dsimp only;rw[if_neg (by rintro(z|⟨q,z1,z2⟩);exact h1 z;exact h2 q z1 z2),q];rfl
 let k1:∀{a k o},cal m ko M s.heap ex a=U (k,o)->M1 a=U (k,o):=λ{a k o} h=>by
  cases k with
  |f=>exact rdf.mp (e.f _ _ (rdf.mpr h))
  |p=>exact e.p _ _ h
  |_=>exact eo _ _ _ rfl h
 let k2:∀{a o},M a=B->s.heap.get? a=U o->a∉ex->(∀q∈tb,a≠q.1)->s1.heap.get? a=U o:=λh q h1 h2=>J.heap _ _ _ (k1 (c2 h q h1 h2))
 let k3:∀{a k o},M a=U (k,o)->s1.heap.get? a=U o:=λh=>by let⟨k',h1,_⟩:=c1 h;exact J.heap _ _ _ (k1 h1)
 let sub:Sub Y M1 m (bak M s.heap ex M1):=λa o q=>by
  rw[rdf]at q;unfold Rd bak;cases h:M a with
  |some x=>
   grind
  |none=>
   rw[if_neg,q];exact⟨.f,rfl,rfl⟩;intro z;cases w:s.heap.get? a with
   |none=>exact z.1 w
   |some o'=>have:=k1 (c2 h w z.2 λr hr z=>by have:=(J.tabs r hr).1;lia);lia
 let of:∀{a x},M a=U x->bak M s.heap ex M1 a=U x:=λh=>by unfold bak;rw[h]
 let no:∀{a o},M a=B->s.heap.get? a=U o->a∉ex->bak M s.heap ex M1 a=B:=λh q z=>by unfold bak;rw[h];dsimp only;rw[if_pos ⟨by simp[q],z⟩]
 let kn:∀{a k o},bak M s.heap ex M1 a=U (k,o)->M a=U (k,o)\/(M a=B/\k=.f/\M1 a=U (.f,o)):=λ{a k o} q=>by
  unfold bak at q;cases h:M a with
  |some x=>rw[h]at q;exact .inl q
  |none=>
   rw[h]at q;dsimp only at q;split at q;cases q;split at q<;>cases q
   exact .inr ⟨rfl,rfl,by assumption⟩
 let sf:Sub Y M Y (bak M s.heap ex M1):=λa o q=>rdf.mpr (of (rdf.mp q))
 let⟨mL,⟨oL,es,ep,hL,hL2,hL3⟩,hl⟩:=id I.loc;let ti:∀q∈tb,∃ps,s.heap.get? q.1=U {cls:=.none,data:=.fields ps}:=λq hq=>by let⟨_,ps,h,_⟩:=I.tabs q hq;exact⟨ps,h⟩
 let ntL:∀q∈tb,X.env.locals≠q.1:=λq hq z=>by let⟨ps,h⟩:=ti q hq;rw[<-z,hL]at h;cases h;cases hL2
 let ntC:∀x c,X.env.cells.lookup x=U c->∀q∈tb,c≠q.1:=λx c e q hq z=>by let⟨ps,h⟩:=ti q hq;let⟨⟨v,o,h1,h2⟩,_⟩:=I.cell x c e;rw[<-z,h1]at h;cases h;cases h2
 let kc:∀x c o,X.env.cells.lookup x=U c->s.heap.get? c=U o->s1.heap.get? c=U o:=λx c o z q=>by
  cases h:M c with
  |none=>exact k2 h q (λy=>(hf _ y).c x z) (ntC x c z)
  |some y=>have:=I.heap _ _ _ h;rw[q]at this;cases this;exact k3 h
 refine⟨⟨I.ok,J.og,λa k o q=>(kn q).elim k3 λz=>J.heap _ _ _ z.2.2,λa o q=>of (I.base a o q),⟨mL,⟨oL,es,ep,k2 I.free hL (λz=>(hf _ z).l rfl) ntL,hL2,hL3⟩,λi x d b e1 e2 e3=>?_⟩,no I.free hL λz=>(hf _ z).l rfl,λx c z=>?_,λq hq=>?_,λa k o q w=>(kn q).elim (λz=>I.own _ _ _ z w) (λz=>by rw[z.2.1]at w;cases w),λa b k o o' w q q'=>?_,I.len,λp a d e z=>by let⟨o,h1,h2⟩:=I.sto p a d e z;exact⟨o,of h1,h2.to sf⟩,λk o q=>(kn q).elim (I.sys k o) (λz=>nomatch J.sys _ _ z.2.2),λa z=>?_⟩,sub⟩
 ·let⟨u,l,v⟩:=hl i x d b e1 e2 e3
  exact⟨u,qC l λc o=>kc x c o,v.to sf λa j o _=>of⟩
 ·let⟨⟨v,o,h1,h2⟩,h3⟩:=I.cell x c z
  exact⟨⟨v,o,kc x c o z h1,h2⟩,h3.imp (λq=>no q h1 λy=>(hf _ y).c x z) λ⟨f,o,q⟩=>⟨f,o,of q⟩⟩
 ·let⟨hn,ps,h1,h2,h3⟩:=J.tabs q hq
  let⟨hn0,ps0,h0,_⟩:=I.tabs q hq;refine⟨no hn0 h0 λy=>(hf _ y).t q hq rfl,ps,h1,h2,λpos cv z=>?_⟩
  let⟨c,oc,vs,t,e1,e2,e3,e4⟩:=h3 pos cv z;refine⟨c,oc,vs,t,e1,?_,e3,e4⟩
  let⟨k,w,hk⟩:=sub c oc (rdf.mpr e2)
  rcases kn w with z|z
  ·cases hk':k.own with
   |true=>exact absurd e3 ((I.own _ _ _ z hk').2 vs)
   |false=>cases k<;>first|exact w|(simp[Rl.ok]at hk;done)|(cases hk';done)
  ·rw[z.2.1]at w;exact w
 ·let uo:k≠.f:=λz=>by subst z;cases w
  exact I.uni _ _ _ _ _ w ((kn q).elim id λz=>absurd z.2.1 uo) ((kn q').elim id λz=>absurd z.2.1 uo)
 ·let⟨⟨o,e⟩,h⟩:=I.sx a z
  refine⟨?_,λk o q w=>(kn q).elim (λy=>h k o y w) λy=>by rw[y.2.1]at w;cases w⟩
  by_cases y:a∈ex
  ·exact hx a y z
  ·cases h:M a with
   |some x=>exact⟨_,k3 h⟩
   |none=>
    by_cases t:∃q∈tb,a=q.1
    ·let⟨q,hq,rfl⟩:=t
     let⟨_,ps,h1,_⟩:=J.tabs q hq;exact⟨_,h1⟩
    ·exact⟨o,k2 h e y λq hq w=>t ⟨q,hq,w⟩⟩
def Inv.lend (I:Inv X M δ s) (e:δ[i]?=U (U (d,V))) (hN:X.N[i]?=U y) (hv:Vis X.env.scope y) (hd:nx d=V\/∃c ks ds,d=.ob c ks ds):∃x a o,M a=U (.o i,o)/\s.heap.get? a=U o/\Ca M d o/\(nx d=V->x=a)/\(∀c ks ds,d=.ob c ks ds->x≠a/\∃ox,M x=U (.f,ox)/\InsO c ox a)/\Fre X (upd M a B) a/\Inv X (upd M a B) (δ.set i (U (.ptr x,Y))) s:=by
 let⟨mL,hn,hl⟩:=id I.loc;let hi:i<X.N.length:=(List.getElem?_eq_some_iff.mp hN).1
 let⟨u,l,v⟩:=hl i y d V hN e hv;obtain⟨x,a,o,rfl,q,ca,c1,c2⟩:∃x a o,u=.ref x/\M a=U (.o i,o)/\Ca M d o/\(nx d=V->x=a)/\(∀c ks ds,d=.ob c ks ds->x≠a/\∃ox,M x=U (.f,ox)/\InsO c ox a):=by
  rcases hd with hd|⟨c,ks,ds,rfl⟩
  ·let⟨a,o,rfl,q,c⟩:=v.own hd
   exact⟨a,a,o,rfl,q,.inl c,λ_=>rfl,λc ks ds z=>by subst z;cases hd⟩
  ·rcases v with⟨_,_,_,_,c⟩|⟨x,ox,a,o,vs,h1,h2,h3,h4,h5,h6⟩
   ·exact c.elim
   ·exact⟨x,a,o,h1,h4,.inr ⟨_,_,_,vs,rfl,h5,h6⟩,λz=>(nomatch z),λc' ks' ds' z=>by cases z;exact⟨λw=>(by subst w;rw[h2]at h4;cases h4),ox,h2,h3⟩⟩
 let na:∀{b k ob},M b=U (k,ob)->k≠.o i->b≠a:=λh w z=>by subst z;rw[q]at h;cases h;exact w rfl
 let fwd:∀{b k ob},M b=U (k,ob)->k≠.o i->upd M a B b=U (k,ob):=λh w=>by rw[ai (na h w)];exact h
 let bwd:∀{b k ob},upd M a B b=U (k,ob)->M b=U (k,ob):=λ{b k ob} h=>by
  by_cases z:b=a
  ·subst z;rw[ah]at h;cases h
  ·rw[ai z]at h;exact h
 let hs:Sub Y M Y (upd M a B):=λb ob r=>rdf.mpr (fwd (rdf.mp r) λz=>nomatch z)
 refine⟨x,a,o,q,I.heap _ _ _ q,ca,c1,c2,⟨ah,λz=>?_,λy z=>?_,λt ht z=>?_,λz=>?_⟩,I.mp hs (λb k ob z=>I.heap _ _ _ (bwd z)) (λ_ _ _ _ z=>z) (λb ob z _=>fwd z λw=>(nomatch w)) (λb z _=>?_) (λb k ob z=>I.own _ _ _ (bwd z)) (λb c k ob oc w z z'=>I.uni _ _ _ _ _ w (bwd z) (bwd z')) (λk ob z=>I.sys _ _ (bwd z)) (by simp) (λj y' e1 b e2 e3 e4=>?_) (λp b d' _ z=>.inl ⟨by rw[H0 (by lia)]at z;exact z,λob z=>fwd z λw=>(nomatch w)⟩) λb _=>⟨λk ob z=>⟨ob,I.heap _ _ _ z⟩,λk ob z _=>.inl ⟨ob,bwd z⟩⟩⟩
 ·rw[z,I.free]at q;cases q
 ·rcases(I.cell y a z).2 with w|⟨_,_,w⟩<;>rw[w]at q<;>cases q
 ·rw[z,(I.tabs t ht).1]at q;cases q
 ·rw[z]at q;exact nomatch I.sys _ _ q
 ·by_cases w:b=a
  ·subst w;exact ah
  ·rw[ai w];exact z
 ·by_cases hj:j=i
  ·subst hj
   rw[IE (List.getElem?_eq_some_iff.mp e).1]at e4;cases e4
   rw[hN]at e2;cases e2;exact⟨d,V,e,λu z _=>z.inj ⟨mL,hn,l⟩⟩
  ·rw[H0 (Ib hj)]at e4
   exact⟨e1,b,e4,λu _ v=>v.to hs λc k ob hk z=>fwd z (by rintro rfl;rcases hk with hk|hk<;>cases hk;exact hj rfl)⟩
def Inv.regain (I:Inv X M δ s) (e:δ[i]?=U (U (.ptr x,Y))) (hN:X.N[i]?=U y) (f:Fre X M a) (fn:a∉X.S) (he:s.heap.get? a=U o) (ho:Ow o) (no:∀b ob,M b≠U (.o i,ob)) (hc:Ca M d o) (hd:(nx d=V/\x=a)\/∃c ks ds ox,d=.ob c ks ds/\M x=U (.f,ox)/\InsO c ox a):
  Inv X (upd M a (U (.o i,o))) (δ.set i (U (d,V))) s/\Sub Y M Y (upd M a (U (.o i,o))):=by
 let hi:i<X.N.length:=(List.getElem?_eq_some_iff.mp hN).1
 let na:∀{b k ob},M b=U (k,ob)->b≠a:=λh z=>by subst z;rw[f.m]at h;cases h
 let fwd:∀{b k ob},M b=U (k,ob)->upd M a (U (.o i,o)) b=U (k,ob):=λh=>by rw[ai (na h)];exact h
 let kn:∀{b k ob},upd M a (U (.o i,o)) b=U (k,ob)->(b=a/\k=.o i/\ob=o)\/M b=U (k,ob):=λ{b k ob} h=>by
  by_cases z:b=a
  ·subst z;rw[ah]at h;cases h;exact .inl ⟨rfl,rfl,rfl⟩
  ·rw[ai z]at h;exact .inr h
 let hs:Sub Y M Y (upd M a (U (.o i,o))):=λb ob r=>rdf.mpr (fwd (rdf.mp r))
 refine⟨I.mp hs (λb k ob z=>(kn z).elim (λw=>by rw[w.1,w.2.2];exact he) (I.heap _ _ _)) (λ_ _ _ _ z=>z) (λb ob z _=>fwd z) (λb z w=>(ai (λy:b=a=>w (by rw[y];exact f))).trans z) (λb k ob z w=>(kn z).elim (λy=>by rw[y.2.2];exact ho) λy=>I.own _ _ _ y w) (λb c k ob oc w z z'=>?_) (λk ob z=>(kn z).elim (λy=>absurd y.1.symm f.s) (I.sys _ _)) (by simp) (λj y' e1 b e2 e3 e4=>?_) (λp b d' _ z=>.inl ⟨by rw[H0 (by lia)]at z;exact z,λob z=>fwd z⟩) λb hb=>⟨λk ob z=>⟨ob,I.heap _ _ _ z⟩,λk ob z _=>(kn z).elim (λy=>absurd (y.1▸hb) fn) λy=>.inl ⟨ob,y⟩⟩,hs⟩
 ·rcases kn z with⟨z1,z2,_⟩|z1<;>rcases kn z' with⟨y1,y2,_⟩|y1
  ·rw[z1,y1]
  ·rw[z2]at y1;exact absurd y1 (no _ _)
  ·rw[y2]at z1;exact absurd z1 (no _ _)
  ·exact I.uni _ _ _ _ _ w z1 y1
 ·by_cases hj:j=i
  ·subst hj
   rw[IE (List.getElem?_eq_some_iff.mp e).1]at e4;cases e4
   refine⟨_,_,e,λu _ v=>?_⟩
   obtain rfl:u=.ref x:=v
   rcases hd with⟨h1,rfl⟩|⟨c,ks,ds,ox,rfl,h1,h2⟩
   ·rcases hc with hc|⟨_,_,_,_,rfl,_⟩
    ·exact .inl ⟨x,o,rfl,ah,hc.to hs⟩
    ·cases h1
   ·rcases hc with hc|⟨_,_,_,vs,z,h3,h4⟩
    ·exact hc.elim
    ·cases z;exact .inr ⟨x,ox,a,o,vs,rfl,fwd h1,h2,ah,h3,h4.to hs⟩
  ·rw[H0 (Ib hj)]at e4
   exact⟨e1,b,e4,λu _ v=>v.to hs λc k ob _ z=>fwd z⟩
end
end L2
namespace L2
open PySem
def ae {α β:Type}(x:Qq α) (f:α->Qq β):Qq β:=match x with|some a=>f a|none=>B
def ag {α β:Type}{x:Qq α}{f:α->Qq β}{b:β}(h:ae x f=U b):∃a,x=U a/\f a=U b:=by
 cases x with
 |none=>cases h
 |some a=>exact⟨a,rfl,h⟩
def b2 {α:Type}(g:D->D->Qq α) (x y:Qq D):Qq α:=ae x λa=>ae y (g a)
def jO {α:Type}{g:D->D->Qq α}{x y:Qq D}{d:α}(h:b2 g x y=U d):∃a b,x=U a/\y=U b/\g a b=U d:=by
 let⟨a,h1,h2⟩:=ag h;let⟨b,h2,h3⟩:=ag h2;exact⟨a,b,h1,h2,h3⟩
def gd {α:Type}(c:Bool) (x:α):Qq α:=if c=V then U x else B
def gW {α:Type}{c:Bool}{x y:α}(h:gd c x=U y):c=V/\y=x:=by unfold gd at h;split at h<;>simp_all
def lim:Nat:=1000000
def aA {n:Nat}(h:n<=lim):n<=sizeLine:=Ja h (by decide)
def okL:Qq Ih->D->Bool
 |some c,.ob c' _ _=>decide (c=c')
 |none,d=>nx d
 |_,_=>Y
def Gm (δ:DEnv):D->Qq D
 |.loc c j=>(match δ[j]? with|some (U (d,V))=>if okL c d=V then U d else B|_=>B)
 |.dL _ _=>B
 |d=>U d
def res (δ:DEnv) (x:D×Bool):Qq (D×Bool):=match x.2 with
 |false=>U (x.1,Y)
 |true=>(match Gm δ x.1 with|some d=>U (d,V)|none=>B)
def rd (m:Bool) (i:Nat) (δ:DEnv):Qq D:=match δ[i]? with|some (U x)=>(match res δ x with|some (d,o)=>if(o&&!m)=V then B else U d|none=>B)|_=>B
def bI (C:Int->Int->Bool) (g:Int->Int->D) (x y:D):Qq D:=match x,y with|.int i,.int j=>gd (C i j) (g i j)|_,_=>B
def Hp:Int->Int->Bool:=λi j=>decide ((-(2 ^ 64)<i/\i<2 ^ 64)\/(-(2 ^ 64)<j/\j<2 ^ 64))
def Hl:Int->Int->Bool:=λ_ j=>decide (0<j/\j<1073741824)
def Hw:Int->Int->Bool:=λ_ j=>decide (0<j)
def dY:Qq D->Qq D->Qq D:=b2 (bI (λ_ _=>V) λi j=>.int (i+j))
def uS:Qq D->Qq D->Qq D:=b2 (bI Hp λi j=>.int (i*j))
def iS:Qq D->Qq D->Qq D:=b2 (bI Hl λi j=>.int (i / j))
def c9:Qq D->Qq D->Qq D:=b2 (bI Hw λi j=>.int (i%j))
def cI (g:Int->Int->Bool):Qq D->Qq D->Qq Bool:=b2 λx y=>match x,y with|.int i,.int j=>U (g i j)|_,_=>B
abbrev gLt:Int->Int->Bool:=λi j=>decide (i<j)
abbrev gGt:Int->Int->Bool:=λi j=>decide (j<i)
abbrev gGe:Int->Int->Bool:=λi j=>decide (j<=i)
def tyB (x:Qq D):Qq Bool:=match x with|some (.bl b)=>U b|_=>B
def ofB (x:Qq Bool):Qq D:=match x with|some b=>U (.bl b)|none=>B
def vN (x y:Qq Bool):Qq Bool:=match x with|some V=>y|some Y=>U Y|none=>B
def orO (x y:Qq Bool):Qq Bool:=match x with|some V=>U V|some Y=>y|none=>B
def be (x:Qq Bool):Qq Bool:=match x with|some c=>U (!c)|none=>B
def A4 (x y:Qq D):Qq D:=match tyB x with|some V=>y|some Y=>U (.bl Y)|none=>B
def ifV {α:Type}(c:Qq Bool) (x y:Qq α):Qq α:=match c with|some V=>x|some Y=>y|none=>B
def aa (x:Qq D) (y:Qq (Qw D)):Qq (Qw D):=match x,y with|some d,U ds=>U (d::ds)|_,_=>B
def dh (x:Qq (Qw D)):Qq D:=ae x λds=>gd (decide (ds.length<=lim)) (.tup ds)
def dC (x:Qq (Qw D)):Qq D:=ae x λds=>gd (decide (ds.length<=lim)) (.lst ds)
def okD:Nat->D->Bool
 |_,.non=>V
 |_,.int _=>V
 |_,.str _=>V
 |n+1,.tup ds=>ds.all (okD n)
 |n+1,.lst ds=>ds.all (okD n)
 |_,_=>Y
def ok2 (x y:D):Bool:=okD 16 x&&okD 16 y
def eqO:Qq D->Qq D->Qq Bool:=b2 λd e=>gd (ok2 d e) (decide (d=e))
def neO (x y:Qq D):Qq Bool:=be (eqO x y)
def fW:D->Qq (Qw D)
 |.lst ds=>U ds
 |.tup ds=>U ds
 |_=>B
def inO:Qq D->Qq D->Qq Bool:=b2 λd e=>ae (fW e) λes=>gd (okD 16 d&&es.all (okD 16)) (decide (d∈es))
def o4 (x y:Qq D):Qq Bool:=be (inO x y)
mutual
noncomputable def D.flat:D->Bool
 |.non=>V|.bl _=>V|.int _=>V|.str _=>V
 |.tup ds=>D.flats ds
 |_=>Y
noncomputable def D.flats:Qw D->Bool
 |[]=>V
 |d::ds=>d.flat&&D.flats ds
end
theorem D.flats_all:∀ds:Qw D,D.flats ds=ds.all D.flat
 |[]=>rfl
 |d::ds=>by simp![D.flats,Iw,D.flats_all ds]
def ixN (n:Nat) (i:Int):Qq Nat:=if 0<=i then(if i<n then U i.toNat else B) else if -(n:Int)<=i then U (i+n).toNat else B
def atI {α:Type}(xs:Qw α) (i:Int):Qq α:=(ixN xs.length i).bind λj=>xs[j]?
def ixO:Qq D->Qq D->Qq D:=b2 λd e=>match e with|.int i=>ae (fW d) λds=>atI ds i|_=>B
def Ez:Qq D->Qq D->Qq D:=b2 λd e=>match d,e with|.str z,.int i=>if z.length<=lim then ae (atI z.cps.toList i) λc=>U (.str ⟨#[c]⟩) else B|_,_=>B
def cS (x:Qq D):Qq D:=ae x λd=>ae (fW d) λds=>U (.int ds.length)
def FO (x:Qq D):Qq D:=ae x λd=>match d with|.str z=>if z.length<=lim then U (.int z.length) else B|_=>B
def tz (x:Qq D):Qq D:=ae x λd=>ae (fW d) λds=>U (.lst ds)
def hY (x:Qq D):Qq D:=ae x λd=>ae (fW d) λds=>U (.tup ds)
def sIx (n d:Nat):Qq Int->Nat
 |none=>d
 |some v=>if v<0 then(v+(n:Int)).toNat else min v.toNat n
def fP {α:Type}(ds:Qw α) (lo hi:Qq Int):Qw α:=(ds.drop (sIx ds.length 0 lo)).take (sIx ds.length ds.length hi - sIx ds.length 0 lo)
def wj (x:Ih) (lo hi:Qq Int):Ih:=if((KM lo hi 1 x.length).length==x.length)=V then x else⟨((KM lo hi 1 x.length).filterMap (x.cps[·]?)).toArray⟩
def aX (x:Qq D):Qq (Qq Int):=match x with|some (.int i)=>U (U i)|_=>B
def b3 {α:Type}(g:D->Qq Int->Qq Int->Qq α) (x:Qq D) (l u:Qq (Qq Int)):Qq α:=ae x λx=>ae l λl=>ae u λu=>g x l u
def bq:Qq D->Qq (Qq Int)->Qq (Qq Int)->Qq D:=b3 λd l u=>match d with|.lst ds=>U (.lst (fP ds l u))|_=>B
def xC:Qq D->Qq (Qq Int)->Qq (Qq Int)->Qq D:=b3 λd l u=>match d with|.str z=>if z.length<=lim then U (.str (wj z l u)) else B|_=>B
def Es:Qq D->Qq D->Qq D:=b2 λx y=>match x,y with|.str i,.str j=>if i.length+j.length<=lim then U (.str (i++j)) else B|_,_=>B
def Gw:Qq D->Qq D->Qq D:=b2 λx y=>match x,y with|.tup i,.tup j=>if i.length+j.length<=lim then U (.tup (i++j)) else B|_,_=>B
def gO:Qq D->Qq D->Qq D:=b2 λx y=>match x,y with|.lst i,.lst j=>if i.length+j.length<=lim then U (.lst (i++j)) else B|_,_=>B
def E7 (x:Qq D):Qq D:=match x with|some (.int i)=>U (.int (-i))|_=>B
def tQ:Qw D->Qq (Qw Ih)
 |[]=>U []
 |.str i::ds=>(match tQ ds with|some l=>U (i::l)|none=>B)
 |_=>B
def Ei:Qw D->Qq (Qw Bool)
 |[]=>U []
 |.bl b::ds=>(match Ei ds with|some bs=>U (b::bs)|none=>B)
 |_=>B
def zY:Qq D->Qq D->Qq D:=b2 λx y=>match x,y with|.str z,.lst ds=>ae (tQ ds) λys=>if(ys.map (·.length)).sum+ys.length*z.length<=16777216 then U (.str (ON z ys)) else B|_,_=>B
def HI (x:Qq D):Qq D:=match x with|some (.lst ds)=>ae (Ei ds) λbs=>U (.bl (bs.any id))|_=>B
def kt (x:Qq D):Qq Bool:=match x with|some d=>U (decide (d=.non))|none=>B
def AH (x:Qq D):Qq Bool:=match x with
 |some .non=>U Y
 |some (.bl b)=>U b
 |some (.int i)=>U (i != 0)
 |some (.str y)=>if y.length<=lim then U ((y.length:Int) != 0) else B
 |some (.lst ds)=>U (!ds.isEmpty)
 |some (.tup ds)=>U (!ds.isEmpty)
 |_=>B
inductive Out where
 |next (δ:DEnv)|ret (d:D) (fr:Bool) (δ:DEnv)|brk (δ:DEnv)|cont (δ:DEnv)
def nextO (δ:DEnv):Qq Out:=U (.next δ)
def au (x:Qq Out) (k:DEnv->Qq Out):Qq Out:=match x with|some (.next δ)=>k δ|o=>o
def ifO (c:Qq Bool) (x y:Qq Out):Qq Out:=match c with|some V=>x|some Y=>y|none=>B
def bj (i:Nat) (x:Qq D) (δ:DEnv):Qq Out:=match x with|some d=>if i<δ.length then U (.next (δ.set i (U (d,Y)))) else B|none=>B
def gN (i:Nat) (x:Qq D) (δ:DEnv):Qq Out:=match x with|some d=>if i<δ.length then U (.next (δ.set i (U (d,V)))) else B|none=>B
def cG (x:Qq D) (δ:DEnv):Qq Out:=match x with|some d=>U (.ret d Y δ)|none=>B
def dz (x:Qq D) (δ:DEnv):Qq Out:=match x with|some d=>U (.ret d V δ)|none=>B
def bu (i:Nat) (δ:DEnv):Qq D:=match δ[i]? with|some (U (d,V))=>if nx d=V then U d else B|_=>B
def pN (i:Nat) (δ:DEnv):DEnv:=match δ[i]? with|some (U (d,V))=>(match frD d with|some d'=>δ.set i (U (d',Y))|none=>δ)|_=>δ
def ui (i:Nat) (x:Qq D) (δ:DEnv):Qq Out:=match bu i δ,x with|some (.lst ds),U d=>if ds.length<lim then U (.next (δ.set i (U (.lst (ds++[d]),V)))) else B|_,_=>B
def AV (i:Nat) (x:Qq D) (δ:DEnv):Qq Out:=match bu i δ,x with|some (.lst ds),U (.lst es)=>if ds.length+es.length<=lim then U (.next (δ.set i (U (.lst (ds++es),V)))) else B|_,_=>B
def af (i:Nat) (d:D) (δ:DEnv):Qq DEnv:=if i<δ.length then U (δ.set i (U (d,Y))) else B
def toNil (ds:Qw D) (δ:DEnv):Qq DEnv:=match ds with|[]=>U δ|_=>B
def am (τ:D->DEnv->Qq DEnv) (υ:Qw D->DEnv->Qq DEnv) (ds:Qw D) (δ:DEnv):Qq DEnv:=match ds with|d::r=>ae (τ d δ) (υ r)|[]=>B
def bh (υ:Qw D->DEnv->Qq DEnv) (d:D) (δ:DEnv):Qq DEnv:=match d with|.tup ds=>υ ds δ|_=>B
def dj (x:Qq D):Qq (Qw D):=match x with|some (.lst ds)=>U ds|_=>B
def yp (x:Qq D):Qq (Qw D):=match x with|some (.tup ds)=>U ds|_=>B
def jK (lo:Int) (n:Nat):Qw D:=(Iu n).map λ(i:Nat)=>.int (lo+(i:Int))
def nG (x:Qq D):Qq (Qw D):=match x with|some (.int j)=>if(decide (-(2 ^ 62)<=j/\j<2 ^ 62))=V then U (jK 0 j.toNat) else B|_=>B
def aq (body:D->DEnv->Qq Out):Qw D->DEnv->Qq Out
 |[],δ=>U (.next δ)
 |d::ds,δ=>match body d δ with
  |some (.next δ')=>aq body ds δ'
  |some (.cont δ')=>aq body ds δ'
  |some (.brk δ')=>U (.next δ')
  |some (.ret e fr δ')=>U (.ret e fr δ')
  |none=>B
def aK (t:DEnv->Qq Bool) (b:DEnv->Qq Out):Nat->DEnv->Qq Out
 |0,_=>B
 |n+1,δ=>match t δ with
  |none=>B
  |some Y=>U (.next δ)
  |some V=>match b δ with
   |some (.next δ')=>aK t b n δ'
   |some (.cont δ')=>aK t b n δ'
   |some (.brk δ')=>U (.next δ')
   |some (.ret e fr δ')=>U (.ret e fr δ')
   |none=>B
def shO (x:Qq (D×Bool)):Qq D:=match x with|some (d,_)=>U d|none=>B
def frO (x:Qq (D×Bool)):Qq D:=match x with|some (d,V)=>if nx d=V then U d else B|_=>B
def flO (x:Qq (D×Bool)):Qq D:=match x with|some (.lst ds,V)=>if D.flats ds=V then U (.lst ds) else B|some (.dK ks ds,V)=>if D.flats ds=V then U (.dK ks ds) else B|_=>B
def pi (n:Nat) (ds:Qw D):DEnv:=ds.map (λd=>U (d,Y))++OH (n - ds.length) B
def lN (x:Qq Out):Qq (D×Bool):=match x with|some (.ret d fr _)=>U (d,fr)|some (.next _)=>U (.non,Y)|_=>B
def bW (n np:Nat) (g:DEnv->Qq Out) (ds:Qw D):Qq (D×Bool):=if ds.length=np then lN (g (pi n ds)) else B
def bD (h:D->Qq (Qq D)):Qw D->Qq (Qw D)
 |[]=>U []
 |d::ds=>match h d with
  |none=>B
  |some B=>bD h ds
  |some (U y)=>match bD h ds with
   |some l=>U (y::l)
   |none=>B
def cx (bo:Bool) (bs:Qw Bool) (δ:DEnv):DEnv:=LA (λ(b:Bool) (o:Qq (D×Bool))=>if b=V then(match o with|some x=>(match res δ x with|some (d,ow)=>if(ow&&!bo)=V then B else U (d,Y)|none=>B)|none=>B) else B) bs δ
def cw (τ:D->DEnv->Qq DEnv) (ft:DEnv->Qq Bool) (fe:DEnv->Qq D) (δ:DEnv) (d:D):Qq (Qq D):=ae (τ d δ) λδ'=>match ft δ' with|some V=>(match fe δ' with|some y=>U (U y)|none=>B)|some Y=>U B|none=>B
def bA (bo:Bool) (bs:Qw Bool) (τ:D->DEnv->Qq DEnv) (ft:DEnv->Qq Bool) (fe:DEnv->Qq D) (δ:DEnv) (ds:Qw D):Qq (Qw D):=if ds.length<=lim then bD (cw τ ft fe (cx bo bs δ)) ds else B
def ar (x:Qq (Qw D)):Qq D:=match x with|some ds=>U (.lst ds)|none=>B
def nw (x:Qq (Qw D)):Qq (Qw D):=match x with|some ds=>if D.flats ds=V then U ds else B|none=>B
def gG:D->Qq Key
 |.int i=>U (.inl i)
 |.str x=>U (.inr x)
 |_=>B
def aP {κ β:Type}[DecidableEq κ] (k:κ):Qw κ->Qw β->Qq β
 |x::ks,d::ds=>if x=k then U d else aP k ks ds
 |_,_=>B
def bN {κ β:Type}[DecidableEq κ] (k:κ) (v:β):Qw κ->Qw β->Qw β
 |x::ks,d::ds=>(if x=k then v else d)::bN k v ks ds
 |_,_=>[]
def bB {κ β:Type}[DecidableEq κ] (k:κ) (v:β) (ks:Qw κ) (ds:Qw β):Qw β:=if k∈ks then bN k v ks ds else ds++[v]
def aC {κ:Type}[DecidableEq κ] (k:κ) (ks:Qw κ):Qw κ:=if k∈ks then ks else ks++[k]
def mU (x k:Qq D):Qq (Qq D):=match x,k with
 |some (.dK ks vs),U d=>(match gG d with|some kk=>U (aP kk ks vs)|none=>B)
 |some (.dD ks vs),U d=>if(cT 8 d&&xN d)=V then U (aP d ks vs) else B
 |_,_=>B
def cM (x k:Qq D):Qq D:=match mU x k with|some (U d)=>U d|_=>B
def sZ (k x:Qq D):Qq Bool:=match mU x k with|some o=>U o.isSome|none=>B
def wy (x:D) (k v:D):Qq D:=match x with
 |.dK ks vs=>(match gG k with|some kk=>if ks.length<lim then U (.dK (aC kk ks) (bB kk v ks vs)) else B|none=>B)
 |.dD ks vs=>if(cT 8 k&&xN k&&decide (ks.length<lim))=V then U (.dD (aC k ks) (bB k v ks vs)) else B
 |_=>B
def iM (i:Nat) (k v:Qq D) (δ:DEnv):Qq Out:=match bu i δ,k,v with
 |some x,U k,U v=>(match wy x k v with|some y=>U (.next (δ.set i (U (y,V))))|none=>B)
 |_,_,_=>B
def ifX (t:Qq (Bool×DEnv)) (g1 g2:DEnv->Qq Out):Qq Out:=match t with
 |some (V,δ)=>g1 δ
 |some (Y,δ)=>g2 δ
 |none=>B
def lB (x k y:Qq D):Qq D:=match mU x k,y with|some o,U z=>U (o.getD z)|_,_=>B
def sP:D->Qq (D×D)
 |.tup [k,v]=>if(cT 8 k&&xN k)=V then U (k,v) else B
 |_=>B
def gY:Qw D->Qq (Qw (D×D))
 |[]=>U []
 |d::ds=>match sP d,gY ds with|some p,U ps=>U (p::ps)|_,_=>B
def l8:Qw D->Qw D->Qw (D×D)->Qw D×Qw D
 |ks,vs,[]=>(ks,vs)
 |ks,vs,p::ps=>l8 (aC p.1 ks) (bB p.1 p.2 ks vs) ps
def kN (x:Qq D):Qq D:=match x with|some (.lst ds)=>(match gY ds with|some ps=>if ds.length<lim then U (.dD (l8 [] [] ps).1 (l8 [] [] ps).2) else B|none=>B)|_=>B
end L2
namespace L2
open PySem PySem.Spec PyProof.Rows Md
variable[Md]
def plE:Expr->Bool|.Starred .. =>Y|.Slice .. =>Y|.Set .. =>Y|.Call (.Name ..) [] [] _=>Y|_=>V
def aB (h:plE e=V):starEach (e::es) v=(Y,eval e v)::starEach es v:=by cases e<;>first|rfl|cases h
def oE (h:plE e=V):subscripted e Y o i=operate [o,i] (getItem o i):=by cases e<;>first|rfl|cases h
def pZ (h:plE e=V):behindInMarks op e=Y:=by cases e<;>first|rfl|cases h
def i9 (h:plE e=V):foldedSetIterable e v x=pure x:=by cases e<;>first|rfl|cases h
def fM (h:plE e=V):attributeBase e n v t=t:=by
 cases e with
 |Call f as ks p=>cases f<;>first|rfl|(cases as<;>first|rfl|(cases ks<;>first|rfl|cases h))
 |_=>rfl
abbrev Post (X:Cx) (M:Mp) (δ:DEnv) (m:Bool) (d:D) (Q:HM->HN->Prop):Prop:=∀v s' M',Ext M M'->Inv X M' δ s'->R m M' d v->Q v s'
structure DE (X:Cx) (m:Bool) (e:Expr) (f:DEnv->Qq D):Prop where
 pl:plE e=V
 ev:∀{M δ s d} {Q:HM->HN->Prop},Inv X M δ s->f δ=U d->Post X M δ m d Q->WP X (eval e X.env) Q s
abbrev PostF (X:Cx) (M:Mp) (δ:DEnv) (d:D) (Q:HM->HN->Prop):Prop:=∀a o s' M',Ext M M'->Inv X M' δ s'->Free X M' a->s'.heap.get? a=U o->C M' d o->Q (.ref a) s'
structure DF (X:Cx) (e:Expr) (f:DEnv->Qq D):Prop where
 pl:plE e=V
 ev:∀{M δ s d} {Q:HM->HN->Prop},Inv X M δ s->f δ=U d->PostF X M δ d Q->WP X (eval e X.env) Q s
def DT (X:Cx) (e:Expr) (f:DEnv->Qq Bool):Prop:=∀{M δ s c} {Q:Bool->HN->Prop},Inv X M δ s->f δ=U c->(∀s' M',Ext M M'->Inv X M' δ s'->Q c s')->WP X (isTrue e X.env (eval e X.env)) Q s
def DW (X:Cx) (op:BoolOp) (es:Qw Expr) (f:DEnv->Qq Bool):Prop:=∀{M δ s c} {Q:Bool->HN->Prop},Inv X M δ s->f δ=U c->(∀s' M',Ext M M'->Inv X M' δ s'->Q c s')->WP X (allTrue op es X.env) Q s
structure DA (X:Cx) (m:Bool) (es:Qw Expr) (f:DEnv->Qq (Qw D)):Prop where
 pl:es.all plE=V
 ev:∀{M δ s ds} {Q:Qw HM->HN->Prop},Inv X M δ s->f δ=U ds->(∀vs s' M',Ext M M'->Inv X M' δ s'->Rs m M' ds vs->Q vs s')->∀pos,WP X (spliced (backTo pos (starEach es X.env))) Q s
def thn {α:Type}{t:N1 α}{Q Q':α->HN->Prop}{M:Model}{A:Ia}{E:HM->HN->Prop}{s:HN}(h:wpAny M A t Q E s) (hQ:∀a s,Q a s->Q' a s):wpAny M A t Q' E s:=Jv h hQ λ_ _ x=>x
section
variable{X:Cx}{M M':Mp}{δ:DEnv}{s:HN}{Q:HM->HN->Prop}{a b:Expr}{fa fb:DEnv->Qq D}{m m' mm:Bool}{pos:MR}
def Post.to (k:Post X M δ m d Q) (h:Ext M M'):Post X M' δ m d Q:=λv s' M'' e=>k v s' M'' (h.trans e)
def PostF.to (k:PostF X M δ d Q) (h:Ext M M'):PostF X M' δ d Q:=λa o s' M'' e=>k a o s' M'' (h.trans e)
def DF.share (h:DF X a fa):DE X m a fa:=⟨h.pl,λI e k=>h.ev I e λb o s' M' x I' f q c=>k _ s' _ (x.trans (bQ f.m)) (I'.put f q) (c.rep (λ_ _ q=>Sub.weak _ _ (br f.m _ _ q)) ⟨.f,ah,rfl⟩)⟩
structure Nm (X:Cx) (i:Nat) (x:Ih):Prop where
 n:X.N[i]?=U x
 v:Vis X.env.scope x
 d:(x==("__debug__":Ih))=Y
 c:(x==("__classdict__":Ih))=Y
def Inv.load {E:HM->HN->Prop}(I:Inv X M δ s) (h:Nm X i x) (e:δ[i]?=U (U (d,o))) (k:∀v,Va M X.S X.N.length i d v o->Q v s):wpAny (model P w) X.A (loadName X.env x) Q E s:=by
 let⟨m,hn,hl⟩:=I.loc;let⟨u,l,r⟩:=hl i x d o h.n e h.v
 rcases l with⟨hk,hm⟩|⟨hk|hk,c,hc,hcell⟩
 ·exact wpAny_loadName_local I.ok.kind hk hn hm (k u r)
 ·exact wpAny_loadName_cell I.ok.kind hk hc hcell (k u r)
 ·exact wpAny_loadName_free I.ok.kind hk hc hcell (k u r) h.c
def sV (h:okL c d=V):(c=B/\nx d=V)\/∃c' ks ds,c=U c'/\d=.ob c' ks ds:=by
 unfold okL at h;split at h
 ·exact .inr ⟨_,_,_,rfl,by rw[of_decide_eq_true h]⟩
 ·exact .inl ⟨rfl,h⟩
 ·cases h
nonrec theorem Inv.res {b:Bool}(I:Inv X M δ s) (e:res δ (d0,b0)=U (d,b)) (hb:b=V->m=V) (v:Va M X.S X.N.length i d0 u b0):R m M d u:=by
 unfold L2.res at e;cases b0 with
 |false=>cases e;exact R.weak v
 |true=>
  dsimp only at e;split at e<;>cases e
  rename_i e;obtain rfl:=hb rfl;unfold Gm at e;split at e
  ·rename_i c j
   split at e<;>try cases e
   split at e<;>cases e
   rename_i hj ho
   rcases v with⟨_,_,_,_,z⟩|v
   ·exact z.elim
   ·rcases sV ho with⟨rfl,h1⟩|⟨c',ks,ds,rfl,rfl⟩
    ·let⟨a,h2,h3,rfl⟩:=v
     let⟨o,h4,h5⟩:=I.sto _ a _ h2 (by rw[Mf h3];exact hj)
     rcases h5 with h5|⟨_,_,_,_,rfl,_⟩
     ·exact h5.rep Sub.weak ⟨_,h4,rfl⟩
     ·cases h1
    ·let⟨a,x,ox,h2,h3,rfl,h6,h7⟩:=v
     let⟨o,h4,h5⟩:=I.sto _ a _ h2 (by rw[Mf h3];exact hj)
     rcases h5 with h5|⟨_,_,_,vs,z,h8,h9⟩
     ·exact h5.elim
     ·cases z;exact⟨x,ox,a,o,vs,rfl,⟨_,h6,rfl⟩,h7,⟨_,h4,rfl⟩,h8,h9.weak⟩
  ·cases e
  ·rename_i n1 n2
   cases e
   rcases v with⟨a,o,rfl,q,c⟩|v
   ·exact c.rep Sub.weak ⟨_,q,rfl⟩
   ·cases d0 with
    |ob c ks ds=>let⟨x,ox,a,o,vs,h1,h2,h3,h4,h5,h6⟩:=v;exact⟨x,ox,a,o,vs,h1,⟨_,h2,rfl⟩,h3,⟨_,h4,rfl⟩,h5,h6.weak⟩
    |dL ks ds=>exact absurd rfl (n2 ks ds)
    |loc c j=>exact absurd rfl (n1 c j)
    |_=>exact v.elim
nonrec theorem pX (h:rd m i δ=U d):∃(d0:D) (b0 b:Bool),δ[i]?=U (U (d0,b0))/\res δ (d0,b0)=U (d,b)/\(b=V->m=V):=by
 unfold rd at h;split at h<;>try cases h
 split at h<;>try cases h
 rename_i x q _ d' b e;split at h<;>cases h
 rename_i hb;exact⟨x.1,x.2,b,q,e,λz=>by subst z;cases m;exact absurd rfl hb;rfl⟩
def nv (m:Bool) (h:Nm X i x):DE X m (.Name x pos) (rd m i):=⟨rfl,λI e k=>by
 let⟨d0,b0,b,e,e',hb⟩:=pX e;exact Kr (I.load h e λv r=>k v _ _ Ext.refl I (I.res e' hb r)) h.d⟩
def DY:DE X m (.Constant (.int i) j pos) (λ_=>U (.int i)):=⟨rfl,λI e k=>by cases e;exact wpAny_Constant_int (k _ _ _ Ext.refl I.tok ⟨_,rfl⟩)⟩
def Ff:DE X m (.Constant (.str x) j pos) (λ_=>U (.str x)):=⟨rfl,λI e k=>by cases e;exact Calls.Constant_str (k _ _ _ Ext.refl I.tok ⟨_,rfl⟩)⟩
def Gv:DE X m (.Constant (.bool x) j pos) (λ_=>U (.bl x)):=⟨rfl,λI e k=>by cases e;exact Constant_bool (k _ _ _ Ext.refl I rfl)⟩
def DZ:DE X m (.Constant .none j pos) (λ_=>U .non):=⟨rfl,λI e k=>by cases e;exact Constant_none (k _ _ _ Ext.refl I rfl)⟩
def R.tt (h:R m M d v):R V M d v:=h.to λa o ⟨k,e,q⟩=>⟨k,e,by cases k<;>simp_all [Rl.ok]⟩
def OpS (X:Cx) (f:HM->HM->N1 HM) (g:D->D->Qq D):Prop:=∀{M δ s x y v u d mm} {Q:HM->HN->Prop},Inv X M δ s->R V M x v->R V M y u->g x y=U d->Post X M δ mm d Q->WP X (f v u) Q s
def two {α β:Type}{g:D->D->Qq α}{d:α}{f:HM->HM->N1 β}{Q:β->HN->Prop}(ha:DE X m a fa) (hb:DE X m' b fb) (I:Inv X M δ s) (e:b2 g (fa δ) (fb δ)=U d) (k:∀x y v u s' M',Ext M M'->Inv X M' δ s'->R m M' x v->R m' M' y u->g x y=U d->WP X (f v u) Q s'):
  WP X (eval a X.env) (λv s₁=>WP X (eval b X.env) (λu s₂=>WP X (f v u) Q s₂) s₁) s:=by
 let⟨x,y,e1,e2,e3⟩:=jO e;exact ha.ev I e1 λv s1 M1 x1 I1 r1=>hb.ev I1 e2 λu s2 M2 x2 I2 r2=>k x y v u s2 M2 (x1.trans x2) I2 (r1.up x2) r2 e3
def tD {g:D->D->Qq D}(ho:OpS X (binaryOp op) g) (ha:DE X m a fa) (hb:DE X m' b fb):DE X mm (.BinOp a op b pos) (λδ=>b2 g (fa δ) (fb δ)):=
 ⟨rfl,λI e k=>wpAny_BinOp (two ha hb I e λx y v u s2 M2 x2 I2 r1 r2 e3=>ho I2 r1.tt r2.tt e3 (Post.to k x2))⟩
def opI {f:HM->HM->N1 HM}{C:Int->Int->Bool}{g:Int->Int->Int}
  (rule:∀(i j:Int) (t u:Tok) (s:HN) (Q:HM->HN->Prop),C i j=V->Q (.int (g i j) s.toks) {s with toks:=s.toks+1}->WP X (f (.int i t) (.int j u)) Q s):
  OpS X f (bI C λi j=>.int (g i j)):=λ{M δ s x y v u d mm Q} I r1 r2 e k=>by
 cases x<;>try cases e
 cases y<;>try cases e
 let⟨hc,rfl⟩:=gW e;let⟨t,rfl⟩:=r1;let⟨t',rfl⟩:=r2;exact rule _ _ _ _ _ _ hc (k _ _ _ Ext.refl I.tok ⟨_,rfl⟩)
def Ft (ha:DE X m a fa) (hb:DE X m' b fb):DE X mm (.BinOp a .Add b pos) (λδ=>dY (fa δ) (fb δ)):=tD (opI λ_ _ _ _ _ _ _ q=>add_int q) ha hb
def D4 (ha:DE X m a fa) (hb:DE X m' b fb):DE X mm (.BinOp a .Mult b pos) (λδ=>uS (fa δ) (fb δ)):=tD (opI λi j _ _ _ _ c q=>mul_int q (by
 rcases of_decide_eq_true c with⟨h1,h2⟩|⟨h1,h2⟩
 ·exact .of_left (intBits_le_64 h1 h2)
 ·exact .of_right (intBits_le_64 h1 h2))) ha hb
def D8 (ha:DE X m a fa) (hb:DE X m' b fb):DE X mm (.BinOp a .FloorDiv b pos) (λδ=>iS (fa δ) (fb δ)):=tD (opI λi j _ _ _ _ c q=>by
 let c:=of_decide_eq_true c;exact floordiv_int (by lia) (by rw[Int.fdiv_eq_ediv_of_nonneg i (by lia)];exact q) (.inl (PyProof.noPylong_small (by lia)))) ha hb
def EQ (ha:DE X m a fa) (hb:DE X m' b fb):DE X mm (.BinOp a .Mod b pos) (λδ=>c9 (fa δ) (fb δ)):=tD (opI λi j _ _ _ _ c q=>by
 let c:=of_decide_eq_true c;exact mod_int' (by lia) (by rw[Int.fmod_eq_emod_of_nonneg i (by lia)];exact q)) ha hb
def CmS (X:Cx) (op:CmpOp) (g:D->D->Qq Bool):Prop:=∀{M δ s x y v u c} {Q:HM->HN->Prop},Inv X M δ s->R V M x v->R V M y u->g x y=U c->(∀s',Inv X M δ s'->Q (.bool c) s')->WP X (compareOp op v u) Q s
def sW (h:ofB x=U d):∃c,x=U c/\d=.bl c:=by
 cases x with
 |none=>cases h
 |some c=>cases h;exact⟨c,rfl,rfl⟩
def DP {g:D->D->Qq Bool}(ho:CmS X op g) (ha:DE X m a fa) (hb:DE X m' b fb):DE X mm (.Compare a [op] [b] pos) (λδ=>ofB (b2 g (fa δ) (fb δ))):=
 ⟨rfl,λI e k=>by
  let⟨c,e',rfl⟩:=sW e;exact wpAny_Compare1 (two (f:=compareOp op) ha hb I e' λx y v u s2 M2 x2 I2 r1 r2 e3=>ho I2 r1.tt r2.tt e3 λs3 I3=>k _ s3 M2 x2 I3 rfl) (pZ hb.pl)⟩
def yQ {g:D->D->Qq Bool}(ho:CmS X op g) (ha:DE X m a fa) (hb:DE X m' b fb):DT X (.Compare a [op] [b] pos) (λδ=>b2 g (fa δ) (fb δ)):=λI e k=>
 L5 (two (f:=compareOp op) ha hb I e λx y v u s2 M2 x2 I2 r1 r2 e3=>ho I2 r1.tt r2.tt e3 λs3 I3=>Jh (k s3 M2 x2 I3)) (pZ hb.pl)
def cmI {g:Int->Int->Bool}(rule:∀(i j:Int) (t u:Tok) (s:HN) (Q:HM->HN->Prop),Q (.bool (g i j)) s->WP X (compareOp op (.int i t) (.int j u)) Q s):CmS X op (λx y=>match x,y with|.int i,.int j=>U (g i j)|_,_=>B):=
 λ{M δ s x y v u c Q} I r1 r2 e k=>by
 cases x<;>try cases e
 cases y<;>try cases e
 let⟨t,rfl⟩:=r1;let⟨t',rfl⟩:=r2
 simp_all
def Gj:CmS X .Lt (λx y=>match x,y with|.int i,.int j=>U (gLt i j)|_,_=>B):=cmI λ_ _ _ _ _ _ q=>lt_int q
def GO:CmS X .Gt (λx y=>match x,y with|.int i,.int j=>U (gGt i j)|_,_=>B):=cmI λ_ _ _ _ _ _ q=>gt_int q
def GS:CmS X .GtE (λx y=>match x,y with|.int i,.int j=>U (gGe i j)|_,_=>B):=cmI λ_ _ _ _ _ _ q=>ge_int q
def E5 {g:Int->Int->Bool}(ho:CmS X op (λx y=>match x,y with|.int i,.int j=>U (g i j)|_,_=>B)) (ha:DE X m a fa) (hb:DE X m' b fb):DT X (.Compare a [op] [b] pos) (λδ=>cI g (fa δ) (fb δ)):=yQ ho ha hb
def lQ (h:tyB x=U c):x=U (.bl c):=by unfold tyB at h;split at h<;>simp_all
def plT:Expr->Bool|.UnaryOp .Not .. =>Y|.BoolOp .. =>Y|.IfExp .. =>Y|.Compare .. =>Y|_=>V
def qL (h:plT e=V):isTrue e v t=(do let v <-t;standAt e.pos;holding [v] (truthy v)):=by
 cases e with
 |UnaryOp op x p=>cases op<;>first|rfl|cases h
 |_=>first|rfl|cases h
def EI (h:plT a=V) (ha:DE X m a fa):DT X a (λδ=>tyB (fa δ)):=λI e k=>
 isTrue_plain (ha.ev I (lQ e) λv s1 M1 x1 I1 r1=>by cases r1;exact Jh (k _ _ x1 I1)) (qL h)
variable{ga gb:DEnv->Qq Bool}{es:Qw Expr}{fs:DEnv->Qq (Qw D)}
theorem Ec (ha:DT X a ga):DW X op [a] ga:=λ{M δ s c Q} I e k=>by
 cases op
 ·exact HJ (ha I e λs1 M1 x1 I1=>by cases c<;>exact HK (k _ _ x1 I1))
 ·exact HJ (ha I e λs1 M1 x1 I1=>by cases c<;>exact HK (k _ _ x1 I1))
theorem EA (ha:DT X a ga) (hb:DW X .And (b::es) gb):DW X .And (a::b::es) (λδ=>vN (ga δ) (gb δ)):=λ{M δ s c Q} I e k=>by
 cases q:ga δ with
 |none=>simp[vN,q]at e
 |some g=>
  simp![vN,q]at e;refine HJ (ha I q λs1 M1 x1 I1=>?_)
  cases g
  ·cases e;exact HK (k _ _ x1 I1)
  ·exact hb I1 e λs2 M2 x2=>k _ _ (x1.trans x2)
theorem G8 (ha:DT X a ga) (hb:DW X .Or (b::es) gb):DW X .Or (a::b::es) (λδ=>orO (ga δ) (gb δ)):=λ{M δ s c Q} I e k=>by
 cases q:ga δ with
 |none=>simp[orO,q]at e
 |some g=>
  simp![orO,q]at e;refine HJ (ha I q λs1 M1 x1 I1=>?_)
  cases g
  ·exact hb I1 e λs2 M2 x2=>k _ _ (x1.trans x2)
  ·cases e;exact HK (k _ _ x1 I1)
def Dt (h:DW X op es ga):DT X (.BoolOp op es pos) ga:=λI e k=>h I e k
theorem E3 (ha:DT X a ga):DT X (.UnaryOp .Not a pos) (λδ=>be (ga δ)):=λ{M δ s c Q} I e k=>by
 cases q:ga δ with
 |none=>simp[be,q]at e
 |some g=>
  simp![be,q]at e;cases e;exact isTrue_not (ha I q k)
def BI {op:BoolOp}(ha:DE X mm a fa):DE X mm (.BoolOp op [a] pos) fa:=⟨rfl,λI e k=>BoolOp_one (ha.ev I e k)⟩
theorem CA (ha:DE X m a fa) (hb:DE X mm (.BoolOp .And (b::es) pos) fb):DE X mm (.BoolOp .And (a::b::es) pos) (λδ=>A4 (fa δ) (fb δ)):=⟨rfl,λ{M δ s d Q} I e k=>by
 cases q:tyB (fa δ)with
 |none=>simp[A4,q]at e
 |some g=>
  simp![A4,q]at e;refine BoolOp_and (ha.ev I (lQ q) λv s1 M1 x1 I1 r1=>?_)
  cases r1;refine Jh ?_
  cases g
  ·cases e;exact k _ _ _ x1 I1 rfl
  ·exact hb.ev I1 e (Post.to k x1)⟩
theorem EG {c:Expr}{fc:DEnv->Qq Bool}(hc:DT X c fc) (ha:DE X mm a fa) (hb:DE X mm b fb):DE X mm (.IfExp c a b pos) (λδ=>ifV (fc δ) (fa δ) (fb δ)):=⟨rfl,λ{M δ s d Q} I e k=>by
 cases q:fc δ with
 |none=>simp[ifV,q]at e
 |some g=>
  simp![ifV,q]at e;refine wpAny_IfExp (hc I q λs1 M1 x1 I1=>?_)
  cases g
  ·exact hb.ev I1 e (Post.to k x1)
  ·exact ha.ev I1 e (Post.to k x1)⟩
def uh (h:aa x y=U l):∃d ds,x=U d/\y=U ds/\l=d::ds:=by unfold aa at h;split at h<;>simp_all
theorem bC:DA X m [] (λ_=>U []):=⟨rfl,λI e k pos=>by cases e;exact IX (k [] _ _ Ext.refl I rfl)⟩
theorem aW (ha:DE X m a fa) (hr:DA X m es fs):DA X m (a::es) (λδ=>aa (fa δ) (fs δ)):=⟨by simp[ha.pl,hr.pl],λI e k pos=>by
 let⟨d,ds,e1,e2,rfl⟩:=uh e;rw[aB ha.pl];exact Ie (ha.ev I e1 λv s1 M1 x1 I1 r1=>hr.ev I1 e2 (λvs s2 M2 x2 I2 r2=>k (v::vs) _ _ (x1.trans x2) I2 ⟨v,vs,rfl,r1.up x2,r2⟩) pos)⟩
def Inv.newT (I:Inv X M δ s) (r:Rs m M ds vs) (h:ds.length<=lim) (k:Post X M δ m (.tup ds) Q):Q (.ref s.heap.objs.size) {s with heap:=s.heap.push {cls:=.type "tuple",data:=.seq vs.toArray},toks:=t}:=by
 let f:=I.fresh (HQ _);exact k _ _ _ (bQ f.m) I.new ⟨_,_,vs,rfl,⟨.f,ah,rfl⟩,⟨⟨by rw[<-r.length];exact aA h,rfl⟩,rfl,_,rfl⟩,r.to (br f.m)⟩
def Inv.newL (I:Inv X M δ s) (r:Rs Y M ds vs) (h:ds.length<=lim) (k:PostF X M δ (.lst ds) Q):Q (.ref s.heap.objs.size) {s with heap:=s.heap.push {cls:=.type "list",data:=.seq vs.toArray},toks:=t}:=
 k _ _ _ _ Ext.refl I.push (I.fresh (HQ _)) (HO _ rfl) ⟨vs,⟨by rw[<-r.length];exact aA h,_,rfl⟩,r⟩
def EJ {x1:Nat}(h:DA X m es fs):DE X m (.Tuple es x1 pos) (λδ=>dh (fs δ)):=⟨rfl,λI e k=>by
 let⟨ds,e1,e2⟩:=ag e;let⟨hl,rfl⟩:=gW e2;exact wpAny_Tuple_spliced (h.ev I e1 (λvs s1 M1 x1 I1 r1=>⟨by rw[<-r1.length];exact aA (of_decide_eq_true hl),I1.newT r1 (of_decide_eq_true hl) (Post.to k x1)⟩) pos)⟩
def wU (h:DA X Y es fs):DF X (.List es pos) (λδ=>dC (fs δ)):=⟨rfl,λI e k=>by
 let⟨ds,e1,e2⟩:=ag e;let⟨hl,rfl⟩:=gW e2;exact wpAny_List_spliced (h.ev I e1 (λvs s1 M1 x1 I1 r1=>⟨by rw[<-r1.length];exact aA (of_decide_eq_true hl),I1.newL r1 (of_decide_eq_true hl) (PostF.to k x1)⟩) pos)⟩
end
end L2
namespace L2
open PySem PySem.Spec PyProof.Rows Md
variable[Md]
def Cz (h:okD n (.tup ds)=V):∃k,n=k+1/\ds.all (okD k)=V:=by cases n with|zero=>cases h|succ k=>exact⟨k,rfl,h⟩
def Cr (h:okD n (.lst ds)=V):∃k,n=k+1/\ds.all (okD k)=V:=by cases n with|zero=>cases h|succ k=>exact⟨k,rfl,h⟩
theorem shp (hd:okD n d=V) (r:R m M d u):(d=.non/\u=.none)\/(∃i t,d=.int i/\u=.int i t)\/(∃i t,d=.str i/\u=.str i t)\/
  (∃ds a o vs k,d=.tup ds/\u=.ref a/\n=k+1/\ds.all (okD k)=V/\Rd m M a o/\TupO o vs/\Rs m M ds vs)\/∃ds a o vs k,d=.lst ds/\u=.ref a/\n=k+1/\ds.all (okD k)=V/\Rd m M a o/\LstO o vs/\Rs m M ds vs:=by
 cases d with
 |non=>exact .inl ⟨rfl,r⟩
 |int i=>let⟨t,rfl⟩:=r;exact .inr (.inl ⟨_,_,rfl,rfl⟩)
 |str i=>let⟨t,rfl⟩:=r;exact .inr (.inr (.inl ⟨_,_,rfl,rfl⟩))
 |tup ds=>let⟨a,o,vs,rfl,r1,r2,r3⟩:=r;let⟨k,rfl,h⟩:=Cz hd;exact .inr (.inr (.inr (.inl ⟨_,a,o,vs,k,rfl,rfl,rfl,h,r1,r2,r3⟩)))
 |lst ds=>let⟨a,o,vs,rfl,r1,r2,r3⟩:=r;let⟨k,rfl,h⟩:=Cr hd;exact .inr (.inr (.inr (.inr ⟨_,a,o,vs,k,rfl,rfl,rfl,h,r1,r2,r3⟩)))
 |_=>simp[okD]at hd
def Rd.eq (h:Rd m M a o) (h':Rd m' M a o'):o=o':=by let⟨_,e,_⟩:=h;let⟨_,e',_⟩:=h';lia
def TupO.inj (h:TupO o us) (h':TupO o vs):us=vs:=by let⟨_,_,n,e⟩:=h;let⟨_,_,n',e'⟩:=h';lia
def LstO.inj (h:LstO o us) (h':LstO o vs):us=vs:=by let⟨_,n,rfl⟩:=h;let⟨_,n',e'⟩:=h';lia
theorem Rs.inj' {n n':Nat}(f:∀{d e v},okD n d=V->okD n' e=V->R m M d v->R m' M e v->d=e):∀{ds es vs},ds.all (okD n)=V->es.all (okD n')=V->Rs m M ds vs->Rs m' M es vs->ds=es
 |[],es,_,_,_,r,r'=>by subst r;cases es with|nil=>rfl|cons e es=>let⟨_,_,z,_⟩:=r';cases z
 |d::ds,es,_,hd,he,r,r'=>by
  let⟨x,t,rfl,r1,r2⟩:=r;cases es with
  |nil=>cases r'
  |cons e es=>
   let⟨_,_,z,q1,q2⟩:=r';cases z;rw[Iw,HW]at hd he;rw[f hd.1 he.1 r1 q1,Rs.inj' f hd.2 he.2 r2 q2]
def R.inj:∀{n n' d e v},okD n d=V->okD n' e=V->R m M d v->R m' M e v->d=e:=by
 intro n
 induction n using Jq with
 |ind n ih=>
 intro n' d e v hd he r r'
 rcases shp hd r with⟨rfl,rfl⟩|⟨i,t,rfl,rfl⟩|⟨i,t,rfl,rfl⟩|⟨ds,a,o,vs,k,rfl,rfl,rfl,h1,q1,t1,r1⟩|⟨ds,a,o,vs,k,rfl,rfl,rfl,h1,q1,t1,r1⟩<;>rcases shp he r' with⟨rfl,z⟩|⟨j,t',rfl,z⟩|⟨j,t',rfl,z⟩|⟨es,b,o',us,k',rfl,z,_,h2,q2,t2,r2⟩|⟨es,b,o',us,k',rfl,z,_,h2,q2,t2,r2⟩<;>cases z<;>try rfl
 ·obtain rfl:=q1.eq q2;obtain rfl:=t1.inj t2;rw[Rs.inj' (ih k (IY k)) h1 h2 r1 r2]
 ·obtain rfl:=q1.eq q2;let⟨_,_,rfl⟩:=t2;exact absurd t1.2.1 (by simp)
 ·obtain rfl:=q1.eq q2;let⟨_,_,rfl⟩:=t1;exact absurd t2.2.1 (by simp)
 ·obtain rfl:=q1.eq q2;obtain rfl:=t1.inj t2;rw[Rs.inj' (ih k (IY k)) h1 h2 r1 r2]
abbrev Hm (M:Mp) (h:Jr):Prop:=∀a k o,M a=U (k,o)->h.get? a=U o
def TupO.is (h:TupO o vs) (H:Hm M hp) (q:Rd m M a o):IsTup hp a vs.toArray:=by let⟨k,e,_⟩:=q;exact⟨o,H a k o e,h.2⟩
def LstO.is (h:LstO o vs) (H:Hm M hp) (q:Rd m M a o):hp.IsList a vs.toArray:=by let⟨k,e,_⟩:=q;let⟨_,n,rfl⟩:=h;exact⟨_,H a k _ e,rfl,n,rfl⟩
def LstO.pl (h:LstO o vs) (H:Hm M hp) (q:Rd m M a o):PlainL hp a vs.toArray:=by let⟨k,e,_⟩:=q;let⟨_,n,rfl⟩:=h;exact⟨_,n,H a k _ e,rfl,rfl,rfl⟩
def Bq:∀(ds es:Qw D),ds.length=es.length->((Iu ds.length).all λj=>decide (ds[j]?=es[j]?))=decide (ds=es):=by
 intro ds es hl;rw[Lp,Iz,decide_eq_true_iff];constructor
 ·intro h
  refine Mz λj=>?_
  by_cases hj:j<ds.length
  ·exact of_decide_eq_true (h j (qad.mpr hj))
  ·simp_all
 lia
def Dg (ds es:Qw D):(((Iu (min ds.length es.length)).all λj=>decide (ds[j]?=es[j]?))&&ds.length==es.length)=decide (ds=es):=by
 by_cases hl:ds.length=es.length
 ·rw[hl,Nat.min_self,beq_self_eq_true,KY,<-hl,Bq ds es hl]
 lia
open SeqAt in
theorem Ek {s:HN}{A:Ia}{k:Nat}(ih:∀{d e u w},okD k d=V->okD k e=V->R m M d u->R m' M e w->EqAt A s u w (decide (d=e)))
  (hd:ds.all (okD k)=V) (he:es.all (okD k)=V) (r1:Rs m M ds us) (r2:Rs m' M es vs):∀j (h1:j<us.toArray.size) (h2:j<vs.toArray.size),EqAt A s us.toArray[j] vs.toArray[j] (decide (ds[j]?=es[j]?)):=λj h1 h2=>by
 let l1:=r1.length;let l2:=r2.length;simp![IR]at h1 h2;obtain⟨d,e1⟩:∃d,ds[j]?=U d:=⟨ds[j]'(by lia),by simp⟩
 obtain⟨e,e2⟩:∃e,es[j]?=U e:=⟨es[j]'(by lia),by simp⟩
 let⟨u,hu,ru⟩:=r1.get e1;let⟨v,hv,rv⟩:=r2.get e2;let q:=ih ((qac.mp hd) _ (HR e1)) ((qac.mp he) _ (HR e2)) ru rv
 simp_all
open SeqAt in
theorem Cg {s:HN}(H:Hm M s.heap):∀(n:Nat) {d e u w} (A:Ia),okD n d=V->okD n e=V->A.units+n+1<cLine->R m M d u->R m' M e w->
  RcAt A s u w (decide (d=e))/\EqAt A s u w (decide (d=e))/\RcNeAt A s u w (!decide (d=e)):=by
 intro n
 induction n using Jq with
 |ind n ih=>
 intro d e u w A hd he hA rd re;let hu:A.units<cLine:=by lia
 rcases shp hd rd with⟨rfl,rfl⟩|⟨i,t',rfl,rfl⟩|⟨i,t',rfl,rfl⟩|⟨ds,a,o,vs,k,rfl,rfl,rfl,hd',q1,t1,hr⟩|⟨ds,a,o,vs,k,rfl,rfl,rfl,hd',q1,t1,hr⟩<;>rcases shp he re with⟨rfl,rfl⟩|⟨j,t,rfl,rfl⟩|⟨j,t,rfl,rfl⟩|⟨es,b,o2,us,k',rfl,rfl,z,he',q2,t2,hr2⟩|⟨es,b,o2,us,k',rfl,rfl,z,he',q2,t2,hr2⟩<;>(try have hta:=t1.is H q1)<;>try have htb:=t2.is H q2
 ·exact⟨RcAt.none_none,EqAt.same _,RcNeAt.none_none⟩
 ·exact⟨RcAt.none_int j t,EqAt.none_int j t,RcNeAt.none_int j t⟩
 ·exact⟨RcAt.none_str j t,EqAt.none_str j t,RcNeAt.none_str j t⟩
 ·exact⟨RcAt.none_tuple htb hu,EqAt.none_tuple htb hu,RcNeAt.none_tuple htb hu⟩
 ·exact⟨RcAt.none_list htb hu,EqAt.none_list htb hu,RcNeAt.none_list htb hu⟩
 ·exact⟨RcAt.int_none i t',EqAt.int_none i t',RcNeAt.int_none i t'⟩
 ·let q:decide (D.int i=D.int j)=(i==j):=by rw[Lp,decide_eq_true_iff,beq_iff_eq,D.int.injEq]
  rw[q];exact⟨RcAt.int_int i t' j t,EqAt.int_int i t' j t,RcNeAt.int_int i t' j t⟩
 ·exact⟨RcAt.int_str i t' j t,EqAt.int_str i t' j t,RcNeAt.int_str i t' j t⟩
 ·exact⟨RcAt.int_tuple i t' htb hu,EqAt.int_tuple i t' htb hu,RcNeAt.int_tuple i t' htb hu⟩
 ·exact⟨RcAt.int_list i t' htb hu,EqAt.int_list i t' htb hu,RcNeAt.int_list i t' htb hu⟩
 ·exact⟨RcAt.str_none i t',EqAt.str_none i t',RcNeAt.str_none i t'⟩
 ·exact⟨RcAt.str_int i t' j t,EqAt.str_int i t' j t,RcNeAt.str_int i t' j t⟩
 ·let q:decide (D.str i=D.str j)=(i==j):=by rw[Lp,decide_eq_true_iff,beq_iff_eq,D.str.injEq]
  rw[q];exact⟨RcAt.str_str i t' j t,EqAt.str_str i t' j t,RcNeAt.str_str i t' j t⟩
 ·exact⟨RcAt.str_tuple i t' htb hu,EqAt.str_tuple i t' htb hu,RcNeAt.str_tuple i t' htb hu⟩
 ·exact⟨RcAt.str_list i t' htb hu,EqAt.str_list i t' htb hu,RcNeAt.str_list i t' htb hu⟩
 ·exact⟨RcAt.tuple_none hta hu,EqAt.tuple_none hta hu,RcNeAt.tuple_none hta hu⟩
 ·exact⟨RcAt.tuple_int j t hta hu,EqAt.tuple_int j t hta hu,RcNeAt.tuple_int j t hta hu⟩
 ·exact⟨RcAt.tuple_str j t hta hu,EqAt.tuple_str j t hta hu,RcNeAt.tuple_str j t hta hu⟩
 ·cases z
  let el:=Ek (A:=A.in1) (λh1 h2 h3 h4=>(ih k (IY k) A.in1 h1 h2 (by show A.units+1+k+1<cLine;lia) h3 h4).2.1) hd' he' hr hr2
  let key:((Iu (min vs.toArray.size us.toArray.size)).all (λj=>decide (ds[j]?=es[j]?))&&vs.toArray.size==us.toArray.size)=decide (D.tup ds=D.tup es):=by
   rw[IR,IR,<-hr.length,<-hr2.length,Dg];simp![D.tup.injEq]
  let rc:=RcAt.tuples hta htb hu el;let rn:=RcNeAt.tuples hta htb hu el;rw[key]at rc rn;refine⟨rc,?_,rn⟩
  by_cases hab:a=b
  ·subst hab;rw[decide_eq_true (R.inj hd he rd re)];exact EqAt.same _
  ·exact EqAt.of_refs hab rc
 ·exact⟨RcAt.tuple_list hta htb hu,EqAt.tuple_list hta htb hu,RcNeAt.tuple_list hta htb hu⟩
 ·exact⟨RcAt.list_none hta hu,EqAt.list_none hta hu,RcNeAt.list_none hta hu⟩
 ·exact⟨RcAt.list_int j t hta hu,EqAt.list_int j t hta hu,RcNeAt.list_int j t hta hu⟩
 ·exact⟨RcAt.list_str j t hta hu,EqAt.list_str j t hta hu,RcNeAt.list_str j t hta hu⟩
 ·exact⟨RcAt.list_tuple hta htb hu,EqAt.list_tuple hta htb hu,RcNeAt.list_tuple hta htb hu⟩
 ·cases z
  let el:=Ek (A:=A.in1) (λh1 h2 h3 h4=>(ih k (IY k) A.in1 h1 h2 (by show A.units+1+k+1<cLine;lia) h3 h4).2.1) hd' he' hr hr2
  let l1:=hr.length;let l3:=hr2.length;let hab:a=b->decide (D.lst ds=D.lst es)=V:=λq=>by subst q;exact decide_eq_true (R.inj hd he rd re)
  let fin:∀{c},RcAt A s (.ref a) (.ref b) c->(a=b->c=V)->EqAt A s (.ref a) (.ref b) c:=λrc h=>by
   by_cases q:a=b
   ·rw[h q];subst q;exact EqAt.same _
   ·exact EqAt.of_refs q rc
  by_cases hsz:vs.toArray.size=us.toArray.size
  ·let key:((Iu vs.toArray.size).all (λj=>decide (ds[j]?=es[j]?)))=decide (D.lst ds=D.lst es):=by
    rw[IR,<-l1,Bq _ _ (by simp_all)]
    simp![D.lst.injEq]
   let rc:=RcAt.lists hta htb hsz hu el;let rn:=RcNeAt.lists hta htb hsz hu el;rw[key]at rc rn;exact⟨rc,fin rc hab,rn⟩
  ·let hne:¬D.lst ds=D.lst es:=λz=>hsz (by simp;lia)
   let hb:(vs.toArray.size != us.toArray.size)=V:=by simpa using hsz
   rw[decide_eq_false hne]at hab⊢;let rc:=RcAt.lists_lengths hta htb hb hu;exact⟨rc,fin rc hab,RcNeAt.lists_lengths hta htb hb hu⟩
section
variable{X:Cx}{M:Mp}{δ:DEnv}{s:HN}{a b:Expr}{fa fb:DEnv->Qq D}{m m' mm:Bool}{pos:MR}
def Inv.un (I:Inv X M δ s):X.A.units+64<cLine:=by have:=I.ok.room.un;lia
def FB:CmS X .Eq (λd e=>gd (ok2 d e) (decide (d=e))):=λI r1 r2 e k=>by
 let⟨h,rfl⟩:=gW e;rw[ok2,HW]at h;have:=I.un;exact(Cg I.heap 16 X.A h.1 h.2 (by lia) r1 r2).1 P w _ _ (k _ I)
def se (h:be (b2 g x y)=U c):b2 (λd e=>be (g d e)) x y=U c:=by
 cases x<;>cases y<;>first|cases h|exact h
theorem Gx:CmS X .NotEq (λd e=>be (gd (ok2 d e) (decide (d=e)))):=λ{M δ s x y v u c Q} I r1 r2 e k=>by
 cases q:gd (ok2 x y) (decide (x=y))with
 |none=>simp[be,q]at e
 |some g=>
  simp![be,q]at e;cases e;let⟨h,rfl⟩:=gW q;rw[ok2,HW]at h;have:=I.un;exact(Cg I.heap 16 X.A h.1 h.2 (by lia) r1 r2).2.2 P w _ _ (k _ I)
def F8 (ha:DE X m a fa) (hb:DE X m' b fb):DE X mm (.Compare a [.Eq] [b] pos) (λδ=>ofB (eqO (fa δ) (fb δ))):=DP FB ha hb
def Go (ha:DE X m a fa) (hb:DE X m' b fb):DT X (.Compare a [.Eq] [b] pos) (λδ=>eqO (fa δ) (fb δ)):=yQ FB ha hb
def GJ (ha:DE X m a fa) (hb:DE X m' b fb):DT X (.Compare a [.NotEq] [b] pos) (λδ=>neO (fa δ) (fb δ)):=λI e=>yQ Gx ha hb I (se e)
def R.items (r:R m M e v) (h:fW e=U es):∃a o vs,v=.ref a/\Rd m M a o/\(LstO o vs\/TupO o vs)/\Rs m M es vs:=by
 cases e with
 |lst ds=>cases h;let⟨a,o,vs,h1,h2,h3,h4⟩:=r;exact⟨a,o,vs,h1,h2,.inl h3,h4⟩
 |tup ds=>cases h;let⟨a,o,vs,h1,h2,h3,h4⟩:=r;exact⟨a,o,vs,h1,h2,.inr h3,h4⟩
 |_=>cases h
theorem Rs.mem:∀{ds vs},Rs m M ds vs->v∈vs->∃d∈ds,R m M d v
 |[],_,rfl,h=>nomatch h
 |d::ds,_,⟨x,r,rfl,h1,h2⟩,h=>by
  rcases qaa.mp h with rfl|h
  ·exact⟨d,.head _,h1⟩
  ·let⟨e,h3,h4⟩:=Rs.mem h2 h;exact⟨e,.tail _ h3,h4⟩
theorem Rs.mem':∀{ds vs},Rs m M ds vs->d∈ds->∃v∈vs,R m M d v
 |d::ds,_,⟨x,r,rfl,h1,h2⟩,h=>by
  rcases qaa.mp h with rfl|h
  ·exact⟨x,.head _,h1⟩
  ·let⟨e,h3,h4⟩:=Rs.mem' h2 h;exact⟨e,.tail _ h3,h4⟩
open Classical in
theorem Ge {A:Ia}(hu:A.units+64<cLine) (H:Hm M s.heap) (hd:okD 16 d=V) (he:es.all (okD 16)=V) (r1:R m M d v) (r2:Rs m' M es vs):∃g:HM->Bool,(∀y,y∈vs.toArray->MM A.in1 s y v (g y))/\vs.toArray.any g=decide (d∈es):=by
 refine⟨λu=>decide (∃e,okD 16 e=V/\R m' M e u/\e=d),λu hu'=>?_,?_⟩
 ·let⟨e,h1,h2⟩:=r2.mem (show u∈vs by simp_all)
  let o:=(qac.mp he) e h1;let q:=(Cg H 16 A.in1 o hd (by show A.units+1+16+1<cLine;lia) h2 r1).2.1
  dsimp only;rw[show decide (∃e,okD 16 e=V/\R m' M e u/\e=d)=decide (e=d) from decide_eq_decide.mpr ⟨λ⟨e',o',h',z⟩=>by rw[<-z];exact R.inj o o' h2 h',λz=>⟨e,o,h2,z⟩⟩]
  exact q
 ·rw[Lp,decide_eq_true_iff,Array.any_eq_true']
  constructor
  ·rintro⟨u,hu',h⟩
   let⟨e,o,h2,rfl⟩:=of_decide_eq_true h;let⟨e',h3,h4⟩:=r2.mem (show u∈vs by simp_all)
   rw[R.inj o ((qac.mp he) e' h3) h2 h4];exact h3
  ·intro h
   let⟨u,h1,h2⟩:=r2.mem' h;exact⟨u,by simpa using h1,decide_eq_true ⟨d,hd,h2,rfl⟩⟩
theorem zU:CmS X .NotIn (λd e=>be (ae (fW e) λes=>gd (okD 16 d&&es.all (okD 16)) (decide (d∈es)))):=λ{M δ s x y v u c Q} I r1 r2 e k=>by
 cases q:(ae (fW y) λes=>gd (okD 16 x&&es.all (okD 16)) (decide (x∈es)))with
 |none=>simp[be,q]at e
 |some g=>
  simp![be,q]at e;cases e;let⟨es,h1,h2⟩:=ag q;let⟨h,rfl⟩:=gW h2;rw[HW]at h;let⟨a,o,vs,rfl,q,t,rs⟩:=r2.items h1;let⟨g,g1,g2⟩:=Ge I.un I.heap h.1 h.2 r1 rs
  rcases t with t|t
  ·exact SeqAt.notIn_listAt g (t.is I.heap q) g1 (by rw[g2];exact k _ I)
  ·exact SeqAt.notIn_tupleAt g (t.is I.heap q) g1 (by rw[g2];exact k _ I)
def Al (ha:DE X m a fa) (hb:DE X m' b fb):DT X (.Compare a [.NotIn] [b] pos) (λδ=>o4 (fa δ) (fb δ)):=λI e=>yQ zU ha hb I (se e)
end
end L2
namespace L2
open PySem PySem.Spec PyProof.Rows Md
variable[Md]
section
variable{X:Cx}{M M':Mp}{δ:DEnv}{s:HN}{Q:HM->HN->Prop}{a b:Expr}{es:Qw Expr}{fa fb:DEnv->Qq D}{fs:DEnv->Qq (Qw D)}{m m' mm:Bool}{p p2 pos apos cpos:MR}
structure Gb (X:Cx) (x:Ih):Prop where
 g:X.env.kindOf x=U .globalImplicit
 d:(x==("__debug__":Ih))=Y
structure Bn (X:Cx) (x:Ih):Prop where
 b:Gb X x
 m:mg x=B
 n:x≠"__name__"
def Inv.bltn {E:HM->HN->Prop}(I:Inv X M δ s) (g:Bn X x) (hv:bootBuiltins x=U u) (k:Q u s):wpAny (model P w) X.A (eval (.Name x p) X.env) Q E s:=by
 let⟨mb,h1,h2⟩:=I.ok.mod.blt;exact JY I.ok.kind g.b.g (Calls.loadGlobal_builtin (by rw[I.ok.glob];exact I.ok.mod.glob.keeps I.bk) g.m (by rw[I.ok.blt];exact h1.keeps I.bk) ((h2 x g.n).trans hv) k) g.b.d
theorem dm:∀{es:Qw Expr},es.all plE=V->(backTo pos (starEach es v)).any (·.1)=Y
 |[],_=>rfl
 |e::es,h=>by
  rw[Iw,HW]at h;rw[aB h.1];show(Y||(backTo pos (starEach es v)).any (·.1))=Y
  rw[dm h.2];rfl
theorem o9:∀{es:Qw Expr},es.all plE=V->(backTo pos (starEach es v)).all (λx=>!x.1)=V
 |[],_=>rfl
 |e::es,h=>by
  rw[Iw,HW]at h;rw[aB h.1];show(V&&(backTo pos (starEach es v)).all _)=V;rw[o9 h.2];rfl
def Fx {id:String}(g:Bn X x) (hv:bootBuiltins x=U (.builtin id)) (ha:DA X m (a::es) fs) (I:Inv X M δ s) (e:fs δ=U ds) (k:∀vs s' M',Ext M M'->Inv X M' δ s'->Rs m M' ds vs->WP X (call (.builtin id) vs) Q s'):WP X (eval (.Call (.Name x p) (a::es) [] pos) X.env) Q s:=by
 let h:=ha.pl;rw[Iw,HW]at h;exact IN (I.bltn g hv (JZ (ha.ev I e k pos) (aB h.1) (dm h.2)))
def AI {T:String}(g:Bn X x) (hv:bootBuiltins x=U (.type T)) (ha:DA X m (a::es) fs) (I:Inv X M δ s) (e:fs δ=U ds) (k:∀vs s' M',Ext M M'->Inv X M' δ s'->Rs m M' ds vs->WP X (call (.type T) vs) Q s'):WP X (eval (.Call (.Name x p) (a::es) [] pos) X.env) Q s:=by
 let h:=ha.pl;rw[Iw,HW]at h;exact IN (I.bltn g hv (KF (ha.ev I e k pos) (aB h.1) (dm h.2)))
def Rs.is1 (h:Rs m M [d] vs):∃v,vs=[v]/\R m M d v:=by let⟨v,r,rfl,h1,rfl⟩:=h;exact⟨v,rfl,h1⟩
def Rs.is2 (h:Rs m M [d,e] vs):∃v u,vs=[v,u]/\R m M d v/\R m M e u:=by let⟨v,r,rfl,h1,h2⟩:=h;let⟨u,rfl,h3⟩:=h2.is1;exact⟨v,u,rfl,h1,h3⟩
def jV {id:String}(g:Bn X x) (hv:bootBuiltins x=U (.builtin id)) (ha:DE X m a fa) (I:Inv X M δ s) (e:fa δ=U d) (k:∀v s' M',Ext M M'->Inv X M' δ s'->R m M' d v->WP X (call (.builtin id) [v]) Q s'):WP X (eval (.Call (.Name x p) [a] [] pos) X.env) Q s:=
 Fx g hv (aW ha bC) I (ds:=[d]) (by rw[e];rfl) λvs s1 M1 x1 I1 r=>by let⟨v,rfl,q⟩:=r.is1;exact k v s1 M1 x1 I1 q
def cQ {T:String}(g:Bn X x) (hv:bootBuiltins x=U (.type T)) (ha:DE X m a fa) (I:Inv X M δ s) (e:fa δ=U d) (k:∀v s' M',Ext M M'->Inv X M' δ s'->R m M' d v->WP X (call (.type T) [v]) Q s'):WP X (eval (.Call (.Name x p) [a] [] pos) X.env) Q s:=
 AI g hv (aW ha bC) I (ds:=[d]) (by rw[e];rfl) λvs s1 M1 x1 I1 r=>by let⟨v,rfl,q⟩:=r.is1;exact k v s1 M1 x1 I1 q
def sQ {id T:String}{name:Ih}{Z:Mp->HM->Prop}(pa:PlainAttrs T) (slot:Slot T name id) (hty:typeOf (.builtin id)=pure (.type "method_descriptor")) (l:(apos.endLine==cpos.line)=V) (pl:plE a=V) (hb:DA X m' (b::es) fs) (hn:es.length<20) (e2:fs δ=U ds)
  (ev:∀{Q':HM->HN->Prop},(∀v s1 M1,Ext M M1->Inv X M1 δ s1->Z M1 v->Q' v s1)->WP X (eval a X.env) Q' s)
  (ht:∀{M:Mp}{s:HN}{v},Hm M s.heap->Z M v->s.TypeIs v T/\∀a,v=.ref a->∃ob,s.heap.get? a=U ob/\ob.dict=B) (zx:∀{M M' v},Ext M M'->Z M v->Z M' v)
  (k:∀v vs s' M',Ext M M'->Inv X M' δ s'->Z M' v->Rs m' M' ds vs->WP X (call (.builtin id) (v::vs)) Q s'):WP X (eval (.Call (.Attribute a name apos) (b::es) [] cpos) X.env) Q s:=by
 let h:=hb.pl;let h':=h;rw[Iw,HW]at h';refine LO (fM pl) (by rw[o9 h];show decide (es.length+1+0+0<30)=V;exact decide_eq_true (by lia)) l rfl (ev λv s1 M1 x1 I1 r1=>?_)
 let⟨h1,h2⟩:=ht I1.heap r1;refine⟨T,id,pa,slot,hty,h1,h2,?_⟩
 let hA:=hb.ev I1 e2 (λvs s2 M2 x2 I2 r2=>k v vs s2 M2 (x1.trans x2) I2 (zx x2 r1) r2) cpos
 rw[aB h'.1]at hA⊢;exact JX (by show(Y||(backTo cpos (starEach es X.env)).any (·.1))=Y;rw[dm h'.2];rfl) (LX hA)
def sA {id T:String}{name:Ih}(pa:PlainAttrs T) (slot:Slot T name id) (hty:typeOf (.builtin id)=pure (.type "method_descriptor")) (l:(apos.endLine==cpos.line)=V) (ha:DE X m a fa) (hb:DA X m' (b::es) fs) (hn:es.length<20) (I:Inv X M δ s) (e:fa δ=U d) (e2:fs δ=U ds)
  (ht:∀{M:Mp}{s:HN}{v},Hm M s.heap->R m M d v->s.TypeIs v T/\∀a,v=.ref a->∃ob,s.heap.get? a=U ob/\ob.dict=B)
  (k:∀v vs s' M',Ext M M'->Inv X M' δ s'->R m M' d v->Rs m' M' ds vs->WP X (call (.builtin id) (v::vs)) Q s'):WP X (eval (.Call (.Attribute a name apos) (b::es) [] cpos) X.env) Q s:=
 sQ pa slot hty l ha.pl hb hn e2 (ha.ev I e) ht (λx r=>r.up x) k
def lE:(sizeLine:Nat)<2 ^ 63:=by decide +kernel
def Hm.len {E:HM->HN->Prop}{A:Ia}(H:Hm M s.heap) (q:Rd m M c o) (t:LstO o vs\/TupO o vs) (k:∀t t',Q (.int vs.length t) {s with toks:=t'}):wpAny (model P w) A (call (.builtin "len") [.ref c]) Q E s:=by
 let hn:=lE
 rcases t with t|t
 ·let z:=t.1;exact Calls.call_len_list (t.is H q) (by simp![IR];lia) (by simp_all)
 ·let z:=t.1;exact len_tuple (t.is H q) (by simp![IR];lia) (by simp_all)
def By (g:Bn X "len") (ha:DE X m a fa):DE X mm (.Call (.Name "len" p) [a] [] pos) (λδ=>cS (fa δ)):=⟨rfl,λI e k=>by
 let⟨d,e1,e2⟩:=ag e;let⟨ds,e3,e4⟩:=ag e2;cases e4;refine jV g OA ha I e1 λv s1 M1 x1 I1 r=>?_
 let⟨c,o,vs,rfl,q,t,rs⟩:=r.items e3;exact Hm.len I1.heap q t λ_ _=>k _ _ _ x1 I1.tok ⟨_,by rw[rs.length]⟩⟩
nonrec theorem Cc (g:Bn X "len") (ha:DE X m a fa):DE X mm (.Call (.Name "len" p) [a] [] pos) (λδ=>FO (fa δ)):=⟨rfl,λI e k=>by
 let⟨d,e1,e2⟩:=ag e;split at e2<;>try cases e2
 split at e2<;>cases e2
 rename_i z hz;refine jV g OA ha I e1 λv s1 M1 x1 I1 r=>?_
 let⟨t,rfl⟩:=r;let hn:=lE;have:=aA hz;exact len_str (by lia) (k _ _ _ x1 I1.tok ⟨_,rfl⟩)⟩
def Cq {n:Nat}(h:ixN n i=U j):seqIndex? i n=U j/\j<n/\ -(n:Int)<=i/\i<n:=by
 unfold ixN at h;split at h<;>split at h<;>cases h
 ·exact⟨by rw[seqIndex_of (by assumption) (by assumption)],by lia,by lia,by assumption⟩
 ·exact⟨by rw[seqIndex_neg (by lia) (by assumption)],by lia,by assumption,by lia⟩
def vZ {α:Type}{xs:Qw α}{v:α}(h:atI xs i=U v):∃j,seqIndex? i xs.length=U j/\xs[j]?=U v/\j<xs.length/\ -(xs.length:Int)<=i/\i<xs.length:=by
 let⟨j,e,h⟩:=Option.bind_eq_some_iff.mp h;let⟨h1,h2,h3,h4⟩:=Cq e;exact⟨j,h1,h,h2,h3,h4⟩
def Ds {α:Type}{xs:Qw α}{j:Nat}{v:α}(h:xs[j]?=U v):atI xs (j:Int)=U v:=by
 let hj:=(List.getElem?_eq_some_iff.mp h).1
 unfold atI ixN;simp_all
def Hm.item {E:HM->HN->Prop}{A:Ia}{va sl:Expr}(H:Hm M s.heap) (q:Rd m M c o) (t:LstO o vs\/TupO o vs) (h:atI vs i=U x) (hs:subscripted sl Y (.ref c) (.int i tk)=operate [.ref c,.int i tk] (getItem (.ref c) (.int i tk))) (k:Q x s):wpAny (model P w) A (subscriptTail va sl (.ref c) (.int i tk)) Q E s:=by
 let⟨j,h1,h2,h3,h4,h5⟩:=vZ h;let hn:=lE
 rcases t with t|t
 ·let z:=t.1;let pl:=t.is H q
  by_cases h0:0<=i
  ·rw[seqIndex_of h0 h5]at h1;cases h1
   exact item_listR pl h0 (by lia) (by simpa using h2) k hs
  ·rw[seqIndex_neg (by lia) h4]at h1;cases h1
   exact subscriptTail_builtinR (x:=x) pl.typeIs slot_list_getitem.lookup (wpAny_getItem_list_neg (Q:=λr s'=>r=x/\Q r s') pl (by lia) (by simp;lia) (by lia) (by simpa using h2) ⟨rfl,k⟩) hs
 ·let z:=t.1;let pl:=t.is H q
  exact subscriptTail_builtinR (x:=x) pl.typeIs slot_tuple_getitem.lookup (getItem_tuple (j:=j) (Q:=λr s'=>r=x/\Q r s') pl (by lia) (by lia) (by trivial) (by simpa using h2) ⟨rfl,k⟩) hs
def Rs.atI (r:Rs m M ds vs) (h:atI ds i=U d):∃v,L2.atI vs i=U v/\R m M d v:=by
 let⟨j,e,h⟩:=Option.bind_eq_some_iff.mp h;let⟨v,h1,h2⟩:=r.get h;exact⟨v,by unfold L2.atI;rw[<-r.length,e];exact h1,h2⟩
def Gs (ha:DE X m a fa) (hb:DE X m' b fb):DE X m (.Subscript a b pos) (λδ=>ixO (fa δ) (fb δ)):=⟨rfl,λI e k=>No (two (f:=subscriptTail a b) ha hb I e λx y v u s2 M2 x2 I2 r1 r2 e3=>by
 split at e3<;>try cases e3
 let⟨ds,e4,e5⟩:=ag e3;let⟨c,o,vs,rfl,q,t,rs⟩:=r1.items e4;let⟨tk,rfl⟩:=r2;let⟨v,h1,h2⟩:=rs.atI e5;exact Hm.item I2.heap q t h1 (oE hb.pl) (k _ _ _ x2 I2 h2))⟩
nonrec theorem FK (ha:DE X m a fa) (hb:DE X m' b fb):DE X mm (.Subscript a b pos) (λδ=>Ez (fa δ) (fb δ)):=⟨rfl,λI e k=>No (two (f:=subscriptTail a b) ha hb I e λx y v u s2 M2 x2 I2 r1 r2 e3=>by
 split at e3<;>try cases e3
 split at e3<;>try cases e3
 rename_i z i hz;let⟨c,e4,e5⟩:=ag e3;cases e5;let⟨t,rfl⟩:=r1;let⟨t',rfl⟩:=r2;let⟨j,h1,h2,h3,h4,h5⟩:=vZ e4;let hl:z.cps.toList.length=z.length:=by simp[Str.length]
 rw[hl]at h1 h4 h5;let hn:=lE;have:=aA hz;exact Pe (typeIs_str s2 z t) slot_str_getitem.lookup (getItem_str (c:=c) (by lia) (by rw[h1];simpa using h2) (k _ _ _ x2 I2.tok ⟨_,rfl⟩)) (oE hb.pl))⟩
def DO (X:Cx) (e:Qq Expr) (f:DEnv->Qq (Qq Int)):Prop:=∀{M δ s o} {Q:HM->HN->Prop},Inv X M δ s->f δ=U o->(∀v s' M',Ext M M'->Inv X M' δ s'->IsPart v o->Q v s')->WP X (evalPart e X.env) Q s
theorem C9:DO X B (λ_=>U B):=λI e k=>by cases e;exact HK (k _ _ _ Ext.refl I .none)
theorem BW (h:DE X m a fa):DO X (U a) (λδ=>aX (fa δ)):=λ{M δ s o Q} I e k=>by
 unfold aX at e;dsimp only at e;split at e<;>cases e
 exact h.ev I (by assumption) λv s1 M1 x1 I1 r=>by let⟨t,rfl⟩:=r;exact k _ _ _ x1 I1 (.int _ t)
variable{lo hi:Qq Expr}{fl fh:DEnv->Qq (Qq Int)}
def sO {g:D->Qq Int->Qq Int->Qq D}(ha:DE X m a fa) (hl:DO X lo fl) (hh:DO X hi fh) (I:Inv X M δ s) (e:b3 g (fa δ) (fl δ) (fh δ)=U d)
  (k:∀x l u v vl vu c s' M',Ext M M'->Inv X M' δ s'->R m M' x v->s'.heap.IsSliceOf c vl vu .none->IsPart vl l->IsPart vu u->g x l u=U d->∃T id,typeLookup (.type T) "__getitem__"=pure (U (.builtin id))/\s'.TypeIs v T/\WP X (getItem v (.ref c)) Q s'):
  WP X (eval (.Subscript a (.Slice lo hi B p2) pos) X.env) Q s:=by
 let⟨x,e1,e2⟩:=ag e;let⟨l,e2,e3⟩:=ag e2;let⟨u,e3,e4⟩:=ag e3;refine No (ha.ev I e1 λv s1 M1 x1 I1 r1=>wpAny_Slice (hl I1 e2 λvl s2 M2 x2 I2 p1=>hh I2 e3 λvu s3 M3 x3 I3 p2=>HK ?_))
 let⟨T,id,h1,h2,h3⟩:=k x l u v vl vu s3.heap.objs.size _ _ ((x1.trans x2).trans x3) I3.push (r1.up (x2.trans x3)) (Heap.IsSliceOf.new ..) p1 p2 e4;exact Pe (ops:=[.ref s3.heap.objs.size,v]) h2 h1 h3 (by rfl)
def mu (x:Ih) (lo hi:Qq Int):(wj x lo hi).length<=x.length:=by
 unfold wj;split
 ·exact HQ _
 ·exact Ja (List.length_filterMap_le _ _) (sliceIndices_le lo hi x.length)
def vO (h:IsPart v o):∃l:Qq (Int×Tok),v=partValue l/\l.map (·.1)=o:=by
 cases h with
 |none=>exact⟨B,rfl,rfl⟩
 |int i t=>exact⟨U (i,t),rfl,rfl⟩
nonrec theorem BF (ha:DE X m a fa) (hl:DO X lo fl) (hh:DO X hi fh):DE X mm (.Subscript a (.Slice lo hi B p2) pos) (λδ=>xC (fa δ) (fl δ) (fh δ)):=⟨rfl,λI e k=>sO ha hl hh I e λx l u v vl vu c s' M' x1 I1 r hs p1 p2 e4=>by
 split at e4<;>try cases e4
 split at e4<;>cases e4
 rename_i z hz;let⟨t,rfl⟩:=r;let⟨l,rfl,rfl⟩:=vO p1;let⟨u,rfl,rfl⟩:=vO p2;refine⟨"str",_,F.slot_str_getitem.lookup,typeIs_str _ z t,wpAny_getItem_str_slice (l:=l) (u:=u) (st:=B) hs rfl ?_⟩
 rw[show(sliceMade z t l u B)=if((KM (l.map (·.1)) (u.map (·.1)) 1 z.length).length==z.length)=V then Made.val (.str z t) else Made.str ⟨((KM (l.map (·.1)) (u.map (·.1)) 1 z.length).filterMap (z.cps[·]?)).toArray⟩ by
  rfl]
 refine post_val_or_made (λhc=>?_) λt' tk=>k _ _ _ x1 I1.tok ⟨t',rfl⟩
 let hle:=mu z (l.map (·.1)) (u.map (·.1))
 unfold wj at hle;rw[if_neg hc]at hle;exact Ja hle (aA hz)⟩
def pf (lo hi:Qq Int) (n:Nat):(sliceBounds lo hi B n).1=((sIx n 0 lo:Nat):Int)/\(sliceBounds lo hi B n).2.1=((sIx n n hi:Nat):Int)/\(sliceBounds lo hi B n).2.2=1:=by
 refine⟨?_,?_,rfl⟩
 ·cases lo with
  |none=>rfl
  |some i=>simp![sliceBounds,sIx,Option.getD_none,show(1:Int)>0 by decide,if_true];by_cases h:i<0<;>simp![h,if_true,if_false]<;>lia
 ·cases hi with
  |none=>rfl
  |some i=>simp![sliceBounds,sIx,Option.getD_none,show(1:Int)>0 by decide,if_true];by_cases h:i<0<;>simp![h,if_true,if_false]<;>lia
def mV (its:Qw HM) (lo hi:Qq Int):slicePick its.toArray lo hi B=(fP its lo hi).toArray:=by
 let⟨h1,h2,h3⟩:=pf lo hi its.toArray.size;unfold slicePick fP;rw[h1,h2,h3];simp![sliceRange_one,pick_run,IR]<;>rfl
def xZ {α:Type}(xs:Qw α):(fP xs l u).length<=xs.length:=by unfold fP;simp;lia
def Rs.cut (r:Rs m M ds vs):Rs m M (fP ds l u) (fP vs l u):=by unfold fP;rw[r.length];exact(r.drop _).take _
def Dq (ha:DE X Y a fa) (hl:DO X lo fl) (hh:DO X hi fh):DF X (.Subscript a (.Slice lo hi B p2) pos) (λδ=>bq (fa δ) (fl δ) (fh δ)):=⟨rfl,λI e k=>sO ha hl hh I e λx l u v vl vu c s' M' x1 I1 r hs p1 p2 e4=>by
 split at e4<;>cases e4
 let⟨c',o,vs,rfl,q,t,rs⟩:=r;let z:=t.1;refine⟨"list",_,slot_list_getitem.lookup,(t.is I1.heap q).typeIs,wpAny_getItem_list_slice (t.is I1.heap q) hs p1 p2 .none (by simp) ?_ (by simp;lia)⟩
 rw[mV];exact k _ _ _ _ x1 (I1.push (t:=s'.toks)) (I1.fresh (HQ _)) (HO _ rfl) ⟨_,⟨Ja (xZ _) z,_,rfl⟩,rs.cut⟩⟩
end
end L2
namespace L2
open PySem PySem.Spec PyProof.Rows PySem.W Md
variable[Md]
section
variable{X:Cx}{M M':Mp}{δ:DEnv}{s:HN}{Q:HM->HN->Prop}{a b:Expr}{es:Qw Expr}{fa fb:DEnv->Qq D}{fs:DEnv->Qq (Qw D)}{m m' mm:Bool}{p p2 pos apos cpos:MR}
def De (g:Bn X "list") (ha:DE X Y a fa):DF X (.Call (.Name "list" p) [a] [] pos) (λδ=>tz (fa δ)):=⟨rfl,λI e k=>by
 let⟨d,e1,e2⟩:=ag e;let⟨ds,e3,e4⟩:=ag e2;cases e4;refine cQ g (by rfl:bootBuiltins "list"=U (.type "list")) ha I e1 λv s1 M1 x1 I1 r=>?_
 let⟨c,o,vs,rfl,q,t,rs⟩:=r.items e3;let fin:vs.length<=sizeLine->∀(h':Jr) (n:Nat),(∀b o',s1.heap.get? b=U o'->h'.get? b=U o')->h'.get? s1.heap.objs.size=U {cls:=.type "list",dict:=B,data:=.seq vs.toArray n,slots:=#[]}->_:=λz h' n kp e=>
  k s1.heap.objs.size _ {s1 with heap:=h'} M1 x1 (I1.kp kp) (I1.fresh (HQ _)) e ⟨vs,⟨z,n,rfl⟩,rs⟩
 rcases t with t|t
 ·let z:=t.1;let⟨o,ho,hc,n,hd⟩:=t.is I1.heap q
  exact call_list_seq c (.inl rfl) ho hc hd (fin z) (by simp;lia)
 ·let z:=t.1.1;let⟨o,ho,hc,n,hd⟩:=t.is I1.heap q
  exact call_list_seq c (.inr rfl) ho hc hd (fin z) (by simp;lia)⟩
def Inv.newT' (I:Inv X M δ s) (r:Rs m M ds vs) (z:vs.length<=sizeLine) (k:Post X M δ m (.tup ds) Q) {s':HN}(hk:∀b o,s.heap.get? b=U o->s'.heap.get? b=U o) (hg:s'.os=s.os/\s'.gens=s.gens) (e:s'.heap.get? c=U o) (hc:s.heap.objs.size<=c) (t:TupO o vs):Q (.ref c) s':=by
 let f:=I.fresh hc;exact k _ _ _ (bQ f.m) ((I.kp hk hg).put f e) ⟨_,_,vs,rfl,⟨.f,ah,rfl⟩,t,r.to (br f.m)⟩
def zV (g:Bn X "tuple") (ha:DE X m a fa):DE X m (.Call (.Name "tuple" p) [a] [] pos) (λδ=>hY (fa δ)):=⟨rfl,λI e k=>by
 let⟨d,e1,e2⟩:=ag e;let⟨ds,e3,e4⟩:=ag e2;cases e4;refine cQ g (by rfl:bootBuiltins "tuple"=U (.type "tuple")) ha I e1 λv s1 M1 x1 I1 r=>?_
 let⟨c,o,vs,rfl,q,t,rs⟩:=r.items e3
 rcases t with t|t
 ·let z:=t.1
  refine call_tuple_list (t.is I1.heap q) (λh' kp=>?_) (by simp;lia)
  exact(I1.kp (s':={s1 with heap:=h'}) kp).newT' rs z (Post.to k x1) (λb o e=>HL _ e) ⟨rfl,rfl⟩ (HO _ rfl) (HQ _) ⟨⟨z,rfl⟩,rfl,_,rfl⟩
 ·exact call_tuple_same (t.is I1.heap q) (k _ _ _ x1 I1 ⟨c,o,vs,rfl,q,t,rs⟩)⟩
def BY (ha:DE X m a fa) (hb:DE X m' b fb):DE X mm (.BinOp a .Add b pos) (λδ=>Es (fa δ) (fb δ)):=tD (λI r1 r2 e k=>by
 split at e<;>try cases e
 split at e<;>cases e
 let⟨t,rfl⟩:=r1;let⟨t',rfl⟩:=r2;exact add_str (λt' tk=>k _ _ _ Ext.refl I.tok ⟨_,rfl⟩) (aA (by assumption))) ha hb
def TupO.obj (t:TupO o vs) (H:Hm M s.heap) (q:Rd m M c o):∃dd n sl,s.heap.get? c=U ⟨.type "tuple",dd,.seq vs.toArray n,sl⟩:=by
 let⟨k,e,_⟩:=q;let⟨_,h1,n,h2⟩:=t;let⟨c,dd,data,sl⟩:=o;cases h1;cases h2;exact⟨dd,n,sl,H _ _ _ e⟩
nonrec theorem zA (ha:DE X m a fa) (hb:DE X m b fb):DE X m (.BinOp a .Add b pos) (λδ=>Gw (fa δ) (fb δ)):=⟨rfl,λI e k=>wpAny_BinOp (two ha hb I e λx y v u s2 M2 x2 I2 r1 r2 e3=>by
 split at e3<;>try cases e3
 split at e3<;>cases e3
 rename_i ds es hz;let r1':=r1;let r2':=r2;let⟨c,o,vs,rfl,q,t,rs⟩:=r1;let⟨c',o',vs',rfl,q',t',rs'⟩:=r2;let⟨dd,n,sl,ho⟩:=t.obj I2.heap q;let⟨dd',n',sl',ho'⟩:=t'.obj I2.heap q';let l1:=rs.length;let l2:=rs'.length
 by_cases hv:vs=[]
 ·obtain rfl:ds=[]:=by simp_all
  exact Ox ⟨_,ho,rfl⟩ ⟨_,ho',rfl⟩ OM seq_tuple_add MG My (Mw _ _) (tuple_addW0 c c' vs.toArray vs'.toArray n n' dd dd' sl sl' (by simp[hv])) ⟨ho,ho',k _ _ _ x2 I2 r2'⟩
 ·by_cases hw:vs'=[]
  ·obtain rfl:es=[]:=by simp_all
   exact Ox ⟨_,ho,rfl⟩ ⟨_,ho',rfl⟩ OM seq_tuple_add MG My (Mw _ _) (tuple_addW1 c c' vs.toArray vs'.toArray n n' dd dd' sl sl' (by simpa using hv) (by simp[hw])) ⟨ho,ho',k _ _ _ x2 I2 (by rw[Ka];exact r1')⟩
  ·refine Ox ⟨_,ho,rfl⟩ ⟨_,ho',rfl⟩ OM seq_tuple_add MG My (Mw _ _) (tuple_addW2 c c' vs.toArray vs'.toArray n n' dd dd' sl sl' (by simpa using hv) (by simpa using hw) (by simp_all [aA])) ⟨ho,ho',?_⟩
   rw[show vs.toArray++vs'.toArray=(vs++vs').toArray by simp]
   exact I2.newT (rs.append rs') (by simpa using hz) (Post.to k x2))⟩
def wA (l:HZ) (items:Array HM) (n:Nat) (b:HZ) (items2:Array HM) (n2:Nat) (s1 s2:Array (Qq HM)) (hc0:items.size+items2.size<=sizeLine):
  Meets (Lo.«list.__add__» ⟨[.ref l,.ref b],[]⟩) (λ_ R s=>s.heap.get? l=U ⟨.type "list",B,.seq items n,s1⟩/\s.heap.get? b=U ⟨.type "list",B,.seq items2 n2,s2⟩/\R (.ok (.ret (Kq s.heap.objs.size))) {s with heap:=s.heap.push {cls:=JW "list",data:=Data.seq (items++items2)}}):=
 .of_wp λprog w A R s h=>by
  let⟨hl,hb,h⟩:=h;let f3:=AutoSeq1.sub_list_list;wp_walk using Op hl,Op hb;exact⟨_,rfl,h⟩
def LstO.obj (t:LstO o vs) (H:Hm M s.heap) (q:Rd m M c o):∃n,s.heap.get? c=U {cls:=.type "list",data:=.seq vs.toArray n}:=by
 let⟨k,e,_⟩:=q;let⟨_,n,rfl⟩:=t;exact⟨n,H _ _ _ e⟩
def FE {ds ls:Qw D}(I:Inv X M δ s) (r1:R m M (.lst ds) v) (r2:R m' M (.lst ls) u) (hz:ds.length+ls.length<=lim) (k:∀vs vs',Rs m M ds vs->Rs m' M ls vs'->Q (.ref s.heap.objs.size) {s with heap:=s.heap.push {cls:=.type "list",data:=.seq (vs++vs').toArray}}):WP X (binaryOp .Add v u) Q s:=by
 let⟨c,o,vs,rfl,q,t,rs⟩:=r1;let⟨c',o',vs',rfl,q',t',rs'⟩:=r2;let⟨n,ho⟩:=t.obj I.heap q;let⟨n',ho'⟩:=t'.obj I.heap q';let l1:=rs.length;let l2:=rs'.length;refine Ox ⟨_,ho,rfl⟩ ⟨_,ho',rfl⟩ noFill_list_add seq_list_add F.slot_list_add F.entry_list_add (F.args_list_add_2 _ _) (wA c vs.toArray n c' vs'.toArray n' #[] #[] (by simp_all [aA])) ⟨ho,ho',?_⟩
 simp_all
nonrec theorem D0 (ha:DE X Y a fa) (hb:DE X Y b fb):DF X (.BinOp a .Add b pos) (λδ=>gO (fa δ) (fb δ)):=⟨rfl,λI e k=>wpAny_BinOp (two ha hb I e λx y v u s2 M2 x2 I2 r1 r2 e3=>by
 split at e3<;>try cases e3
 split at e3<;>cases e3
 rename_i hz;exact FE I2 r1 r2 hz λvs vs' h1 h2=>I2.newL (h1.append h2) (by simpa using hz) (PostF.to k x2))⟩
mutual
theorem R.flat (ho:∀a k o,M a=U (k,o)->k.own=V->Ow o):∀{d v},d.flat=V->R m M d v->R Y M d v
 |.non,v,_,h=>by exact h
 |.bl b,v,_,h=>by exact h
 |.int i,v,_,h=>by exact h
 |.str x,v,_,h=>by exact h
 |.tup ds,v,f,h=>by
  let⟨a,o,vs,e,⟨k,q,hk⟩,t,rs⟩:=h;refine⟨a,o,vs,e,rdf.mpr ?_,t,Rs.flat ho f rs⟩
  cases k with
  |f=>exact q
  |p=>cases hk
  |_=>exact absurd t.2.1 (ho _ _ _ q rfl).1
 |.lst ds,v,f,_=>by cases f
 |.dK _ _,v,f,_=>by cases f
 |.dD _ _,v,f,_=>by cases f
 |.ob _ _ _,v,f,_=>by cases f
 |.dL _ _,v,f,_=>by cases f
 |.loc _ _,v,f,_=>by cases f
 |.ptr _,v,f,_=>by cases f
theorem Rs.flat (ho:∀a k o,M a=U (k,o)->k.own=V->Ow o):∀{ds vs},D.flats ds=V->Rs m M ds vs->Rs Y M ds vs
 |[],vs,_,h=>by exact h
 |d::ds,vs,f,h=>by
  simp![D.flats,HW]at f;let⟨x,r,hx,h1,h2⟩:=h;exact⟨x,r,hx,R.flat ho f.1 h1,Rs.flat ho f.2 h2⟩
end
def Em (ha:DE X m a fa):DE X mm (.UnaryOp .USub a pos) (λδ=>E7 (fa δ)):=⟨rfl,λ{M δ s d Q} I e k=>by
 unfold E7 at e;split at e<;>cases e
 exact UnaryOp_ (ha.ev I (by assumption) λv s1 M1 x1 I1 r=>by let⟨t,rfl⟩:=r;exact neg_int (k _ _ _ x1 I1.tok ⟨_,rfl⟩))⟩
nonrec theorem lh:∀{ds} {ns:Qw Ih},tQ ds=U ns->ds=ns.map D.str
 |[],ns,h=>by cases h;rfl
 |d::ds,ns,h=>by
  cases d<;>simp![tQ]at h<;>try cases h
  split at h<;>cases h
  rename_i q;rw[lh q];rfl
theorem Rs.strs:∀{ns:Qw Ih}{vs},Rs m M (ns.map D.str) vs->StrsAre vs ns
 |[],_,h=>by subst h;exact .nil
 |n::ns,_,h=>by let⟨x,r,rfl,⟨t,rfl⟩,h2⟩:=h;exact .cons n t (Rs.strs h2)
def E6 {v:HM}(H:Hm M s.heap) (r:R m M (.lst ds) v):s.TypeIs v "list"/\∀a,v=.ref a->∃ob,s.heap.get? a=U ob/\ob.dict=B:=by
 let⟨a,o,vs,rfl,q,t,_⟩:=r;let⟨n,ho⟩:=t.obj H q;exact⟨(t.is H q).typeIs,λb e=>by cases e;exact⟨_,ho,rfl⟩⟩
nonrec theorem Do (ha:DE X m a fa) (hb:DE X m' b fb) (l:(apos.endLine==cpos.line)=V):DE X mm (.Call (.Attribute a "join" apos) [b] [] cpos) (λδ=>zY (fa δ) (fb δ)):=⟨rfl,λI e k=>by
 let⟨x,y,e1,e2,e3⟩:=jO e;split at e3<;>try cases e3
 let⟨ys,e4,e5⟩:=ag e3;split at e5<;>cases e5
 rename_i z ds hl;obtain rfl:=lh e4;refine sA PySem.F.plainAttrs_str PySem.F.slot_str_join PySem.F.type_str_join l ha (aW hb bC) (by decide) I e1 (ds:=[_]) (by rw[e2];rfl) (λ_ r=>?_) λv vs s1 M1 x1 I1 r1 r2=>?_
 ·let⟨t,rfl⟩:=r;exact⟨typeIs_str _ z t,λ_ e=>nomatch e⟩
 ·let⟨t,rfl⟩:=r1
  let⟨u,rfl,r3⟩:=r2.is1;let⟨c,o,vs,rfl,q,t,rs⟩:=r3;exact join_list (t.is I1.heap q) (by simpa using rs.strs) hl λt' tk=>k _ _ _ x1 I1.tok ⟨t',rfl⟩⟩
def nV:HM->Bool|.none=>V|_=>Y
def vg (r:R m M d v):decide (d=.non)=nV v:=by
 cases d<;>simp![R]at r<;>first|(subst r;rfl)|(let⟨_,rfl⟩:=r;rfl)|(let⟨_,_,_,rfl,_⟩:=r;rfl)|(let⟨_,_,_,_,rfl,_⟩:=r;rfl)|(let⟨_,_,_,_,_,rfl,_⟩:=r;rfl)|exact r.elim
def Rs.emp (rs:Rs m M ds vs):(!ds.isEmpty)=!vs.toArray.isEmpty:=by have:=rs.length;cases ds<;>cases vs<;>simp_all
theorem Fo (ha:DE X m a fa):DT X (.Compare a [.Is] [.Constant .none j p] pos) (λδ=>kt (fa δ)):=λ{M δ s c Q} I e k=>by
 cases q:fa δ with
 |none=>simp[kt,q]at e
 |some d=>
  simp![kt,q]at e;cases e;exact L5 (ha.ev I q λv s1 M1 x1 I1 r=>Constant_none (is_none_gen (Jh (by rw[vg r]at k;cases v<;>exact k _ _ x1 I1)))) rfl
theorem BH (ha:DE X m a fa):DT X (.Compare a [.IsNot] [.Constant .none j p] pos) (λδ=>be (kt (fa δ))):=λ{M δ s c Q} I e k=>by
 cases q:fa δ with
 |none=>simp[kt,be,q]at e
 |some d=>
  simp![kt,be,q]at e;cases e;exact L5 (ha.ev I q λv s1 M1 x1 I1 r=>Constant_none (isnot_none_gen (Jh (by rw[vg r]at k;cases v<;>exact k _ _ x1 I1)))) rfl
nonrec theorem EK (h:plT a=V) (ha:DE X m a fa):DT X a (λδ=>AH (fa δ)):=λ{M δ s c Q} I e k=>by
 let hs:=lE;cases q:fa δ with
 |none=>simp[AH,q]at e
 |some d=>
  refine isTrue_plain (ha.ev I q λv s1 M1 x1 I1 r=>?_) (qL h)
  simp![AH,q]at e;cases d<;>dsimp only at e<;>try cases e
  ·cases r;exact truthy_none (k _ _ x1 I1)
  ·cases r;exact Jh (k _ _ x1 I1)
  ·let⟨t,rfl⟩:=r;exact PySem.P.truthy_int (k _ _ x1 I1)
  ·split at e<;>cases e
   rename_i hz;have:=aA hz;let⟨t,rfl⟩:=r;exact PySem.P.truthy_str (by lia) (k _ _ x1 I1.tok)
  ·let⟨c,o,vs,rfl,q,t,rs⟩:=r
   let z:=t.1;exact truthy_tuple (t.is I1.heap q) (by simp![IR];lia) (by rw[<-rs.emp];exact k _ _ x1 I1.tok)
  ·let⟨c,o,vs,rfl,q,t,rs⟩:=r
   let z:=t.1;exact wpAny_truthy_list (t.is I1.heap q) (by simp![IR];lia) (by rw[<-rs.emp];exact k _ _ x1 I1.tok)
end
end L2
namespace L2
open PySem PySem.Spec PyProof.Rows Md
variable[Md]
def Rn (X:Cx) (M:Mp) (s:HN) (d:D) (v:HM):Prop:=∃a o,v=.ref a/\s.heap.get? a=U o/\C M d o/\(Free X M a\/∃i,M a=U (.o i,o))
def Ri (X:Cx) (M:Mp) (s:HN) (d:D) (v:HM):Prop:=∃c ks ds x ox a o vs,d=.ob c ks ds/\v=.ref x/\M x=U (.f,ox)/\InsO c ox a/\s.heap.get? a=U o/\AtO o ks vs/\Rs Y M ds vs/\(Free X M a\/∃i,M a=U (.o i,o))
def Ret (X:Cx) (M:Mp) (s:HN) (d:D) (v:HM):Bool->Prop
 |false=>R Y M d v
 |true=>Rn X M s d v\/Ri X M s d v
def OutP (X:Cx) (M:Mp) (Q:Flow->HN->Prop):Out->Prop
 |.next δ=>∀s' M',Sx M M'->Inv X M' δ s'->Q .next s'
 |.brk δ=>∀s' M',Sx M M'->Inv X M' δ s'->Q .brk s'
 |.cont δ=>∀s' M',Sx M M'->Inv X M' δ s'->Q .cont s'
 |.ret d fr δ=>∀v s' M',Sx M M'->Inv X M' δ s'->Ret X M' s' d v fr->Q (.ret v) s'
def DS (X:Cx) (st:Jp) (g:DEnv->Qq Out):Prop:=∀{M δ s o} {Q:Flow->HN->Prop},Inv X M δ s->g δ=U o->OutP X M Q o->WP X (exec st X.env) Q s
def DSs (X:Cx) (st:Qw Jp) (g:DEnv->Qq Out):Prop:=∀{M δ s o} {Q:Flow->HN->Prop},Inv X M δ s->g δ=U o->OutP X M Q o->WP X (execs st X.env) Q s
section
variable{X:Cx}{M M':Mp}{δ:DEnv}{s:HN}{a b c:Expr}{es:Qw Expr}{fa fb:DEnv->Qq D}{fs:DEnv->Qq (Qw D)}{m m' mm:Bool}{p p2 pos pos' px apos cpos:MR}{st:Jp}{rest:Qw Jp}{g g1 g2:DEnv->Qq Out}{fc:DEnv->Qq Bool}{Q:Flow->HN->Prop}
def OutP.to (h:OutP X M Q o) (x:Sx M M'):OutP X M' Q o:=by
 cases o with
 |next δ=>exact λs' M'' y=>h s' M'' (x.trans y)
 |brk δ=>exact λs' M'' y=>h s' M'' (x.trans y)
 |cont δ=>exact λs' M'' y=>h s' M'' (x.trans y)
 |ret d fr δ=>exact λv s' M'' y=>h v s' M'' (x.trans y)
def B6:DSs X [] nextO:=λI e k=>by cases e;exact Nt (k _ _ Sx.refl I)
theorem sj (h1:DS X st g1) (h2:DSs X rest g2):DSs X (st::rest) (λδ=>au (g1 δ) g2):=λ{M δ s o Q} I e k=>by
 cases q:g1 δ with
 |none=>simp[q,au]at e
 |some o1=>
  simp![q,au]at e;refine wpAny_execs_cons (h1 I q ?_)
  cases o1 with
  |next δ1=>exact λs1 M1 x1 I1=>h2 I1 e (k.to x1)
  |brk δ1=>cases e;exact k
  |cont δ1=>cases e;exact k
  |ret d fr δ1=>cases e;exact k
theorem vH (h:DS X st g):DSs X [st] g:=λ{M δ s o Q} I e k=>wpAny_execs_cons (h I e (by cases o with|next δ=>exact λs1 M1 x1 I1=>Nt (k _ _ x1 I1)|_=>exact k))
nonrec theorem Ci (i:Nat) (h:∃x,Nm X i x) (hs:DSs X rest g):DSs X rest (λδ=>g (pN i δ)):=λ{M δ s o Q} I e k=>by
 let⟨x,h⟩:=h;unfold pN at e;dsimp only at e;split at e
 ·rename_i d e1
  split at e
  ·rename_i hd
   let⟨M',h1,h2,h3,I'⟩:=I.frz e1 h.n hd;exact hs I' e (k.to ⟨h1,λa o q=>(h2 a o).mp q,λa o q=>(h2 a o).mpr q⟩)
  ·exact hs I e k
 ·exact hs I e k
theorem Gu {x y:Qw Jp}(hc:DT X c fc) (ha:DSs X x g1) (hb:DSs X y g2):DS X (.If c x y pos) (λδ=>ifO (fc δ) (g1 δ) (g2 δ)):=λ{M δ s o Q} I e k=>by
 cases q:fc δ with
 |none=>simp[ifO,q]at e
 |some t=>
  simp![ifO,q]at e;refine wpAny_If (hc I q λs1 M1 x1 I1=>?_)
  cases t
  ·exact hb I1 e (k.to x1.sx)
  ·exact ha I1 e (k.to x1.sx)
def oN (h:bj i x δ=U o):∃d,x=U d/\o=.next (δ.set i (U (d,Y))):=by unfold bj at h;split at h;split at h<;>simp_all;cases h
def i6 (h:gN i x δ=U o):∃d,x=U d/\o=.next (δ.set i (U (d,V))):=by unfold gN at h;split at h;split at h<;>simp_all;cases h
def B7 (hx:Lc X i x) (ha:DE X Y a fa) (hs:swapsWith a (U (.Name x pos')) pos.line X.env=pure Y):DS X (.Assign [.Name x pos'] a pos) (λδ=>bj i (fa δ) δ):=λI e k=>by
 let⟨d,e1,rfl⟩:=oN e;exact LR (ha.ev I e1 λv s1 M1 x1 I1 r=>I1.store hx (b:=Y) r λs2 _ I2 _ _=>k _ _ x1.sx I2) hs
def Au (hx:Lc X i x) (ha:DF X a fa) (hs:swapsWith a (U (.Name x pos')) pos.line X.env=pure Y):DS X (.Assign [.Name x pos'] a pos) (λδ=>gN i (fa δ) δ):=λI e k=>by
 let⟨d,e1,rfl⟩:=i6 e;exact LR (ha.ev I e1 λa o s1 M1 x1 I1 f q c=>I1.setOwn f q c hx λs2 M2 _ I2 h1 h2 _ _ _=>k _ _ (x1.sx.trans ⟨h1,λa o q=>(h2 a o).mp q,λa o q=>(h2 a o).mpr q⟩) I2) hs
theorem Be (ha:DE X Y a fa):DS X (.Return (U a) pos) (λδ=>cG (fa δ) δ):=λ{M δ s o Q} I e k=>by
 cases q:fa δ with
 |none=>simp[cG,q]at e
 |some d=>simp![cG,q]at e;cases e;exact MQ (ha.ev I q λv s1 M1 x1 I1 r=>k v _ _ x1.sx I1 r)
theorem Dl (ha:DF X a fa):DS X (.Return (U a) pos) (λδ=>dz (fa δ) δ):=λ{M δ s o Q} I e k=>by
 cases q:fa δ with
 |none=>simp[dz,q]at e
 |some d=>simp![dz,q]at e;cases e;exact MQ (ha.ev I q λa o s1 M1 x1 I1 f h c=>k _ _ _ x1.sx I1 (.inl ⟨a,o,rfl,h,c,.inl f⟩))
def aJ (h:bu i δ=U d):δ[i]?=U (U (d,V)):=by
 unfold bu at h;split at h<;>try cases h
 split at h<;>simp_all
def sv (h:bu i δ=U d):nx d=V:=by
 unfold bu at h;split at h<;>try cases h
 split at h<;>simp_all
theorem yk (h:Nm X i x):DS X (.Return (U (.Name x px)) pos) (λδ=>dz (bu i δ) δ):=λ{M δ s o Q} I e k=>by
 cases q:bu i δ with
 |none=>simp[dz,q]at e
 |some d=>
  simp![dz,q]at e;cases e;exact MQ (Kr (I.load h (aJ q) λv r=>k _ _ _ Sx.refl I (.inl (by let⟨a,o,e,q,c⟩:=r.own (sv q);exact⟨a,o,e,I.heap _ _ _ q,c,.inr ⟨i,q⟩⟩))) h.d)
def E9 (hx:Lc X i x) (h:Nm X i x) (ha:DE X Y a fa):DS X (.AugAssign (.Name x pos') .Add a pos) (λδ=>bj i (dY (rd Y i δ) (fa δ)) δ):=λI e k=>by
 let⟨d,e1,rfl⟩:=oN e;let⟨x,y,e4,e2,e3⟩:=jO e1;cases x<;>try cases e3
 cases y<;>try cases e3
 let⟨d0,b0,b,h1,h2,h3⟩:=pX e4;refine wpAny_AugAssign_Name (I.load h h1 λv r=>ha.ev I e2 λu s1 M1 x1 I1 r1=>?_)
 let r0:=I.res (m:=V) h2 (λ_=>rfl) r
 let⟨t,rfl⟩:=r0;let⟨t',rfl⟩:=r1;exact iadd_int (I1.tok.store hx (b:=Y) (d:=.int _) ⟨_,rfl⟩ λs2 _ I2 _ _=>k _ _ x1.sx I2)
def DG (X:Cx) (tg:Expr) (τ:D->DEnv->Qq DEnv):Prop:=∀{M δ s d v δ'} {Q:Unit->HN->Prop},Inv X M δ s->R Y M d v->τ d δ=U δ'->(∀s',Inv X M δ' s'->Q () s')->WP X (assign tg X.env v) Q s
def DGs (X:Cx) (ts:Qw Expr) (τ:Qw D->DEnv->Qq DEnv):Prop:=∀{M δ s ds vs δ'} {Q:Unit->HN->Prop},Inv X M δ s->Rs Y M ds vs->τ ds δ=U δ'->(∀s',Inv X M δ' s'->Q () s')->WP X (assignInOrder ((assignEach ts X.env).map (·.2)) vs) Q s
def cq (h:af i d δ=U δ'):δ'=δ.set i (U (d,Y)):=by unfold af at h;split at h<;>simp_all
theorem yo (hx:Lc X i x):DG X (.Name x pos) (af i):=λI r e k=>by
 obtain rfl:=cq e;exact Oq (I.store hx (b:=Y) r λs' _ I' _ _=>k s' I')
theorem Dp:DGs X [] toNil:=λ{M δ s ds vs δ' Q} I r e k=>by
 cases ds with
 |nil=>cases e;exact assignInOrder_nil (k _ I)
 |cons d ds=>cases e
def plG:Expr->Bool|.Starred .. =>Y|_=>V
def CC (h:plG e=V):assignEach (e::es) v=(Y,assign e v)::assignEach es v:=by cases e<;>first|rfl|cases h
theorem zE {e:Expr}{τ:D->DEnv->Qq DEnv}{υ:Qw D->DEnv->Qq DEnv}(hp:plG e=V) (h1:DG X e τ) (h2:DGs X es υ):DGs X (e::es) (am τ υ):=λ{M δ s ds vs δ' Q} I r e k=>by
 cases ds with
 |nil=>cases e
 |cons d ds=>
  let⟨δ1,e1,e2⟩:=ag e;let⟨v,r,rfl,r1,r2⟩:=r;rw[CC hp];exact assignInOrder_cons (h1 I r1 e1 λs1 I1=>h2 I1 r2 e2 k)
def aN {τ:D->DEnv->Qq DEnv}{υ:Qw D->DEnv->Qq DEnv}{n:Nat}(h:∀ds δ δ',υ ds δ=U δ'->ds.length=n) (ds:Qw D) (δ δ':DEnv) (e:am τ υ ds δ=U δ'):ds.length=n+1:=by
 cases ds with
 |nil=>cases e
 |cons d ds=>let⟨δ1,_,e2⟩:=ag e;rw[H3,h _ _ _ e2]
def gn (ds:Qw D) (δ δ':DEnv) (e:toNil ds δ=U δ'):ds.length=0:=by cases ds with|nil=>rfl|cons d ds=>cases e
theorem Ep {k:Nat}{υ:Qw D->DEnv->Qq DEnv}{n:Nat}(h:DGs X es υ) (hl:∀ds δ δ',υ ds δ=U δ'->ds.length=n) (hn:(assignEach es X.env).length=n) (hst:(assignEach es X.env).findIdx? (·.1)=B):DG X (.Tuple es k pos) (bh υ):=λ{M δ s d v δ' Q} I r e k=>by
 cases d<;>try cases e
 let⟨a,o,vs,rfl,q,t,rs⟩:=r;refine assign_Tuple_tuple I.ok.room.hd (t.is I.heap q) (by simp[hn,<-hl _ _ _ e,rs.length]) hst λh' hx=>?_
 exact h (I.kp (s':={s with heap:=h'}) λb o e=>hx b o (Il (H6 e)) e) (by simpa using rs) e k
def yw {id T:String}{name:Ih}{Q:HM->HN->Prop}(pa:PlainAttrs T) (slot:Slot T name id) (hty:typeOf (.builtin id)=pure (.type "method_descriptor")) (l:(apos.endLine==cpos.line)=V) (h:Nm X i x) (hb:DA X m' (b::es) fs) (hn:es.length<20) (I:Inv X M δ s) (e:δ[i]?=U (U (d,V))) (e2:fs δ=U ds)
  (ht:∀{M:Mp}{o},C M d o->o.cls=.type T/\o.dict=B)
  (k:∀a o vs s' M',Ext M M'->Inv X M' δ s'->M' a=U (.o i,o)->C M' d o->Rs m' M' ds vs->WP X (call (.builtin id) (.ref a::vs)) Q s') (hd:nx d=V:=by rfl):WP X (eval (.Call (.Attribute (.Name x px) name apos) (b::es) [] cpos) X.env) Q s:=
 sQ (Z:=λM v=>∃a o,v=.ref a/\M a=U (.o i,o)/\C M d o) pa slot hty l rfl hb hn e2 (λkk=>Kr (I.load h e λv r=>kk v _ _ Ext.refl I (r.own hd)) h.d) (λH z=>by
  let⟨a,o,rfl,q,c⟩:=z;exact⟨⟨o,H _ _ _ q,(ht c).1⟩,λb e=>by cases e;exact⟨o,H _ _ _ q,(ht c).2⟩⟩) (λx ⟨a,o,e,q,c⟩=>⟨a,o,e,(x a).elim (λw=>w.trans q) λw=>(by rw[w.1]at q;cases q),c.to x.sub⟩) λv vs s' M' x I' z r=>by
  let⟨a,o,rfl,q,c⟩:=z;exact k a o vs s' M' x I' q c r
def jg {M:Mp}(c:C M (.lst ds) o):o.cls=.type "list"/\o.dict=B:=by let⟨vs,⟨_,n,rfl⟩,_⟩:=c;exact⟨rfl,rfl⟩
def xQ:Ow {cls:=.type "list",data:=.seq vs n}:=⟨by simp,λ_ z=>nomatch z⟩
def Inv.lset {c:HZ}{vs us:Qw HM}{n:Nat}{f:Array HM->Array HM}{t:Nat}(I:Inv X M δ s) (h:Nm X i x) (nd:X.N.Nodup) (e:δ[i]?=U (U (.lst ds,V))) (q:M c=U (.o i,{cls:=.type "list",data:=.seq vs.toArray n})) (hf:f vs.toArray=us.toArray) (r:Rs Y M ds' us) (hz:ds'.length<=lim):
  ∃M',Inv X M' (δ.set i (U (.lst ds',V))) {s with heap:=s.heap.update c (IK f),toks:=t}/\Sx M M':=by
 let g:=Ms (I.heap _ _ _ q) f;rw[hf]at g;let⟨h1,h2,h3⟩:=I.chg (s':={s with heap:=s.heap.update c (IK f),toks:=t}) e h.n q (λb ob z w=>(HX s.heap (IK f) (Ib z)).trans w) g xQ (d':=.lst ds') ⟨us,⟨by rw[<-r.length];exact aA hz,_,rfl⟩,r⟩
 exact⟨_,h1,h2,λa o=>(h3 a o).mp,λa o=>(h3 a o).mpr⟩
def Inv.quiet (I:Inv X M δ s):interactive X.env=Y:=by simp[interactive,I.ok.kind]
nonrec theorem uA (h:Nm X i x) (nd:X.N.Nodup) (ha:DE X Y a fa) (l:(apos.endLine==cpos.line)=V):DS X (.Expr (.Call (.Attribute (.Name x px) "append" apos) [a] [] cpos) pos) (λδ=>ui i (fa δ) δ):=λ{M δ s o Q} I e k=>by
 unfold ui at e;dsimp only at e;split at e<;>try cases e
 split at e<;>cases e
 rename_i ds d e1 e2 hl;refine KR (yw Ke KV Mu l h (aW ha bC) (by decide) I (aJ e1) (ds:=[d]) (by rw[e2];rfl) jg λa o vs s1 M1 x1 I1 q c r=>?_) I.quiet rfl
 let⟨u,rfl,r1⟩:=r.is1;let⟨vs,⟨z,n,rfl⟩,rs⟩:=c;let hq:=I1.heap _ _ _ q;let hl1:=rs.length;let⟨M2,I2,x2⟩:=I1.lset (f:=λa=>a.push u) (us:=vs++[u]) (t:=s1.toks) h nd (aJ e1) q (by simp) (rs.append (.one r1)) (by simp;lia)
 exact K2 KV ⟨_,hq,rfl⟩ Lm (Lh _ _) (Ly a vs.toArray n u (by simp;lia)) ⟨hq,k _ _ (x1.sx.trans x2) I2⟩
nonrec theorem tR (h:Nm X i x) (nd:X.N.Nodup) (ha:DF X a fa) (l:(apos.endLine==cpos.line)=V):DS X (.Expr (.Call (.Attribute (.Name x px) "extend" apos) [a] [] cpos) pos) (λδ=>AV i (fa δ) δ):=λ{M δ s o Q} I e k=>by
 unfold AV at e;dsimp only at e;split at e<;>try cases e
 split at e<;>cases e
 rename_i ds es e1 e2 hl;refine KR (yw Ke OD OB l h (aW (m:=Y) ha.share bC) (by decide) I (aJ e1) (ds:=[.lst es]) (by rw[e2];rfl) jg λa o us s1 M1 x1 I1 q c r=>?_) I.quiet rfl
 let⟨u,rfl,r1⟩:=r.is1;let⟨c',o',vs',rfl,q',t',rs'⟩:=r1;let⟨vs,⟨z,n,rfl⟩,rs⟩:=c;let hq:=I1.heap _ _ _ q;let⟨n',hq'⟩:=t'.obj I1.heap q';let hl1:=rs.length;let hl2:=rs'.length;have:=aA hl;let⟨M2,I2,x2⟩:=I1.lset (f:=λa=>a++vs'.toArray) (us:=vs++vs') (t:=s1.toks) h nd (aJ e1) q (by simp) (rs.append rs') (by simpa using hl)
 refine K2 F.slot_list_extend ⟨_,hq,rfl⟩ F.entry_list_extend (F.args_list_extend_2 _ _) (Ny a vs.toArray n c' vs'.toArray n' ?_ (by assumption) (by simp;lia)) ⟨hq,hq',k _ _ (x1.sx.trans x2) I2⟩
 rw[show NS (vs.toArray.size+vs'.toArray.size)=Y from decide_eq_false (by simp;lia),Bool.and_false];lia
theorem AB {body:Qw Jp}{ft:DEnv->Qq Bool}{gb:DEnv->Qq Out}(n:Nat) (hc:DT X c ft) (hb:DSs X body gb):DS X (.While c body [] pos) (λδ=>aK ft gb n δ):=λ{M δ s o Q} I e k=>by
 refine wpAny_While (codeAny_whileLoop (λj s'=>∃δ' M',Sx M M'/\Inv X M' δ' s'/\aK ft gb j δ'=U o) ?_ n ⟨δ,M,Sx.refl,I,e⟩)
 rintro j s1 ⟨δ1,M1,x1,I1,e1⟩
 cases j with
 |zero=>cases e1
 |succ j=>
  unfold aK at e1;cases q:ft δ1 with
  |none=>simp[q]at e1
  |some t=>
   simp![q]at e1;refine K5 KG (hc I1 q λs2 M2 x2 I2=>?_)
   cases t with
   |false=>cases e1;exact Nt (k _ _ (x1.trans x2.sx) I2)
   |true=>
    cases q2:gb δ1 with
    |none=>simp[q2]at e1
    |some o1=>
     simp![q2]at e1;refine K5 KG (hb I2 q2 ?_)
     let x12:=x1.trans x2.sx;cases o1 with
     |next δ3=>exact λs3 M3 x3 I3=>⟨j,IY j,δ3,M3,x12.trans x3,I3,e1⟩
     |cont δ3=>exact λs3 M3 x3 I3=>⟨j,IY j,δ3,M3,x12.trans x3,I3,e1⟩
     |brk δ3=>cases e1;exact λs3 M3 x3 I3=>k _ _ (x12.trans x3) I3
     |ret d fr δ3=>cases e1;exact λv s3 M3 x3 I3 r=>k _ _ _ (x12.trans x3) I3 r
end
end L2
namespace L2
open PySem PySem.Spec PyProof.Rows Md
variable[Md]
def Ch (fp:Qw HZ) (s s':HN):Prop:=(s'.os=s.os/\s'.gens=s.gens)/\∀b o,b∉fp->s.heap.get? b=U o->s'.heap.get? b=U o
def Got (m:Bool) (M:Mp) (s s':HN) (d:D) (u:HM):Prop:=R m M d u\/∃t o,s.heap.objs.size<=t/\s'.heap.get? t=U o/\R m (upd M t (U (.f,o))) d u
structure Turn2 (A:Ia) (tg:Expr) (m m':Bool) (M:Mp) (ds:Qw D) (fp:Qw HZ) (it:HZ) (tn:Nat->Jr->Prop):Prop where
 ex:∀{i h},tn i h->∀b∈fp,∃o,h.get? b=U o
 keep:∀{i h h'},tn i h->(∀b∈fp,∀o,h.get? b=U o->h'.get? b=U o)->tn i h'
 item:∀{i s d},tn i s.heap->(∀a o,Rd m M a o->s.heap.get? a=U o)->ds[i]?=U d->wpAny (model P w) A (pyNext (.ref it)) (λr s1=>∃u,r=U u/\
  wpAny (model P w) A (letOwnedTupleGo tg (.ref it) u) (λ_ s2=>Ch fp s s2/\tn (i+1) s2.heap/\Got m' M s s2 d u) (λ_ _=>False) s1) (λ_ _=>False) s
 done:∀{s},tn ds.length s.heap->(∀a o,Rd m M a o->s.heap.get? a=U o)->wpAny (model P w) A (pyNext (.ref it)) (λr s1=>r=B/\Ch fp s s1) (λ_ _=>False) s
 self:∀{A:Ia}{i s} {Q E:HM->HN->Prop},tn i s.heap->Q (.ref it) s->wpAny (model P w) A (pyIter (.ref it)) Q E s
abbrev C5 (A:Ia) (tg:Expr) (m:Bool):=Turn2 A tg m m
abbrev GU (X:Cx) (tg:Expr) (M:Mp) (δ:DEnv) (m m':Bool) (ds:Qw D) (Q:HM->HN->Prop):Prop:=∀it fp tn s' M',Ext M M'->Inv X M' δ s'->Turn2 X.A tg m m' M' ds fp it tn->tn 0 s'.heap->(∀b∈fp,Free X M' b)->Q (.ref it) s'
structure DI2 (X:Cx) (m m':Bool) (tg iter:Expr) (f:DEnv->Qq (Qw D)):Prop where
 pl:plE iter=V
 ev:∀{M δ s ds} {Q:HM->HN->Prop},Inv X M δ s->f δ=U ds->GU X tg M δ m m' ds Q->WP X (eval iter X.env) (λv s1=>WP X (pyIter v) Q s1) s
abbrev DI (X:Cx) (m:Bool):=DI2 X m m
section
variable{X:Cx}{M M' M1:Mp}{δ:DEnv}{s s':HN}{tg iter:Expr}{es:Qw Expr}{fa fb:DEnv->Qq D}{m m' mm:Bool}{p pos tp:MR}
def Inv.ch (I:Inv X M δ s) (h:Ch fp s s') (hf:∀b∈fp,Free X M b):Inv X M δ s':=I.wr fp hf (λb o hb=>h.2 b o hb) h.1
def zQ (h:Sub m M m' M'):Sub m (upd M a (U (.f,o))) m' (upd M' a (U (.f,o))):=λb ob ⟨k,e,z⟩=>by
 by_cases q:b=a
 ·subst q;rw[ah]at e;cases e;exact⟨.f,ah,rfl⟩
 ·rw[ai q]at e;let⟨k',e',z'⟩:=h b ob ⟨k,e,z⟩;exact⟨k',by rw[ai q];exact e',z'⟩
def Inv.got (I:Inv X M' δ s) (hs:Sub m M m' M') (g:Got m M s s' d u) (c:Ch fp s s') (hf:∀b∈fp,Free X M' b):∃M'',Ext M' M''/\Inv X M'' δ s'/\R m' M'' d u/\∀b o,Free X M' b->s.heap.get? b=U o->Free X M'' b:=by
 let I1:=I.ch c hf
 rcases g with g|⟨t,o,h1,h2,h3⟩
 ·exact⟨M',Ext.refl,I1,g.to hs,λb _ f _=>f⟩
 ·let f:=I.fresh h1
  refine⟨_,bQ f.m,I1.put f h2,h3.to (zQ hs),λb o f e=>⟨?_,f.l,f.c,f.t,f.s,f.n⟩⟩
  rw[ai];exact f.m
  rintro rfl
  exact absurd (H6 e) (Nat.not_lt.mpr h1)
def Ret.unp (r:Ret X M1 s d v fr) (h1:Sub Y M1 Y M') (h2:∀a,M1 a=B->M' a=B) (h3:∀a k o,k.own=V->M1 a=U (k,o)->M' a=U (k,o)):Ret X M' s d v fr:=by
 cases fr with
 |false=>exact R.to h1 r
 |true=>
  let z:∀{a o},(Free X M1 a\/∃i,M1 a=U (.o i,o))->(Free X M' a\/∃i,M' a=U (.o i,o)):=λz=>z.imp (λf=>⟨h2 _ f.m,f.l,f.c,f.t,f.s,f.n⟩) λ⟨i,w⟩=>⟨i,h3 _ _ _ rfl w⟩
  exact r.imp (λ⟨a,o,e,q,c,w⟩=>⟨a,o,e,q,c.to h1,z w⟩) λ⟨c,ks,ds,x,ox,a,o,vs,e1,e2,e3,e4,e5,e6,e7,w⟩=>⟨c,ks,ds,x,ox,a,o,vs,e1,e2,rdf.mp (h1 _ _ (rdf.mpr e3)),e4,e5,e6,e7.to h1,z w⟩
def E1 {body:Qw Jp}{fi:DEnv->Qq (Qw D)}{τ:D->DEnv->Qq DEnv}{gb:DEnv->Qq Out}(hi:DI X Y tg iter fi) (hg:DG X tg τ) (hb:DSs X body gb):DS X (.For tg iter body [] pos) (λδ=>ae (fi δ) λds=>aq (λd δ=>ae (τ d δ) gb) ds δ):=λ{M δ s o Q} I e k=>by
 let⟨ds,e1,e2⟩:=ag e;refine wpAny_For (hi.ev I e1 λit fp tn s1 M1 x1 I1 T t0 f1=>?_) λx=>i9 hi.pl
 refine codeAny_forLoop_any (λn s'=>∃i δ' M',n=ds.length - i/\i<=ds.length/\Sx M1 M'/\Inv X M' δ' s'/\tn i s'.heap/\(∀b∈fp,Free X M' b)/\aq (λd δ=>ae (τ d δ) gb) (ds.drop i) δ'=U o) ?_ ds.length ⟨0,δ,M1,rfl,Im _,Sx.refl,I1,t0,f1,e2⟩
 rintro n s2 ⟨i,δ2,M2,rfl,hi',x2,I2,t2,f2,e3⟩
 let rd2:∀a o,Rd Y M1 a o->s2.heap.get? a=U o:=λa o q=>I2.heap _ _ _ (rdf.mp (x2.f _ _ q))
 let k2:=k.to (x1.sx.trans x2)
 by_cases hlt:i<ds.length
 ·rw[Jl hlt]at e3
  simp![aq]at e3;refine K5 KG (thn (T.item t2 rd2 (d:=ds[i]) (by simp[hlt])) λr s3 hz=>?_)
  let⟨u,rfl,h3⟩:=hz;refine K5 KG (thn h3 λ_ s4 hz=>?_)
  let⟨c4,t4,g4⟩:=hz;let⟨M4,x4,I4,r4,f4'⟩:=I2.got x2.f g4 c4 f2;let f4:∀b∈fp,Free X M4 b:=λb hb=>by let⟨o,e⟩:=T.ex t2 b hb;exact f4' b o (f2 b hb) e
  cases q:ae (τ ds[i] δ2) gb with
  |none=>simp[q]at e3
  |some o1=>
   simp![q]at e3;let⟨δ5,q1,q2⟩:=ag q;refine K5 KG (hg I4.pin (r4.to dH) q1 λs5 I5=>?_)
   refine K5 KG (hb I5 q2 ?_)
   let fin:∀{δ6 M6 s6},Sx (pin X M4 s4.heap) M6->Inv X M6 δ6 s6->∃M7,Sx M2 M7/\Inv X M7 δ6 s6/\tn (i+1) s6.heap/\(∀b∈fp,Free X M7 b)/\Sub Y M6 Y M7/\(∀a,M6 a=B->M7 a=B)/\∀a k o,k.own=V->M6 a=U (k,o)->M7 a=U (k,o):=λy J=>by
    let⟨h1,h2,h3,h4,h5,h6⟩:=I4.unp J y;exact⟨_,x4.sx.trans h2,h1,T.keep t4 λb hb o e=>(h6 b o (f4 b hb) e).1,λb hb=>by let⟨o,e⟩:=T.ex t4 b hb;exact(h6 b o (f4 b hb) e).2,h3,h4,h5⟩
   let again:∀{δ6 M6 s6},Sx (pin X M4 s4.heap) M6->Inv X M6 δ6 s6->aq (λd δ=>ae (τ d δ) gb) (ds.drop (i+1)) δ6=U o->∃m,m<ds.length - i/\∃i δ' M',m=ds.length - i/\i<=ds.length/\Sx M1 M'/\Inv X M' δ' s6/\tn i s6.heap/\(∀b∈fp,Free X M' b)/\aq (λd δ=>ae (τ d δ) gb) (ds.drop i) δ'=U o:=λy J e=>by
    let⟨M7,h1,h2,h3,h4,_⟩:=fin y J;exact⟨ds.length - (i+1),by lia,i+1,_,M7,rfl,hlt,x2.trans h1,h2,h3,h4,e⟩
   cases o1 with
   |next δ6=>exact λs6 M6 y J=>again y J e3
   |cont δ6=>exact λs6 M6 y J=>again y J e3
   |brk δ6=>cases e3;exact λs6 M6 y J=>by let⟨M7,h1,h2,_⟩:=fin y J;exact k2 _ _ h1 h2
   |ret d fr δ6=>cases e3;exact λv s6 M6 y J r=>by let⟨M7,h1,h2,h3,h4,h5,h6,h7⟩:=fin y J;exact k2 _ _ _ h1 h2 (r.unp h5 h6 h7)
 ·obtain rfl:i=ds.length:=by lia
  rw[N4]at e3;cases e3;refine K5 KG (thn (T.done t2 rd2) λr s3 hz=>?_)
  let⟨rfl,c3⟩:=hz;exact Nt (k2 _ _ Sx.refl (I2.ch c3 f2))
def uP {A:Ia}{E:HM->HN->Prop}{it:HZ}{u:HM}{o:LW}{n:String}{vs:Array HM}{Q:Unit->HN->Prop}(ho:s.heap.get? it=U o) (hc:o.cls=.type n) (hd:o.data=.fields vs)
  (hn:["enumerate","zip","dict_itemiterator","dict_reverseitemiterator","odict_iterator","itertools.zip_longest","itertools.pairwise"].contains n=Y) (hQ:Q () s):wpAny (model P w) A (letOwnedTupleGo tg (.ref it) u) Q E s:=by
 cases tg<;>first
  |exact HK hQ
  |(cases u<;>first
    |exact HK hQ
    |(refine HJ (ME ho ?_)
      rw[hc,hd];show wpAny _ A (if(["enumerate","zip","dict_itemiterator","dict_reverseitemiterator","odict_iterator","itertools.zip_longest","itertools.pairwise"].contains n&&vs[0]?==U (rawInt _))=V then _ else _) Q E s
      rw[if_neg (by intro h;rw[hn,Bool.false_and]at h;cases h)]
      exact HK hQ))
def gT {h':Jr}{t:Nat}(h:IM it s.heap h'):Ch [it] s {s with heap:=h',toks:=t}:=⟨⟨rfl,rfl⟩,λb o hb e=>(h.2 b λz=>hb (by simp[z])).trans e⟩
def ir {h':Jr}(h:MA it s.heap h'):Ch [it] s {s with heap:=h'}:=⟨⟨rfl,rfl⟩,λb o hb e=>h b o (λz=>hb (by simp[z])) e⟩
def l9 (h:∀a o,Rd m M a o->s.heap.get? a=U o) (q:Rd m M c o) (t:LstO o vs):s.heap.IsList c vs.toArray:=by let⟨_,n,rfl⟩:=t;exact⟨_,h _ _ q,rfl,n,rfl⟩
def A1 (h:∀a o,Rd m M a o->s.heap.get? a=U o) (q:Rd m M c o) (t:TupO o vs):s.heap.IsTuple c vs.toArray:=⟨_,h _ _ q,t.2⟩
def wo (hh:A.handled=B) (q:Rd m M c o) (t:LstO o vs) (rs:Rs m' M ds vs):Turn2 A tg m m' M ds [it] it (λi h=>h.IsListIter it c i) where
 ex:=λ⟨o,e,_⟩ b hb=>by simp_all
 keep:=λst k=>st.at λo e=>k it (by simp) o e
 item:=λ{i s d} st h e=>by
  let⟨u,h1,h2⟩:=rs.get e;refine Nk st (l9 h q t) (x:=u) (by simpa using h1) λh' st' sb=>?_
  let⟨o,e,c,d⟩:=id st';exact⟨u,rfl,uP (s:={s with heap:=h'}) e c d (by decide) ⟨gT (t:=s.toks) sb,st',.inl h2⟩⟩
 done:=λst h=>Nz hh st (l9 h q t) (by simp[rs.length]) λh' eb=>⟨rfl,ir eb⟩
 self:=λst h=>wpAny_pyIter_listiter st h
def tY (hh:A.handled=B) (q:Rd m M c o) (t:TupO o vs) (rs:Rs m M ds vs):C5 A tg m M ds [it] it (λi h=>h.IsTupleIter it c i) where
 ex:=λ⟨o,e,_⟩ b hb=>by simp_all
 keep:=λst k=>st.at λo e=>k it (by simp) o e
 item:=λ{i s d} st h e=>by
  let⟨u,h1,h2⟩:=rs.get e;refine wpAny_pyNext_tuple_item st (A1 h q t) (x:=u) (by simpa using h1) λh' st' sb=>?_
  let⟨o,e,c,d⟩:=id st';exact⟨u,rfl,uP (s:={s with heap:=h'}) e c d (by decide) ⟨gT (t:=s.toks) sb,st',.inl h2⟩⟩
 done:=λst h=>wpAny_pyNext_tuple_end hh st (A1 h q t) (by simp[rs.length]) λh' eb=>⟨rfl,ir eb⟩
 self:=λst h=>wpAny_pyIter_tupleiter st h
def ze (I:Inv X M δ s):∀b∈[s.heap.objs.size],Free X M b:=λb hb=>by rw[on.mp hb];exact I.fresh (HQ _)
def oJ (h:dj x=U ds):x=U (.lst ds):=by unfold dj at h;split at h<;>simp_all
def oz (h:yp x=U ds):x=U (.tup ds):=by unfold yp at h;split at h<;>simp_all
variable{a b:Expr}
def Cd (h:DE X m a fa):DI X m tg a (λδ=>dj (fa δ)):=⟨h.pl,λI e k=>h.ev I (oJ e) λv s1 M1 x1 I1 r=>by
 let⟨c,o,vs,rfl,q,t,rs⟩:=r;exact Lb (t.is I1.heap q) (k _ _ _ _ _ x1 (I1.push (t:=s1.toks)) (wo I.ok.room.hd q t rs) ⟨_,HO _ rfl,rfl,rfl⟩ (ze I1))⟩
def FD (h:DE X m a fa):DI X m tg a (λδ=>yp (fa δ)):=⟨h.pl,λI e k=>h.ev I (oz e) λv s1 M1 x1 I1 r=>by
 let⟨c,o,vs,rfl,q,t,rs⟩:=r;exact wpAny_pyIter_tuple (t.is I1.heap q) (k _ _ _ _ _ x1 (I1.push (t:=s1.toks)) (tY I.ok.room.hd q t rs) ⟨_,HO _ rfl,rfl,rfl⟩ (ze I1))⟩
def z9 {lo:Int}(h:(jK lo n)[i]?=U d):i<n/\d=.int (lo+i):=by
 unfold jK at h
 by_cases hi:i<n
 ·simp_all
 ·simp_all
def uI (hh:A.handled=B) (lo:Int) (n:Nat):C5 A tg m M (jK lo n) [it] it (λi h=>IsRangeIter h it (lo+(i:Nat)*1) ((n:Int) - (i:Nat)) 1) where
 ex:=λst b hb=>by simp_all
 keep:=λst k=>k it (by simp) _ st
 item:=λ{i s d} st h e=>by
  let⟨hi,rfl⟩:=z9 e;let W:=Walks.range (prog:=P) (w:=w) hh it lo 1 n;refine W.item i s _ _ hi st λv h' tk hv st' kk=>?_
  let⟨t,rfl⟩:=hv;exact⟨_,rfl,uP (s:={s with heap:=h',toks:=tk}) (n:="range_iterator") st' rfl rfl (by decide) ⟨⟨⟨rfl,rfl⟩,λb o hb e=>kk b o (by lia) e⟩,st',.inl ⟨t,by rw[Int.mul_one]⟩⟩⟩
 done:=λ{s} st h=>wpAny_pyNext_range_end hh st (by simp[jK]) λh' eb=>⟨rfl,ir eb⟩
 self:=λst h=>wpAny_pyIter_rangeiter st h
nonrec theorem Co (g:Bn X "range") (h:DE X m a fa):DI X mm tg (.Call (.Name "range" p) [a] [] pos) (λδ=>nG (fa δ)):=⟨rfl,λ{M δ s ds Q} I e k=>by
 unfold nG at e;split at e<;>try cases e
 split at e<;>cases e
 rename_i j q hj;let hj:=of_decide_eq_true hj;refine cQ g boot_range h I q λv s1 M1 x1 I1 r=>?_
 let⟨t,rfl⟩:=r;refine call_range_1 (wpAny_pyIter_range (IsRange.new ..) (small_one (by lia) (by lia) hj.1 hj.2) ?_)
 refine k _ _ _ _ _ x1 (I1.push.push (t:=s1.toks+2)) (uI I.ok.room.hd 0 j.toNat) ?_ λb hb=>?_
 ·rw[show(0:Int)+((0:Nat):Int)*1=0 by simp,show((j.toNat:Nat):Int) - ((0:Nat):Int)=Builtin.Range.rangeSize 0 j 1 by rw[rangeSize_one];split<;>lia]
  exact HO _ rfl
 ·rw[on.mp hb];exact I1.fresh (by simp)⟩
end
end L2
namespace L2
open PySem PySem.Spec PyProof.Rows Md
variable[Md]
structure Bas (M:Mp) (s:HN) (as:Qw HZ):Prop where
 og:s.os=Md.os/\s.gens=gens
 heap:Hm M s.heap
 base:∀a o,base.get? a=U o->M a=U (.p,o)
 tabs:TabOk M s.heap
 own:∀a k o,M a=U (k,o)->k.own=V->Ow o/\∃p,k=.s p/\as[p]?=U a
 full:∀a o,s.heap.get? a=U o->M a≠B\/∃q∈tb,a=q.1
 sys:∀k o,M sysModules=U (k,o)->k=.p
def As (fd:NN) (ps:Qw Ih):Prop:=∀(s:HN) (us:Qw HM),us.length=ps.length->BindsTo s fd ⟨us,[]⟩ (ps.zip us)
def Av (M:Mp) (as:Qw HZ) (u:HM):D->Prop
 |.loc B p=>∃a,as[p]?=U a/\u=.ref a
 |.loc (U c) p=>∃a x ox,as[p]?=U a/\u=.ref x/\M x=U (.f,ox)/\InsO c ox a
 |d=>R Y M d u
def Avs (M:Mp) (as:Qw HZ):Qw D->Qw HM->Prop
 |[],us=>us=[]
 |d::ds,us=>∃u r,us=u::r/\Av M as u d/\Avs M as ds r
def FnA (p:HZ) (k:Nat) (f:Qw D->Qw D->Qq (D×Bool×DEnv)):Prop:=∀{A s M us ds σ r fr σ'} (as:Qw HZ),Room k A->Mod->Bas M s as->Avs M as ds us->as.length=σ.length->(∀(p:Nat) a d,as[p]?=U a->σ[p]?=U d->∃o,M a=U (.s p,o)/\Ca M d o)->f ds σ=U (r,fr,σ')->
  codeAny (model P w) A (.call (.ref p) ⟨us,[]⟩) (λres s'=>∃v X' M1 δ1,res=.ok (.ret v)/\Sx M M1/\Inv X' M1 δ1 s'/\X'.S=as/\δ1.drop X'.N.length=σ'/\Ret X' M1 s' r v fr) s
structure FnW (k:Nat) (x:Ih) (f:Qw D->Qw D->Qq (D×Bool×DEnv)):Prop where
 ex:∃p,mg x=U (.ref p)/\N7 K (.ref p)=V/\FnA p k f
structure FnM (k:Nat) (x:Ih) (f:Qw D->Qq (D×Bool)):Prop where
 ex:∃p,mg x=U (.ref p)/\N7 K (.ref p)=V/\∀{A s M us ds r fr},Room k A->Mod->Bas M s []->Rs Y M ds us->f ds=U (r,fr)->
  codeAny (model P w) A (.call (.ref p) ⟨us,[]⟩) (λres s'=>∃v X' M1 δ1,res=.ok (.ret v)/\Sx M M1/\Inv X' M1 δ1 s'/\X'.S=[]/\Ret X' M1 s' r v fr) s
def Room.mono {j k:Nat}{A:Ia}(r:Room k A) (h:j<=k):Room j A:=⟨r.hd,by have:=r.dp;lia,by have:=r.un;lia⟩
def Room.deeper {k:Nat}{A:Ia}(r:Room (k+1) A) (env:Env):Room k (A.deeper env):=
 ⟨r.hd,by have:=r.dp;show A.depth+1+3*k+5<_;lia,by have:=r.un;simp;lia⟩
section
variable{X:Cx}{M:Mp}{δ:DEnv}{s:HN}{a:Expr}{es:Qw Expr}{fs:DEnv->Qq (Qw D)}{m:Bool}{p pos:MR}{f:Qw D->Qq (D×Bool)}
def AD (h:M b=U (k',o')) (e:cal m ko M h' ex b=U (k,o)):o=o'/\(k.own=V->ko=V/\k=k'):=by
 unfold cal at e;rw[h]at e;cases k'<;>cases m<;>cases ko<;>simp[Rl.own]at e<;>let⟨rfl,rfl⟩:=e<;>refine⟨rfl,λz=>?_⟩<;>first|(cases z;done)|exact⟨rfl,rfl⟩
def Inv.calI (I:Inv X M δ s) (hf:∀b∈ex,Fre X M b):Hm (cal m ko M s.heap ex) s.heap/\(∀b o,Md.base.get? b=U o->cal m ko M s.heap ex b=U (.p,o))/\TabOk (cal m ko M s.heap ex) s.heap/\∀b k o,k.own=V->cal m ko M s.heap ex b=U (k,o)->ko=V/\M b=U (k,o):=by
 let key:∀b k o,cal m ko M s.heap ex b=U (k,o)->s.heap.get? b=U o/\(k.own=V->ko=V/\M b=U (k,o)):=λb k o e=>by
  cases h:M b with
  |some x=>
   let⟨rfl,z⟩:=AD h e;exact⟨I.heap _ _ _ h,λw=>⟨(z w).1,by rw[(z w).2]⟩⟩
  |none=>
   unfold cal at e;rw[h]at e;dsimp only at e;split at e;cases e;cases q:s.heap.get? b with
   |none=>simp_all
   |some o'=>rw[q]at e;cases e;exact⟨rfl,λz=>nomatch z⟩
 refine⟨λb k o e=>(key b k o e).1,λb o e=>by unfold cal;rw[I.base b o e];rfl,λq hq=>?_,λb k o w e=>(key b _ o e).2 w⟩
 let⟨h1,ps,h2,h3,h4⟩:=I.tabs q hq;refine⟨by unfold cal;rw[h1];exact if_pos (.inr ⟨q,hq,rfl⟩),ps,h2,h3,λpos cv z=>?_⟩
 let⟨c,oc,vs,t,e1,e2,e3⟩:=h4 pos cv z;exact⟨c,oc,vs,t,e1,by unfold cal;rw[e2];rfl,e3⟩
def Inv.calS (I:Inv X M δ s) (e:cal m ko M h ex sysModules=U (k,o)):k=.p:=by
 unfold cal at e;cases q:M sysModules with
 |some x=>let⟨k',o'⟩:=x;obtain rfl:=I.sys _ _ q;rw[q]at e;cases e;rfl
 |none=>
  simp_all
def Inv.bas (I:Inv X M δ s):Bas (cal m Y M s.heap []) s []:=by
 let⟨h1,h2,h3,h4⟩:=I.calI (m:=m) (ko:=Y) (ex:=[]) λ_ z=>nomatch z
 refine⟨I.og,h1,h2,h3,λb k o e z=>absurd (h4 b k o z e).1 JM,λb o e=>?_,λ_ _ e=>I.calS e⟩
 unfold cal;cases h:M b with
 |some x=>exact .inl (by simp)
 |none=>
  simp;lia
def Fn (X:Cx) (M:Mp) (s:HN) (m:Bool) (d:D) (v:HM):Prop:=∃c o,v=.ref c/\Free X M c/\s.heap.get? c=U o/\Cm m M d o
def Fi (X:Cx) (M:Mp) (s:HN) (m:Bool) (d:D) (v:HM):Prop:=∃c ks ds x ox a o vs,d=.ob c ks ds/\v=.ref x/\Rd m M x ox/\(m=Y->M x=U (.f,ox))/\InsO c ox a/\Free X M a/\s.heap.get? a=U o/\AtO o ks vs/\Rs m M ds vs
def Sx.knows {M M1:Mp}{k:Rl}{a:HZ}(x:Sx M M1) (ho:k.own=Y) (e:M a=U (k,o)):M1 a=U (k,o):=by
 cases k with
 |f=>exact rdf.mp (x.f _ _ (rdf.mpr e))
 |p=>exact x.p _ _ e
 |_=>cases ho
def Inv.newIn (I:Inv X M δ s) (J:Inv X' M2 δ2 s2) (PA:Bas Mc s as) (x:Sx Mc M2) (hm:∀a,M2' a=M2 a\/(a∈as/\M2' a=B)) (hS:X'.S=as) (z:Free X' M2 c\/∃i,M2 c=U (.o i,o)):s.heap.get? c=B/\c∉as/\Free X (bak M s.heap as M2') c:=by
 let nas:c∉as:=λw=>by
  rw[<-hS]at w
  rcases z with z|⟨i,z⟩
  ·exact z.n w
  ·let⟨p,h⟩:=(J.sx c w).2 _ _ z rfl;cases h
 let new:s.heap.get? c=B:=by
  cases w:s.heap.get? c with
  |none=>rfl
  |some o'=>
   exfalso
   rcases PA.full c o' w with z1|⟨t,z1,z2⟩
   ·cases q:Mc c with
    |none=>exact z1 q
    |some y=>
     let⟨k',o2⟩:=y;cases ho:k'.own with
     |true=>
      let⟨_,p,_,hp⟩:=PA.own _ _ _ q ho;exact nas (HR hp)
     |false=>
      have:=x.knows ho q
      rcases z with z|⟨i,z⟩
      ·simp_all [z.m]
      ·rw[z]at this;cases this;cases ho
   ·rcases z with z|⟨i,z⟩
    ·exact z.t t z1 z2
    ·have:=(J.tabs t z1).1;lia
 let no:M c=B:=by
  cases w:M c with
  |none=>rfl
  |some y=>have:=I.heap _ _ _ w;lia
 refine⟨new,nas,?_,?_,λy z1=>?_,λt z1 z2=>?_,λz1=>z.elim (λf=>f.s z1) (λ⟨i,w⟩=>by rw[z1]at w;exact nomatch J.sys _ _ w),λz1=>by let⟨⟨o,e⟩,_⟩:=I.sx c z1;rw[new]at e;cases e⟩
 ·unfold bak;rw[no];rw[if_neg (by simp[new]),(hm c).elim id λw=>absurd w.1 nas]
  rcases z with z|⟨i,z⟩
  ·rw[z.m]
  ·rw[z]
 ·rintro rfl;let⟨_,⟨o,_,_,z1,_⟩,_⟩:=I.loc;lia
 ·let⟨⟨_,o,z2,_⟩,_⟩:=I.cell y c z1;lia
 ·let⟨_,ps,z3,_⟩:=I.tabs t z1;lia
def lP {Q:HM->HN->Prop}{k:Nat}(F:FnM k x f) (hr:Room k X.A) (g:Gb X x) (ha:DA X m (a::es) fs) (I:Inv X M δ s) (e1:fs δ=U ds) (e2:f ds=U (r,fr))
  (kk:∀v s' M',Ext M M'->Inv X M' δ s'->(fr=Y->R m M' r v)->(fr=V->Fn X M' s' m r v\/Fi X M' s' m r v)->Q v s'):WP X (eval (.Call (.Name x p) (a::es) [] pos) X.env) Q s:=by
 let⟨q,h1,h2,h3⟩:=F.ex;let h:=ha.pl;rw[Iw,HW]at h;refine IN (JY I.ok.kind g.g (KB (by rw[I.ok.glob];exact I.ok.mod.glob.keeps I.bk) h1 ?_) g.d)
 refine Lj (h₀:=base) I.ok.mod.kin h2 (ha.ev I e1 (λvs s1 M1 x1 I1 rs=>⟨I1.kIn,Nn (Mx (h3 hr I.ok.mod I1.bas (rs.to j9) e2) λres s' hz=>?_)⟩) pos) (aB h.1) (dm h.2)
 let⟨v,X',M2,δ2,rfl,x2,J,hS,rt⟩:=hz;let⟨I2,sb⟩:=I1.ret (ex:=[]) J.lft (λ_ z=>nomatch z) (λ_ z=>nomatch z) x2 (λa k o w z=>by let⟨_,p,_,hp⟩:=I1.bas.own a k o z w;cases hp)
 refine kk v s' _ (x1.trans i8) I2 (λz=>?_) λz=>?_
 ·subst z;exact R.to sb rt
 ·subst z
  rcases rt with⟨c,o,rfl,hc,cc,z⟩|⟨c,ks,ds,y,oy,a,o,vs,e1,e2,e3,e4,e5,e6,e7,z⟩
  ·exact .inl ⟨c,o,rfl,(I1.newIn J I1.bas x2 (λ_=>.inl rfl) hS z).2.2,hc,cc.to sb⟩
  ·refine .inr ⟨c,ks,ds,y,oy,a,o,vs,e1,e2,sb _ _ (rdf.mpr e3),λw=>?_,e4,(I1.newIn J I1.bas x2 (λ_=>.inl rfl) hS z).2.2,e5,e6,e7.to sb⟩
   subst w;exact rdf.mp (sb _ _ (rdf.mpr e3))
theorem yg {k:Nat}(F:FnM k x f) (hr:Room k X.A) (g:Gb X x) (ha:DA X m (a::es) fs):DE X m (.Call (.Name x p) (a::es) [] pos) (λδ=>shO (ae (fs δ) f)):=⟨rfl,λ{M δ s d Q} I e k=>by
 cases q:ae (fs δ) f with
 |none=>simp[shO,q]at e
 |some y=>
  let⟨d',fr⟩:=y;simp![shO,q]at e;cases e;let⟨ds,e1,e2⟩:=ag q;refine lP F hr g ha I e1 e2 λv s1 M1 x1 I1 h1 h2=>?_
  cases fr with
  |false=>exact k _ _ _ x1 I1 (h1 rfl)
  |true=>
   rcases h2 rfl with⟨c,o,rfl,f,z,cc⟩|⟨c,ks,ds,y,oy,a,o,vs,rfl,rfl,e3,_,e4,f,z,e6,e7⟩
   ·exact k _ _ _ (x1.trans (bQ f.m)) (I1.put f z) (cc.rep (br f.m) ⟨.f,ah,rfl⟩)
   ·exact k _ _ _ (x1.trans (bQ f.m)) (I1.put f z) ⟨y,oy,a,o,vs,rfl,br f.m _ _ e3,e4,⟨.f,ah,rfl⟩,e6,e7.to (br f.m)⟩⟩
theorem Am {k:Nat}(F:FnM k x f) (hr:Room k X.A) (g:Gb X x) (ha:DA X Y (a::es) fs):DF X (.Call (.Name x p) (a::es) [] pos) (λδ=>frO (ae (fs δ) f)):=⟨rfl,λ{M δ s d Q} I e k=>by
 cases q:ae (fs δ) f with
 |none=>simp[frO,q]at e
 |some y=>
  let⟨d',fr⟩:=y;let⟨ds,e1,e2⟩:=ag q;obtain⟨rfl,rfl⟩:fr=V/\d'=d:=by cases d'<;>cases fr<;>simp_all [frO]
  refine lP F hr g ha I e1 e2 λv s1 M1 x1 I1 h1 h2=>?_
  rcases h2 rfl with⟨c,o,rfl,f,z,cc⟩|⟨_,_,_,_,_,_,_,_,rfl,_⟩
  ·exact k _ _ _ _ x1 I1 f z cc
  ·rw[q]at e;cases e⟩
nonrec theorem xw {k:Nat}(F:FnM k x f) (hr:Room k X.A) (g:Gb X x) (ha:DA X V (a::es) fs):DF X (.Call (.Name x p) (a::es) [] pos) (λδ=>flO (ae (fs δ) f)):=⟨rfl,λ{M δ s d Q} I e k=>by
 unfold flO at e;split at e<;>try cases e
 all_goals
  split at e<;>cases e
  rename_i q fl;let⟨ds,e1,e2⟩:=ag q;refine lP F hr g ha I e1 e2 λv s1 M1 x1 I1 h1 h2=>?_
  rcases h2 rfl with⟨c,o,rfl,f,z,cc⟩|⟨_,_,_,_,_,_,_,_,z,_⟩
  ·refine k _ _ _ _ x1 I1 f z ?_
   first
    |(let⟨vs,h3,h4⟩:=cc;exact⟨vs,h3,Rs.flat I1.own fl h4⟩)
    |(let⟨us,vs,h3,h5,h4⟩:=cc;exact⟨us,vs,h3,h5,Rs.flat I1.own fl h4⟩)
  ·cases z⟩
end
structure FnScope (N P:Qw Ih) (sc:Kg):Prop where
 kind:sc.kind=.function
 co:sc.isCoroutine=Y
 gen:sc.isGenerator=Y
 nd:N.Nodup
 pre:N.take P.length=P
 par:∀x∈P,sc.names.lookup x=U .local\/sc.names.lookup x=U .cell
 nofree:∀y∈sc.names,y.2≠.free
theorem pb {kindOf:Ih->Qq Kt}{x:Ih}:∀{binds:Qw (Ih×HM)}{m:Ih->Qq HM},(∀v,(x,v)∉binds)->bindL kindOf binds m x=m x
 |[],_,_=>rfl
 |(n,v)::r,m,h=>by
  unfold bindL;rw[pb λw hw=>h w (Ic _ hw)]
  split
  ·grind
  ·rfl
theorem nU {kindOf:Ih->Qq Kt}{x:Ih}:∀{binds:Qw (Ih×HM)}{m:Ih->Qq HM},(∀v,(x,v)∉binds)->bindC kindOf binds m x=m x
 |[],_,_=>rfl
 |(n,v)::r,m,h=>by
  unfold bindC;rw[nU λw hw=>h w (Ic _ hw)]
  split
  ·rfl
  grind
theorem sR {kindOf:Ih->Qq Kt}{x:Ih}{v:HM}:∀{P:Qw Ih}{vs:Qw HM}{i:Nat}{m:Ih->Qq HM},P.Nodup->P[i]?=U x->vs[i]?=U v->(kindOf x=U .local->bindL kindOf (P.zip vs) m x=U v)/\(kindOf x≠U .local->bindC kindOf (P.zip vs) m x=U v)
 |[],_,_,_,_,h,_=>by simp at h
 |_::_,[],_,_,_,_,h=>by simp at h
 |p::P,w::vs,0,m,nd,h1,h2=>by
  simp at h1 h2;subst h1;subst h2;let no:∀v,(p,v)∉P.zip vs:=λv hv=>(qae.mp nd).1 (Oh hv).1
  constructor<;>intro hk
  ·show bindL kindOf ((p,w)::P.zip vs) m p=_
   unfold bindL;rw[pb no,if_pos hk];simp
  ·show bindC kindOf ((p,w)::P.zip vs) m p=_
   unfold bindC;rw[nU no,if_neg hk];simp
 |p::P,w::vs,i+1,m,nd,h1,h2=>by
  let ih:=λm=>sR (i:=i) (m:=m) (kindOf:=kindOf) (qae.mp nd).2 (by trivial) (by trivial)
  exact⟨λhk=>(ih _).1 hk,λhk=>(ih _).2 hk⟩
abbrev cxF (N:Qw Ih) (qual:Ih) (scope:Kg) (f:HZ) (cd:HM) (A:Ia) (L:HZ) (S:Qw HZ:=[]):Cx:={A:=A.deeper (envOfC qual scope L f cd),N:=N,env:=envOfC qual scope L f cd,fn:=V,S:=S}
def toW (n:Nat):D->D×Bool|.loc c p=>(.loc c (n+p),V)|d=>(d,Y)
def fY (n:Nat) (ds σ:Qw D):DEnv:=ds.map (λd=>U (toW n d))++OH (n - ds.length) B++σ.map λd=>U (d,V)
def FX (n:Nat) (x:Qq Out):Qq (D×Bool×DEnv):=match x with|some (.ret d fr δ)=>U (d,fr,δ.drop n)|some (.next δ)=>U (.non,Y,δ.drop n)|_=>B
def u9 (n np:Nat) (g:DEnv->Qq Out) (ds σ:Qw D):Qq (D×Bool×DEnv):=if ds.length=np then FX n (g (fY n ds σ)) else B
def ur {i:Nat}(hl:ds.length<=n) (hi:i<n) (h:(fY n ds σ)[i]?=U (U x)):∃d,ds[i]?=U d/\x=toW n d:=by
 unfold fY at h;rw[Jz (by simp;lia)]at h
 by_cases hi:i<ds.length
 ·rw[Jz (by simpa using hi),H8]at h
  cases q:ds[i]?<;>simp_all
 ·rw[K9 (by simpa using hi),List.getElem?_replicate]at h
  split at h<;>cases h
def wV {p:Nat}(hl:ds.length<=n):(fY n ds σ)[n+p]?=(σ[p]?).map λd=>U (d,V):=by
 unfold fY;rw[K9 (by simp;lia),H8]
 congr 2;simp;lia
theorem Avs.get:∀{ds us} {i:Nat}{d},Avs M as ds us->ds[i]?=U d->∃u,us[i]?=U u/\Av M as u d
 |[],_,_,_,_,e=>by simp at e
 |x::ds,_,0,d,⟨v,r,rfl,h,_⟩,e=>by simp at e;subst e;exact⟨v,rfl,h⟩
 |x::ds,_,i+1,d,⟨v,r,rfl,_,h⟩,e=>by simpa using Avs.get (i:=i) h (by simpa using e)
theorem Avs.length:∀{ds us},Avs M as ds us->ds.length=us.length
 |[],_,h=>by subst h;rfl
 |d::ds,_,⟨v,r,e,_,h⟩=>by subst e;simp[Avs.length h]
theorem Rs.av:∀{ds us},Rs Y M ds us->Avs M as ds us
 |[],_,h=>h
 |d::ds,_,⟨v,r,e,h,t⟩=>⟨v,r,e,by cases d<;>first|exact h|exact h.elim,Rs.av t⟩
theorem sn:∀{ds:Qw D}{us},Rs Y M ds us->ds.map (λd=>U (toW n d))=ds.map λd=>U (d,Y)
 |[],_,_=>rfl
 |d::ds,_,⟨v,r,e,h,t⟩=>by simp![HP,sn t];cases d<;>first|rfl|exact h.elim
def Av.va {as:Qw HZ}{M:Mp}(h:Av M as u d):Va M as n i (toW n d).1 u (toW n d).2:=by
 cases d with
 |loc c p=>
  cases c with
  |none=>let⟨a,h1,h2⟩:=h;exact .inr ⟨a,by rw[O7];exact h1,N9 _ _,h2⟩
  |some c=>let⟨a,x,ox,h1,h2,h3,h4⟩:=h;exact .inr ⟨a,x,ox,by rw[O7];exact h1,N9 _ _,h2,h3,h4⟩
 |_=>exact h
def xn {N ps:Qw Ih}{qual:Ih}{scope:Kg}{f:HZ}{cd:HM}{A:Ia}{s s1:HN}{us:Qw HM}{M:Mp}{as:Qw HZ}(S:FnScope N ps scope) (hr:Room 0 (A.deeper (envOfC qual scope s.heap.objs.size f cd))) (mo:Mod) (PA:Bas M s as) (hl:ds.length=ps.length) (r:Avs M as ds us) (la:as.length=σ.length) (hσ:∀(p:Nat) a d,as[p]?=U a->σ[p]?=U d->∃o,M a=U (.s p,o)/\Ca M d o)
  (x:InCallC s s.heap.objs.size (bindL (envOfC qual scope s.heap.objs.size f cd).kindOf (ps.zip us) λ_=>B) (cellsFrom (s.heap.objs.size+1) scope.names []) (bindC (envOfC qual scope s.heap.objs.size f cd).kindOf (ps.zip us) λ_=>B) s1):
  Inv (cxF N qual scope f cd A s.heap.objs.size as) M (fY N.length ds σ) s1:=by
 let hpl:ps.length<=N.length:=by have:=congrArg J9 S.pre;rw[LL]at this;lia
 let⟨h1,tk,rfl,hk⟩:=x.done;let no:∀{c},s.heap.objs.size<=c->M c=B:=λ{c} h=>by
  cases q:M c with
  |none=>rfl
  |some y=>exact absurd (H6 (PA.heap _ _ _ q)) (Nat.not_lt.mpr h)
 let has:∀{n:Nat}{x:Ih},scope.names.lookup x=U .cell->∃c,(cellsFrom n scope.names []).lookup x=U c:=λ{n x} h=>Option.isSome_iff_exists.mp (OQ scope.names n [] (.inl h))
 refine⟨⟨mo,S.kind,rfl,rfl,λy z c h1 h2=>name_of_addr x.apart (Jc h1) (Jc h2),λy hy=>?_,hr⟩,PA.og,λb k o e=>hk _ _ (PA.heap _ _ _ e),PA.base,⟨_,x.toInCall.ns,λi y d b h1 h2 h3=>?_⟩,no (HQ _),λy c h=>⟨⟨_,x.cell y c h⟩,.inl (no (Pi (x.above y c (Jc h))))⟩,PA.tabs.to (λ_ _ h=>h) (λq h=>(PA.tabs q h).1) λq _ o e=>hk _ _ e,λb k o e w=>(PA.own _ _ _ e w).1,λb c k o o' w e e'=>?_,?_,λp a d e z=>?_,PA.sys,λa ha=>⟨?_,λk o e w=>by let⟨_,p,h,_⟩:=PA.own _ _ _ e w;exact⟨p,h⟩⟩⟩
 ·rcases hy with hy|hy
  ·exact has hy
  ·exact absurd rfl (S.nofree _ (Jc hy))
 ·let hiN:i<N.length:=(List.getElem?_eq_some_iff.mp h1).1
  let⟨d0,hd,hx⟩:=ur (by lia) hiN h2
  let⟨u,hu,rv⟩:=r.get hd;let hi:=(List.getElem?_eq_some_iff.mp hd).1
  let hp:ps[i]?=U y:=by rw[<-S.pre,OZ (by lia)];exact h1
  let ndP:ps.Nodup:=by rw[<-S.pre];exact S.nd.sublist (qav _ _)
  let⟨g1,g2⟩:=sR (kindOf:=(envOfC qual scope s.heap.objs.size f cd).kindOf) (m:=λ_=>B) ndP hp hu
  let⟨rfl,rfl⟩:=Prod.mk.inj hx;refine⟨u,?_,rv.va⟩
  rcases S.par y (HR hp)with k|k
  ·exact .inl ⟨k,g1 k⟩
  ·let⟨c,e⟩:=has (n:=s.heap.objs.size+1) k
   refine .inr ⟨.inl k,c,e,?_⟩
   let q:=x.cell y c e;rw[g2 (by show scope.names.lookup y≠_;lia)]at q
   exact q
 ·let⟨_,p,rfl,h2⟩:=PA.own _ _ _ e (by cases k<;>first|rfl|cases w)
  let⟨_,p',h3,h4⟩:=PA.own _ _ _ e' rfl;cases h3;rw[h2]at h4;cases h4;rfl
 ·unfold fY;show _=N.length+as.length;simp;lia
 ·rw[wV (by show ds.length<=N.length;lia)]at z
  let⟨d',h2,h3⟩:=Option.map_eq_some_iff.mp z;cases h3;exact hσ p a d e h2
 ·let⟨p,hp⟩:=List.mem_iff_getElem?.mp (show a∈as from ha)
  let hl:=(List.getElem?_eq_some_iff.mp hp).1
  let⟨o,h2,_⟩:=hσ p a (σ[p]'(by lia)) hp (by simp)
  exact⟨o,hk _ _ (PA.heap _ _ _ h2)⟩
structure Fun (K:PySem.W.Frag) (x qual:Ih) (st:Jp) (f:HZ) (fd:NN):Prop where
 ex:∃(oc:HM) (od:Qq HZ) (kV doc pm:HM) (an:Qq HZ) (cdv ct:HM) (osl:Array (Qq HM)),
  fd=OP x qual (defArgs st) (defBody st) (defScope st) .none kV doc pm an cdv ct/\K.lookup f=U ⟨oc,od,.func fd,osl⟩/\PySem.W.codeIn K cdv qual=V
 kp:N7 K (.ref f)=V
nonrec theorem vK {x qual:Ih}{st:Jp}{f:HZ}{fd:NN}{N ps:Qw Ih}{k:Nat}{g:DEnv->Qq Out}(F:Fun K x qual st f fd) (S:FnScope N ps (defScope st)) (hb:As fd ps)
  (body:∀(A:Ia) (L:HZ) (as:Qw HZ),Room k (A.deeper (envOfC qual (defScope st) L f fd.code))->DSs (cxF N qual (defScope st) f fd.code A L as) (defBody st) g):FnA f (k+1) (u9 N.length ps.length g):=by
 intro A s M us ds σ r fr σ' as hr mo PA rs la hσ e;let⟨oc,od,kV,doc,pm,an,cdv,ct,osl,rfl,lk,hcd⟩:=F.ex;unfold u9 at e;split at e<;>try cases e
 rename_i hl;let bk:∀b o,base.get? b=U o->s.heap.get? b=U o:=λb o e=>PA.heap _ _ _ (PA.base b o e)
 let KX:=mo.kin.keeps bk;let hkind:∀y∈ps.zip us,(defScope st).names.lookup y.1=U .local\/((defScope st).names.lookup y.1=U .cell/\((cellsFrom (s.heap.objs.size+1) (defScope st).names []).lookup y.1).isSome=V):=λ⟨n,v⟩ hy=>by
  rcases S.par n (Oh hy).1 with q|q
  ·exact .inl q
  ·exact .inr ⟨q,OQ _ _ _ (.inl q)⟩
 refine codeAny_call_function (by have:=hr.dp;lia) (KX _ _ lk) rfl S.co S.gen rfl (PySem.W.codeRec_of KX hcd) (hb s us (by rw[<-rs.length,hl]) _ _ _ _ ?_)
 refine wpAny_newFunctionEnv_cells S.kind hkind λenv he s1 x=>?_
 subst he;refine⟨(mo.nolimit.keeps bk).keeps x.toInCall.keep,codeAny_func ?_⟩
 let I:=xn (N:=N) (cd:=cdv) (A:=A) S ((hr.deeper _).mono (Im _)) mo PA hl rs la hσ x;cases qo:g (fY N.length ds σ)with
 |none=>rw[qo]at e;cases e
 |some o=>
  rw[qo]at e;refine Jv (body A s.heap.objs.size as (hr.deeper _) I qo ?_:WP _ _ (λfl s'=>_) _) (λfl s' hs=>hs) λ_ _ z=>z.elim
  cases o with
  |ret d fr' δ'=>cases e;exact λv s' M' x1 I1 rt=>⟨v,_,M',δ',rfl,x1,I1,rfl,rfl,rt⟩
  |next δ'=>cases e;exact λs' M' x1 I1=>⟨.none,_,M',δ',rfl,x1,I1,rfl,rfl,rfl⟩
  |brk δ'=>cases e
  |cont δ'=>cases e
def A0 {x qual:Ih}{st:Jp}{f:HZ}{fd:NN}{N ps:Qw Ih}{k:Nat}{g:DEnv->Qq Out}(F:Fun K x qual st f fd) (S:FnScope N ps (defScope st)) (hb:As fd ps) (hm:mg x=U (.ref f))
  (body:∀(A:Ia) (L:HZ) (as:Qw HZ),Room k (A.deeper (envOfC qual (defScope st) L f fd.code))->DSs (cxF N qual (defScope st) f fd.code A L as) (defBody st) g):FnM (k+1) x (bW N.length ps.length g):=by
 refine⟨f,hm,F.kp,λ{A s M us ds r fr} hr mo PA rs e=>?_⟩
 obtain⟨σ',e'⟩:∃σ',u9 N.length ps.length g ds []=U (r,fr,σ'):=by
  unfold bW at e;unfold u9;split at e<;>try cases e
  rw[if_pos (by assumption)]
  unfold fY;rw[sn rs,List.map_nil,Ka];unfold pi at e;cases q:g (ds.map (λd=>U (d,Y))++OH (N.length - ds.length) B)with
  |none=>rw[q]at e;cases e
  |some o=>rw[q]at e;cases o<;>cases e<;>exact⟨_,rfl⟩
 exact Mx (vK F S hb body [] hr mo PA rs.av rfl (λp a d z=>nomatch z) e') λres s' ⟨v,X',M1,δ1,h1,h2,h3,h5,_,h4⟩=>⟨v,X',M1,δ1,h1,h2,h3,h5,h4⟩
def ER {x qual:Ih}{st:Jp}{f:HZ}{fd:NN}{N ps:Qw Ih}{k:Nat}{g:DEnv->Qq Out}(F:Fun K x qual st f fd) (S:FnScope N ps (defScope st)) (hb:As fd ps) (hm:mg x=U (.ref f))
  (body:∀(A:Ia) (L:HZ) (as:Qw HZ),Room k (A.deeper (envOfC qual (defScope st) L f fd.code))->DSs (cxF N qual (defScope st) f fd.code A L as) (defBody st) g):FnW (k+1) x (u9 N.length ps.length g):=⟨f,hm,F.kp,vK F S hb body⟩
end L2
namespace L2
open PySem PySem.Spec PyProof.Rows Md
variable[Md]
abbrev cxC (X:Cx) (scope:Kg) (cl:Qw (Ih×HZ)) (C:HZ):Cx:={A:=X.A,N:=X.N,env:=compEnvC scope cl C X.env,fn:=Y}
def DTs (X:Cx) (ifs:Qw Expr) (f:DEnv->Qq Bool):Prop:=∀{M δ s c} {Q:Bool->HN->Prop},Inv X M δ s->f δ=U c->(∀s' M',Ext M M'->Inv X M' δ s'->Q c s')->
 WP X (forIn ifs V λc r=>if r=V then do let ok <-isTrue c X.env (eval c X.env);pure (Jm ok) else pure (Jm r)) Q s
theorem vU {X:Cx}:DTs X [] (λ_=>U V):=λI e k=>by cases e;exact wpAny_tests_nil (k _ _ Ext.refl I)
theorem BD {X:Cx}{c:Expr}(h:DT X c f):DTs X [c] f:=λI e k=>wpAny_tests_one (h I e k)
def aF (env:Env):Qw (Ih×Kt)->Qw (Ih×HZ)->Qw (Ih×HZ)
 |[],acc=>acc
 |(n,k)::r,acc=>if(k==Le)=V then aF env r ((n,(env.cells.lookup n).getD 0)::acc) else aF env r acc
theorem md (env:Env):∀(names:Qw (Ih×Kt)) (acc:Qw (Ih×HZ)),(∀y∈names,y.2=.free->∃c,env.cells.lookup y.1=U c)->
  (forIn names acc (λ(x:Ih×Kt) (cs:Qw (Ih×HZ))=>(match x with
   |(name,kind)=>if(kind==.free)=V then(do let c <-cellOf env name;pure (Jm ((name,c)::cs))) else pure (Jm cs):N1 (ForInStep (Qw (Ih×HZ))))))=pure (aF env names acc)
 |[],acc,_=>rfl
 |(n,k)::r,acc,h=>by
  let hr:=λy hy=>h y (Ic _ hy)
  rw[Om];unfold aF;cases hk:k==Le with
  |true=>
   let⟨c,e⟩:=h (n,k) Ik (eq_of_beq hk);let ec:cellOf env n=pure c:=by unfold cellOf;rw[e]
   simp![if_true,ec,OL,hk,e,Option.getD_some];exact md env r _ hr
  |false=>
   simp![Ig,if_false,OL,hk];exact md env r acc hr
nonrec theorem cU (env:Env):∀(names:Qw (Ih×Kt)) (acc:Qw (Ih×HZ)),(∀y∈names,y.2=.free->∃c,env.cells.lookup y.1=U c)->
  (∀x c,acc.lookup x=U c->env.cells.lookup x=U c)->∀x c,(aF env names acc).lookup x=U c->env.cells.lookup x=U c
 |[],acc,_,ha=>ha
 |(n,k)::r,acc,h,ha=>by
  let hr:=λy hy=>h y (Ic _ hy)
  unfold aF;split
  ·rename_i hk
   let⟨c,e⟩:=h (n,k) Ik (eq_of_beq hk);refine cU env r _ hr λx d hx=>?_
   rw[N3]at hx;cases q:x==n with
   |true=>simp_all
   |false=>rw[q]at hx;exact ha x d hx
  ·exact cU env r acc hr ha
theorem gj (env:Env) (x:Ih):∀(names:Qw (Ih×Kt)) (acc:Qw (Ih×HZ)),((x,Le)∈names\/∃c,acc.lookup x=U c)->∃c,(aF env names acc).lookup x=U c
 |[],acc,h=>h.elim (λz=>nomatch z) id
 |(n,k)::r,acc,h=>by
  unfold aF;split
  ·refine gj env x r _ ?_
   by_cases q:(x==n)=V
   ·simp_all
   ·rcases h with h|⟨c,h⟩
    ·simp_all
    ·exact .inr ⟨c,by rw[N3];simp[q,h]⟩
  ·refine gj env x r _ ?_
   grind
def bx {scope:Kg}{env:Env}(h:∀y∈scope.names,y.2=.free->∃c,env.cells.lookup y.1=U c):closureFor scope env=pure (aF env scope.names []):=by
 let q:closureFor scope env=((forIn scope.names [] (λ(x:Ih×Kt) (cs:Qw (Ih×HZ))=>(match x with
   |(name,kind)=>if(kind==.free)=V then(do let c <-cellOf env name;pure (Jm ((name,c)::cs))) else pure (Jm cs):N1 (ForInStep (Qw (Ih×HZ)))))) >>= λcs=>pure cs):=rfl
 rw[q,md env scope.names [] h,OL]
theorem bK {env:Env}:∀{names:Qw (Ih×Kt)}{x:Ih}{k:Kt},
  (names.map λ(n,k)=>if(k==Le&&env.scope.kind==.function&&env.kindOf n==U .cell) then(n,Nf) else(n,k)).lookup x=U k->
  names.lookup x=U k\/(names.lookup x=U .free/\k=.cell)
 |[],_,_,h=>by simp at h
 |(n,k')::r,x,k,h=>by
  let ih:=@bK env r x k
  grind
structure CompScope (X:Cx) (scope:Kg) (bs:Qw Bool):Prop where
 kind:scope.kind=.function
 cell:∀y∈scope.names,y.2≠.cell
 loc:∀y∈scope.names,y.2=.local->scope.names.lookup y.1=U .local
 fre:∀y∈scope.names,y.2=.free->scope.names.lookup y.1=U .free/\(X.env.kindOf y.1=U .cell\/X.env.kindOf y.1=U .free)
 len:bs.length=X.N.length
 vis:∀(i:Nat) (x:Ih),X.N[i]?=U x->bs[i]?=U V->scope.names.lookup x=U .free
nonrec theorem xP {bo:Bool}{bs:Qw Bool}{δ:DEnv}{i:Nat}{d:D}{ow:Bool}(h:(cx bo bs δ)[i]?=U (U (d,ow))):bs[i]?=U V/\ow=Y/\∃(d0:D) (b0 b:Bool),δ[i]?=U (U (d0,b0))/\res δ (d0,b0)=U (d,b)/\(b=V->bo=V):=by
 unfold cx at h;rw[List.getElem?_zipWith]at h
 cases e1:bs[i]? with
 |none=>simp[e1]at h
 |some b=>
  cases e2:δ[i]? with
  |none=>simp[e1,e2]at h
  |some o=>
   cases b<;>cases o<;>simp[e1,e2]at h
   rename_i y;let⟨d',b'⟩:=y;split at h<;>try cases h
   rename_i q;split at h<;>cases h
   rename_i hb;exact⟨rfl,rfl,d',b',_,rfl,q,λz=>by subst z;cases bo;exact absurd ⟨rfl,rfl⟩ hb;rfl⟩
section
variable{X:Cx}{M M' M1:Mp}{δ:DEnv}{s s':HN}{scope:Kg}{bs:Qw Bool}{bo:Bool}{fp:Qw HZ}{elt tg iter:Expr}{ifs:Qw Expr}{pos:MR}{fi:DEnv->Qq (Qw D)}{τ:D->DEnv->Qq DEnv}{ft:DEnv->Qq Bool}{fe:DEnv->Qq D}
def CompScope.has (S:CompScope X scope bs) (I:Inv X M δ s):∀y∈scope.names,y.2=.free->∃c,X.env.cells.lookup y.1=U c:=λy hy e=>I.ok.has y.1 (S.fre y hy e).2
def mM {m:Ih->Qq HM}{C:HZ}(S:CompScope X scope bs) (I:Inv X M δ s) (hf:∀b∈fp,Free X M b) (hC:s.heap.objs.size<=C) (hns:s'.heap.Ns C m) (hk:∀b o,s.heap.get? b=U o->s'.heap.get? b=U o) (hg:s'.os=s.os/\s'.gens=s.gens):
  Inv (cxC X scope (aF X.env scope.names []) C) (cal bo V M s.heap fp) (cx bo bs δ) s':=by
 let hh:=S.has I;let cons:=cU X.env scope.names [] hh (λx c e=>by simp at e)
 let⟨k1,k2,k3,k4⟩:=I.calI (m:=bo) (ko:=V) λb hb=>(hf b hb).fre
 let⟨m0,hn0,hl⟩:=I.loc;refine⟨⟨I.ok.mod,S.kind,I.ok.glob,I.ok.blt,λx y c h1 h2=>I.ok.inj x y c (cons x c h1) (cons y c h2),λx hx=>?_,I.ok.room⟩,⟨hg.1.trans I.og.1,hg.2.trans I.og.2⟩,λa k o e=>hk _ _ (k1 _ _ _ e),k2,⟨m,hns,λi x d b h1 h2 h3=>?_⟩,?_,λx c e=>?_,k3.to (λ_ _ h=>h) (λq h=>(k3 q h).1) λq _ o e=>hk _ _ e,λa k o e w=>I.own a k o (k4 _ _ _ w e).2 w,λa b k o o' w e e'=>I.uni a b k o o' w (k4 _ _ _ (by cases k<;>first|rfl|cases w) e).2 (k4 _ _ _ (by cases k<;>first|rfl|cases w) e').2,?_,(λp a d e=>nomatch e),(λ_ _ e=>I.calS e),λa h=>nomatch h⟩
 ·let key:(x,Le)∈scope.names:=by
   rcases hx with q|q
   ·rcases bK q with q|⟨q,_⟩
    ·exact absurd rfl (S.cell _ (Jc q))
    ·exact Jc q
   ·rcases bK q with q|⟨_,q⟩
    ·exact Jc q
    ·cases q
  exact gj X.env x scope.names [] (.inl key)
 ·let⟨hb,rfl,d0,b0,o,ho,hrs,hbo⟩:=xP h2
  let hfr:=S.vis i x h1 hb;let⟨_,hkd⟩:=S.fre _ (Jc hfr) rfl;let⟨u,lk,va⟩:=hl i x d0 b0 h1 ho (hkd.elim (λz=>.inr (.inl z)) λz=>.inr (.inr z))
  refine⟨u,.inr ⟨?_,?_⟩,(I.res hrs hbo va).to j9⟩
  ·rcases h3 with q|q|q
   ·rcases bK (show(relabel scope X.env).names.lookup x=U .local from q)with q|⟨_,q⟩
    ·lia
    ·cases q
   ·exact .inl q
   ·exact .inr q
  ·rcases lk with⟨kl,_⟩|⟨_,c,ec,oc,q1,q2⟩
   ·lia
   ·let⟨c',e'⟩:=gj X.env x scope.names [] (.inl (Jc hfr))
    have:=cons x c' e';rw[ec]at this;cases this;exact⟨c,e',oc,hk c oc q1,q2⟩
 ·let f:=I.fresh hC
  show cal bo V M s.heap fp C=B;unfold cal;rw[f.m];dsimp only;split
  ·rfl
  ·rw[La hC];rfl
 ·let ce:=cons x c e
  let⟨⟨v,o,q1,q2⟩,z⟩:=I.cell x c ce;refine⟨⟨v,o,hk _ _ q1,q2⟩,.inr ⟨rfl,?_⟩⟩
  rcases z with z|⟨_,o',z⟩
  ·refine⟨o,?_⟩
   unfold cal;rw[z];rw[if_neg,q1];rfl
   rintro(w|⟨q,w1,w2⟩)
   ·exact(hf c w).c x ce
   ·let⟨_,ps,w3,_⟩:=I.tabs q w1
    lia
  ·exact⟨o',by unfold cal;rw[z];rfl⟩
 ·unfold cx;rw[List.length_zipWith,S.len,I.len];show _=X.N.length+0;lia
def yl (τ:D->DEnv->Qq DEnv):Prop:=∀d d' δ δ',τ d δ=U δ'->τ d' δ'=τ d' δ
def uT (i:Nat):yl (af i):=λd d' δ δ' h=>by obtain rfl:=cq h;unfold af;simp
nonrec theorem xD (i j:Nat) (hij:i≠j):yl (bh (am (af i) (am (af j) toNil))):=λd d' δ δ' h=>by
 cases d<;>try cases h
 rename_i ds
 match ds,h with
 |[a,b],h=>
  let⟨δ1,h1,h⟩:=ag h;let⟨δ2,h2,h⟩:=ag h;cases h;obtain rfl:=cq h1;obtain rfl:=cq h2;cases d'<;>try rfl
  rename_i es
  match es with
  |[]=>rfl
  |[c]=>simp![bh,am,af,Oj];split<;>rfl
  |c::e::es=>
   let e3:(((qar δ i (U (a,Y))).set j (U (b,Y))).set i (U (c,Y))).set j (U (e,Y))=(qar δ i (U (c,Y))).set j (U (e,Y)):=by
    rw[qaw _ _ hij.symm,Mg,Mg]
   simp_all [bh,am,af,Oj,ae,e3]
 |[],h=>cases h
 |[a],h=>let⟨_,_,h⟩:=ag h;cases h
 |a::b::c::ds,h=>let⟨_,_,h⟩:=ag h;let⟨_,_,h⟩:=ag h;cases h
theorem jj {R:L9->HN->Prop}{it acc:HM}{env:Env}{A:Ia}(I:Nat->HN->Prop)
  (turn:∀n s,I n s->wpAny (model P w) A (pyNext it) (λr s₁=>match r with
   |none=>R (.ok .next) s₁
   |some v=>wpAny (model P w) A (letOwnedTupleGo tg it v) (λ_ s₁=>wpAny (model P w) A (assign tg env v) (λ_ s₂=>
     wpAny (model P w) A (forIn ifs V λc r=>if r=V then do let ok <-isTrue c env (eval c env);pure (Jm ok) else pure (Jm r)) (λok s₃=>
      if ok=V then wpAny (model P w) A (eval elt env) (λx s₄=>
       wpAny (model P w) A (call (.builtin "list.append") [acc,x]) (λ_ s₅=>∃m,m<n/\I m s₅) (λ_ _=>False) s₄) (λ_ _=>False) s₃
      else ∃m,m<n/\I m s₃) (λ_ _=>False) s₂) (λ_ _=>False) s₁) (λ_ _=>False) s₁) (λ_ _=>False) s)
  (n:Nat) (h:I n s):
  codeAny (model P w) A (.compLoop (.ListComp elt [⟨tg,iter,ifs,0⟩] scope pos) 0 it acc env) R s:=by
 refine codeAny_loop rfl I (λn s hI=>?_) n h
 refine wpAny_noted ?_
 refine HJ (NZ (HJ (Jv (turn n s hI) (λr s₁ h₁=>?_) λ_ _ h'=>h'.elim)))
 cases r with
 |none=>exact HK h₁
 |some v=>
  refine HJ (Jv h₁ (λ_ s₁' h₁'=>?_) λ_ _ h'=>h'.elim)
  refine HJ (Jv h₁' (λ_ s₂ h₂=>HJ (Jv h₂ (λok s₃ h₃=>?_) λ_ _ h'=>h'.elim)) λ_ _ h'=>h'.elim)
  cases ok with
  |false=>exact HK ⟨rfl,h₃⟩
  |true=>
   exact HJ (HJ (Jv h₃ (λx s₄ h₄=>HJ (Jv h₄ (λ_ s₅ h₅=>HK (HK ⟨rfl,h₅⟩)) λ_ _ h'=>h'.elim)) λ_ _ h'=>h'.elim))
nonrec theorem Ext.unp (h:Ext (pin X M hp) M1):Ext M (L2.unp X M hp M1):=λa=>by
 unfold L2.unp;split
 ·rename_i z;exact .inl z.1.m.symm
 ·rename_i z
  let e:pin X M hp a=M a:=by
   unfold pin;split
   ·rename_i f
    cases q:hp.get? a with
    |none=>simp[f.m]
    |some o=>lia
   ·rfl
  rw[<-e];exact h a
nonrec theorem pR {RR:HM->HZ->L9->HN->Prop}{it:HZ}{tn:Nat->Jr->Prop}(hτ:yl τ) (S:CompScope X scope bs) (hg:∀cl C,DG (cxC X scope cl C) tg τ) (ht:∀cl C,DTs (cxC X scope cl C) ifs ft) (he:∀cl C,DE (cxC X scope cl C) Y elt fe)
  (I:Inv X M δ s) (T:Turn2 X.A tg bm bo M ds fp it tn) (t0:tn 0 s.heap) (hf:∀b∈fp,Free X M b) (e2:bA bo bs τ ft fe δ ds=U ls)
  (k:∀acc C m s' M' vs,Ext M M'->Inv X M' δ s'->Free X M' acc->Free X M' C->s'.heap.Ns C m->acc≠C->(∃n,s'.heap.get? acc=U {cls:=.type "list",data:=.seq vs.toArray n})->vs.length<=lim->Rs bo M' ls vs->RR (.ref acc) C (.ok .next) s'):
  WP X (newList []) (λacc s₃=>WP X (newFunctionEnv scope X.env.globals (aF X.env scope.names []) [] X.env.qual B .none (U X.env)) (λcenv s₄=>
   codeAny (model P w) X.A (.compStart (.ListComp elt [⟨tg,iter,ifs,0⟩] scope pos) 0 (.ref it) acc {cenv with scope:=relabel scope X.env}) (RR acc cenv.locals) s₄) s₃) s:=by
 unfold bA at e2;split at e2<;>try cases e2
 refine Ir ?_
 let hz:({s with heap:=s.heap.push {cls:=.type "list",dict:=B,data:=.seq ([]:Qw HM).toArray}}:HN).heap.objs.size=s.heap.objs.size+1:=IP ..
 refine wpAny_newFunctionEnv S.cell (λy hy=>by simp at hy) (λh₁ hns₁ hsb₁=>?_) S.kind
 rw[hz]at hns₁ hsb₁⊢;let keep:∀b o,(s.heap.push {cls:=.type "list",dict:=B,data:=.seq ([]:Qw HM).toArray}).get? b=U o->h₁.get? b=U o:=λb o e=>(hsb₁.2 b (by have:=H6 e;rw[IP]at this;exact Il this)).trans (HL _ e)
 let hex:=T.ex t0;generalize hs5:({s with heap:=h₁,toks:=s.toks+([]:Qw (Ih×HM)).length}:HN)=s5
 let h5:s5.heap=h₁:=by rw[<-hs5]
 let kp5:∀b o,s.heap.get? b=U o->s5.heap.get? b=U o:=λb o e=>by rw[h5];exact keep b o (HL _ e)
 let I5:=mM (bo:=bo) (s':=s5) S I hf (Kl _) (by rw[h5];exact hns₁) kp5 (by rw[<-hs5];exact⟨rfl,rfl⟩)
 let hacc:s5.heap.get? s.heap.objs.size=U {cls:=.type "list",data:=.seq ([]:Qw HM).toArray}:=by rw[h5];exact keep _ _ (HO _ rfl)
 let fa:Free X M s.heap.objs.size:=I.fresh (HQ _);let lt:∀b∈fp,b<s.heap.objs.size:=λb hb=>by let⟨o,e⟩:=hex b hb;exact H6 e
 let cons:=cU X.env scope.names [] (S.has I) (λx c e=>by simp at e)
 let frC:∀{b},cal bo V M s.heap fp b=B->Free X M b->b≠s.heap.objs.size+1->Free (cxC X scope (aF X.env scope.names []) (s.heap.objs.size+1)) (cal bo V M s.heap fp) b:=λ{b} z f ne=>⟨z,ne,λx e=>f.c x (cons x _ e),f.t,f.s,λh=>nomatch h⟩
 let cn:cal bo V M s.heap fp s.heap.objs.size=B:=by
  unfold cal;rw[fa.m];dsimp only;split;rfl;rw[La (HQ _)];rfl
 let f0:∀b∈s.heap.objs.size::fp,Free (cxC X scope (aF X.env scope.names []) (s.heap.objs.size+1)) (cal bo V M s.heap fp) b:=λb hb=>by
  rcases qaa.mp hb with rfl|hb
  ·exact frC cn fa (Il (IY _))
  ·exact frC (by unfold cal;rw[(hf b hb).m];exact if_pos (.inl hb)) (hf b hb) (Il (LG (lt b hb)))
 let loop:codeAny (model P w) X.A (.compLoop (.ListComp elt [⟨tg,iter,ifs,0⟩] scope pos) 0 (.ref it) (.ref s.heap.objs.size) (compEnvC scope (aF X.env scope.names []) (s.heap.objs.size+1) X.env)) (RR (.ref s.heap.objs.size) (s.heap.objs.size+1)) s5:=by
  refine jj (λn s'=>∃i δ' M' vs l1 l2 e,n=ds.length - i/\i<=ds.length/\vs.length<=i/\Ext (cal bo V M s.heap fp) M'/\Inv (cxC X scope (aF X.env scope.names []) (s.heap.objs.size+1)) M' δ' s'/\tn i s'.heap/\(∀b∈s.heap.objs.size::fp,Free (cxC X scope (aF X.env scope.names []) (s.heap.objs.size+1)) M' b)/\
   (∀d,τ d δ'=τ d (cx bo bs δ))/\s'.heap.get? s.heap.objs.size=U {cls:=.type "list",data:=.seq vs.toArray e}/\Rs Y M' l1 vs/\ls=l1++l2/\bD (cw τ ft fe (cx bo bs δ)) (ds.drop i)=U l2) ?_ ds.length
   ⟨0,_,_,[],[],ls,_,rfl,Im _,HQ _,Ext.refl,I5,T.keep t0 λb _ o e=>kp5 b o e,f0,λ_=>rfl,hacc,rfl,rfl,e2⟩
  rintro n s6 ⟨i,δ6,M6,vs,l1,l2,ep,rfl,hi,hvs,x6,I6,t6,f6,hd6,ha6,rs6,hls,ec⟩
  let sb6:Sub bo M Y M6:=λa o q=>x6.sub _ _ (j9 a o q)
  let rd6:∀a o,Rd bm M a o->s6.heap.get? a=U o:=λa o ⟨k,q,_⟩=>by
   obtain⟨k',w⟩:∃k',cal bo V M s.heap fp a=U (k',o):=by unfold cal;rw[q];exact⟨_,rfl⟩
   rcases x6 a with z|z
   ·exact I6.heap _ _ _ (z.trans w)
   ·rw[z.1]at w;cases w
  let f6':∀b∈fp,Free (cxC X scope (aF X.env scope.names []) (s.heap.objs.size+1)) M6 b:=λb hb=>f6 b (.tail _ hb)
  by_cases hlt:i<ds.length
  ·rw[Jl hlt]at ec
   simp![bD]at ec;refine thn (T.item t6 rd6 (d:=ds[i]) (by simp[hlt])) λr s7 hz=>?_
   let⟨u,rfl,h7⟩:=hz;refine thn h7 λ_ s8 hz=>?_
   let⟨c8,t8,g8⟩:=hz;let ne:s.heap.objs.size∉fp:=λz=>absurd (lt _ z) (J0 _)
   let⟨M8,x8,I8,r8,f8'⟩:=I6.got sb6 g8 c8 f6';let ha8:=c8.2 _ _ ne ha6;let f8:∀b∈s.heap.objs.size::fp,Free (cxC X scope (aF X.env scope.names []) (s.heap.objs.size+1)) M8 b:=λb hb=>by
    rcases qaa.mp hb with rfl|z
    ·exact f8' _ _ (f6 _ hb) ha6
    ·let⟨o,e⟩:=T.ex t6 b z;exact f8' b o (f6 _ hb) e
   let fin:∀{δ9 M9 s9},Ext (pin (cxC X scope (aF X.env scope.names []) (s.heap.objs.size+1)) M8 s8.heap) M9->Inv (cxC X scope (aF X.env scope.names []) (s.heap.objs.size+1)) M9 δ9 s9->∃M7,Ext M8 M7/\Inv (cxC X scope (aF X.env scope.names []) (s.heap.objs.size+1)) M7 δ9 s9/\tn (i+1) s9.heap/\(∀b∈s.heap.objs.size::fp,Free (cxC X scope (aF X.env scope.names []) (s.heap.objs.size+1)) M7 b)/\
     s9.heap.get? s.heap.objs.size=U {cls:=.type "list",data:=.seq vs.toArray ep}/\Sub Y M9 Y M7:=λy J=>by
    let⟨h1,h2,h3,h4,h5,h6⟩:=I8.unp J y.sx;exact⟨_,y.unp,h1,T.keep t8 λb hb o e=>(h6 b o (f8 b (.tail _ hb)) e).1,λb hb=>by
     rcases qaa.mp hb with rfl|z
     ·exact(h6 _ _ (f8 _ hb) ha8).2
     ·let⟨o,e⟩:=T.ex t8 b z;exact(h6 b o (f8 b hb) e).2,(h6 _ _ (f8 _ (.head _)) ha8).1,h3⟩
   cases q:cw τ ft fe (cx bo bs δ) ds[i]with
   |none=>rw[q]at ec;cases ec
   |some oy=>
    rw[q]at ec;let⟨δ1,q1,q2⟩:=ag q;let q1':τ ds[i] δ6=U δ1:=by rw[hd6];exact q1
    let hd1:∀d,τ d δ1=τ d (cx bo bs δ):=λd=>by rw[hτ _ d _ _ q1',hd6 d]
    refine hg _ _ I8.pin (r8.to dH) q1' λs9 I9=>?_
    split at q2
    ·rename_i qt
     refine ht _ _ I9 qt λs10 M10 x10 I10=>?_
     split at q2<;>cases q2
     rename_i y qe;dsimp only at ec;split at ec<;>cases ec
     rename_i l3 qc;refine(he _ _).ev I10 qe λv s11 M11 x11 I11 r11=>?_
     let⟨M7,y1,J,t7,f7,ha7,sb⟩:=fin (x10.trans x11) I11;let hl:lim<sizeLine:=by decide +kernel
     let g:=Ms ha7 (λa=>a.push v)
     refine K2 KV ⟨_,ha7,rfl⟩ Lm (Lh _ _) (Ly s.heap.objs.size vs.toArray ep v (by simp;lia)) ⟨ha7,ds.length - (i+1),by lia,i+1,δ1,M7,vs++[v],l1++[y],l3,_,rfl,hlt,by simp;lia,(x6.trans x8).trans y1,J.wr (s':={s11 with heap:=s11.heap.update s.heap.objs.size (IK λa=>a.push v)}) [s.heap.objs.size] (λb hb=>f7 b (by simp_all)) (λb o hb e=>(HX _ _ (λz=>hb (by simp[z]))).trans e),T.keep t7 λb hb o e=>(HX _ _ (λz=>ne (by rw[z];exact hb))).trans e,f7,hd1,by simpa using g,((rs6.up x8).up y1).append (.one (r11.to sb)),by simp[hls],qc⟩
    ·rename_i qt
     cases q2;refine ht _ _ I9 qt λs10 M10 x10 I10=>?_
     let⟨M7,y1,J,t7,f7,ha7,sb⟩:=fin x10 I10;exact⟨ds.length - (i+1),by lia,i+1,δ1,M7,vs,l1,l2,ep,rfl,hlt,by lia,(x6.trans x8).trans y1,J,t7,f7,hd1,ha7,(rs6.up x8).up y1,hls,ec⟩
    ·cases q2
  ·obtain rfl:i=ds.length:=by lia
   rw[N4]at ec;cases ec;rw[Ka]at hls;subst hls;refine thn (T.done t6 rd6) λr s7 hz=>?_
   let⟨rfl,c7⟩:=hz;let J:=I6.ch c7 f6';let⟨I7,sb⟩:=I.ret (m:=bo) J.lft (λb hb=>(hf b hb).fre) (λb hb h=>absurd h (hf b hb).n) x6.sx (λa k o _ z=>(x6 a).elim (λw=>w.trans z) λw=>by rw[w.1]at z;cases z)
   let fr:∀c,s.heap.objs.size<=c->M6 c=B->Free X (bak M s.heap fp M6) c:=λc h z=>by
    let f:=I.fresh h;exact⟨by unfold bak;rw[f.m];dsimp only;rw[if_neg (by simp[La h]),z],f.l,f.c,f.t,f.s,f.n⟩
   let⟨m',hn,_⟩:=J.loc;exact k _ _ m' s7 _ vs i8 I7 (fr _ (HQ _) (f6 _ (.head _)).m) (fr _ (Kl _) J.free) hn (Il (IY _)) ⟨ep,c7.2 _ _ (λz=>absurd (lt _ z) (J0 _)) ha6⟩ (by lia) (rs6.to sb)
 exact codeAny_compStart_list loop (T.self (T.keep t0 λb _ o e=>kp5 b o e) loop)
def uE {bm bo:Bool}(hτ:yl τ) (hi:DI2 X bm bo tg iter fi) (S:CompScope X scope bs) (hg:∀cl C,DG (cxC X scope cl C) tg τ) (ht:∀cl C,DTs (cxC X scope cl C) ifs ft) (he:∀cl C,DE (cxC X scope cl C) Y elt fe) {Q:HM->HN->Prop}(I:Inv X M δ s) (e:ae (fi δ) (bA bo bs τ ft fe δ)=U ls) (fl:bo=V->D.flats ls=V) (k:PostF X M δ (.lst ls) Q):
  WP X (eval (.ListComp elt [⟨tg,iter,ifs,0⟩] scope pos) X.env) Q s:=by
 let⟨ds,e1,e2⟩:=ag e;refine Lw (use:=B) rfl (λx=>i9 hi.pl) (bx (S.has I)) S.kind S.loc (hi.ev I e1 λit fp tn s1 M1 x1 I1 T t0 f1=>?_)
 refine pR (RR:=λacc C=>compPost (model P w) X.A (λ_ _=>False) B Q acc C) hτ S hg ht he I1 T t0 f1 e2 ?_
 intro acc C m s' M' vs x2 I2 fa fC hn ne ⟨n,ha⟩ hl rs;let rs':Rs Y M' ls vs:=by
  cases bo with
  |false=>exact rs
  |true=>exact Rs.flat I2.own (fl rfl) rs
 exact⟨m,hn,λh' hs=>k _ _ _ M' (x1.trans x2) (I2.wr (s':={s' with heap:=h'}) [C] (λb hb=>by simp_all) λb o hb e=>(hs.2 b λz=>hb (by simp[z])).trans e) fa ((hs.2 acc ne).trans ha) ⟨vs,⟨aA hl,n,rfl⟩,rs'⟩⟩
theorem Cs {bm:Bool}(hτ:yl τ) (hi:DI2 X bm Y tg iter fi) (S:CompScope X scope bs) (hg:∀cl C,DG (cxC X scope cl C) tg τ) (ht:∀cl C,DTs (cxC X scope cl C) ifs ft) (he:∀cl C,DE (cxC X scope cl C) Y elt fe):
  DF X (.ListComp elt [⟨tg,iter,ifs,0⟩] scope pos) (λδ=>ar (ae (fi δ) (bA Y bs τ ft fe δ))):=⟨rfl,λ{M δ s d Q} I e k=>by
 cases q:ae (fi δ) (bA Y bs τ ft fe δ)with
 |none=>simp[q,ar]at e
 |some ls=>simp![q,ar]at e;cases e;exact uE hτ hi S hg ht he I q (λz=>nomatch z) k⟩
theorem yK {y:Ih}{py spos:MR}{bm:Bool}(hx:Lc X i y) (hτ:yl τ) (hi:DI2 X bm Y tg iter fi) (S:CompScope X scope bs) (hg:∀cl C,DG (cxC X scope cl C) tg τ) (ht:∀cl C,DTs (cxC X scope cl C) ifs ft) (he:∀cl C,DE (cxC X scope cl C) Y elt fe)
  (hsw:swapsWith (.ListComp elt [⟨tg,iter,ifs,0⟩] scope pos) (U (.Name y py)) spos.line X.env=pure V):DS X (.Assign [.Name y py] (.ListComp elt [⟨tg,iter,ifs,0⟩] scope pos) spos) (λδ=>gN i (ar (ae (fi δ) (bA Y bs τ ft fe δ))) δ):=λ{M δ s o Q} I e k=>by
 let⟨d,ed,rfl⟩:=i6 e;cases q:ae (fi δ) (bA Y bs τ ft fe δ)with
 |none=>simp[q,ar]at ed
 |some ls=>
  simp![q,ar]at ed;cases ed;let⟨ds,e1,e2⟩:=ag q;rw[exec_Assign_Name_used _ _ _ _ hsw];refine HJ (NZ (HJ ?_))
  refine HJ (Jv (Lw (use:=U (assign (.Name y py) X.env)) (Q:=λ_ s'=>Q .next s') rfl (λx=>i9 hi.pl) (bx (S.has I)) S.kind S.loc
   (hi.ev I e1 λit fp tn s1 M1 x1 I1 T t0 f1=>?_)) (λ_ s' hq=>HK (HK hq)) λ_ _ e=>e)
  refine pR (RR:=λacc C=>compPost (model P w) X.A (λ_ _=>False) (U (assign (.Name y py) X.env)) (λ_ s'=>Q .next s') acc C) hτ S hg ht he I1 T t0 f1 e2 ?_
  intro acc C m s' M' vs x2 I2 fa fC hn ne ⟨n,ha⟩ hl rs;refine Oq (I2.setOwn fa ha (d:=.lst ls) ⟨vs,⟨aA hl,n,rfl⟩,rs⟩ hx λs3 M3 c I3 h1 h2 h3 h4 h5=>?_)
  let hC:C≠c:=by
   rcases h4 with rfl|h4
   ·exact fC.l
   ·rintro rfl;exact fC.c y h4
  exact⟨m,hn.sameBut h3 hC,λh' hs=>k _ M3 ((x1.trans x2).sx.trans ⟨h1,λa o q=>(h2 a o).mp q,λa o q=>(h2 a o).mpr q⟩) (I3.wr (s':={s3 with heap:=h'}) [C] (λb hb=>by rw[on.mp hb];exact⟨h5 _ fC.m (Ib ne),fC.l,fC.c,fC.t,fC.s,fC.n⟩) λb o hb e=>(hs.2 b λz=>hb (by simp[z])).trans e)⟩
end
end L2
namespace L2
open PySem PySem.Spec PyProof.Rows Md
variable[Md]
mutual
noncomputable def cj:D->Nat
 |.int _=>1
 |.str _=>1
 |.tup ds=>bT ds+1
 |_=>0
noncomputable def bT:Qw D->Nat
 |[]=>0
 |d::ds=>cj d+bT ds
end
theorem jL:∀a b:Qw D,bT (a++b)=bT a+bT b
 |[],b=>by simp[bT]
 |d::a,b=>by simp[bT,jL a b,O3]
theorem lf (w:JA):∀ds,r7 w ds=ds.map (cK w)
 |[]=>rfl
 |d::ds=>by simp[r7,lf w ds]
def Ai (h:cT n (.tup ds)=V):∃k,n=k+1/\ds.all (cT k)=V:=by cases n with|zero=>cases h|succ k=>exact⟨k,rfl,h⟩
def eM:∀{n d},cT n d=V->okD n d=V:=by
 intro n
 induction n with
 |zero=>intro d h;cases d<;>simp_all [cT,okD]
 |succ n ih=>intro d h;cases d<;>simp_all [cT,okD]
def shh (hd:cT n d=V) (r:R m M d u):(∃i t,d=.int i/\u=.int i t)\/(∃i t,d=.str i/\u=.str i t)\/∃ds a o vs k,d=.tup ds/\u=.ref a/\n=k+1/\ds.all (cT k)=V/\Rd m M a o/\TupO o vs/\Rs m M ds vs:=by
 cases d with
 |int i=>let⟨t,rfl⟩:=r;exact .inl ⟨_,_,rfl,rfl⟩
 |str i=>let⟨t,rfl⟩:=r;exact .inr (.inl ⟨_,_,rfl,rfl⟩)
 |tup ds=>let⟨a,o,vs,rfl,r1,r2,r3⟩:=r;let⟨k,rfl,h⟩:=Ai hd;exact .inr (.inr ⟨_,a,o,vs,k,rfl,rfl,rfl,h,r1,r2,r3⟩)
 |_=>simp[cT]at hd
def pH:∀(n:Nat) {d u} {A:Ia}{s:HN}{Q:Int->HN->Prop}{E:HM->HN->Prop},Hm M s.heap->cT n d=V->A.units+2*n+2<cLine->R m M d u->Q (cK w d) {s with toks:=s.toks+cj d}->wpAny (model P w) A (pyHash u) Q E s:=by
 intro n
 induction n using Jq with
 |ind n ih=>
 intro d u A s Q E H hd hA r hQ
 rcases shh hd r with⟨i,t,rfl,rfl⟩|⟨i,t,rfl,rfl⟩|⟨ds,a,o,vs,k,rfl,rfl,rfl,hd',q,t,rs⟩
 ·exact wpAny_pyHash_int hQ
 ·exact wpAny_pyHash_str hQ
 ·let⟨o,ho,hc,m,hdat⟩:=t.is H q
  let hT:s.TypeIs (.ref a) "tuple":=⟨o,ho,hc⟩;unfold pyHash;refine HJ (wpAny_cRoomFor_or (.inr (by lia)) (HJ (Kx hT F.slot_tuple_hash.lookup ?_)))
  refine HJ (Kx hT F.slot_tuple_hash.lookup ?_)
  refine HJ (wpAny_callSpecialIfBoundUnlessNone?_slot hT F.slot_tuple_hash (Ii F.slot_tuple_hash hT F.entry_tuple_hash ?_ (F.args_tuple_hash_1 _)))
  show wpAny _ _ (Builtin.Tuple.tupleItemsOf (.ref a) >>= _) _ _ _;refine HJ (wpAny_tupleItemsOf ho hdat (HJ ?_))
  rw[<-Mn];refine KQ _ (λrest (b:Array Int) s'=>∃done left,ds=done++left/\Rs _ M left rest/\b.toList=done.map (cK w)/\s'={s with toks:=s.toks+bT done}) _ ?_ ?_ _ _ ⟨[],ds,rfl,by trivial,rfl,rfl⟩
  ·rintro v rest b s' ⟨done,left,rfl,hl,hb,rfl⟩
   cases left with
   |nil=>cases hl
   |cons d' left'=>
    let⟨v',r',e',r1,r2⟩:=hl;cases e';let hd1:cT k d'=V:=by simp_all
    refine HJ (ih k (by lia) (s:={s with toks:=s.toks+bT done}) H hd1 (show A.units+1+2*k+2<cLine by lia) r1 ?_)
    let et:({s with toks:=s.toks+bT done+cj d'}:HN)={s with toks:=s.toks+bT (done++[d'])}:=by rw[jL];simp[bT,O3]
    first
     |exact HK ⟨done++[d'],left',by simp,r2,by simp[hb],et⟩
     |exact HJ (HK (HK ⟨done++[d'],left',by simp,r2,by simp[hb],et⟩))
  ·rintro b s' ⟨done,left,rfl,hl,hb,rfl⟩
   obtain rfl:left=[]:=by
    have:=hl.length
    simp_all
   rw[Ka]at hQ;simp![cK,lf,cj]at hQ;show wpAny _ _ (retInt (JU b.toList)) _ _ _;rw[hb];refine wpAny_ret_mkInt ?_
   show wpAny _ _ (if(decide (-(2:Int) ^ 63<=JU (done.map (cK w)))&&decide (JU (done.map (cK w))<2 ^ 63))=V then _ else _) Q E _
   unfold reduceHash at hQ
   by_cases hr:(decide (-(2:Int) ^ 63<=JU (done.map (cK w)))&&decide (JU (done.map (cK w))<2 ^ 63))=V
   ·rw[if_pos hr]at hQ⊢;exact HK hQ
   ·rw[if_neg hr]at hQ⊢;exact HJ (Ju (HK hQ))
def qF:∀(n:Nat) {d u} {A:Ia}{s:HN}{Q:Bool->HN->Prop}{E:HM->HN->Prop},Hm M s.heap->cT n d=V->R m M d u->Q V s->wpAny (model P w) A (eqIsQuiet n u) Q E s:=by
 intro n
 induction n using Jq with
 |ind n ih=>
 intro d u A s Q E H hd r hQ
 rcases shh hd r with⟨i,t,rfl,rfl⟩|⟨i,t,rfl,rfl⟩|⟨ds,a,o,vs,k,rfl,rfl,rfl,hd',q,t,rs⟩
 ·unfold eqIsQuiet;exact HK hQ
 ·unfold eqIsQuiet;exact HK hQ
 ·let⟨o,ho,hc,m,hdat⟩:=t.is H q
  let hT:s.TypeIs (.ref a) "tuple":=⟨o,ho,hc⟩;unfold eqIsQuiet;refine HJ (Kx hT F.slot_tuple_eq.lookup ?_)
  refine HJ (Kf hT isSubtype_tuple_tuple ?_)
  refine HJ (Jk ho hdat (HJ ?_))
  rw[<-Mn];refine KQ _ (λrest b s'=>b.1=B/\s'=s/\∃left,left.all (cT k)=V/\Rs _ M left rest) _ ?_ ?_ _ _ ⟨rfl,rfl,ds,hd',by trivial⟩
  ·rintro v rest b s' ⟨hb,rfl,left,hall,hl⟩
   cases left with
   |nil=>cases hl
   |cons d' left'=>
    let⟨v',r',e',r1,r2⟩:=hl;cases e';rw[Iw,HW]at hall;refine HJ (ih k (by lia) H hall.1 r1 ?_)
    exact HK ⟨rfl,rfl,left',hall.2,r2⟩
  ·rintro⟨b1,b2⟩ s' ⟨hb,rfl,_⟩
   simp only at hb;subst hb;exact HK hQ
def fm (h:Jr):Mp:=λa=>(h.get? a).map λo=>(.f,o)
def zo {h:Jr}:Hm (fm h) h:=λa k o e=>by
 unfold fm at e
 simp_all
def Hm.fm {h:Jr}(H:Hm M h):Sub m M Y (fm h):=λa o ⟨k,e,_⟩=>rdf.mpr (by unfold L2.fm;rw[H _ _ _ e];rfl)
def R.key (g:∀a o vs,Rd m M a o->TupO o vs->Rd m' M' a o):∀{n d u},cT n d=V->R m M d u->R m' M' d u:=by
 intro n
 induction n using Jq with
 |ind n ih=>
 intro d u hd r
 rcases shh hd r with⟨i,t,rfl,rfl⟩|⟨i,t,rfl,rfl⟩|⟨ds,a,o,vs,k,rfl,rfl,rfl,hd',q,t,rs⟩
 ·assumption
 ·assumption
 ·refine⟨a,o,vs,rfl,g _ _ _ q t,t,?_⟩
  clear r hd t q
  induction ds generalizing vs with
  |nil=>exact rs
  |cons d ds ih2=>
   let⟨v,r,rfl,r1,r2⟩:=rs;rw[Iw,HW]at hd';exact⟨v,r,rfl,ih k (IY k) hd'.1 r1,ih2 r hd'.2 r2⟩
def iX:HeapKind P w D where
 is h d a:=cT 8 d=V/\R Y (fm h) d (.ref a)
 hash:=cK w
 draws:=cj
 room A:=A.units+30<cLine
 inj hx hy:=R.inj (eM hx.1) (eM hy.1) hx.2 hy.2
 keeps:=λ{h h' k a d o es ep} hk ho hd hs=>⟨hk.1,hk.2.key (λb ob vs q c=>rdf.mpr (by
  let e:=zo _ _ _ (rdf.mp q);unfold fm;rw[(hs.2 b (λz=>by subst z;rw[ho]at e;cases e;let⟨_,_,n,c⟩:=c;lia)).trans e];rfl)) hk.1⟩
 pyHash:=λ{A E s k a Q} hr hk h=>pH 8 zo hk.1 (by lia) hk.2 h
 eqBool:=λ{A E s x y a b Q} hr hx hy h=>(Cg zo 8 A (eM hx.1) (eM hy.1) (by lia) hx.2 hy.2).2.1 P w E Q h
 quiet:=λ{A E s k a Q} hk h=>qF 8 zo hk.1 hk.2 h
def oU:D->HM->Bool
 |.int i,.int j _=>i==j
 |.str x,.str y _=>y==x
 |_,_=>Y
theorem db (h:oU k v=V):(∃i t,k=.int i/\v=.int i t)\/∃x t,k=.str x/\v=.str x t:=by
 unfold oU at h;split at h
 ·cases beq_iff_eq.mp h;exact .inl ⟨_,_,rfl,rfl⟩
 ·cases beq_iff_eq.mp h;exact .inr ⟨_,_,rfl,rfl⟩
 ·cases h
def cz:PySem.KeyKind P w D where
 is:=oU
 hash:=cK w
 inj:=λv a b ha hb=>by
  grind [db]
 byValue:=λk v h=>by
  rcases db h with⟨i,t,rfl,rfl⟩|⟨x,t,rfl,rfl⟩<;>rfl
 pyHash:=λhv h=>by
  rcases db hv with⟨i,t,rfl,rfl⟩|⟨x,t,rfl,rfl⟩
  ·exact wpAny_pyHash_int h
  ·exact wpAny_pyHash_str h
 eqBool:=λ{A E s a b u v Q} hu hv h=>by
  rcases db hu with⟨i,t,rfl,rfl⟩|⟨x,t,rfl,rfl⟩<;>rcases db hv with⟨j,t',rfl,rfl⟩|⟨y,t',rfl,rfl⟩
  ·rw[show decide (D.int i=D.int j)=(i==j) by lia]at h;exact MY i t j t' _ _ _ _ h
  ·exact SeqAt.EqAt.int_str i t y t' _ _ _ _ h
  ·exact SeqAt.EqAt.str_int x t j t' _ _ _ _ h
  ·rw[show decide (D.str x=D.str y)=(x==y) by lia]at h;exact OW x t y t' _ _ _ _ h
 «strs»:=λk x t v h=>by
  rcases db h with⟨i,u,rfl,e⟩|⟨y,u,rfl,e⟩<;>cases e
  cases v<;>rfl
end L2
namespace L2
open PySem PySem.Spec PyProof.Rows Md
variable[Md]
nonrec theorem xv {h:Jr}(H:Hm M h):∀{ks:Qw D}{l:Qw Kk}{us},l.map (·.hash)=ks.map (cK w)->l.map (·.key)=us->ks.all (kOk V)=V->Rs m M ks us->∃xs:Qw (D×HZ×HM),l=xs.map (entryOfKey iX)/\xs.map (·.1)=ks/\xs.map (·.2.2)=l.map (·.val)/\∀x∈xs,iX.is h x.1 x.2.1
 |[],l,us,h1,h2,_,rs=>by simp_all
 |k::ks,l,us,h1,h2,hk,rs=>by
  cases l with
  |nil=>simp at h1
  |cons e l=>
   rw[Iw,HW]at hk;let⟨u,r,rfl,r1,r2⟩:=rs;simp![HP,KH]at h1 h2;let⟨xs,g1,g2,g3,g4⟩:=xv H h1.2 h2.2 hk.2 r2;cases k<;>simp[kOk]at hk
   rename_i ds;let rr:=r1.to H.fm;let⟨a,o,vs,rfl,_⟩:=r1;refine⟨(.tup ds,a,e.val)::xs,?_,by simp[g2],by simp[g3],λx hx=>?_⟩
   ·let⟨eh,ek,ev⟩:=e;simp only at h1 h2;rw[HP,<-g1,h1.1,h2.1];rfl
   ·rcases qaa.mp hx with rfl|hx
    ·exact⟨by simpa using hk.1,rr⟩
    ·exact g4 x hx
def Ck (h1:kOk Y k'=V) (h2:kOk Y k=V) (r:R m M k' v):oU k v=decide (k'=k):=by
 cases k'<;>simp[kOk]at h1<;>cases k<;>simp[kOk]at h2<;>let⟨t,rfl⟩:=r<;>rw[Lp]<;>simp[oU]
 exact eq_comm
def jM (h:kOk b k=V):cT 8 k=V:=by cases k<;>simp_all [kOk,cT]
section
variable{M:Mp}{s:HN}{A:Ia}{E:HM->HN->Prop}{m m' b:Bool}{o:LW}{ks:Qw D}{us vs:Qw HM}{k:D}{u v:HM}{d:HZ}
def DcO.at (c:DcO b o ks us vs) (e:o.data=.dict es ep):es.size=ks.length/\us.length=ks.length/\vs.length=ks.length/\∀(i:Nat),(es[i]?.map (·.hash))=(ks[i]?).map (cK w)/\(es[i]?.map (·.key))=us[i]?/\(es[i]?.map (·.val))=vs[i]?:=by
 let⟨_,_,_,_,es',ep',h,h1,h2,h3⟩:=c;rw[e]at h;cases h;let l1:=congrArg J9 h1;let l2:=congrArg J9 h2;let l3:=congrArg J9 h3;simp![HT,J6]at l1 l2 l3;refine⟨l1,by lia,by lia,λi=>⟨?_,?_,?_⟩⟩
 ·rw[<-H8,<-h1,H8,Ji]
 ·rw[<-h2,H8,Ji]
 ·rw[<-h3,H8,Ji]
theorem fnd {Q:Qq Nat->HN->Prop}(hu:A.units+30<cLine) (H:Hm M s.heap) (hd:s.heap.get? d=U o) (c:DcO b o ks us vs) (rk:Rs m M ks us) (hk:kOk b k=V) (r:R m' M k u)
  (hn:k∉ks->Q B s) (hy:∀j:Nat,ks[j]?=U k->Q (U j) s):wpAny (model P w) A (dictFind d u (cK w k)) Q E s:=by
 obtain⟨es,ep,he⟩:∃es ep,o.data=.dict es ep:=by let⟨_,_,_,_,es,ep,h,_⟩:=c;exact⟨es,ep,h⟩
 let⟨l1,l2,l3,ha⟩:=c.at he;let⟨_,_,nd,al,es',ep',h,h1,h2,h3⟩:=c;rw[he]at h;cases h;cases b with
 |false=>
  let at1:∀(i:Nat) (hi:i<es.size),∃k',ks[i]?=U k'/\kOk Y k'=V/\es[i].hash=cK w k'/\R m M k' es[i].key:=λi hi=>by
   let⟨g1,g2,_⟩:=ha i;rw[Jd hi]at g1 g2
   let hk':ks[i]?=U (ks[i]'(by lia)):=by simp
   let⟨v,e1,e2⟩:=rk.get hk';rw[e1]at g2;rw[hk']at g1;simp at g1 g2;refine⟨_,hk',(qac.mp al) _ (JR _),g1,by rw[g2];exact e2⟩
  let ru:oU k u=V:=by rw[Ck hk hk r];simp
  refine wpAny_dictFind_of (knd:=cz) (k:=k) ru hd he (λe hin=>?_) ?_
  ·let⟨i,hi,rfl⟩:=Array.mem_iff_getElem.mp hin
   let⟨k',_,z1,z2,z3⟩:=at1 i hi;exact⟨k',by show oU k' _=V;rw[Ck z1 z1 z3];simp,z2⟩
  ·let key:∀(i:Nat) (hi:i<es.size),oU k es[i].key=decide (ks[i]?=U k):=λi hi=>by
    let⟨k',z0,z1,z2,z3⟩:=at1 i hi;rw[Ck z1 hk z3,z0];simp
   cases q:es.findIdx? (λe=>oU k e.key)with
   |none=>
    show Q (es.findIdx? λe=>oU k e.key) s
    rw[q];refine hn λz=>?_
    let⟨i,hi⟩:=List.mem_iff_getElem?.mp z;let hl:i<es.size:=by rw[l1];exact(List.getElem?_eq_some_iff.mp hi).1
    have:=(Array.findIdx?_eq_none_iff.mp q) es[i] (Array.getElem_mem hl)
    rw[key i hl,hi]at this;simp at this
   |some i=>
    show Q (es.findIdx? λe=>oU k e.key) s
    rw[q];let⟨hl,h5⟩:=Array.findIdx?_eq_some_iff_getElem.mp q
    let h5:=h5.1;rw[key i hl]at h5;exact hy i (of_decide_eq_true h5)
 |true=>
  let⟨xs,g1,g2,g3,g4⟩:=xv H h1 h2 al rk;let rr:=r.to H.fm;let hk8:=jM hk;obtain⟨a,rfl⟩:∃a,u=.ref a:=by cases k<;>simp[kOk]at hk;let⟨a,o',ws,rfl,_⟩:=r;lia
  refine wpAny_dictFind_heap (knd:=iX) (show iX.room A from hu) ⟨hk8,rr⟩ hd he g1 g4 (by rw[g2];exact nd) (λz=>hn λy=>?_) λj p z=>hy j ?_
  ·let⟨i,hi⟩:=List.mem_iff_getElem?.mp y
   rw[<-g2,H8]at hi
   cases w:xs[i]? with
   |none=>simp_all
   |some x=>rw[w]at hi;injection hi with hi;exact z i x.2 (by rw[w,<-hi])
  ·rw[<-g2,H8,z];rfl
theorem gX {β:Type}:∀{ks:Qw D}{xs:Qw β},k∉ks->aP k ks xs=B
 |[],_,_=>rfl
 |_::_,[],_=>rfl
 |x::ks,y::xs,h=>by simp![ID,not_or]at h;unfold aP;rw[if_neg (Ib h.1)];exact gX h.2
theorem gx {β:Type}:∀{ks:Qw D}{xs:Qw β}{j:Nat},ks.Nodup->ks[j]?=U k->aP k ks xs=xs[j]?
 |[],_,_,_,h=>by simp at h
 |x::ks,[],j,_,h=>rfl
 |x::ks,y::xs,0,_,h=>by simp at h;simp[aP,h]
 |x::ks,y::xs,j+1,nd,h=>by
  unfold aP;rw[if_neg λ(z:x=k)=>(qae.mp nd).1 (z▸HR h),gx (qae.mp nd).2 h];rfl
def Ee {Q:Qq HM->HN->Prop}(hu:A.units+30<cLine) (H:Hm M s.heap) (hd:s.heap.get? d=U o) (c:DcO b o ks us vs) (rk:Rs m M ks us) (hk:kOk b k=V) (r:R m' M k u)
  (h:∀tk,Q (aP k ks vs) {s with toks:=tk}):wpAny (model P w) A (dictGet d u) Q E s:=by
 unfold dictGet
 try with_reducible refine Ij ?_
 refine HJ (pH 8 H (jM hk) (by lia) r (HJ (fnd (s:={s with toks:=s.toks+cj k}) hu H hd c rk hk r (λz=>?_) λj z=>?_)))
 ·rw[gX z]at h;exact HK (h _)
 ·let nd:=c.2.2.1
  let⟨_,_,_,_,es,ep,he,_⟩:=id c;refine HJ (KA (s:={s with toks:=s.toks+cj k}) hd he (HK ?_))
  rw[((c.at he).2.2.2 j).2.2,<-gx nd z];exact h _
theorem mn {β:Type}{v:β}:∀{ks:Qw D}{xs:Qw β}{j:Nat},ks.Nodup->ks[j]?=U k->ks.length=xs.length->bN k v ks xs=xs.set j v
 |[],_,_,_,h,_=>by simp at h
 |x::ks,[],j,_,h,e=>by simp at e
 |x::ks,y::xs,0,nd,h,e=>by
  simp at h;subst h;let no:∀{ks:Qw D}{xs:Qw β},x∉ks->ks.length=xs.length->bN x v ks xs=xs:=by
   intro ks
   induction ks with
   |nil=>intro xs _ e;cases xs<;>simp_all [bN]
   |cons z ks ih=>intro xs h e;cases xs with
    |nil=>simp at e
    |cons y xs=>simp![ID,not_or]at h;unfold bN;rw[if_neg (Ib h.1),ih h.2 (by simpa using e)]
  unfold bN;simp_all
 |x::ks,y::xs,j+1,nd,h,e=>by
  unfold bN;rw[if_neg λ(z:x=k)=>(qae.mp nd).1 (z▸HR h),mn (qae.mp nd).2 h (by simpa using e)];rfl
def DcO.new (c:DcO b o ks us vs) (hk:kOk b k=V) (hz:ks.length<sizeLine) (z:k∉ks) (he:o.data=.dict es ep):DcO b (o.mapDictKeys (·.push ⟨cK w k,u,v⟩)) (ks++[k]) (us++[u]) (vs++[v]):=by
 let⟨h1,h2,nd,al,es',ep',h,g1,g2,g3⟩:=c;rw[he]at h;cases h;refine⟨by simp;lia,h2.mapDictKeys _,?_,by simp[al,hk],_,_,Nq he _,by simp[g1],by simp[g2],by simp[g3]⟩
 rw[IS];grind
def DcO.old (c:DcO b o ks us vs) (hj:j<ks.length) (he:o.data=.dict es ep):DcO b (o.mapDict (·.modify j λe=>{e with val:=v})) ks us (vs.set j v):=by
 let⟨h1,h2,nd,al,es',ep',h,g1,g2,g3⟩:=c;rw[he]at h;cases h;let l1:=congrArg J9 g1;simp![HT,J6]at l1;refine⟨h1,h2.mapDict _,nd,al,_,_,Obj.data_mapDict he _,?_,?_,?_⟩<;>refine Mz λi=>?_<;>simp![H8,Ji,Array.getElem?_modify,LC]
 ·rw[<-H8,<-g1,H8,Ji];split<;>cases es[i]?<;>rfl
 ·rw[<-g2,H8,Ji];split<;>cases es[i]?<;>rfl
 ·rw[<-g3];simp![H8,Ji,HT,J6]
  split
  ·simp_all
  ·rfl
def AA (k:D) (u:HM) (ks:Qw D) (us:Qw HM):Qw HM:=if k∈ks then us else us++[u]
def GV {Q:Unit->HN->Prop}(hu:A.units+30<cLine) (H:Hm M s.heap) (hd:s.heap.get? d=U o) (c:DcO b o ks us vs) (rk:Rs m M ks us) (hk:kOk b k=V) (r:R m' M k u) (hz:ks.length<sizeLine)
  (h:∀h' tk o',IM d s.heap h'->h'.get? d=U o'->DcO b o' (aC k ks) (AA k u ks us) (bB k v ks vs)->Q () {s with heap:=h',toks:=tk}):wpAny (model P w) A (dictSet d u v) Q E s:=by
 unfold dictSet
 try with_reducible refine Ij ?_
 refine HJ (pH 8 H (jM hk) (by lia) r ?_)
 unfold dictSetHashed
 try with_reducible refine Ij ?_
 let⟨_,_,nd,_,es,ep,he,_⟩:=id c;let⟨l1,l2,l3,ha⟩:=c.at he;refine HJ (fnd (s:={s with toks:=s.toks+cj k}) hu H hd c rk hk r (λz=>?_) λj z=>?_)
 ·refine HJ (Ju (wpAny_updateDictKeys (hz:=by lia) (s:={s with toks:=s.toks+cj k}) hd he (h _ _ _ (IG ..) (H7 _ hd (NA (Nq he _))) ?_)))
  unfold aC AA bB;rw[if_neg z,if_neg z,if_neg z];exact c.new hk hz z he
 ·let hm:=HR z
  let hj:=(List.getElem?_eq_some_iff.mp z).1
  refine HJ (Ju (HJ (wpAny_updateDict (s:={s with toks:=s.toks+cj k}) hd he (wpAny_point (h _ _ _ (IG ..) (H7 _ hd (NA (Obj.data_mapDict he _))) ?_)))))
  unfold aC AA bB;rw[if_pos hm,if_pos hm,if_pos hm,mn nd z (by lia)];exact c.old hj he
def Hx {Q:HM->HN->Prop}(hu:A.units+30<cLine) (H:Hm M s.heap) (hd:s.heap.get? d=U o) (c:DcO b o ks us vs) (rk:Rs m M ks us) (hk:kOk b k=V) (r:R m' M k u) (hz:k∉ks->ks.length<sizeLine)
  (h1:∀x tk,aP k ks vs=U x->Q x {s with toks:=tk})
  (h2:∀h' tk o',k∉ks->IM d s.heap h'->h'.get? d=U o'->DcO b o' (aC k ks) (AA k u ks us) (bB k v ks vs)->Q v {s with heap:=h',toks:=tk}):wpAny (model P w) A (dictSetDefault d u v) Q E s:=by
 unfold dictSetDefault
 try with_reducible refine Ij ?_
 let⟨_,_,nd,_,es,ep,he,_⟩:=id c;let⟨l1,l2,l3,ha⟩:=c.at he;refine HJ (pH 8 H (jM hk) (by lia) r (HJ (fnd (s:={s with toks:=s.toks+cj k}) hu H hd c rk hk r (λz=>?_) λj z=>?_)))
 ·refine HJ (Ju (HJ (wpAny_updateDictKeys (hz:=by have:=hz z;lia) (s:={s with toks:=s.toks+cj k}) hd he (HK (h2 _ _ _ z (IG ..) (H7 _ hd (NA (Nq he _))) ?_)))))
  unfold aC AA bB;rw[if_neg z,if_neg z,if_neg z];exact c.new hk (hz z) z he
 ·let hj:j<es.size:=by rw[l1];exact(List.getElem?_eq_some_iff.mp z).1
  refine HJ (KA (s:={s with toks:=s.toks+cj k}) hd he ?_)
  let g:=(ha j).2.2;rw[Jd hj]at g⊢
  exact HJ (Ju (HK (h1 _ _ (by rw[gx nd z,<-g];rfl))))
end
end L2
namespace L2
open PySem PySem.Spec PyProof.Rows Md
variable[Md]
def dcD:D->Qq (Bool×Qw D×Qw D)
 |.dK ks vs=>U (Y,ks.map kD,vs)
 |.dD ks vs=>U (V,ks,vs)
 |_=>B
theorem Ks.rs:∀{ks us},Ks ks us↔Rs m M (ks.map kD) us
 |[],us=>Iff.rfl
 |.inl i::ks,us=>⟨λ⟨t,r,e,h⟩=>⟨_,r,e,⟨t,rfl⟩,Ks.rs.mp h⟩,λ⟨v,r,e,⟨t,z⟩,h⟩=>⟨t,r,by rw[<-z];exact e,Ks.rs.mpr h⟩⟩
 |.inr i::ks,us=>⟨λ⟨t,r,e,h⟩=>⟨_,r,e,⟨t,rfl⟩,Ks.rs.mp h⟩,λ⟨v,r,e,⟨t,z⟩,h⟩=>⟨t,r,by rw[<-z];exact e,Ks.rs.mpr h⟩⟩
def R.dc (r:R m M d v) (h:dcD d=U (b,ks,ds)):∃a o us vs,v=.ref a/\Rd m M a o/\DcO b o ks us vs/\Rs m M ks us/\Rs m M ds vs:=by
 cases d<;>cases h
 ·let⟨a,o,us,vs,e,q,c,k,rs⟩:=r;exact⟨a,o,us,vs,e,q,c,Ks.rs.mp k,rs⟩
 ·exact r
def Cm.dc (r:Cm m M d o) (h:dcD d=U (b,ks,ds)):∃us vs,DcO b o ks us vs/\Rs m M ks us/\Rs m M ds vs:=by
 cases d<;>cases h
 ·let⟨us,vs,c,k,rs⟩:=r;exact⟨us,vs,c,Ks.rs.mp k,rs⟩
 ·exact r
theorem oW:∀{a b:Key},kD a=kD b->a=b
 |.inl _,.inl _,h=>by cases h;rfl
 |.inr _,.inr _,h=>by cases h;rfl
theorem gk {β:Type}{kk:Key}:∀{ks:Qw Key}{ds:Qw β},aP (kD kk) (ks.map kD) ds=aP kk ks ds
 |[],_=>rfl
 |_::_,[]=>rfl
 |x::ks,d::ds=>by
  simp![HP,aP,gk]
  by_cases h:x=kk
  ·lia
  ·rw[if_neg h,if_neg λz=>h (oW z)]
def sC {kk:Key}{ks:Qw Key}:kD kk∈ks.map kD↔kk∈ks:=by
 rw[NQ];exact⟨λ⟨x,h,e⟩=>oW e▸h,λh=>⟨kk,h,rfl⟩⟩
def gw {β:Type}{kk:Key}{v:β}{ks:Qw Key}{ds:Qw β}:bB (kD kk) v (ks.map kD) ds=bB kk v ks ds:=by
 let g:∀{ks:Qw Key}{ds:Qw β},bN (kD kk) v (ks.map kD) ds=bN kk v ks ds:=by
  intro ks
  induction ks with
  |nil=>intro ds;rfl
  |cons x ks ih=>intro ds;cases ds with
   |nil=>rfl
   |cons d ds=>
    simp![HP,bN,ih]
    by_cases h:x=kk
    ·rw[if_pos h,if_pos (by rw[h])]
    ·rw[if_neg h,if_neg λz=>h (oW z)]
 unfold bB;rw[g]
 by_cases h:kk∈ks
 ·rw[if_pos h,if_pos (sC.mpr h)]
 ·rw[if_neg h,if_neg λz=>h (sC.mp z)]
def dJ {kk:Key}{ks:Qw Key}:aC (kD kk) (ks.map kD)=(aC kk ks).map kD:=by
 unfold aC
 by_cases h:kk∈ks
 ·rw[if_pos h,if_pos (sC.mpr h)]
 ·rw[if_neg h,if_neg λz=>h (sC.mp z),Ip];rfl
def bF (h:gG d=U kk):d=kD kk/\kOk Y d=V:=by cases d<;>cases h<;>exact⟨rfl,rfl⟩
def qD (h:(cT 8 d&&xN d)=V):kOk V d=V:=by cases d<;>simp_all [xN,kOk]
nonrec theorem eU (h:mU x y=U o):∃d k b ks ds,x=U d/\y=U k/\dcD d=U (b,ks,ds)/\kOk b k=V/\o=aP k ks ds:=by
 unfold mU at h;split at h
 ·split at h<;>cases h
  rename_i kk hk;let⟨rfl,hk⟩:=bF hk;exact⟨_,_,_,_,_,rfl,rfl,rfl,hk,gk.symm⟩
 ·split at h<;>cases h
  exact⟨_,_,_,_,_,rfl,rfl,rfl,qD (by assumption),rfl⟩
 ·cases h
nonrec theorem tj (h:wy x k v=U y):∃b ks ds,dcD x=U (b,ks,ds)/\kOk b k=V/\ks.length<lim/\dcD y=U (b,aC k ks,bB k v ks ds)/\∀{m M o us vs},DcO b o (aC k ks) us vs->Rs m M (aC k ks) us->Rs m M (bB k v ks ds) vs->Cm m M y o:=by
 unfold wy at h;split at h
 ·split at h<;>try cases h
  split at h<;>cases h
  rename_i kk hk hl;let⟨rfl,hk⟩:=bF hk;refine⟨_,_,_,rfl,hk,by simpa using hl,by rw[dJ,gw];rfl,λ{m M o us vs} h1 h2 h3=>?_⟩
  rw[dJ]at h1 h2;rw[gw]at h3;exact⟨us,vs,h1,Ks.rs.mpr h2,h3⟩
 ·split at h<;>cases h
  rename_i hc;rw[HW,decide_eq_true_iff]at hc;exact⟨_,_,_,rfl,qD hc.1,hc.2,rfl,λ{m M o us vs} h1 h2 h3=>⟨us,vs,h1,h2,h3⟩⟩
 ·cases h
theorem j6:∀{ks:Qw D}{ds:Qw D}{vs},Rs m M ds vs->(aP k ks ds=B->aP k ks vs=B)/\∀d,aP k ks ds=U d->∃v,aP k ks vs=U v/\R m M d v
 |[],_,_,_=>⟨λ_=>rfl,λ_ h=>nomatch h⟩
 |x::ks,[],_,r=>by cases r;exact⟨λ_=>rfl,λ_ h=>nomatch h⟩
 |x::ks,d::ds,_,⟨v,r,e,h1,h2⟩=>by
  subst e;unfold aP
  by_cases h:x=k
  ·simp_all
  ·rw[if_neg h,if_neg h];exact j6 h2
def sk {ks ds:Qw D}{vs:Qw HM}(r:Rs m M ds vs) (h:R m M d v):Rs m M (bB k d ks ds) (bB k v ks vs):=by
 let g:∀{ks ds:Qw D}{vs:Qw HM},Rs m M ds vs->Rs m M (bN k d ks ds) (bN k v ks vs):=by
  intro ks
  induction ks with
  |nil=>intro ds vs _;rfl
  |cons x ks ih=>intro ds vs r;cases ds with
   |nil=>cases r;rfl
   |cons e ds=>
    let⟨u,t,rfl,h1,h2⟩:=r;refine⟨_,_,rfl,?_,ih h2⟩
    split
    ·exact h
    ·exact h1
 unfold bB;split
 ·exact g r
 ·exact r.append (.one h)
def vp {ks:Qw D}{us:Qw HM}(r:Rs m M ks us) (h:R m M k u):Rs m M (aC k ks) (AA k u ks us):=by
 unfold aC AA;split
 ·exact r
 ·exact r.append (.one h)
section
variable{X:Cx}{M M':Mp}{δ:DEnv}{s:HN}{Q:HM->HN->Prop}{a b c:Expr}{fa fb fc:DEnv->Qq D}{m m' mm bb:Bool}{p px pos pos' apos cpos:MR}
def Inv.nsys (I:Inv X M δ s) (q:Rd m M d o):(d==sysModules)=Y:=by
 let⟨k,e,h⟩:=q;rw[beq_eq_false_iff_ne];rintro rfl;obtain rfl:=I.sys _ _ e;cases h
def DcO.ty (c:DcO bb o ks us vs) (e:s.heap.get? d=U o):s.TypeIs (.ref d) "dict":=⟨o,e,c.2.1.1⟩
def Rd.heap (q:Rd m M d o) (H:Hm M s.heap):s.heap.get? d=U o:=by let⟨k,e,_⟩:=q;exact H _ _ _ e
nonrec theorem FJ (ha:DE X m a fa) (hb:DE X m' b fb):DE X m (.Subscript a b pos) (λδ=>cM (fa δ) (fb δ)):=⟨rfl,λ{M δ s d Q} I e k=>by
 unfold cM at e;split at e<;>cases e
 rename_i q;let⟨d1,k1,b1,ks,ds,e1,e2,e3,e4,e5⟩:=eU q;refine No (ha.ev I e1 λv s1 M1 x1 I1 r1=>hb.ev I1 e2 λu s2 M2 x2 I2 r2=>?_)
 let⟨l,o,us,vs,rfl,q,c,rk,rs⟩:=(r1.up x2).dc e3;let ho:=q.heap I2.heap;let un:=I2.un;let⟨v,g1,g2⟩:=(j6 rs).2 _ e5.symm;refine Pe (c.ty ho) slot_dict_getitem.lookup ?_ (oE hb.pl)
 unfold getItem
 try with_reducible refine Ij ?_
 refine HJ (MP (c.ty ho) (by decide) ?_)
 refine HJ (IC (name:=IU "__getitem__") (c.ty ho) Ld (Ii Ld (c.ty ho) N6 ?_ (Oz _ _)))
 show wpAny _ _ (dictGet l u >>= _) _ _ _;refine HJ (Ee (show X.A.units+1+30<cLine by lia) I2.heap ho c rk e4 r2 λtk=>?_)
 rw[g1];exact HK ⟨v,rfl,HK (k _ _ _ (x1.trans x2) I2.tok g2)⟩⟩
theorem xh (ha:DE X m a fa) (hb:DE X m' b fb):DT X (.Compare a [.NotIn] [b] pos) (λδ=>be (sZ (fa δ) (fb δ))):=λ{M δ s c Q} I e k=>by
 unfold sZ at e;cases q:mU (fb δ) (fa δ)with
 |none=>simp[q,be]at e
 |some og=>
  simp![q,be]at e;cases e;let⟨d1,k1,b1,ks,ds,e1,e2,e3,e4,e5⟩:=eU q;refine L5 (ha.ev I e2 λu s1 M1 x1 I1 r1=>hb.ev I1 e1 λv s2 M2 x2 I2 r2=>?_) (pZ hb.pl)
  let⟨l,o,us,vs,rfl,q,c,rk,rs⟩:=r2.dc e3;let ho:=q.heap I2.heap;let un:=I2.un;let hS:=I2.nsys q;refine HJ ?_
  unfold contains
  try with_reducible refine Ij ?_
  refine HJ (Kx (c.ty ho) slot_dict_contains.lookup ?_)
  refine HJ (wpAny_callSpecialUnlessNone?_slot (name:=IU "__contains__") (c.ty ho) slot_dict_contains (Ii slot_dict_contains (c.ty ho) entry_dict_contains ?_ (args_dict_contains _ _)))
  show wpAny _ _ (dictGet l u >>= _) _ _ _;refine HJ (Ee (show X.A.units+1+30<cLine by lia) I2.heap ho c rk e4 (r1.up x2) λtk=>?_)
  let fin:=k _ _ (x1.trans x2) (I2.tok (t:=tk));subst e5;let⟨g1,g2⟩:=j6 (k:=k1) (ks:=ks) rs;cases z:aP k1 ks ds with
  |none=>
   rw[g1 z];rw[z]at fin;exact HJ (wpAny_pendingKey_other hS (HK ⟨_,rfl,Jh (HK (Jh fin))⟩))
  |some y=>
   let⟨v,g3,_⟩:=g2 y z;rw[g3];rw[z]at fin;exact HK ⟨_,rfl,Jh (HK (Jh fin))⟩
nonrec theorem C6 (ha:DE X m a fa) (hb:DE X m b fb) (hc:DE X m c fc) (l:(apos.endLine==cpos.line)=V):DE X m (.Call (.Attribute a "get" apos) [b,c] [] cpos) (λδ=>lB (fa δ) (fb δ) (fc δ)):=⟨rfl,λ{M δ s d Q} I e k=>by
 unfold lB at e;split at e<;>cases e
 rename_i og z q1 q2;let⟨d1,k1,b1,ks,ds,e1,e2,e3,e4,e5⟩:=eU q1;refine sA Ll OX PySem.F.type_dict_get l ha (aW hb (aW hc bC)) (by simp) I e1 (ds:=[k1,z]) (by rw[e2,q2];rfl) (λH r=>?_) λv ws s1 M1 x1 I1 r1 r2=>?_
 ·let⟨l,o,us,vs,rfl,q,c,_⟩:=r.dc e3
  exact⟨c.ty (q.heap H),λb e=>by cases e;exact⟨o,q.heap H,c.2.1.2.1⟩⟩
 ·let⟨u,v2,rfl,r3,r4⟩:=r2.is2
  let⟨l,o,us,vs,rfl,q,c,rk,rs⟩:=r1.dc e3;let ho:=q.heap I1.heap;let un:=I1.un;let hS:=I1.nsys q;refine Ii OX (c.ty ho) PySem.F.entry_dict_get ?_ (PySem.F.args_dict_get_3 _ _ _)
  show wpAny _ _ (dictGet l u >>= _) _ _ _;refine HJ (Ee (show X.A.units+1+30<cLine by lia) I1.heap ho c rk e4 r3 λtk=>?_)
  subst e5;let⟨g1,g2⟩:=j6 (k:=k1) (ks:=ks) rs;cases z:aP k1 ks ds with
  |none=>
   rw[g1 z];rw[z]at k;exact HJ (wpAny_missed_other hS (HK ⟨_,rfl,k _ _ _ x1 I1.tok r4⟩))
  |some y=>
   let⟨v,g3,g4⟩:=g2 y z;rw[g3];rw[z]at k;exact HK ⟨_,rfl,k _ _ _ x1 I1.tok g4⟩⟩
def rh:DcO bb {cls:=.type "dict",data:=.dict #[]} [] [] []:=⟨Im _,⟨rfl,rfl,rfl⟩,Jf,rfl,#[],_,rfl,rfl,rfl,rfl⟩
def yH:DF X (.Dict [] [] pos) (λ_=>U (.dK [] [])):=⟨rfl,λI e k=>by
 cases e;exact wpAny_Dict_empty (k _ _ _ _ Ext.refl I.push (I.fresh (HQ _)) (HO _ rfl) ⟨[],[],rh,rfl,rfl⟩)⟩
def ye:DF X (.Dict [] [] pos) (λ_=>U (.dD [] [])):=⟨rfl,λI e k=>by
 cases e;exact wpAny_Dict_empty (k _ _ _ _ Ext.refl I.push (I.fresh (HQ _)) (HO _ rfl) ⟨[],[],rh,rfl,rfl⟩)⟩
end
end L2
namespace L2
open PySem PySem.Spec PyProof.Rows Md
variable[Md]
structure DX (X:Cx) (e:Expr) (f:DEnv->Qq (D×DEnv)):Prop where
 pl:plE e=V
 ev:∀{M δ s d δ'} {Q:HM->HN->Prop},Inv X M δ s->f δ=U (d,δ')->(∀v s' M',Sx M M'->Inv X M' δ' s'->R Y M' d v->Q v s')->WP X (eval e X.env) Q s
def DTX (X:Cx) (e:Expr) (f:DEnv->Qq (Bool×DEnv)):Prop:=∀{M δ s c δ'} {Q:Bool->HN->Prop},Inv X M δ s->f δ=U (c,δ')->(∀s' M',Sx M M'->Inv X M' δ' s'->Q c s')->WP X (isTrue e X.env (eval e X.env)) Q s
section
variable{X:Cx}{M M':Mp}{δ:DEnv}{s:HN}{a b c:Expr}{fa fb fc:DEnv->Qq D}{m m' mm bb:Bool}{p px pos pos' apos cpos:MR}{g1 g2:DEnv->Qq Out}
def xp (c:DcO bb o ks us vs):Ow o:=by let⟨_,h1,_,_,es,ep,h2,_⟩:=c;exact⟨by rw[h1.1];simp,λ_ z=>by lia⟩
theorem R.keyF (I:Inv X M δ s) (h:cT 8 k=V) (r:R m M k u):R Y M k u:=r.key (λa o vs ⟨kk,e,q⟩ t=>by
 cases kk with
 |f=>exact rdf.mpr e
 |p=>cases q
 |_=>exact absurd t.2.1 (I.own _ _ _ e rfl).1) h
def Bm (h:dcD d=U z):nx d=V:=by cases d<;>first|rfl|cases h
def Inv.dput {h':Jr}{tk:Nat}{a:HZ}(hd:nx d=V) (I:Inv X M δ s) (h:Nm X i x) (nd:X.N.Nodup) (e:δ[i]?=U (U (d,V))) (q:M a=U (.o i,o)) (sb:IM a s.heap h') (g:h'.get? a=U o') (dc:DcO bb o' ks us vs) (c:C M y o'):∃M',Inv X M' (δ.set i (U (y,V))) {s with heap:=h',toks:=tk}/\Sx M M':=by
 let⟨h1,h2,h3⟩:=I.chg (s':={s with heap:=h',toks:=tk}) e h.n q (λb ob z w=>(sb.2 b z).trans w) g (xp dc) c hd
 exact⟨_,h1,h2,λa o=>(h3 a o).mp,λa o=>(h3 a o).mpr⟩
nonrec theorem BC (h:Nm X i x) (nd:X.N.Nodup) (hb:DE X m b fb) (hv:DE X Y c fc) (hs:swapsWith c (U (.Subscript (.Name x px) b pos')) pos.line X.env=pure Y):DS X (.Assign [.Subscript (.Name x px) b pos'] c pos) (λδ=>iM i (fb δ) (fc δ) δ):=λ{M δ s o Q} I e k=>by
 unfold iM at e;dsimp only at e;split at e<;>try cases e
 split at e<;>cases e
 rename_i d kd vd q0 q1 q2 _ y qy;let h1:=aJ q0;let⟨b1,ks,ds,e3,e4,e5,_,e6⟩:=tj qy;refine wpAny_Assign_Subscript (hv.ev I q2 λr s1 M1 x1 I1 r1=>Kr (I1.load h h1 λv z=>hb.ev I1 q1 λu s2 M2 x2 I2 r2=>?_) h.d) hs
 let⟨l,o,rfl,q,c⟩:=z.own (Bm e3);let q:M2 l=U (.o i,o):=by rcases x2 l with w|w;rw[w,q];rw[w.1]at q;cases q
 let c:=c.to x2.sub;let⟨us,vs,c,rk,rs⟩:=c.dc e3;let ho:=I2.heap _ _ _ q;let un:=I2.un;let hl:=aA (HQ lim);unfold setItem
 try with_reducible refine Ij ?_
 refine HJ (MP (c.ty ho) (by decide) ?_)
 refine HJ (IC (name:=IU "__setitem__") (c.ty ho) slot_dict_setitem (Ii slot_dict_setitem (c.ty ho) entry_dict_setitem ?_ (args_dict_setitem _ _ _)))
 refine HJ (Kd (c.ty ho) ?_)
 show wpAny _ _ (dictSet l u r >>= _) _ _ _;refine HJ (GV (show X.A.units+1+30<cLine by lia) I2.heap ho c rk e4 r2 (by lia) λh' tk o' sb g dc=>?_)
 let⟨M3,I3,x3⟩:=I2.dput (Bm e3) (tk:=tk) h nd h1 q sb g dc (e6 dc (vp rk (r2.keyF I2 (jM e4))) (sk rs (r1.up x2)));exact HK ⟨.none,rfl,HK (k _ _ ((x1.trans x2).sx.trans x3) I3)⟩
def lS {M:Mp}(h:dcD d=U (bb,ks,ds)) (c:C M d o):o.cls=.type "dict"/\o.dict=B:=by let⟨_,_,c,_⟩:=c.dc h;exact⟨c.2.1.1,c.2.1.2.1⟩
nonrec theorem DU {gt:DEnv->Qq (Bool×DEnv)}{x y:Qw Jp}(hc:DTX X c gt) (ha:DSs X x g1) (hb:DSs X y g2):DS X (.If c x y pos) (λδ=>ifX (gt δ) g1 g2):=λ{M δ s o Q} I e k=>by
 unfold ifX at e;dsimp only at e;split at e
 ·rename_i q;exact wpAny_If (hc I q λs1 M1 x1 I1=>ha I1 e (k.to x1))
 ·rename_i q;exact wpAny_If (hc I q λs1 M1 x1 I1=>hb I1 e (k.to x1))
 ·cases e
end
end L2
namespace L2
open PySem PySem.Spec PyProof.Rows Md
variable[Md]
section
variable{prog:IZ}{w:JA}{A:Ia}{E:HM->HN->Prop}{s:HN}
def ou {d:HZ}{o:LW}{es:Array Kk}{ep:Nat}{Q:HM->HN->Prop}(hd:(d==sysModules)=Y) (ho:s.heap.get? d=U o) (hc:o.ExactDict) (hdat:o.data=.dict es ep)
  (hQ:Q (.ref s.heap.objs.size) {s with heap:=s.heap.push {cls:=.type "dict_keyiterator",data:=.fields #[.ref d,.int 0 0,.int es.size 0,.int ep 0]}}):wpAny (model prog w) A (pyIter (.ref d)) Q E s:=by
 let ty:s.TypeIs (.ref d) "dict":=⟨o,ho,hc.1⟩;refine LM ty F.slot_dict_iter (Ii F.slot_dict_iter ty F.entry_dict_iter ?_ (F.args_dict_iter_1 _))
 refine HJ ?_
 refine HJ (Kd ty (HK ?_))
 change wpAny _ _ (Ln d >>= _) _ E s;unfold Ln;rw[if_neg (by lia)]
 refine HJ (HK (HJ (KA ho hdat (HJ (Nu ho hdat (HJ (Ir (HK ⟨_,rfl,"dict_keyiterator",_,⟨_,HO _ rfl,rfl⟩,F.slot_dict_keyiterator_next.lookup,?_⟩))))))))
 assumption
def gM {it d:HZ}{o:LW}{es:Array Kk}{i ep:Nat}{Q:Qq HM->HN->Prop}(hh:A.handled=B) (hit:s.heap.IsKeyIter it d i es.size ep) (ho:s.heap.get? d=U o) (hdat:o.data=.dict es ep)
  (item:∀e,es[i]?=U e->∀h',h'.IsKeyIter it d (i+1) es.size ep->IM it s.heap h'->Q (U e.key) {s with heap:=h'})
  (stop:es[i]?=B->∀h',MA it s.heap h'->Q B {s with heap:=h'}):wpAny (model prog w) A (pyNext (.ref it)) Q E s:=by
 let⟨oi,gi,ci,di⟩:=id hit;refine HJ (K6 (IC (name:=IU "__next__") hit.typeIs OT (Ii OT hit.typeIs F.entry_dict_keyiterator_next ?_ (F.args_dict_keyiterator_next_1 _))))
 refine HJ (HK (HJ (HJ ?_)))
 first|refine HJ (Mj hit.typeIs (HK ?_))|refine HJ (MT hit.typeIs (HK ?_))
 refine HJ (LN gi di ?_)
 refine HJ (HK (HJ (KA ho hdat ?_)))
 rw[if_neg (by simp)]
 refine HJ (HK (HJ (Nu ho hdat ?_)))
 rw[if_neg (by simp)]
 refine HK ?_
 by_cases hlt:i<es.size
 ·let hx:=Jd hlt
  simp![show ¬((i:Int)<0) from by lia,if_false,Kw,hx]
  refine HJ ?_
  first|refine HJ (Mj hit.typeIs (HK ?_))|refine HJ (MT hit.typeIs (HK ?_))
  refine HJ (wpAny_isOneOf_keyiter hit.typeIs ?_)
  change wpAny _ _ (setField (.ref it) 1 (rawInt ((i:Int)+1)) >>= _) _ _ s;let nx:(s.heap.update it (JF (·.setIfInBounds 1 (rawInt ((i:Int)+1))))).IsKeyIter it d (i+1) es.size ep:=⟨_,H7 _ gi (JD (IF di _)),(K4 ..).trans ci,by rw[IF di];rfl⟩
  refine HJ (JN gi di (by simp) (HJ (Ij (HJ (wpAny_isOneOf_keyiter (s:={s with heap:=s.heap.update it (JF (·.setIfInBounds 1 (rawInt ((i:Int)+1))))}) nx.typeIs ?_)))))
  exact HK (HK ⟨_,rfl,HK (item _ hx _ nx (IG ..))⟩)
 ·let hx:es[i]?=B:=Ki (by lia)
  simp![show ¬((i:Int)<0) from by lia,if_false,Kw,hx]
  refine HJ ?_
  first|refine HJ (Mj hit.typeIs (HK ?_))|refine HJ (MT hit.typeIs (HK ?_))
  change wpAny _ _ (setField (.ref it) 0 .none >>= _) _ _ s;refine HJ (JN gi di (by simp) ?_)
  refine HJ (HJ (Ir ?_ (by size_fits)))
  refine HJ (m:=firstArgMember _ _) (Ml (a:=JG) (by rfl) (Ir ?_ (by size_fits)))
  refine HJ (MU ?_)
  rw[show A.in1.handled=B from hh]
  refine HJ (HK (NG ?_))
  refine HJ (Kf (T:="StopIteration") (b:=V) ⟨_,HO _ rfl,rfl⟩ MF ?_)
  exact HK (stop hx _ (((IG ..).extBut.push _).push _))
def tK (hh:A.handled=B) (I d:HZ) (hne:d≠I) {o:LW}{es:Array Kk}{ep:Nat}(hdat:o.data=.dict es ep):
  Walks prog w A I [I,d] [I] es.size (λi v=>∃e,es[i]?=U e/\v=e.key) (λi h=>h.IsKeyIter I d i es.size ep/\h.get? d=U o) where
 sub:=λb hb=>by simp_all
 frame:=λ_ _ _ st hk=>⟨st.1.at λo e=>hk I (by simp) o e,hk d (by simp) _ st.2⟩
 item:=λi s Q E hi st hQ=>gM hh st.1 st.2 hdat (λe he h' it' sb=>hQ _ h' s.toks ⟨e,he,rfl⟩ ⟨it',(sb.2 d hne).trans st.2⟩ λb o hb e=>(sb.2 b (λz=>hb (by simp[z]))).trans e) λhn=>by
  simp_all
 done:=λs Q E st hQ=>gM hh st.1 st.2 hdat (λe he=>by simp_all) λ_ h' eb=>hQ h' s.toks λb o hb e=>eb b o (λz=>hb (by simp[z])) e
 self:=λ_ _ _ _ st hQ=>wpAny_pyIter_keyiter st.1 hQ
def jr {R:L9->HN->Prop}(hh:A.handled=B) {d S:HZ}{o:LW}{es:Array Kk}{ep c₀:Nat}(hd:(d==sysModules)=Y) (ho:s.heap.get? d=U o) (hc:o.ExactDict) (hdat:o.data=.dict es ep) (hn:es.size<=sizeLine) (res:HM)
  (hS:s.heap.get? S=U {cls:=.type "list",data:=.seq #[] c₀})
  (hR:∀h' tk acc' c',(∀b o,b≠S->s.heap.get? b=U o->h'.get? b=U o)->h'.get? S=U {cls:=.type "list",dict:=B,data:=.seq acc' c',slots:=#[]}->Pa (λi v=>∃e,es[i]?=U e/\v=e.key) acc' es.size->R (.ok (.ret res)) {s with heap:=h',toks:=tk}):
  wpAny (model prog w) A.in1 (LI (.ref S) (.ref d) res)
   (λfin s'=>match fin with|.done f=>R (.ok f) s'|.again c'=>c'.quiet=V/\codeAny (model prog w) A c' R s') (λe s'=>R (.error e) s') s:=by
 let ty:s.TypeIs (.ref d) "dict":=⟨o,ho,hc.1⟩;let nSd:S≠d:=λe=>by lia
 let nSI:=Il (H6 hS);let ndI:=Il (H6 ho);let nSf:S∉[s.heap.objs.size,d]:=λhm=>by
  simp_all
 refine HJ (Kn ty ?_)
 simp![show J7 (.ref S) (.ref d)=Y by simp[J7,nSd],show(JW "dict"==JW "list")=Y by decide,show(JW "dict"==JW "tuple")=Y by decide,O1,Ig,if_false]
 refine HJ (ou hd ho hc hdat (HJ (Ij ?_)))
 let ho1:(s.heap.push {cls:=.type "dict_keyiterator",data:=.fields #[.ref d,.int 0 0,.int es.size 0,.int ep 0]}).get? d=U o:=HL _ ho
 let ty1:JV {s with heap:=s.heap.push {cls:=.type "dict_keyiterator",data:=.fields #[.ref d,.int 0 0,.int es.size 0,.int ep 0]}} (.ref d) "dict":=⟨o,ho1,hc.1⟩
 refine HJ (Kx ty1 F.slot_dict_len.lookup ?_)
 refine HJ (Kf ty1 (b:=V) (by rfl) ?_)
 refine HJ (Kn ty1 (HK ?_))
 let hS1:(s.heap.push {cls:=.type "dict_keyiterator",data:=.fields #[.ref d,.int 0 0,.int es.size 0,.int ep 0]}).get? S=U {cls:=.type "list",data:=.seq #[] c₀}:=HL _ hS
 refine HJ (Ju (HJ ?_))
 let hS2:=H7 (IK (·.push JG)) hS1 rfl
 refine HJ (JS hS1 rfl (JS (hz:=by seq_fits) hS2 rfl ?_))
 let hS3:=H7 (IK (·.pop)) hS2 rfl
 let oth:∀b o,b≠S->(s.heap.push {cls:=.type "dict_keyiterator",data:=.fields #[.ref d,.int 0 0,.int es.size 0,.int ep 0]}).get? b=U o->(((s.heap.push {cls:=.type "dict_keyiterator",data:=.fields #[.ref d,.int 0 0,.int es.size 0,.int ep 0]}).update S (IK (·.push JG))).update S (IK (·.pop))).get? b=U o:=
  λb o hb e=>(HX _ _ (Ib hb)).trans ((HX _ _ (Ib hb)).trans e)
 refine HK ⟨Jo NO _,NI (tK (A:=A.in1) (show A.in1.handled=B from hh) s.heap.objs.size d ndI hdat).toS hn _ nSf _ es.size 0 _ _ _ rfl (Im _) ⟨⟨_,oth _ _ (Ib nSI) (HO _ rfl),rfl,rfl⟩,oth _ _ (Ib nSd) ho1⟩ hS3 (O5 _) λs' acc' c' hm hS' hacc=>?_⟩
 rw[Moved.eq_with hm];refine hR s'.heap s'.toks acc' c' (λb ob hb e=>hm.heap b ob (λhmem=>?_) (oth b ob hb (HL _ e))) hS' hacc
 rcases qaa.mp hmem with e'|hmem
 ·exact hb e'
 ·rw[on.mp hmem]at e;exact absurd (H6 e) (J0 _)
def kE {Q:HM->HN->Prop}(hh:A.handled=B) {d:HZ}{o:LW}{es:Array Kk}{ep:Nat}(hd:(d==sysModules)=Y) (ho:s.heap.get? d=U o) (hc:o.ExactDict) (hdat:o.data=.dict es ep) (hn:es.size<=sizeLine)
  (hQ:∀h' tk acc' c',(∀b o,s.heap.get? b=U o->h'.get? b=U o)->h'.get? s.heap.objs.size=U {cls:=.type "list",dict:=B,data:=.seq acc' c',slots:=#[]}->Pa (λi v=>∃e,es[i]?=U e/\v=e.key) acc' es.size->Q (.ref s.heap.objs.size) {s with heap:=h',toks:=tk}):
  wpAny (model prog w) A (call (.type "list") [.ref d]) Q E s:=by
 refine NJ (Q₁:=λobj s₁=>obj=.ref s.heap.objs.size/\s₁={s with heap:=s.heap.push {cls:=.type "list",data:=.seq #[]}}) F.called_list (F.typeCall_list_1 _) F.entry_list_init (code_list_new _ ⟨rfl,rfl⟩) λobj s₁ h₁=>?_
 let⟨rfl,rfl⟩:=h₁;let hS:(s.heap.push {cls:=.type "list",data:=.seq #[]}).get? s.heap.objs.size=U {cls:=.type "list",data:=.seq #[]}:=HO _ rfl
 refine⟨⟨_,hS,rfl⟩,F.args_list_init_2 _ _,?_⟩
 refine HJ ?_
 refine HJ (Jk hS rfl (HK ?_))
 let hS2:=H7 (IK (λ_=>(#[]:Array HM))) hS rfl
 let up:∀b ob,s.heap.get? b=U ob->((s.heap.push {cls:=.type "list",data:=.seq #[]}).update s.heap.objs.size (IK (λ_=>(#[]:Array HM)))).get? b=U ob:=λb ob e=>(HX _ _ (Ib (Il (H6 e)))).trans (HL _ e)
 refine HJ (JS hS rfl (HJ (KZ ?_)))
 exact jr (A:=A.in1) hh hd (up d o ho) hc hdat hn .none hS2 λh' tk acc' c' hk hS' hacc=>⟨rfl,hQ h' tk acc' c' (λb ob e=>hk b ob (Il (H6 e)) (up b ob e)) hS' hacc⟩
end
open PySem.W in
section
open PySem.W
def bJ:entryFor table "dict.update.loop"=U Lo.«dict.update.loop»:=entryFor_of_tree (by kernel_rfl)
def bL:plainId "dict.update.loop"=V:=by decide +kernel
def vi:typeLookup (.type "list") "keys"=pure B:=by rfl
def xd {prog:IZ}{w:JA}{A:Ia}{E:HM->HN->Prop}{s:HN}{a:HZ}{o:LW}{xs:Array HM}{k:Nat}{Q:Qq HM->HN->Prop}
  (hx:s.heap.get? a=U o) (hc:o.cls=.type "list") (hdat:o.data=.seq xs k) (hd:o.dict=B) (hA:A.handled=B)
  (h:∀h' tk,(∀b o,s.heap.get? b=U o->h'.get? b=U o)->Q B {s with heap:=h',toks:=tk}):wpAny (model prog w) A (getAttr? (.ref a) "keys") Q E s:=by
 let⟨c,dct,dat,sl⟩:=o;simp only at hc hdat hd;subst hc hdat hd;let⟨hp,g,d,tk,os⟩:=s;let hT:∀tk',(⟨hp,g,d,tk',os⟩:HN).TypeIs (.ref a) "list":=λ_=>⟨_,hx,rfl⟩
 let f1:=sub_AttributeError;let f3:=F.slot_list_getattribute.lookup;let f4:=F.slot_list_getattribute.bind (.ref a);let f5:=am_list_getattr_none;unfold getAttr? getAttrBy? getAttrBy
 repeat (any_goals (first|assumption|exact hT _|((with_reducible show wpAny _ _ (call (Value.builtin "list.__getattribute__") _ _) _ _ _);refine K2 F.slot_list_getattribute (hT _) am_entry_list_getattribute (F.args_list_getattribute_2 _ _) (meets_getattribute_miss_list a xs k sl _ _ vi (by decide) (by decide)) ⟨hx,hA,λh' tk' e hx'=>?_⟩)|wp_step))
 let⟨t',u',he⟩:=hx'.there;show wpAny _ _ (getattributeRaised _ _ _ _ _ _ _) _ _ _;unfold getattributeRaised
 repeat (any_goals (first|assumption|wp_step))
 exact h _ _ hx'.keeps
end
section
variable{X:Cx}{M M':Mp}{δ:DEnv}{s:HN}{tg a:Expr}{fa:DEnv->Qq D}{m m' bb:Bool}{p pos:MR}
def uY (hh:A.handled=B) (q:Rd m M c o) (dc:DcO bb o ks us vs) (he:o.data=.dict es ep) (rk:Rs m M ks us):C5 A tg m M ks [it] it (λi h=>h.IsKeyIter it c i es.size ep) where
 ex:=λ⟨o,e,_⟩ b hb=>by
   obtain rfl:b=it:=by simpa using hb
   exact⟨o,e⟩
 keep:=λst k=>st.at λo e=>k it (by simp) o e
 item:=λ{i s d} st h e=>by
  let⟨l1,l2,l3,ha⟩:=dc.at he;let⟨u,h1,h2⟩:=rk.get e;refine gM hh st (h _ _ q) he (λen hen h' st' sb=>?_) λhn=>?_
  ·have:=(ha i).2.1
   rw[hen,h1]at this;injection this with this;subst this
   let⟨o,e,c,d⟩:=id st';exact⟨_,rfl,uP (s:={s with heap:=h'}) e c d (by decide) ⟨gT (t:=s.toks) sb,st',.inl h2⟩⟩
  ·have:=(ha i).2.1;rw[hn,h1]at this;cases this
 done:=λ{s} st h=>by
  let⟨l1,l2,l3,ha⟩:=dc.at he;exact gM hh st (h _ _ q) he (λen hen=>by rw[Ki (by lia)]at hen;cases hen) λhn h' eb=>⟨rfl,ir eb⟩
 self:=λst h=>wpAny_pyIter_keyiter st h
def iZ {us:Qw HM}{acc:Array HM}{P:Nat->HM->Prop}(h:Pa P acc us.length) (hp:∀i v,P i v->us[i]?=U v):acc=us.toArray:=by
 refine Array.ext_getElem? λi=>?_
 by_cases hi:i<acc.size
 ·rw[Jd hi,Na,hp i _ (h.2 i _ (Jd hi))]
 ·have:=h.1;rw[Ki (by lia),Ki (by simp;lia)]
def qK (h:sP d=U (k,v)):d=.tup [k,v]/\kOk V k=V:=by
 unfold sP at h;split at h<;>try cases h
 split at h<;>cases h
 exact⟨rfl,qD (by assumption)⟩
nonrec theorem tH {X:Cx}{δ:DEnv}{A:Ia}{d l it:HZ}{ol:LW}{ws:Qw HM}{dsl:Qw D}{M:Mp}{R':L9->HN->Prop}(hu:A.units+40<cLine) (hh:A.handled=B) (ql:Rd Y M l ol) (tl:LstO ol ws) (rl:Rs Y M dsl ws) (hne:it≠d) (fd:Free X M d) (fi:Free X M it):
  ∀(n i:Nat) (t:Tok) (s:HN) (o:LW) (ks ds:Qw D) (us vs:Qw HM) (ps:Qw (D×D)),i+n=dsl.length->gY (dsl.drop i)=U ps->Inv X M δ s->s.heap.get? d=U o->DcO V o ks us vs->Rs Y M ks us->Rs Y M ds vs->ks.length+n<lim->s.heap.IsListIter it l i->
   (∀s' o' us' vs',Inv X M δ s'->s'.heap.get? d=U o'->DcO V o' (l8 ks ds ps).1 us' vs'->Rs Y M (l8 ks ds ps).1 us'->Rs Y M (l8 ks ds ps).2 vs'->R' (.ok (.ret .none)) s')->
   codeAny (model P w) A (.builtin "dict.update.loop" ⟨[.ref d,.ref it,.int i t,.none],[]⟩) R' s:=by
 intro n
 induction n with
 |zero=>
  intro i t s o ks ds us vs ps hi hp I hd dc rk rs hl st hR;refine IW bJ ?_
  refine HJ (Nz hh st (tl.is I.heap ql) (by have:=rl.length;simp;lia) λh' eb=>?_)
  rw[MS (by lia)]at hp;cases hp
  refine HJ (HK (HK (hR _ _ _ _ (I.ch (ir eb) (λb hb=>by rw[on.mp hb];exact fi)) (eb _ _ (Ib hne) hd) dc rk rs)))
 |succ n ih=>
  intro i t s o ks ds us vs ps hi hp I hd dc rk rs hl st hR;refine IW bJ ?_
  let hip:i<dsl.length:=by lia
  rw[Jl hip]at hp;simp![gY]at hp;split at hp<;>cases hp
  rename_i pp ps' q1 q2;let⟨pk,pv⟩:=pp;let⟨ed,hk⟩:=qK q1;let⟨u,hu1,ru⟩:=rl.get (i:=i) (d:=dsl[i]) (by simp[hip])
  refine HJ (Nk st (tl.is I.heap ql) (x:=u) (by simpa using hu1) λh' st' sb=>?_)
  let I1:Inv X M δ {s with heap:=h'}:=I.ch (gT (t:=s.toks) sb) λb hb=>by rw[on.mp hb];exact fi
  rw[ed]at ru;let⟨b,to,tis,rfl,tq,tt,rr⟩:=ru;let⟨ku,vu,rfl,rk1,rv1⟩:=rr.is2;let⟨to,tg,tc,tn,td⟩:=tt.is I1.heap tq;refine HJ (Ij (HJ (KP ?_)))
  refine HJ (Kn (show JV {s with heap:=h'} (.ref b) "tuple" from⟨_,tg,tc⟩) ?_)
  refine HJ (HJ (ME tg ?_))
  rw[td];refine HK (HK ?_)
  let hlim:=aA (HQ lim);refine Ij (GV (s:={s with heap:=h'}) (show A.units+1+30<cLine by lia) I1.heap ((sb.2 d (Ib hne)).trans hd) dc rk hk rk1 (by lia) λh2 tk o2 hs2 g2 dc2=>?_)
  refine HK ⟨Jo bL _,?_⟩
  let hlen:(aC pk ks).length<=ks.length+1:=by unfold aC;split<;>simp
  refine ih (i+1) 0 _ o2 (aC pk ks) (bB pk pv ks ds) _ _ ps' (by lia) q2 (I1.wr (s':={s with heap:=h2,toks:=tk}) [d] (λb hb=>by rw[on.mp hb];exact fd) λb o hb e=>(hs2.2 b (λz=>hb (by simp[z]))).trans e) g2 dc2 (vp rk rk1) (sk rs rv1) (by lia) ?_ hR
  let⟨o,ho,hc,hd'⟩:=st';exact⟨o,(hs2.2 it hne).trans ho,hc,hd'⟩
nonrec theorem y0 (g:Bn X "dict") (ha:DE X Y a fa):DF X (.Call (.Name "dict" p) [a] [] pos) (λδ=>kN (fa δ)):=⟨rfl,λ{M δ s d Q} I e k=>by
 unfold kN at e;split at e<;>try cases e
 split at e<;>try cases e
 split at e<;>cases e
 rename_i ds q0 _ ps qp hl;refine cQ g (by rfl:bootBuiltins "dict"=U (.type "dict")) ha I q0 λv s1 M1 x1 I1 r=>?_
 let⟨l,ol,ws,rfl,ql,tl,rl⟩:=r;let hh:=I.ok.room.hd;let un:=I1.un;refine NJ (Q₁:=λobj s₁=>obj=.ref s1.heap.objs.size/\s₁={s1 with heap:=s1.heap.push {cls:=.type "dict",data:=.dict #[]}}) F.kt_called_dict (F.kt_typeCall_dict_1 _) F.entry_dict_init (kt_code_dict_new _ ⟨rfl,rfl⟩) ?_
 rintro obj s₁ ⟨rfl,rfl⟩
 let fd:=I1.fresh (HQ _);let I2:Inv X M1 δ {s1 with heap:=s1.heap.push {cls:=.type "dict",data:=.dict #[]}}:=I1.push (t:=s1.toks)
 let hT:JV {s1 with heap:=s1.heap.push {cls:=.type "dict",data:=.dict #[]}} (.ref s1.heap.objs.size) "dict":=⟨_,HO _ rfl,rfl⟩
 let⟨n,hol⟩:=tl.obj I2.heap ql;refine⟨hT,F.args_dict_init_2 _ _,?_⟩
 refine HJ (HJ (Kd hT (HK ?_)))
 refine HJ (Kn (show JV {s1 with heap:=s1.heap.push {cls:=.type "dict",data:=.dict #[]}} (.ref l) "list" from⟨_,hol,rfl⟩) ?_)
 refine HJ (xd hol rfl rfl rfl (by simp[hh]) λh2 tk2 kp2=>?_)
 let I3:Inv X M1 δ {s1 with heap:=h2,toks:=tk2}:=I2.kp kp2
 refine HJ (Ju (HJ (Lb (tl.is I3.heap ql) (HK ⟨Jo bL _,?_⟩))))
 let hd2:=kp2 _ _ (HO (h:=s1.heap) (o:={cls:=.type "dict",data:=.dict #[]}) rfl)
 refine tH (X:=X) (δ:=δ) (A:=X.A.in1) (show X.A.units+1+40<cLine by lia) (by simp[hh]) ql tl rl (JI (H6 hd2)) fd (I3.fresh (HQ _)) ds.length 0 0 _ _ [] [] [] [] ps (by lia) (by simpa using qp) (I3.push (t:=tk2)) (HL _ hd2) rh rfl rfl (by simpa using hl) ⟨_,HO _ rfl,rfl,rfl⟩ λs' o' us' vs' I' g' dc' rk' rs'=>?_
 exact⟨rfl,k _ _ _ _ x1 I' fd g' ⟨us',vs',dc',rk',rs'⟩⟩⟩
end
end L2
namespace L2
open PySem PySem.Spec PyProof.Rows Md
def ItAt (t:Bool) (h:Jr) (c q:HZ) (n:Nat):Prop:=if t=V then h.IsTupleIter c q n else h.IsListIter c q n
def SqAt (t:Bool) (h:Jr) (q:HZ) (vs:Array HM):Prop:=if t=V then h.IsTuple q vs else h.IsList q vs
def ItAt.obj {t:Bool}{h:Jr}{c q:HZ}{n:Nat}(x:ItAt t h c q n):∃o,h.get? c=U o/\o.cls=.type (if t=V then "tuple_iterator" else "list_iterator")/\o.data=.fields #[.ref q,.int n 0]:=by
 cases t<;>exact x
def ItAt.to {t:Bool}{h h':Jr}{c q:HZ}{n:Nat}(x:ItAt t h c q n) (k:∀o,h.get? c=U o->h'.get? c=U o):ItAt t h' c q n:=by
 cases t<;>(let⟨o,e,r⟩:=x;exact⟨o,k o e,r⟩)
def SqAt.to {t:Bool}{h h':Jr}{q:HZ}{vs:Array HM}(x:SqAt t h q vs) (k:∀o,h.get? q=U o->h'.get? q=U o):SqAt t h' q vs:=by
 cases t<;>(let⟨o,e,r⟩:=x;exact⟨o,k o e,r⟩)
section
variable{prog:IZ}{w:JA}{A:Ia}{E:HM->HN->Prop}{s:HN}
def zS {c q:HZ}{n:Nat}{vs:Array HM}{Q:HM->HN->Prop}(hh:A.handled=B) (hc:s.heap.IsTupleIter c q n) (hq:s.heap.IsTuple q vs)
  (some':∀v,vs[n]?=U v->∀h',h'.IsTupleIter c q (n+1)->IM c s.heap h'->Q v {s with heap:=h'})
  (none':vs[n]?=B->∀h' e,MA c s.heap h'->(∃o,h'.get? e=U o/\o.cls=.type "StopIteration")->E (.ref e) {s with heap:=h'}):
  wpAny (model prog w) A (Ng (.ref c)) Q E s:=by
 let ty:=hc.typeIs;let⟨oc,gc,kc,dc⟩:=hc;let⟨oq,gq,_,m,dq⟩:=hq;refine HJ (IC (name:=IU "__next__") ty O6 (Ii O6 ty F.entry_tuple_iterator_next ?body (F.args_tuple_iterator_next_1 _)))
 change wpAny _ _ (field (.ref c) 0 >>= _) _ E s;refine HJ (K0 gc dc (x:=.ref q) rfl ?_)
 refine HJ (K0 gc dc (x:=.int n 0) rfl (HJ (Jk gq dq ?_)))
 simp![Kw]
 rcases hv:vs[n]? with _|v
 ·refine HJ (Ju (HJ (JN gc dc (by simp) (HJ (HJ (Ir ?_ (by size_fits)))))))
  refine HJ (m:=firstArgMember _ _) (Ml (a:=JG) (by rfl) (Ir ?_ (by size_fits)))
  refine HJ (MU ?_)
  rw[show A.in1.handled=B from hh]
  exact HJ (HK (NG (none' hv _ _ (((IG ..).extBut.push _).push _) ⟨_,HO _ rfl,rfl⟩)))
 ·refine HJ (JN gc dc (by simp) (HK ⟨v,rfl,HK (some' v hv _ ⟨_,H7 _ gc (JD (IF dc _)),?_,?_⟩ (IG ..))⟩))
  ·rw[K4];exact kc
  ·rw[IF dc];rfl
theorem Hg {t:Bool}{c q:HZ}{n:Nat}{vs:Array HM}{Q:HM->HN->Prop}(hh:A.handled=B) (hc:ItAt t s.heap c q n) (hq:SqAt t s.heap q vs)
  (some':∀v,vs[n]?=U v->∀h',ItAt t h' c q (n+1)->IM c s.heap h'->Q v {s with heap:=h'})
  (none':vs[n]?=B->∀h' e,MA c s.heap h'->(∃o,h'.get? e=U o/\o.cls=.type "StopIteration")->E (.ref e) {s with heap:=h'}):
  wpAny (model prog w) A (Ng (.ref c)) Q E s:=by
 cases t with
 |true=>exact zS hh hc hq some' none'
 |false=>
  rcases hv:vs[n]? with _|v
  ·exact wpAny_nextOf_list_end hh hc hq hv (none' hv)
  ·exact wpAny_nextOf_list_item hc hq hv (some' v hv)
end
structure Zp (t u:Bool) (h:Jr) (z P O c d p q:HZ) (n:Nat) (f:HM):Prop where
 zz:IsZip h z P O f
 pp:Oa h P (.ref c) (.ref d)
 oo:∃a b,Oa h O a b
 cc:ItAt t h c p n
 dd:ItAt u h d q n
structure Ap (z P O c d p q:HZ):Prop where
 nd:[z,P,O,c,d].Nodup
 p:p∉[z,P,O,c,d]
 q:q∉[z,P,O,c,d]
def ak {a b:HZ}{h h':Jr}{o:LW}(k:IM a h h') (n:b≠a) (e:h.get? b=U o):h'.get? b=U o:=(k.2 b n).trans e
section
variable{prog:IZ}{w:JA}{A:Ia}{E:HM->HN->Prop}{s:HN}
def Ag {t u:Bool}{z P O c d p q:HZ}{n:Nat}{xs ys:Array HM}{Q:HM->HN->Prop}(hh:A.handled=B) (ap:Ap z P O c d p q) (Z:Zp t u s.heap z P O c d p q n .none)
  (hp:SqAt t s.heap p xs) (hq:SqAt u s.heap q ys)
  (item:∀x y,xs[n]?=U x->ys[n]?=U y->∀h',Zp t u h' z P O c d p q (n+1) (rawInt s.heap.objs.size)->Oa h' s.heap.objs.size x y->h'.objs.size=s.heap.objs.size+1->
   (∀b o,b∉[z,P,O,c,d]->s.heap.get? b=U o->h'.get? b=U o)->Q (.ref s.heap.objs.size) {s with heap:=h'})
  (stop:(xs[n]?=B\/ys[n]?=B)->∀h' e,(∀b o,b∉[z,P,O,c,d]->s.heap.get? b=U o->h'.get? b=U o)->(∃o,h'.get? e=U o/\o.cls=.type "StopIteration")->E (.ref e) {s with heap:=h'}):
  wpAny (model prog w) A (Lo.«zip.__next__» ⟨[.ref z],[]⟩) (λr s'=>∃v,r=.done (.ret v)/\Q v s') E s:=by
 let⟨zz,pp,⟨a,b,oo⟩,cc,dd⟩:=Z;let nd:=ap.nd;let np:=ap.p;let nq:=ap.q;simp![J8,ID,Je,or_false,not_or,Jf,and_true,not_false_eq_true]at nd np nq;let⟨⟨zP,zO,zc,zd⟩,⟨PO,Pc,Pd⟩,⟨Oc,Od⟩,cd⟩:=nd;let⟨pz,pP,pO,pc,pd⟩:=np;let⟨qz,qP,qO,qc,qd⟩:=nq;change wpAny _ _ (field (.ref z) 2 >>= _) _ E s;refine HJ (K0 zz rfl (x:=.bool Y) rfl ?_)
 refine HJ (K0 zz rfl (x:=.ref P) rfl (HJ (Jk pp rfl ?_)))
 refine HJ (HJ (K0 zz rfl (x:=.none) rfl (HK ?_)))
 refine HJ (Ju (HJ (K0 zz rfl (x:=.ref O) rfl (HJ (Jy zz (by simp) λk₁ g₁ m₁=>HJ ?_)))))
 let z₁:=g₁;refine HJ (HJ (wpAny_onRaise ?_))
 refine HJ (Hg (t:=t) hh (cc.to λo e=>ak m₁ (Ib zc) e) (hp.to λo e=>ak m₁ pz e) (λx hx k₂ c₂ m₂=>HK ?_) λhx k₂ e m₂ he=>?_)
 ·let o₂:=ak m₂ Oc (ak m₁ (Ib zO) oo)
  refine HJ (Jk o₂ rfl (HJ (wpAny_updateSeq_pair o₂ λk₃ g₃ m₃=>HJ (KZ (HK ?_)))))
  let o₃:=g₃;refine HJ (HJ (wpAny_onRaise ?_))
  refine HJ (Hg (t:=u) hh (dd.to λo e=>ak m₃ (Ib Od) (ak m₂ (Ib cd) (ak m₁ (Ib zd) e))) (hq.to λo e=>ak m₃ qO (ak m₂ qc (ak m₁ qz e))) (λy hy k₄ d₄ m₄=>HK ?_) λhy k₄ e m₄ he=>?_)
  ·let o₄:=ak m₄ Od o₃
   refine HJ (Jk o₄ rfl (HJ (wpAny_updateSeq_pair o₄ λk₅ g₅ m₅=>HJ (KZ (HK (HK ?_))))))
   let o₅:Oa k₅ O x y:=g₅;let old:∀f o,f≠z->f≠O->f≠c->f≠d->s.heap.get? f=U o->k₅.get? f=U o:=λf o n1 n2 n3 n4 e=>ak m₅ n2 (ak m₄ n4 (ak m₃ n2 (ak m₂ n3 (ak m₁ n1 e))))
   let sz:k₅.objs.size=s.heap.objs.size:=by rw[m₅.1,m₄.1,m₃.1,m₂.1,m₁.1]
   let z₅:=ak m₅ zO (ak m₄ zd (ak m₃ zO (ak m₂ zc z₁)));refine HJ (Jk o₅ rfl (HJ (Pb ?_)))
   let z₆:IsZip (k₅.push {cls:=.type "tuple",data:=.seq #[x,y]}) z P O .ellipsis:=HL _ z₅
   refine HJ (HJ (Jy z₆ (by simp) λk₇ g₇ m₇=>?_))
   let z₇:=g₇;refine Jy z₇ (by simp) λk₈ g₈ m₈=>HK ⟨_,rfl,?_⟩
   let z₈:=g₈;let up:∀f o,f≠z->k₅.get? f=U o->k₈.get? f=U o:=λf o n1 e=>ak m₈ n1 (ak m₇ n1 (HL _ e))
   let lz:=H6 z₅;let new:=ak m₈ (JI lz) (ak m₇ (JI lz) (HO _ rfl))
   let sz8:k₈.objs.size=k₅.objs.size+1:=by rw[m₈.1,m₇.1,IP]
   rw[sz]at z₈ new sz8⊢;refine item x y hx hy k₈ ⟨z₈,up _ _ (Ib zP) (old _ _ (Ib zP) PO Pc Pd pp),⟨x,y,up _ _ (Ib zO) o₅⟩,?_,?_⟩ new sz8 λf o hf e=>?_
   ·exact c₂.to λo e=>up _ o (Ib zc) (ak m₅ (Ib Oc) (ak m₄ cd (ak m₃ (Ib Oc) e)))
   ·exact d₄.to λo e=>up _ o (Ib zd) (ak m₅ (Ib Od) e)
   simp_all
  ·let⟨oe,ge,ke⟩:=he
   let z₄:=m₄ _ _ zd (ak m₃ zO (ak m₂ zc z₁));let ez:e≠z:=λr=>by lia
   refine Jy z₄ (by simp) λk₅ _ m₅=>stop (.inr hy) k₅ e (λf o hf g=>?_) ⟨oe,ak m₅ ez ge,ke⟩
   simp![ID,Je,or_false,not_or]at hf;let⟨n1,_,n2,n3,n4⟩:=hf;exact ak m₅ n1 (m₄ _ _ n4 (ak m₃ n2 (ak m₂ n3 (ak m₁ n1 g))))
 ·let⟨oe,ge,ke⟩:=he
  let z₂:=m₂ _ _ zc z₁;let ez:e≠z:=λr=>by lia
  refine Jy z₂ (by simp) λk₃ _ m₃=>stop (.inl hx) k₃ e (λf o hf g=>?_) ⟨oe,ak m₃ ez ge,ke⟩
  simp![ID,Je,or_false,not_or]at hf;exact ak m₃ hf.1 (m₂ _ _ hf.2.2.2.1 (ak m₁ hf.1 g))
end
section
variable{prog:IZ}{w:JA}{A:Ia}{E:HM->HN->Prop}{s:HN}
def rX {t u:Bool}{z P O c d p q:HZ}{n:Nat}{xs ys:Array HM}{Q:Qq HM->HN->Prop}(hh:A.handled=B) (ap:Ap z P O c d p q) (Z:Zp t u s.heap z P O c d p q n .none)
  (hp:SqAt t s.heap p xs) (hq:SqAt u s.heap q ys)
  (item:∀x y,xs[n]?=U x->ys[n]?=U y->∀h',Zp t u h' z P O c d p q (n+1) (rawInt s.heap.objs.size)->Oa h' s.heap.objs.size x y->h'.objs.size=s.heap.objs.size+1->
   (∀b o,b∉[z,P,O,c,d]->s.heap.get? b=U o->h'.get? b=U o)->Q (U (.ref s.heap.objs.size)) {s with heap:=h'})
  (stop:(xs[n]?=B\/ys[n]?=B)->∀h',(∀b o,b∉[z,P,O,c,d]->s.heap.get? b=U o->h'.get? b=U o)->Q B {s with heap:=h'}):
  wpAny (model prog w) A (pyNext (.ref z)) Q E s:=by
 let ty:s.TypeIs (.ref z) "zip":=⟨_,Z.zz,rfl⟩;refine HJ (K6 (IC (name:=IU "__next__") ty F.slot_zip_next (Ii F.slot_zip_next ty F.entry_zip_next (Ag hh ap Z hp hq (λx y hx hy h' b1 b2 b3 b4=>HK (item x y hx hy h' b1 b2 b3 b4)) λhn h' e k he=>?_) (F.args_zip_next_1 _))))
 let⟨o,ho,hc⟩:=he;exact HJ (Kf (T:="StopIteration") (b:=V) ⟨o,ho,hc⟩ MF (HK (stop hn h' k)))
end
def itO (t:Bool) (p:HZ):LW:={cls:=.type (if t=V then "tuple_iterator" else "list_iterator"),data:=.fields #[.ref p,.int 0 0]}
def gE {prog:IZ}{w:JA}{A:Ia}{E:HM->HN->Prop}{s:HN}{t:Bool}{p:HZ}{xs:Array HM}{Q:HM->HN->Prop}(hp:SqAt t s.heap p xs) (h:Q (.ref s.heap.objs.size) {s with heap:=s.heap.push (itO t p)}):wpAny (model prog w) A (pyIter (.ref p)) Q E s:=by
 cases t with
 |true=>exact wpAny_pyIter_tuple hp h
 |false=>exact Lb hp h
def zO (a b:HM):LW:={cls:=.type "tuple",data:=.seq #[a,b]}
def Fd (t u:Bool) (h:Jr) (p q:HZ):Jr:=
 ((((h.push (itO t p)).push (itO u q)).push (zO (.ref h.objs.size) (.ref (h.push (itO t p)).objs.size))).push (zO .none .none)).push
  {cls:=.type "zip",data:=.fields #[.none,.bool Y,.bool Y,.ref ((h.push (itO t p)).push (itO u q)).objs.size,.ref (((h.push (itO t p)).push (itO u q)).push (zO (.ref h.objs.size) (.ref (h.push (itO t p)).objs.size))).objs.size]}
def Da (t u:Bool) (p q:HZ) (xs ys:Array HM):
  Meets (Lo.«zip.__new__» ⟨[.type "zip",.ref p,.ref q],[]⟩) (λ_ R s=>SqAt t s.heap p xs/\SqAt u s.heap q ys/\
   R (.ok (.ret (.ref (((((s.heap.push (itO t p)).push (itO u q)).push (zO (.ref s.heap.objs.size) (.ref (s.heap.push (itO t p)).objs.size))).push (zO .none .none)).objs.size)))) {s with heap:=Fd t u s.heap p q}):=
 .of_wp λprog w A R s h=>by
  let⟨hp,g,d,tk,os⟩:=s;let⟨h1,h2,h⟩:=h;let hsub:=sub_zip;let k1:=h1;let k2:SqAt u (Shared.heap ⟨hp.push (itO t p),g,d,tk,os⟩) q ys:=h2.to λo e=>HL _ e
  wp_walk using gE k1,gE k2
  exact⟨_,rfl,h⟩
def yL {prog:IZ}{w:JA}{A:Ia}{E:HM->HN->Prop}{s:HN}{t u:Bool}{p q:HZ}{xs ys:Array HM}{Q:HM->HN->Prop}(hp:SqAt t s.heap p xs) (hq:SqAt u s.heap q ys)
  (h:∀z P O c d h',Ap z P O c d p q->Zp t u h' z P O c d p q 0 .none->(∀b∈[z,P,O,c,d],s.heap.objs.size<=b)->(∀b o,s.heap.get? b=U o->h'.get? b=U o)->Q (.ref z) {s with heap:=h'}):
  wpAny (model prog w) A (call (.type "zip") [.ref p,.ref q]) Q E s:=by
 refine callType_new F.called_zip (by decide) (F.typeCall_zip_2 _ _) (F.newCall_zip_2 _ _) (λobj=>F.args_object_init_3 obj _ _) F.entry_zip_new (Da t u p q xs ys) ⟨hp,hq,?_⟩
 let lp:p<s.heap.objs.size:=by cases t<;>(let⟨o,e,_⟩:=hp;exact H6 e)
 let lq:q<s.heap.objs.size:=by cases u<;>(let⟨o,e,_⟩:=hq;exact H6 e)
 generalize e1:s.heap.push (itO t p)=k1;generalize e2:k1.push (itO u q)=k2;generalize e3:k2.push (zO (.ref s.heap.objs.size) (.ref k1.objs.size))=k3;generalize e4:k3.push (zO .none .none)=k4;let hL:Fd t u s.heap p q=k4.push {cls:=.type "zip",data:=.fields #[.none,.bool Y,.bool Y,.ref k2.objs.size,.ref k3.objs.size]}:=by unfold Fd;rw[e1,e2,e3,e4]
 let s1:k1.objs.size=s.heap.objs.size+1:=by rw[<-e1];exact IP ..
 let s2:k2.objs.size=s.heap.objs.size+2:=by rw[<-e2,IP,s1]
 let s3:k3.objs.size=s.heap.objs.size+3:=by rw[<-e3,IP,s2]
 let s4:k4.objs.size=s.heap.objs.size+4:=by rw[<-e4,IP,s3]
 let u1:∀{b o},s.heap.get? b=U o->k1.get? b=U o:=λe=>by rw[<-e1];exact HL _ e
 let u2:∀{b o},k1.get? b=U o->k2.get? b=U o:=λe=>by rw[<-e2];exact HL _ e
 let u3:∀{b o},k2.get? b=U o->k3.get? b=U o:=λe=>by rw[<-e3];exact HL _ e
 let u4:∀{b o},k3.get? b=U o->k4.get? b=U o:=λe=>by rw[<-e4];exact HL _ e
 let u5:∀{b o},k4.get? b=U o->(Fd t u s.heap p q).get? b=U o:=λe=>by rw[hL];exact HL _ e
 let z5:IsZip (Fd t u s.heap p q) k4.objs.size k2.objs.size k3.objs.size .none:=by rw[hL];exact HO _ rfl
 let o5:=u5 (by rw[<-e4];exact HO _ rfl)
 let p5:=u5 (u4 (by rw[<-e3];exact HO _ rfl))
 let d5:=u5 (u4 (u3 (by rw[<-e2];exact HO _ rfl)))
 let c5:=u5 (u4 (u3 (u2 (by rw[<-e1];exact HO _ rfl))))
 refine⟨⟨_,z5,rfl⟩,h k4.objs.size k2.objs.size k3.objs.size s.heap.objs.size k1.objs.size _ ⟨?_,?_,?_⟩ ⟨z5,p5,⟨_,_,o5⟩,?_,?_⟩ ?_ λb o e=>u5 (u4 (u3 (u2 (u1 e))))⟩
 ·rw[s1,s2,s3,s4]
  simp![J8,ID,Je,or_false,not_or,Jf,and_true,not_false_eq_true];refine⟨⟨?_,?_,?_,?_⟩,⟨?_,?_,?_⟩,⟨?_,?_⟩,?_⟩<;>(intro e;let e':(_:Nat)=_:=e;lia)
 ·simp;lia
 ·simp;lia
 ·cases t<;>exact⟨_,c5,rfl,rfl⟩
 ·cases u<;>exact⟨_,d5,rfl,rfl⟩
 simp;lia
def iJ:Qw D->Qw D->Qw D
 |d::ds,e::es=>.tup [d,e]::iJ ds es
 |_,_=>[]
theorem o7:∀(ds es:Qw D) (i:Nat) (x:D),(iJ ds es)[i]?=U x->∃d e,ds[i]?=U d/\es[i]?=U e/\x=.tup [d,e]
 |[],_,i,x,h=>by trivial
 |d::ds,[],i,x,h=>by trivial
 |d::ds,e::es,0,x,h=>by simp[iJ]at h;exact⟨d,e,rfl,rfl,h.symm⟩
 |d::ds,e::es,i+1,x,h=>by simpa using o7 ds es i x h
theorem oB:∀ds es:Qw D,(iJ ds es).length=min ds.length es.length
 |[],_=>by rfl
 |d::ds,[]=>by rfl
 |d::ds,e::es=>by simp[iJ,oB ds es]
def GG (t:Bool) (x:Qq D):Qq (Qw D):=if t=V then yp x else dj x
def DH (t u:Bool) (x y:Qq D):Qq (Qw D):=ae (GG t x) λds=>ae (GG u y) λes=>U (iJ ds es)
abbrev IsZ (h:Jr) (z P O:HZ) (f:HM) (b:Bool):Prop:=
 h.get? z=U {cls:=.type "zip",dict:=B,data:=.fields #[f,.bool b,.bool Y,.ref P,.ref O],slots:=#[]}
structure Zq (t u:Bool) (h:Jr) (z P O c d p q:HZ) (n:Nat) (T:HZ) (b:Bool):Prop where
 zz:IsZ h z P O (rawInt T) b
 al:∃o,h.get? T=U o
 pp:Oa h P (.ref c) (.ref d)
 oo:∃a b,Oa h O a b
 cc:ItAt t h c p n
 dd:ItAt u h d q n
section
variable{prog:IZ}{w:JA}{A:Ia}{E:HM->HN->Prop}{s:HN}
def ZS (t u:Bool) (h:Jr) (z P O c d p q:HZ) (n:Nat):Prop:=Zp t u h z P O c d p q n .none\/∃T b,T∉[z,P,O,c,d]/\Zq t u h z P O c d p q n T b
def ZS.to {t u:Bool}{h h':Jr}{z P O c d p q:HZ}{n:Nat}{S:HZ}(Z:ZS t u h z P O c d p q n) (k:∀b o,b≠S->h.get? b=U o->h'.get? b=U o) (hS:S∉[z,P,O,c,d]) (he:∃o,h'.get? S=U o):ZS t u h' z P O c d p q n:=by
 let ne:∀b∈[z,P,O,c,d],b≠S:=λb hb e=>hS (by rw[<-e];exact hb)
 rcases Z with⟨zz,pp,⟨a,b,oo⟩,cc,dd⟩|⟨T,bo,nT,⟨zz,⟨o,al⟩,pp,⟨a,b,oo⟩,cc,dd⟩⟩
 ·exact .inl ⟨k _ _ (ne z (by simp)) zz,k _ _ (ne P (by simp)) pp,⟨a,b,k _ _ (ne O (by simp)) oo⟩,cc.to λo e=>k _ o (ne c (by simp)) e,dd.to λo e=>k _ o (ne d (by simp)) e⟩
 ·refine .inr ⟨T,bo,nT,k _ _ (ne z (by simp)) zz,?_,k _ _ (ne P (by simp)) pp,⟨a,b,k _ _ (ne O (by simp)) oo⟩,cc.to λo e=>k _ o (ne c (by simp)) e,dd.to λo e=>k _ o (ne d (by simp)) e⟩
  grind
def Made (h:Jr) (lo:HZ) (xs ys:Array HM):Nat->Qw HM->Prop
 |_,[]=>True
 |i,v::r=>∃T x y,v=.ref T/\lo<=T/\xs[i]?=U x/\ys[i]?=U y/\Oa h T x y/\(∀v'∈r,v'≠v)/\Made h lo xs ys (i+1) r
theorem Made.to {h h':Jr}{lo:HZ}{xs ys:Array HM}:∀{i:Nat}{l:Qw HM},Made h lo xs ys i l->(∀T,.ref T∈l->∀o,h.get? T=U o->h'.get? T=U o)->Made h' lo xs ys i l
 |_,[],_,_=>trivial
 |i,v::r,hz,k=>by let⟨T,x,y,h1,h2,h3,h4,h5,h6,h7⟩:=hz;exact⟨T,x,y,h1,h2,h3,h4,k T (by rw[h1];simp) _ h5,h6,h7.to λT' hT=>k T' (Ic _ hT)⟩
theorem Made.snoc {h:Jr}{lo T:HZ}{xs ys:Array HM}{x y:HM}:∀{i:Nat}{l:Qw HM},Made h lo xs ys i l->lo<=T->xs[i+l.length]?=U x->ys[i+l.length]?=U y->Oa h T x y->(∀v∈l,v≠.ref T)->Made h lo xs ys i (l++[.ref T])
 |i,[],_,a1,a2,a3,a4,_=>⟨T,x,y,rfl,a1,a2,a3,a4,λv hv=>(by lia),trivial⟩
 |i,v::r,hz,a1,a2,a3,a4,a5=>by
  let⟨T',x',y',h1,h2,h3,h4,h5,h6,h7⟩:=hz;refine⟨T',x',y',h1,h2,h3,h4,h5,λv' hv'=>?_,h7.snoc a1 (by rw[H3]at a2;rw[show i+1+r.length=i+(r.length+1) by lia];exact a2) (by rw[H3]at a3;rw[show i+1+r.length=i+(r.length+1) by lia];exact a3) a4 λv' hv'=>a5 v' (Ic _ hv')⟩
  rcases qab.mp hv' with hv'|hv'
  ·exact h6 v' hv'
  ·rw[on.mp hv'];exact Ib (a5 v (Ik ..))
theorem Made.lt {h:Jr}{lo:HZ}{xs ys:Array HM}:∀{i:Nat}{l:Qw HM},Made h lo xs ys i l->∀v∈l,∃T,v=.ref T/\T<h.objs.size/\lo<=T
 |_,[],_,v,hv=>by trivial
 |i,v::r,hz,v',hv=>by
  let⟨T,x,y,h1,h2,h3,h4,h5,h6,h7⟩:=hz
  rcases qaa.mp hv with rfl|hv
  ·exact⟨T,h1,H6 h5,h2⟩
  ·exact h7.lt v' hv
end
structure En (h:Jr) (e c p:HZ) (n:Nat):Prop where
 ee:∃old,IsEnum h e c n old
 cc:h.IsListIter c p n
def BA {prog:IZ}{w:JA}{A:Ia}{E:HM->HN->Prop}{s:HN}{elts:Qw Expr}{x1} {pos:MR}{e c T:HZ}{i:Int}{x:HM}{Q:Unit->HN->Prop}(he:IsEnumOut s.heap e c i x T)
  (hQ:∀h',IsEnum h' e c i x->IM e s.heap h'->Q () {s with heap:=h'}):wpAny (model prog w) A (letOwnedTupleGo (.Tuple elts x1 pos) (.ref e) (.ref T)) Q E s:=by
 refine HJ (ME he ?_)
 change wpAny _ _ (if(["enumerate","zip","dict_itemiterator","dict_reverseitemiterator","odict_iterator","itertools.zip_longest","itertools.pairwise"].contains "enumerate"&&(#[rawInt T,.bool Y,.ref c,rawInt i,.none,x]:Array HM)[0]?==U (rawInt T))=V then _ else _) Q E s
 rw[if_pos (by simp)]
 refine HJ (Ju (Jy he (by simp) λh' g' m'=>hQ h' g' m'))
def enL (h:Jr) (p:HZ):Jr:=(h.push (itO Y p)).push {cls:=.type "enumerate",data:=.fields #[.none,.bool Y,.ref h.objs.size,rawInt 0,.none,.none]}
nonrec theorem yi (p:HZ) (xs:Array HM):Meets (Lo.«enumerate.__new__» ⟨[.type "enumerate",.ref p],[]⟩) (λ_ R s=>SqAt Y s.heap p xs/\R (.ok (.ret (.ref (s.heap.push (itO Y p)).objs.size))) {s with heap:=enL s.heap p}):=
 .of_wp λprog w A R s h=>by
  let⟨hp,g,d,tk,os⟩:=s;let⟨h1,h⟩:=h;let hsub:=sub_enumerate;let k1:=h1
  wp_walk using gE k1
  refine wpAny_stack_any λst=>HK ?_
  split
  ·rename_i c0 _ _ _ _ _
   cases (c0==JW "enumerate")<;>(wp_walk using gE k1;exact⟨_,rfl,h⟩)
  ·wp_walk using gE k1
   exact⟨_,rfl,h⟩
def uQ {prog:IZ}{w:JA}{A:Ia}{E:HM->HN->Prop}{s:HN}{p:HZ}{xs:Array HM}{Q:HM->HN->Prop}(hp:SqAt Y s.heap p xs)
  (h:∀h',IsEnum h' (s.heap.objs.size+1) s.heap.objs.size 0 .none->h'.IsListIter s.heap.objs.size p 0->(∀b o,s.heap.get? b=U o->h'.get? b=U o)->Q (.ref (s.heap.objs.size+1)) {s with heap:=h'}):
  wpAny (model prog w) A (call (.type "enumerate") [.ref p]) Q E s:=by
 refine callType_new F.called_enumerate (by decide) (F.typeCall_enumerate_1 _) (F.newCall_enumerate_1 _) (λobj=>F.args_object_init_2 obj _) F.entry_enumerate_new (yi p xs) ⟨hp,?_⟩
 let s1:(s.heap.push (itO Y p)).objs.size=s.heap.objs.size+1:=IP ..;let e5:(enL s.heap p).get? (s.heap.push (itO Y p)).objs.size=U {cls:=.type "enumerate",data:=.fields #[.none,.bool Y,.ref s.heap.objs.size,rawInt 0,.none,.none]}:=HO _ rfl
 let c5:(enL s.heap p).get? s.heap.objs.size=U (itO Y p):=HL _ (HO _ rfl)
 rw[s1]at e5;refine⟨⟨_,by rw[s1];exact e5,rfl⟩,?_⟩
 rw[s1];exact h _ e5 ⟨_,c5,rfl,rfl⟩ λb o e=>HL _ (HL _ e)
def mY (i:Nat):Qw D->Qw D
 |[]=>[]
 |d::ds=>.tup [.int i,d]::mY (i+1) ds
theorem pe:∀(ds:Qw D) (j i:Nat) (x:D),(mY j ds)[i]?=U x->∃d,ds[i]?=U d/\x=.tup [.int ((j+i:Nat):Int),d]
 |[],j,i,x,h=>by trivial
 |d::ds,j,0,x,h=>by simp_all [mY,h]
 |d::ds,j,i+1,x,h=>by
  let⟨e,h1,h2⟩:=pe ds (j+1) i x h;exact⟨e,by trivial,by rw[h2,show j+1+i=j+(i+1) by lia]⟩
theorem oA:∀(j:Nat) (ds:Qw D),(mY j ds).length=ds.length
 |_,[]=>rfl
 |j,d::ds=>by simp[mY,oA (j+1) ds]
def vM (x:Qq D):Qq (Qw D):=match x with|some (.lst ds)=>U (mY 0 ds)|_=>B
variable[Md]
section
variable{X:Cx}{M M':Mp}{δ:DEnv}{s:HN}{elts:Qw Expr}{x1:Nat}{tp:MR}{a b:Expr}{fa fb:DEnv->Qq D}{m m':Bool}{p p2 pos pos2:MR}{t u:Bool}{A:Ia}
def SqO (t:Bool) (o:LW) (vs:Qw HM):Prop:=if t=V then TupO o vs else LstO o vs
def SqO.at (q:SqO t o vs) (h:s.heap.get? c=U o):SqAt t s.heap c vs.toArray:=by
 cases t with
 |true=>exact⟨o,h,q.2⟩
 |false=>let⟨_,n,rfl⟩:=q;exact⟨_,h,rfl,n,rfl⟩
def Bo {v:HM}(h:GG t x=U ds):∃d,x=U d/\∀{m M v},R m M d v->∃c o vs,v=.ref c/\Rd m M c o/\SqO t o vs/\Rs m M ds vs:=by
 cases t with
 |true=>exact⟨_,oz h,λr=>r⟩
 |false=>exact⟨_,oJ h,λr=>r⟩
def F9:TupO {cls:=.type "tuple",data:=.seq #[x,y]} [x,y]:=⟨⟨by show 2<=sizeLine;decide,rfl⟩,rfl,_,rfl⟩
def R.pairN {h:Jr}(rd:∀a o,Rd m M a o->h.get? a=U o) (hT:h.objs.size<=T) (r1:R m M d x) (r2:R m M e y):R m (upd M T (U (.f,{cls:=.type "tuple",data:=.seq #[x,y]}))) (.tup [d,e]) (.ref T):=by
 let sb:Sub m M m (upd M T (U (.f,{cls:=.type "tuple",data:=.seq #[x,y]}))):=λb o ⟨k,e,z⟩=>⟨k,by
  rw[ai];exact e
  rintro rfl;exact absurd (H6 (rd _ _ ⟨k,e,z⟩)) (Nat.not_lt.mpr hT),z⟩
 exact⟨T,_,[x,y],rfl,⟨.f,ah,rfl⟩,F9,⟨x,[y],rfl,r1.to sb,.one (r2.to sb)⟩⟩
def Zp.ex {t u:Bool}{h:Jr}{z P O c d p q:HZ}{n:Nat}{f:HM}(Z:Zp t u h z P O c d p q n f):∀b∈[z,P,O,c,d],∃o,h.get? b=U o:=λb hb=>by
 let⟨zz,pp,⟨a,a',oo⟩,cc,dd⟩:=Z;simp![ID,Je,or_false]at hb
 rcases hb with rfl|rfl|rfl|rfl|rfl
 ·exact⟨_,zz⟩
 ·exact⟨_,pp⟩
 ·exact⟨_,oo⟩
 ·let⟨o,e,_⟩:=cc.obj;exact⟨o,e⟩
 ·let⟨o,e,_⟩:=dd.obj;exact⟨o,e⟩
def Ah {z Pr O c d p q:HZ}(hh:A.handled=B) (ap:Ap z Pr O c d p q) (q1:Rd m M p o1) (t1:SqO t o1 xs) (r1:Rs m M ds xs) (q2:Rd m M q o2) (t2:SqO u o2 ys) (r2:Rs m M es ys):
  C5 A (.Tuple elts x1 tp) m M (iJ ds es) [z,Pr,O,c,d] z (λn h=>Zp t u h z Pr O c d p q n .none) where
 ex:=λst=>st.ex
 keep:=λst k=>by
  let⟨zz,pp,⟨a,a',oo⟩,cc,dd⟩:=st;exact⟨k z (by simp) _ zz,k Pr (by simp) _ pp,⟨a,a',k O (by simp) _ oo⟩,cc.to λo e=>k c (by simp) o e,dd.to λo e=>k d (by simp) o e⟩
 item:=λ{i s x} st h e=>by
  let⟨d1,d2,e1,e2,rfl⟩:=o7 _ _ _ _ e;let⟨vx,g1,g2⟩:=r1.get e1;let⟨vy,g3,g4⟩:=r2.get e2;refine rX hh ap st (t1.at (h _ _ q1)) (t2.at (h _ _ q2)) (λux uy hx hy h' Z' new sz k=>?_) λhn=>by simp_all
  simp![Na]at hx hy
  rw[g1]at hx;cases hx;rw[g3]at hy;cases hy;refine⟨_,rfl,?_⟩
  let⟨zz,pp,⟨a,a',oo⟩,cc,dd⟩:=Z';let nd:=ap.nd;simp![J8,ID,Je,or_false,not_or,Jf,and_true,not_false_eq_true]at nd;let zT:z≠s.heap.objs.size:=Il (H6 st.zz);refine wpAny_letOwnedTupleGo_zip (s:={s with heap:=h'}) zz λk2 z2 m2=>⟨⟨⟨rfl,rfl⟩,λb o hb e=>ak m2 (λw=>hb (by simp[w])) (k b o hb e)⟩,⟨z2,ak m2 (Ib nd.1.1) pp,⟨a,a',ak m2 (Ib nd.1.2.1) oo⟩,cc.to λo e=>ak m2 (Ib nd.1.2.2.1) e,dd.to λo e=>ak m2 (Ib nd.1.2.2.2) e⟩,.inr ⟨s.heap.objs.size,_,HQ _,ak m2 (Ib zT) new,R.pairN h (HQ _) g2 g4⟩⟩
 done:=λ{s} st h=>rX hh ap st (t1.at (h _ _ q1)) (t2.at (h _ _ q2)) (λvx vy hvx hvy h' Z' new sz k=>by
  exfalso;let l1:=r1.length;let l2:=r2.length;rw[oB]at hvx hvy;let a1:=(Array.getElem?_eq_some_iff.mp hvx).1
  let a2:=(Array.getElem?_eq_some_iff.mp hvy).1
  simp at a1 a2;lia) λhn h' k=>⟨rfl,⟨rfl,rfl⟩,k⟩
 self:=λst h=>wpAny_pyIter_zip st.zz h
def EF {Q:HM->HN->Prop}(g:Bn X "zip") (h:DE X m a fa) (h':DE X m b fb) (I:Inv X M δ s) (e:DH t u (fa δ) (fb δ)=U ls) (k:∀z Pr O c d p q o1 o2 xs ys ds es h' s1 M1,ls=iJ ds es->Ext M M1->Inv X M1 δ s1->Ap z Pr O c d p q->Zp t u h' z Pr O c d p q 0 .none->(∀b∈[z,Pr,O,c,d],s1.heap.objs.size<=b)->(∀b o,s1.heap.get? b=U o->h'.get? b=U o)->Rd m M1 p o1->SqO t o1 xs->Rs m M1 ds xs->Rd m M1 q o2->SqO u o2 ys->Rs m M1 es ys->Q (.ref z) {s1 with heap:=h'}):
  WP X (eval (.Call (.Name "zip" p) [a,b] [] pos) X.env) Q s:=by
 let⟨ds,e1,e⟩:=ag e;let⟨es,e2,e⟩:=ag e;cases e;let⟨d1,f1,k1⟩:=Bo (v:=.none) e1;let⟨d2,f2,k2⟩:=Bo (v:=.none) e2;refine AI g boot_zip (aW h (aW h' bC)) I (ds:=[d1,d2]) (by rw[f1,f2];rfl) λvs s1 M1 x1 I1 r=>?_
 let⟨v1,v2,rfl,r1,r2⟩:=r.is2;let⟨l1,o1,xs,rfl,q1,t1,rs1⟩:=k1 r1;let⟨l2,o2,ys,rfl,q2,t2,rs2⟩:=k2 r2;exact yL (t1.at (q1.heap I1.heap)) (t2.at (q2.heap I1.heap)) λz P O c d h' ap Z hi kk=>k _ _ _ _ _ _ _ _ _ _ _ _ _ _ _ _ rfl x1 I1 ap Z hi kk q1 t1 rs1 q2 t2 rs2
def FL {t u:Bool}(g:Bn X "zip") (h:DE X m a fa) (h':DE X m b fb):DI X m (.Tuple elts x1 tp) (.Call (.Name "zip" p) [a,b] [] pos) (λδ=>DH t u (fa δ) (fb δ)):=⟨rfl,λI e k=>
 EF g h h' I e λz Pr O c d p q o1 o2 xs ys ds es h' s1 M1 e x1 I1 ap Z hi kk q1 t1 r1 q2 t2 r2=>by
  subst e;exact wpAny_pyIter_zip (s:={s1 with heap:=h'}) Z.zz (k _ _ _ _ _ x1 (I1.kp kk) (Ah I.ok.room.hd ap q1 t1 r1 q2 t2 r2) Z λb hb=>I1.fresh (hi b hb))⟩
def u8 {e c p:HZ}(hh:A.handled=B) (ne:e≠c) (q1:Rd m M p o1) (t1:LstO o1 xs) (r1:Rs m M ds xs):C5 A (.Tuple elts x1 tp) m M (mY 0 ds) [e,c] e (λn h=>En h e c p n) where
 ex:=λ⟨⟨old,ee⟩,cc⟩ b hb=>by
  simp![ID,Je,or_false]at hb
  rcases hb with rfl|rfl
  ·exact⟨_,ee⟩
  ·let⟨o,g,_⟩:=cc;exact⟨o,g⟩
 keep:=λ⟨⟨old,ee⟩,cc⟩ k=>⟨⟨old,k e (by simp) _ ee⟩,cc.at λo g=>k c (by simp) o g⟩
 item:=λ{i s x} st h hx=>by
  let⟨d1,e1,rfl⟩:=pe _ _ _ _ hx;let⟨vx,g1,g2⟩:=r1.get e1;let⟨⟨old,ee⟩,cc⟩:=st;refine wpAny_pyNext_enum_item ee cc (l9 h q1 t1) (x:=vx) (by simpa using g1) ne λh' out cc' new sz k=>⟨_,rfl,?_⟩
  let eT:e≠s.heap.objs.size:=Il (H6 ee);refine BA (s:={s with heap:=h',toks:=s.toks+1}) out λk2 e2 m2=>⟨⟨⟨rfl,rfl⟩,λb o hb g=>ak m2 (λw=>hb (by simp[w])) (k b o (λz=>hb (by simp[z])) (λz=>hb (by simp[z])) g)⟩,⟨⟨_,e2⟩,cc'.at λo g=>ak m2 (Ib ne) g⟩,.inr ⟨s.heap.objs.size,_,HQ _,ak m2 (Ib eT) new,R.pairN h (HQ _) ⟨_,by rw[KS]⟩ g2⟩⟩
 done:=λ{s} ⟨⟨old,ee⟩,cc⟩ h=>wpAny_pyNext_enum_end hh ee cc (l9 h q1 t1) (by simp[oA,r1.length]) λh' k=>⟨rfl,⟨rfl,rfl⟩,λb o hb q=>k b o (λz=>hb (by simp[z])) q⟩
 self:=λ⟨⟨old,ee⟩,cc⟩ h=>wpAny_pyIter_enum ee h
nonrec theorem CG (g:Bn X "enumerate") (h:DE X m a fa):DI X m (.Tuple elts x1 tp) (.Call (.Name "enumerate" p) [a] [] pos) (λδ=>vM (fa δ)):=⟨rfl,λ{M δ s ds Q} I e k=>by
 unfold vM at e;split at e<;>cases e
 rename_i q0;refine cQ g boot_enumerate h I q0 λv s1 M1 x1 I1 r=>?_
 let⟨c,o,vs,rfl,q,t,rs⟩:=r;refine uQ (p:=c) (t.is I1.heap q) λh' ee cc kk=>?_
 refine wpAny_pyIter_enum (s:={s1 with heap:=h'}) ee (k _ _ _ _ _ x1 (I1.kp kk) (u8 I.ok.room.hd (JI (IY _)) q t rs) ⟨⟨_,ee⟩,cc⟩ λb hb=>I1.fresh ?_)
 simp![ID,Je,or_false]at hb
 rcases hb with rfl|rfl
 ·exact Kl _
 ·exact HQ _⟩
def xa (x:Qq D):Qq D:=match x with|some (.int j)=>if decide (0<=j/\j<=1000)=V then U (.lst (jK 0 j.toNat)) else B|_=>B
def G2:∀{n:Nat}{ds:Qw D}{vs:Qw HM},ds.length=vs.length->(∀(i:Nat) (h:i<ds.length),∃v,vs[i]?=U v/\R m M ds[i] v)->Rs m M ds vs:=by
 intro n ds
 induction ds with
 |nil=>intro vs e _;cases vs with
  |nil=>rfl
  |cons=>cases e
 |cons d ds ih=>intro vs e h;cases vs with
  |nil=>cases e
  |cons v vs=>exact⟨v,vs,rfl,by let⟨v',h1,h2⟩:=h 0 (by simp);cases h1;exact h2,ih (by simpa using e) λi hi=>by let⟨v',h1,h2⟩:=h (i+1) (by simpa using hi);exact⟨v',by simpa using h1,by simpa using h2⟩⟩
nonrec theorem zJ (gl:Bn X "list") (gr:Bn X "range") (h:DE X m a fa):DF X (.Call (.Name "list" p) [.Call (.Name "range" p2) [a] [] pos2] [] pos) (λδ=>xa (fa δ)):=⟨rfl,λ{M δ s d Q} I e k=>by
 unfold xa at e;split at e<;>try cases e
 split at e<;>cases e
 rename_i j q0 hj;let hj:=of_decide_eq_true hj;refine IN (I.bltn gl (by rfl:bootBuiltins "list"=U (.type "list")) (KF ?_ rfl rfl))
 refine Ie (cQ gr boot_range h I q0 λv s1 M1 x1 I1 r=>?_)
 let⟨t,rfl⟩:=r;refine call_range_1 (IX ?_)
 refine call_list_range (n:=j.toNat) I.ok.room.hd (IsRange.new ..) (small_one (by lia) (by lia) (by lia) (by lia)) (by rw[rangeSize_one];split<;>lia) (by lia) λh' tk acc c' hk hS hacc=>?_
 let I2:=(I1.push (t:=s1.toks+1) (o:=_)).kp (s':={s1 with heap:=h',toks:=tk}) hk
 let lz:1000<=sizeLine:=by decide
 let ha:=hacc.1;refine k _ _ _ _ x1 I2 (I1.fresh (by rw[IP];exact Kl _)) hS ⟨acc.toList,⟨by simp;lia,c',by simp⟩,G2 (n:=0) (by simp[jK,ha]) λi hi=>?_⟩
 simp![jK,HT,LB]at hi;let⟨t,e⟩:=hacc.2 i acc[i] (by simp[ha,hi])
 refine⟨acc[i],by simp[ha,hi],?_⟩
 rw[show(jK 0 j.toNat)[i]=.int i by simp[jK]];exact⟨t,by rw[e];simp⟩⟩
end
end L2
namespace SM
open PySem PyProof.Rows
structure OrdK (LT:HU->HU->Bool):Prop where
 asym:∀x y,LT x y=V->LT y x=Y
 tr:∀x y z,LT y x=Y->LT z y=Y->LT z x=Y
def OrdK.irr {LT:HU->HU->Bool}(O:OrdK LT) (x:HU):LT x x=Y:=by
 cases h:LT x x with
 |false=>rfl
 |true=>exact h.symm.trans (O.asym x x h)
def Ans (prog:IZ) (w:JA) (A:Ia) (s:HN) (κ:Lx) (LT:HU->HU->Bool) (T:Array HU):Prop:=
 ∀x∈T,∀y∈T,∀C:Bool->HN->Prop,C (LT x y) s->wpAny (model prog w) A (keyLt' κ x.1 y.1) C (λ_ _=>False) s
abbrev nK:HU:=(JG,JG)
def K (a:Array HU) (i:Nat):HU:=(a[i]?).getD nK
def GX {a:Array HU}{i:Nat}(h:i<a.size):a[i]?=U (K a i):=by unfold K;simp_all
def Dx {a:Array HU}{i:Nat}(h:i<a.size):K a i∈a:=by unfold K;simp_all
def DB {a b:Array HU}{i j:Nat}(h:a[i]?=b[j]?):K a i=K b j:=by unfold K;rw[h]
def lU {a:Array HU}{i j:Nat}(hj:j<=a.size) (k:Nat):K (mirror a i j ((j - i) / 2)) k=if i<=k/\k<j then K a (i+j - 1 - k) else K a k:=by
 let e:=getElem?_mirror_all (i:=i) hj k
 by_cases h:i<=k/\k<j
 ·rw[if_pos h]at e⊢;exact DB e
 ·rw[if_neg h]at e⊢;exact DB e
def CQ {a:Array HU}{src d:Nat}(hs:src<a.size) (hd:d<=src) (k:Nat):K (bubble a src d) k=if k=src - d then K a src else if src - d<k/\k<=src then K a (k - 1) else K a k:=by
 let e:=getElem?_bubble hs d hd k
 by_cases h:k=src - d
 ·rw[if_pos h]at e⊢;exact DB e
 ·rw[if_neg h]at e⊢
  by_cases h2:src - d<k/\k<=src
  ·rw[if_pos h2]at e⊢;exact DB e
  ·rw[if_neg h2]at e⊢;exact DB e
section
variable{prog:IZ}{w:JA}{A:Ia}{E:HM->HN->Prop}{s:HN}{LT:HU->HU->Bool}{T:Array HU}{κ:Lx}{st:II}
def Up (LT:HU->HU->Bool) (a:Array HU) (i j:Nat):Prop:=∀p q,i<=p->p<=q->q<j->LT (K a q) (K a p)=Y
def Dn (LT:HU->HU->Bool) (a:Array HU) (i j:Nat):Prop:=∀p q,i<=p->p<=q->q<j->LT (K a p) (K a q)=Y
def Up.one (O:OrdK LT) {a:Array HU}{i:Nat}:Up LT a i (i+1):=λp q h1 h2 h3=>by
 let e:p=q:=by lia
 rw[e];exact O.irr _
def Dn.one (O:OrdK LT) {a:Array HU}{i:Nat}:Dn LT a i (i+1):=λp q h1 h2 h3=>by
 let e:p=q:=by lia
 rw[e];exact O.irr _
def Up.snoc (O:OrdK LT) {a:Array HU}{i j:Nat}(h:Up LT a i j) (hij:i<j) (hl:LT (K a j) (K a (j - 1))=Y):Up LT a i (j+1):=λp q h1 h2 h3=>by
 by_cases e:q=j
 ·subst e
  by_cases e':p=q
  ·rw[e'];exact O.irr _
  ·exact O.tr _ _ _ (h p (q - 1) h1 (by lia) (by lia)) hl
 ·exact h p q h1 h2 (by lia)
def Dn.snoc (O:OrdK LT) {a:Array HU}{i j:Nat}(h:Dn LT a i j) (hij:i<j) (hl:LT (K a (j - 1)) (K a j)=Y):Dn LT a i (j+1):=λp q h1 h2 h3=>by
 by_cases e:q=j
 ·subst e
  by_cases e':p=q
  ·rw[e'];exact O.irr _
  ·exact O.tr _ _ _ hl (h p (q - 1) h1 (by lia) (by lia))
 ·exact h p q h1 h2 (by lia)
def xr (H:Ans prog w A s κ LT T) (hk:kindOf st=κ) {x y:HU}{Q:Qq Bool->II->Prop}(hx:x∈T) (hy:y∈T) (h:Q (U (LT x y)) st):wpS (model prog w) A E s (lt' x y) Q st:=by
 rw[lt'_eq];refine HV (MN ?_)
 rw[hk];refine HV (NF (K6 (Jv (H x hx y hy (λb s'=>s'=s/\wpS (model prog w) A E s (pure (U b)) Q st) ⟨rfl,H5 h⟩) (λ_ _ h=>h) λ_ _ h=>h.elim)))
def aL {a:Array HU}{i:Nat}{Q:HU->II->Prop}(hi:i<a.size) (h:Q (K a i) st):wpS (model prog w) A E s (elem' a i) Q st:=by
 rw[elem'_eq,GX hi];exact H5 h
def ju (H:Ans prog w A s κ LT T) (hk:kindOf st=κ) (hp:(arrOf st).Perm T) {i j:Nat}{Q:Qq Bool->II->Prop}(hi:i<T.size) (hj:j<T.size) (h:Q (U (LT (K (arrOf st) i) (K (arrOf st) j))) st):
  wpS (model prog w) A E s (ltAt' i j) Q st:=by
 let hz:=hp.size_eq;rw[ltAt'_eq];refine HV (MN ?_)
 exact HV (aL (by lia) (HV (aL (by lia) (xr H hk (hp.mem_iff.mp (Dx (by lia))) (hp.mem_iff.mp (Dx (by lia))) h))))
structure Chg (T a:Array HU) (lo:Nat) (a':Array HU):Prop where
 perm:a'.Perm T
 keep:∀k,k<lo->K a' k=K a k
def Chg.rev {a a':Array HU}{lo i j:Nat}(h:Chg T a lo a') (hi:lo<=i) (hj:j<=T.size):Chg T a lo (mirror a' i j ((j - i) / 2)):=by
 let hz:=h.perm.size_eq;refine⟨(mirror_perm a' i j _).trans h.perm,λk hk=>?_⟩
 rw[lU (by lia),if_neg (by lia)];exact h.keep k hk
def Chg.bub {a a':Array HU}{lo src d:Nat}(h:Chg T a lo a') (hs:src<T.size) (hd:lo+d<=src):Chg T a lo (bubble a' src d):=by
 let hz:=h.perm.size_eq;refine⟨(bubble_perm a' src d).trans h.perm,λk hk=>?_⟩
 rw[CQ (by lia) (by lia),if_neg (by lia),if_neg (by lia)];exact h.keep k hk
def yG {a:Array HU}{i j:Nat}(hj:j<=a.size) (h:Dn LT a i j):Up LT (mirror a i j ((j - i) / 2)) i j:=λp q h1 h2 h3=>by
 rw[lU hj,lU hj,if_pos ⟨by lia,h3⟩,if_pos ⟨h1,by lia⟩]
 exact h _ _ (by lia) (by lia) (by lia)
def w9 {a:Array HU}{lo i j:Nat}(hj:j<=a.size) (hi:lo<=i) (h:Dn LT a lo j) (e:∀p q,i<=p->i<=q->p<j->q<j->LT (K a p) (K a q)=Y):Dn LT (mirror a i j ((j - i) / 2)) lo j:=λp q h1 h2 h3=>by
 rw[lU hj,lU hj]
 by_cases c1:i<=p/\p<j
 ·rw[if_pos c1]
  by_cases c2:i<=q/\q<j
  ·rw[if_pos c2];exact e _ _ (by lia) (by lia) (by lia) (by lia)
  ·lia
 ·rw[if_neg c1]
  by_cases c2:i<=q/\q<j
  ·rw[if_pos c2];exact h _ _ h1 (by lia) (by lia)
  ·rw[if_neg c2];exact h _ _ h1 h2 h3
def AW (O:OrdK LT) (H:Ans prog w A s κ LT T) (hk:kindOf st=κ) {a:Array HU}(hc:(arrOf st).Perm T) {lo n nrem:Nat}(hz:lo+nrem<=T.size) (hn:1<=n) (hnn:n<=nrem) (hu:Up LT (arrOf st) lo (lo+n))
  {β:Type}{Q:β->II->Prop}{f:Qq (Qq Nat)×Nat->StateT II N1 β}(h:∀m,n<=m->m<=nrem->Up LT (arrOf st) lo (lo+m)->(m<nrem->LT (K (arrOf st) (lo+m)) (K (arrOf st) (lo+m - 1))=V)->wpS (model prog w) A E s (f (B,m)) Q st):
  wpS (model prog w) A E s (forIn [n:nrem] ((B,n):Qq (Qq Nat)×Nat) (λ_ r=>do
   let x <-ltAt' (lo+r.2) (lo+r.2 - 1)
   match x with
   |some smaller=>if smaller=V then pure (NY (B,r.2)) else pure (Jm (B,r.2+1))
   |_=>pure (NY (U B,r.2))) >>= f) Q st:=by
 refine HV (Kz (Jw (I:=λx c st'=>c=(B,x)/\st'=st/\n<=x/\Up LT (arrOf st) lo (lo+x)) (Q:=λc st'=>∃m,c=(B,m)/\st'=st/\n<=m/\m<=nrem/\Up LT (arrOf st) lo (lo+m)/\(m<nrem->LT (K (arrOf st) (lo+m)) (K (arrOf st) (lo+m - 1))=V)) ?_ ?_ ⟨rfl,rfl,HQ _,hu⟩) ?_)
 ·intro x c st' h1 h2 hz;let⟨rfl,rfl,h3,h4⟩:=hz
  dsimp only;refine HV (ju H hk hc (by lia) (by lia) ?_)
  cases hl:LT (K (arrOf st') (lo+x)) (K (arrOf st') (lo+x - 1))with
  |true=>exact H5 ⟨x,rfl,rfl,h3,by lia,h4,λ_=>hl⟩
  |false=>exact H5 ⟨rfl,rfl,by lia,h4.snoc O (by lia) hl⟩
 ·intro c st' hz;let⟨rfl,rfl,h3,h4⟩:=hz
  let e:max n nrem=nrem:=by lia
  rw[e]at h4⊢;exact⟨nrem,rfl,rfl,hnn,HQ _,h4,λh=>absurd h (J0 _)⟩
 simp_all
end
end SM
namespace SM
open PySem PyProof.Rows
section
variable{prog:IZ}{w:JA}{A:Ia}{E:HM->HN->Prop}{s:HN}{LT:HU->HU->Bool}{T:Array HU}{κ:Lx}{st:II}
def GD (LT:HU->HU->Bool) (a:Array HU) (i j:Nat):Prop:=∀p q,i<=p->i<=q->p<j->q<j->LT (K a p) (K a q)=Y
def wK (O:OrdK LT) (H:Ans prog w A s κ LT T) (hk:kindOf st=κ) {a a':Array HU}{lo n nrem:Nat}(hC:Chg T a lo a') (hz:lo+nrem<=T.size) (hn:1<=n) (hnn:n<=nrem) (hd:Dn LT a' lo (lo+n))
  {Q:Qq Nat->II->Prop}(h:∀m a'',1<=m->m<=nrem->Chg T a lo a''->Up LT a'' lo (lo+m)->Q (U m) (setArr st a'')):
  wpS (model prog w) A E s (do
   let mut n:=n
   reverseSlice' lo (lo+n)
   for _ in [n:nrem] do
    let U smaller <-ltAt' (lo+n) (lo+n - 1)|return B
    if smaller then break
    n:=n+1
   return U n) Q (setArr st a'):=by
 let e:=hC.perm.size_eq;refine HV (KC ?_)
 let C':=hC.rev (i:=lo) (j:=lo+n) (HQ _) (by lia)
 let Px:=yG (LT:=LT) (a:=a') (i:=lo) (j:=lo+n) (by lia) hd
 exact AW (st:=setArr st (mirror a' lo (lo+n) ((lo+n - lo) / 2))) (a:=a) O H hk C'.perm hz hn hnn Px λm h1 h2 h3 _=>H5 (h m _ (by lia) h2 C' h3)
def vo (O:OrdK LT) (H:Ans prog w A s κ LT T) (hk:kindOf st=κ) {a a':Array HU}{lo n nrem:Nat}(hC:Chg T a lo a') (hz:lo+nrem<=T.size) (hn:1<=n) (hnn:n<nrem) (hd:Dn LT a' lo (lo+n)) (hl:LT (K a' (lo+n)) (K a' (lo+n - 1))=V)
  {Q:Qq Nat->II->Prop}(h:∀m a'',1<=m->m<=nrem->Chg T a lo a''->Up LT a'' lo (lo+m)->Q (U m) (setArr st a'')):
  wpS (model prog w) A E s (do
   let mut n:=n
   rule "list.sort.descending-run"
   n:=n+1
   let mut neq:=0
   for _ in [n:nrem] do
    let U smaller <-ltAt' (lo+n) (lo+n - 1)|return B
    if smaller then
     if neq>0 then reverseSlice' (lo+n - (neq+1)) (lo+n)
     neq:=0
    else
     let U larger <-ltAt' (lo+n - 1) (lo+n)|return B
     if larger then break
     neq:=neq+1
    n:=n+1
   if neq>0 then reverseSlice' (lo+n - (neq+1)) (lo+n)
   reverseSlice' lo (lo+n)
   for _ in [n:nrem] do
    let U smaller <-ltAt' (lo+n) (lo+n - 1)|return B
    if smaller then break
    n:=n+1
   return U n) Q (setArr st a'):=by
 refine HV (NF (Ju ⟨rfl,?_⟩))
 let d1:=hd.snoc O (by lia) (O.asym _ _ hl)
 refine HV (Kz (Jw (I:=λx c st'=>∃q a1,c=(B,x,q)/\st'=setArr st a1/\Chg T a lo a1/\n+1<=x/\q+1<=x/\Dn LT a1 lo (lo+x)/\GD LT a1 (lo+x - (q+1)) (lo+x))
  (Q:=λc st'=>∃x q a1,c=(B,x,q)/\st'=setArr st a1/\Chg T a lo a1/\x<=nrem/\n+1<=x/\q+1<=x/\Dn LT a1 lo (lo+x)/\GD LT a1 (lo+x - (q+1)) (lo+x)) ?_ ?_ ⟨0,a',rfl,rfl,hC,HQ _,by lia,d1,λp q h1 h2 h3 h4=>by rw[show p=q by lia];exact O.irr _⟩) ?_)
 ·intro x c st' h1 h2 hz;let⟨q,a1,rfl,rfl,C1,h3,h4,D1,L1⟩:=hz
  let e:=C1.perm.size_eq;dsimp only;refine HV (ju (st:=setArr st a1) H hk C1.perm (by lia) (by lia) ?_)
  cases hl:LT (K a1 (lo+x)) (K a1 (lo+x - 1))with
  |true=>
   let D2:=D1.snoc O (by lia) (O.asym _ _ hl)
   by_cases hq:q>0
   ·rw[if_pos hq,reverseSlice'_eq]
    refine HV (KC (H5 ⟨0,_,rfl,rfl,C1.rev (by lia) (by lia),by lia,by lia,?_,λp q h1 h2 h3 h4=>by rw[show p=q by lia];exact O.irr _⟩))
    let D3:=w9 (LT:=LT) (a:=a1) (lo:=lo) (i:=lo+x - (q+1)) (j:=lo+x) (by lia) (by lia) D1 L1
    refine D3.snoc O (by lia) ?_
    rw[lU (by lia),lU (by lia),if_pos (by lia),if_neg (by lia)]
    exact D2 _ _ (by lia) (by lia) (by lia)
   ·rw[if_neg hq]
    exact H5 ⟨0,a1,rfl,rfl,C1,by lia,by lia,D2,λp q h1 h2 h3 h4=>by rw[show p=q by lia];exact O.irr _⟩
  |false=>
   refine HV (ju (st:=setArr st a1) H hk C1.perm (by lia) (by lia) ?_)
   cases hg:LT (K a1 (lo+x - 1)) (K a1 (lo+x))with
   |true=>exact H5 ⟨x,q,a1,rfl,rfl,C1,by lia,h3,h4,D1,L1⟩
   |false=>
    refine H5 ⟨q+1,a1,rfl,rfl,C1,by lia,by lia,D1.snoc O (by lia) hg,λp p' h1 h2 h5 h6=>?_⟩
    let key:∀p,lo+(x+1) - (q+1+1)<=p->p<lo+(x+1)->LT (K a1 p) (K a1 (lo+x - 1))=Y/\LT (K a1 (lo+x - 1)) (K a1 p)=Y:=λp h1 h2=>by
     by_cases e:p=lo+x
     ·rw[e];exact⟨hl,hg⟩
     ·exact⟨L1 _ _ (by lia) (by lia) (by lia) (by lia),L1 _ _ (by lia) (by lia) (by lia) (by lia)⟩
    exact O.tr _ _ _ (key p' h2 h6).2 (key p h1 h5).1
 ·intro c st' hz;let⟨q,a1,rfl,rfl,C1,h3,h4,D1,L1⟩:=hz
  rw[show max (n+1) nrem=nrem by lia]at*
  exact⟨nrem,q,a1,rfl,rfl,C1,HQ _,h3,h4,D1,L1⟩
 ·intro c st' hz;let⟨x,q,a1,rfl,rfl,C1,h1,h3,h4,D1,L1⟩:=hz
  let e:=C1.perm.size_eq;dsimp only
  by_cases hq:q>0
  ·rw[if_pos hq]
   refine HV ?_
   exact KC (wK O H hk (C1.rev (by lia) (by lia)) hz (by lia) h1 (w9 (LT:=LT) (a:=a1) (lo:=lo) (i:=lo+x - (q+1)) (j:=lo+x) (by lia) (by lia) D1 L1) h)
  ·rw[if_neg hq]
   exact wK O H hk C1 hz (by lia) h1 D1 h
def qM (O:OrdK LT) (H:Ans prog w A s κ LT T) (hk:kindOf st=κ) {lo nrem:Nat}(hp:(arrOf st).Perm T) (hz:lo+nrem<=T.size) (hn:1<=nrem)
  {Q:Qq Nat->II->Prop}(h:∀m a',1<=m->m<=nrem->Chg T (arrOf st) lo a'->Up LT a' lo (lo+m)->Q (U m) (setArr st a')):wpS (model prog w) A E s (countRun' lo nrem) Q st:=by
 let e:=hp.size_eq;let C0:Chg T (arrOf st) lo (arrOf st):=⟨hp,λ_ _=>rfl⟩
 refine AW (a:=arrOf st) O H hk hp hz (HQ 1) hn (Up.one O) λm h1 h2 h3 h4=>?_
 dsimp only
 by_cases hm:m=nrem
 ·rw[if_pos (beq_iff_eq.mpr hm)]
  exact H5 (h m (arrOf st) h1 h2 C0 h3)
 ·rw[if_neg (λq=>hm (beq_iff_eq.mp q))]
  let hl:=h4 (by lia)
  by_cases h5:m>1
  ·rw[if_pos h5]
   refine HV (ju H hk hp (by lia) (by lia) ?_)
   cases hr:LT (K (arrOf st) lo) (K (arrOf st) (lo+m - 1))with
   |true=>
    exact H5 (h m (arrOf st) h1 h2 C0 h3)
   |false=>
    let al:GD LT (arrOf st) lo (lo+m):=λp q h1 h2 h5 h6=>O.tr _ _ _ (h3 q (lo+m - 1) h2 (by lia) (by lia)) (O.tr _ _ _ hr (h3 lo p (HQ _) h1 (by lia)))
    let D1:Dn LT (arrOf st) lo (lo+m):=λp q h1 h2 h5=>al p q h1 (by lia) (by lia) h5
    refine vo O H hk (C0.rev (HQ _) (by lia)) hz h1 (by lia) (w9 (LT:=LT) (a:=arrOf st) (lo:=lo) (i:=lo) (j:=lo+m) (by lia) (HQ _) D1 al) ?_ h
    rw[lU (by lia),lU (by lia),if_neg (by lia),if_pos (by lia)]
    cases hc:LT (K (arrOf st) (lo+m)) (K (arrOf st) (lo+(lo+m) - 1 - (lo+m - 1)))with
    |true=>rfl
    |false=>exact absurd (O.tr _ _ _ (al (lo+(lo+m) - 1 - (lo+m - 1)) (lo+m - 1) (by lia) (by lia) (by lia) (by lia)) hc) (by lia)
  ·rw[if_neg h5]
   let hm1:m=1:=by lia
   exact vo O H hk C0 hz h1 (by lia) (by subst hm1;exact Dn.one O) hl h
end
end SM
namespace SM
open PySem PyProof.Rows
section
variable{prog:IZ}{w:JA}{A:Ia}{E:HM->HN->Prop}{s:HN}{LT:HU->HU->Bool}{T:Array HU}{κ:Lx}{st:II}
def EE (O:OrdK LT) {a:Array HU}{lo k l:Nat}(hs:lo+k<a.size) (hl:l<=k) (hu:Up LT a lo (lo+k)) (h1:∀p,p<l->LT (K a (lo+k)) (K a (lo+p))=Y) (h2:∀p,l<=p->p<k->LT (K a (lo+k)) (K a (lo+p))=V):
  Up LT (bubble a (lo+k) (lo+k - (lo+l))) lo (lo+(k+1)):=λp q g1 g2 g3=>by
 let h2':∀p,lo+l<=p->p<lo+k->LT (K a p) (K a (lo+k))=Y:=λp a1 a2=>by
  have:=h2 (p - lo) (by lia) (by lia)
  rw[show lo+(p - lo)=p by lia]at this
  exact O.asym _ _ this
 let h1':∀p,lo<=p->p<lo+l->LT (K a (lo+k)) (K a p)=Y:=λp a1 a2=>by
  have:=h1 (p - lo) (by lia)
  simp_all
 let e:lo+k - (lo+k - (lo+l))=lo+l:=by lia
 rw[CQ hs (by lia),CQ hs (by lia),e]
 repeat' split
 all_goals first
  |exact O.irr _
  |(exfalso;lia)
  |exact h2' _ (by lia) (by lia)
  |exact h1' _ (by lia) (by lia)
  |exact hu _ _ (by lia) (by lia) (by lia)
def mX (O:OrdK LT) (H:Ans prog w A s κ LT T) (hk:kindOf st=κ) {lo n ok:Nat}(hp:(arrOf st).Perm T) (hz:lo+n<=T.size) (hok:ok<=n) (hn:1<=n) (hu:Up LT (arrOf st) lo (lo+ok))
  {Q:Bool->II->Prop}(h:∀a',Chg T (arrOf st) lo a'->Up LT a' lo (lo+n)->Q V (setArr st a')):wpS (model prog w) A E s (binarySort' lo n ok) Q st:=by
 let e:=hp.size_eq;let C0:Chg T (arrOf st) lo (arrOf st):=⟨hp,λ_ _=>rfl⟩
 let hu1:Up LT (arrOf st) lo (lo+max ok 1):=by
  by_cases c:ok=0
  ·subst c;exact Up.one O
  ·rw[show max ok 1=ok by lia];exact hu
 refine HV (Kz (Jw (I:=λx c st'=>c=(B,())/\∃a1,st'=setArr st a1/\Chg T (arrOf st) lo a1/\Up LT a1 lo (lo+x))
  (Q:=λc st'=>c=(B,())/\∃a1,st'=setArr st a1/\Chg T (arrOf st) lo a1/\Up LT a1 lo (lo+n)) ?_ ?_ ⟨rfl,arrOf st,rfl,C0,hu1⟩) ?_)
 ·intro k c st' h1 h2 hz;let⟨rfl,a1,rfl,C1,U1⟩:=hz
  let e1:=C1.perm.size_eq;refine HV (Kz (Jw (I:=λx c st'=>∃l r,c=(B,l,r)/\st'=setArr st a1/\l<=r/\r<=k/\r - l+x<=k/\(∀p,p<l->LT (K a1 (lo+k)) (K a1 (lo+p))=Y)/\∀p,r<=p->p<k->LT (K a1 (lo+k)) (K a1 (lo+p))=V)
   (Q:=λc st'=>∃l r,c=(B,l,r)/\st'=setArr st a1/\l<=k/\(∀p,p<l->LT (K a1 (lo+k)) (K a1 (lo+p))=Y)/\∀p,l<=p->p<k->LT (K a1 (lo+k)) (K a1 (lo+p))=V) ?_ ?_ ⟨0,k,rfl,rfl,Im _,HQ _,by lia,λp hp=>absurd hp (KT _),λp q1 q2=>absurd q2 (by lia)⟩) ?_)
  ·intro x c st' g1 g2 hz;let⟨l,r,rfl,rfl,g3,g4,g5,g6,g7⟩:=hz
   dsimp only
   by_cases hlr:l>=r
   ·rw[if_pos hlr]
    have:l=r:=by lia
    exact H5 ⟨l,r,rfl,rfl,by lia,g6,by rw[this];exact g7⟩
   ·rw[if_neg hlr]
    refine HV (ju (st:=setArr st a1) H hk C1.perm (by lia) (by lia) ?_)
    cases hl:LT (K a1 (lo+k)) (K a1 (lo+(l+r) / 2))with
    |true=>
     refine H5 ⟨l,(l+r) / 2,rfl,rfl,by lia,by lia,by lia,g6,λp q1 q2=>?_⟩
     cases hc:LT (K a1 (lo+k)) (K a1 (lo+p))with
     |true=>rfl
     |false=>exact absurd (O.tr _ _ _ (U1 (lo+(l+r) / 2) (lo+p) (by lia) (by lia) (by lia)) hc) (by rw[hl];exact λq=>nomatch q)
    |false=>
     refine H5 ⟨(l+r) / 2+1,r,rfl,rfl,by lia,g4,by lia,λp q1=>?_,g7⟩
     exact O.tr _ _ _ (U1 (lo+p) (lo+(l+r) / 2) (by lia) (by lia) (by lia)) hl
  ·intro c st' hz;let⟨l,r,rfl,rfl,g3,g4,g5,g6,g7⟩:=hz
   have:l=r:=by lia
   exact⟨l,r,rfl,rfl,by lia,g6,by rw[this];exact g7⟩
  ·intro c st' hz;let⟨l,r,rfl,rfl,g1,g2,g3⟩:=hz
   dsimp only;exact HV (KC (H5 ⟨rfl,_,rfl,C1.bub (by lia) (by lia),EE O (show lo+k<a1.size by lia) g1 U1 g2 g3⟩))
 ·simp_all
 ·intro c st' hz;let⟨rfl,a1,rfl,C1,U1⟩:=hz
  exact H5 (h a1 C1 U1)
def eD:Bool->HU->Array HU->Nat->Nat->Nat->StateT II N1 (Qq Nat):=sortPriv%PySem.Builtin.gallop
def bey (left:Bool) (key:HU) (arr:Array HU) (base i:Nat):StateT II N1 (Qq Bool):=do
 let x <-elem' arr (base+i)
 if left then lt' x key else return (<-lt' key x).map (!·)
theorem Dz (left:Bool) (key:HU) (arr:Array HU) (base n hint:Nat):eD left key arr base n hint=(do
 let mut lastofs:=0
 let mut ofs:=1
 let mut lo:=0
 let mut hi:=0
 let U right <-bey left key arr base hint|return B
 if right then
  let maxofs:=n - hint
  for _ in [0:n] do
   if ofs>=maxofs then break
   let U more <-bey left key arr base (hint+ofs)|return B
   if !more then break
   lastofs:=ofs
   ofs:=2*ofs+1
  lo:=hint+lastofs+1
  hi:=hint+min ofs maxofs
 else
  let maxofs:=hint+1
  for _ in [0:n] do
   if ofs>=maxofs then break
   let U found <-bey left key arr base (hint - ofs)|return B
   if found then break
   lastofs:=ofs
   ofs:=2*ofs+1
  lo:=hint+1 - min ofs maxofs
  hi:=hint - lastofs
 for _ in [0:n] do
  if lo>=hi then break
  let m:=lo+(hi - lo) / 2
  let U more <-bey left key arr base m|return B
  if more then lo:=m+1 else hi:=m
 return U hi):=rfl
def fB (LT:HU->HU->Bool) (left:Bool) (key:HU) (arr:Array HU) (base i:Nat):Bool:=if left then LT (K arr (base+i)) key else !LT key (K arr (base+i))
theorem qZ (H:Ans prog w A s κ LT T) (hk:kindOf st=κ) {left:Bool}{key:HU}{arr:Array HU}{base i:Nat}{Q:Qq Bool->II->Prop}(hkey:key∈T) (hi:base+i<arr.size) (hx:K arr (base+i)∈T)
  (h:Q (U (fB LT left key arr base i)) st):wpS (model prog w) A E s (bey left key arr base i) Q st:=by
 refine HV (aL hi ?_)
 cases left with
 |true=>exact xr H hk hx hkey h
 |false=>
  exact HV (xr H hk hkey hx (H5 h))
def mR (O:OrdK LT) {left:Bool}{key:HU}{arr:Array HU}{base n i j:Nat}(hu:Up LT arr base (base+n)) (hij:i<=j) (hj:j<n) (h:fB LT left key arr base j=V):fB LT left key arr base i=V:=by
 let u:=hu (base+i) (base+j) (by lia) (by lia) (by lia)
 unfold fB at h⊢;cases left with
 |true=>
  cases hc:LT (K arr (base+i)) key with
  |true=>rfl
  |false=>exact absurd (O.tr _ _ _ hc u) (by lia)
 |false=>
  simp![Ig,if_false,K3]at h⊢;exact O.tr _ _ _ u h
def Ba (O:OrdK LT) (H:Ans prog w A s κ LT T) (hk:kindOf st=κ) {left:Bool}{key:HU}{arr:Array HU}{base n:Nat}{Q:Qq Nat->II->Prop}(hkey:key∈T) (hb:base+n<=arr.size) (hx:∀i,i<n->K arr (base+i)∈T) (hu:Up LT arr base (base+n))
  {lo hi:Nat}(h1:lo<=hi) (h2:hi<=n) (h3:∀i,i<lo->fB LT left key arr base i=V) (h4:hi<n->fB LT left key arr base hi=Y)
  (h:∀k,k<=n->(∀i,i<k->fB LT left key arr base i=V)->(∀i,k<=i->i<n->fB LT left key arr base i=Y)->Q (U k) st):
  wpS (model prog w) A E s (do
   let mut lo:=lo
   let mut hi:=hi
   for _ in [0:n] do
    if lo>=hi then break
    let m:=lo+(hi - lo) / 2
    let U more <-bey left key arr base m|return B
    if more then lo:=m+1 else hi:=m
   return U hi) Q st:=by
 let fin:∀k,k<=n->(∀i,i<k->fB LT left key arr base i=V)->(k<n->fB LT left key arr base k=Y)->Q (U k) st:=λk a1 a2 a3=>h k a1 a2 λi b1 b2=>by
  cases hc:fB LT left key arr base i with
  |false=>rfl
  |true=>exact absurd (mR O hu b1 b2 hc) (by rw[a3 (by lia)];exact λq=>nomatch q)
 refine HV (Kz (Jw (I:=λx c st'=>∃lo hi,c=(B,lo,hi)/\st'=st/\lo<=hi/\hi<=n/\hi - lo+x<=n/\(∀i,i<lo->fB LT left key arr base i=V)/\(hi<n->fB LT left key arr base hi=Y))
  (Q:=λc st'=>∃hi,c=(B,hi,hi)/\st'=st/\hi<=n/\(∀i,i<hi->fB LT left key arr base i=V)/\(hi<n->fB LT left key arr base hi=Y)) ?_ ?_ ⟨lo,hi,rfl,rfl,h1,h2,by lia,h3,h4⟩) ?_)
 ·intro x c st' g1 g2 hz;let⟨lo,hi,rfl,rfl,g3,g4,g5,g6,g7⟩:=hz
  dsimp only
  by_cases hlr:lo>=hi
  ·rw[if_pos hlr]
   obtain rfl:lo=hi:=by lia
   exact H5 ⟨lo,rfl,rfl,g4,g6,g7⟩
  ·rw[if_neg hlr]
   refine HV (qZ H hk hkey (by lia) (hx _ (by lia)) ?_)
   cases hl:fB LT left key arr base (lo+(hi - lo) / 2)with
   |true=>exact H5 ⟨lo+(hi - lo) / 2+1,hi,rfl,rfl,by lia,g4,by lia,λi hi'=>mR O hu (show i<=lo+(hi - lo) / 2 by lia) (by lia) hl,g7⟩
   |false=>exact H5 ⟨lo,lo+(hi - lo) / 2,rfl,rfl,by lia,by lia,by lia,g6,λ_=>hl⟩
 ·intro c st' hz;let⟨lo,hi,rfl,rfl,g3,g4,g5,g6,g7⟩:=hz
  obtain rfl:lo=hi:=by lia
  exact⟨lo,rfl,rfl,g4,g6,g7⟩
 ·intro c st' hz;let⟨hi,rfl,rfl,g4,g6,g7⟩:=hz
  exact H5 (fin hi g4 g6 g7)
theorem cX (O:OrdK LT) (H:Ans prog w A s κ LT T) (hk:kindOf st=κ) {left:Bool}{key:HU}{arr:Array HU}{base n hint:Nat}{Q:Qq Nat->II->Prop}(hkey:key∈T) (hb:base+n<=arr.size) (hh:hint<n) (hx:∀i,i<n->K arr (base+i)∈T) (hu:Up LT arr base (base+n))
  (h:∀k,k<=n->(∀i,i<k->fB LT left key arr base i=V)->(∀i,k<=i->i<n->fB LT left key arr base i=Y)->Q (U k) st):wpS (model prog w) A E s (eD left key arr base n hint) Q st:=by
 refine HV (qZ H hk hkey (by lia) (hx _ hh) ?_)
 cases hr:fB LT left key arr base hint with
 |true=>
  refine HV (Kz (Jw (I:=λx c st'=>∃la of,c=(B,la,of)/\st'=st/\x+1<=of/\la+1<=of/\la<n - hint/\fB LT left key arr base (hint+la)=V)
   (Q:=λc st'=>∃la of,c=(B,la,of)/\st'=st/\la+1<=of/\la<n - hint/\fB LT left key arr base (hint+la)=V/\(of<n - hint->fB LT left key arr base (hint+of)=Y)) ?_ ?_ ⟨0,1,rfl,rfl,by lia,by lia,by lia,hr⟩) ?_)
  ·intro x c st' g1 g2 hz;let⟨la,of,rfl,rfl,g3,g4,g5,g6⟩:=hz
   dsimp only
   by_cases ho:of>=n - hint
   ·rw[if_pos ho]
    exact H5 ⟨la,of,rfl,rfl,g4,g5,g6,λq=>absurd q (by lia)⟩
   ·rw[if_neg ho]
    refine HV (qZ H hk hkey (by lia) (hx _ (by lia)) ?_)
    cases hm:fB LT left key arr base (hint+of)with
    |false=>exact H5 ⟨la,of,rfl,rfl,g4,g5,g6,λ_=>hm⟩
    |true=>exact H5 ⟨of,2*of+1,rfl,rfl,by lia,by lia,by lia,hm⟩
  ·intro c st' hz;let⟨la,of,rfl,rfl,g3,g4,g5,g6⟩:=hz
   exact⟨la,of,rfl,rfl,g4,g5,g6,λq=>absurd q (by lia)⟩
  ·intro c st' hz;let⟨la,of,rfl,rfl,g4,g5,g6,g7⟩:=hz
   dsimp only;refine Ba O H hk hkey hb hx hu (by lia) (by lia) (λi hi=>mR O hu (show i<=hint+la by lia) (by lia) g6) (λhlt=>?_) h
   by_cases c:of<n - hint
   ·rw[show min of (n - hint)=of by lia];exact g7 c
   ·lia
 |false=>
  refine HV (Kz (Jw (I:=λx c st'=>∃la of,c=(B,la,of)/\st'=st/\x+1<=of/\la+1<=of/\la<=hint/\fB LT left key arr base (hint - la)=Y)
   (Q:=λc st'=>∃la of,c=(B,la,of)/\st'=st/\la+1<=of/\la<=hint/\fB LT left key arr base (hint - la)=Y/\(of<hint+1->fB LT left key arr base (hint - of)=V)) ?_ ?_ ⟨0,1,rfl,rfl,by lia,by lia,by lia,hr⟩) ?_)
  ·intro x c st' g1 g2 hz;let⟨la,of,rfl,rfl,g3,g4,g5,g6⟩:=hz
   dsimp only
   by_cases ho:of>=hint+1
   ·rw[if_pos ho]
    exact H5 ⟨la,of,rfl,rfl,g4,g5,g6,λq=>absurd q (by lia)⟩
   ·rw[if_neg ho]
    refine HV (qZ H hk hkey (by lia) (hx _ (by lia)) ?_)
    cases hm:fB LT left key arr base (hint - of)with
    |true=>exact H5 ⟨la,of,rfl,rfl,g4,g5,g6,λ_=>hm⟩
    |false=>exact H5 ⟨of,2*of+1,rfl,rfl,by lia,by lia,by lia,hm⟩
  ·intro c st' hz;let⟨la,of,rfl,rfl,g3,g4,g5,g6⟩:=hz
   exact⟨la,of,rfl,rfl,g4,g5,g6,λq=>absurd q (by lia)⟩
  ·intro c st' hz;let⟨la,of,rfl,rfl,g4,g5,g6,g7⟩:=hz
   dsimp only;refine Ba O H hk hkey hb hx hu (by lia) (by lia) (λi hi=>?_) (λ_=>g6) h
   by_cases c:of<hint+1
   ·exact mR O hu (show i<=hint - of by lia) (by lia) (g7 c)
   ·lia
end
end SM
namespace SM
open PySem PyProof.Rows
def bX:Nat->StateT II N1 Unit:=sortPriv%PySem.Builtin.setMinGallop
abbrev aw (st:II) (g:Nat):II:=IQ (kindOf st) (arrOf st) (pendingOf st) g (failedOf st)
def m7:Array HU->Array HU->StateT II N1 (Array HU):=sortPriv%PySem.Builtin.mergeLo
def ms:Array HU->Array HU->StateT II N1 (Array HU):=sortPriv%PySem.Builtin.mergeHi
section
variable{LT:HU->HU->Bool}
def hX (a:Array HU) (i:Nat):K a i=(a.toList[i]?).getD nK:=by unfold K;simp
def iQ {a:Array HU}{i:Nat}(h:i<a.size):a.toList.drop i=[K a i]++a.toList.drop (i+1):=by
 rw[Jl (by trivial),hX];simp[h]
def c6 (a:Array HU) (i k:Nat):a.toList.drop i=(a.extract i (i+k)).toList++a.toList.drop (i+k):=by
 rw[LY,Lg,show i+k - i=k by lia,<-List.drop_drop,Ko]
def g9 (a:Array HU) (i:Nat):(a.extract i a.size).toList=a.toList.drop i:=by
 rw[LY,Lg];exact J2 (by simp)
def eR {a:Array HU}{i:Nat}(h:a.size<=i):a.toList.drop i=[]:=MS (by trivial)
def dX {a:Array HU}{i:Nat}{x:HU}(h:x∈a.toList.drop i):∃j,i<=j/\j<a.size/\x=K a j:=by
 let⟨k,hk,e⟩:=List.mem_drop_iff_getElem.mp h;simp at hk;exact⟨i+k,by lia,by lia,by rw[hX];simp[show i+k<a.size by lia,<-e]⟩
def d7 {a:Array HU}{i:Nat}{x:HU}(h:x∈a.toList.take i):∃j,j<i/\j<a.size/\x=K a j:=by
 let⟨k,hk,e⟩:=qax.mp h;simp at hk;exact⟨k,by lia,by lia,by rw[hX];simp[show k<a.size by lia,<-e]⟩
def bi {a:Array HU}{i j:Nat}{x:HU}(h:x∈(a.extract i j).toList):∃k,i<=k/\k<j/\k<a.size/\x=K a k:=by
 rw[LY,Lg]at h;let⟨k,hk,e⟩:=qax.mp h;simp at hk;exact⟨i+k,by lia,by lia,by lia,by rw[hX];simp[show i+k<a.size by lia,<-e]⟩
def iP {a:Array HU}{i:Nat}(h:i<a.size):(a.toList.take (i+1)).reverse=[K a i]++(a.toList.take i).reverse:=by
 rw[List.take_succ_eq_append_getElem (by trivial),qay,hX];simp[h]
def oM (a:Array HU) {i k:Nat}(h:i<=k):(a.toList.take k).reverse=(a.extract i k).reverse.toList++(a.toList.take i).reverse:=by
 rw[Nh,<-qay,LY,Lg];rw[<-Ko i (a.toList.take k),List.take_take,Me h,List.drop_take]
def R (LT:HU->HU->Bool) (x y:HU):Prop:=LT y x=Y
structure J (LT:HU->HU->Bool) (T out ra rb:Qw HU):Prop where
 pm:(out++ra++rb).Perm T
 sa:(out++ra).Pairwise (R LT)
 sb:(out++rb).Pairwise (R LT)
structure Good (LT:HU->HU->Bool) (T l:Qw HU):Prop where
 pm:l.Perm T
 so:l.Pairwise (R LT)
variable{T out ra rb c:Qw HU}
def J.swap (h:J LT T out ra rb):J LT T out rb ra:=⟨by
 have:=h.pm;rw[Jg]at this⊢;exact((MI out qaz).trans this),h.sb,h.sa⟩
def J.push (h:J LT T out (c++ra) rb) (q:∀x∈c,∀y∈rb,LT y x=Y):J LT T (out++c) ra rb:=by
 let⟨h1,h2,h3⟩:=h;refine⟨by simp_all,by simp;lia,?_⟩
 rw[<-Jg]at h2;rw[JO]at h3⊢;refine⟨(qaA.mp h2).1,h3.2.1,λx hx y hy=>?_⟩
 rcases qab.mp hx with hx|hx
 ·exact h3.2.2 x hx y hy
 ·exact q x hx y hy
def J.done (h:J LT T out ra []):Good LT T (out++ra):=⟨by simpa using h.pm,h.sa⟩
def J.last {z:HU}(h:J LT T out [z] rb) (q:∀y∈rb,LT z y=Y):Good LT T (out++rb++[z]):=by
 refine⟨h.swap.pm,?_⟩
 ·rw[JO]
  refine⟨h.sb,MK _ _,λx hx y hy=>?_⟩
  rw[Km]at hy;subst hy
  rcases qab.mp hx with hx|hx
  ·exact(qaA.mp h.sa).2.2 x hx y (.head _)
  ·exact q x hx
end
end SM
namespace SM
open PySem PyProof.Rows
abbrev LS:=Qq (Array HU)×Array HU×Nat×Nat×Nat×Nat×Nat
abbrev dn' (a b out:Array HU) (ia ib:Nat):Array HU:=out++a.extract ia a.size++b.extract ib b.size
abbrev la' (a b out:Array HU) (ia ib:Nat):Array HU:=out++b.extract ib b.size++a.extract ia a.size
def loC (a b out:Array HU) (ia ib mg ac bc:Nat):StateT II N1 (ForInStep LS):=do
 let x <-elem' a ia
 if ia+1+1==a.size then pure (.done (U (la' a b (out.push x) (ia+1) ib),out.push x,ia+1,ib,mg,ac,bc))
 else if ac<7&&bc<7 then pure (.done (B,out.push x,ia+1,ib,mg,ac,bc)) else pure (.yield (B,out.push x,ia+1,ib,mg,ac,bc))
def loB (a b out:Array HU) (ia ib mg ac bc:Nat):StateT II N1 (ForInStep LS):=do
 let x <-elem' b ib
 if ib+1==b.size then pure (.done (U (dn' a b (out.push x) ia (ib+1)),out.push x,ia,ib+1,mg,ac,bc))
 else do
  let y <-elem' a ia
  match <-eD V y b (ib+1) (b.size - (ib+1)) 0 with
  |some k=>
   if k>0 then
    if ib+1+k==b.size then pure (.done (U (dn' a b (out.push x++b.extract (ib+1) (ib+1+k)) ia (ib+1+k)),out.push x++b.extract (ib+1) (ib+1+k),ia,ib+1+k,mg,ac,k))
    else loC a b (out.push x++b.extract (ib+1) (ib+1+k)) ia (ib+1+k) mg ac k
   else loC a b (out.push x) ia (ib+1) mg ac k
  |_=>pure (.done (U (dn' a b (out.push x) ia (ib+1)),out.push x,ia,ib+1,mg,ac,bc))
def loA (a b out:Array HU) (ia ib mg ac bc:Nat):StateT II N1 (ForInStep LS):=do
 bX mg
 let y <-elem' b ib
 match <-eD Y y a ia (a.size - ia) 0 with
 |some k=>
  if k>0 then
   if ia+k+1==a.size then pure (.done (U (la' a b (out++a.extract ia (ia+k)) (ia+k) ib),out++a.extract ia (ia+k),ia+k,ib,mg,k,bc))
   else if ia+k==a.size then pure (.done (U (dn' a b (out++a.extract ia (ia+k)) (ia+k) ib),out++a.extract ia (ia+k),ia+k,ib,mg,k,bc))
   else loB a b (out++a.extract ia (ia+k)) (ia+k) ib mg k bc
  else loB a b out ia ib mg k bc
 |_=>pure (.done (U (dn' a b out ia ib),out,ia,ib,mg,ac,bc))
abbrev WS:=Qq (Array HU)×Array HU×Nat×Nat×Nat×Nat
abbrev OS:=Qq (Array HU)×Array HU×Nat×Nat×Nat
def loW (a b out:Array HU) (ia ib mg ac bc:Nat):StateT II N1 (ForInStep WS):=do
 let x <-elem' b ib
 let y <-elem' a ia
 match <-lt' x y with
 |some t=>
  if t then do
   let x <-elem' b ib
   if ib+1==b.size then pure (.done (U (dn' a b (out.push x) ia (ib+1)),out.push x,ia,ib+1,0,bc+1))
   else if bc+1>=mg then pure (.done (B,out.push x,ia,ib+1,0,bc+1)) else pure (.yield (B,out.push x,ia,ib+1,0,bc+1))
  else do
   let x <-elem' a ia
   if ia+1+1==a.size then pure (.done (U (la' a b (out.push x) (ia+1) ib),out.push x,ia+1,ib,ac+1,0))
   else if ac+1>=mg then pure (.done (B,out.push x,ia+1,ib,ac+1,0)) else pure (.yield (B,out.push x,ia+1,ib,ac+1,0))
 |_=>pure (.done (U (dn' a b out ia ib),out,ia,ib,ac,bc))
def loG (a b out:Array HU) (ia ib mg ac bc:Nat):StateT II N1 (ForInStep LS):=if mg>1 then loA a b out ia ib (mg - 1) ac bc else loA a b out ia ib mg ac bc
def loO (a b out:Array HU) (ia ib mg:Nat):StateT II N1 (ForInStep OS):=do
 let d <-forIn [:a.size+b.size] ((B,out,ia,ib,0,0):WS) λ_ c=>loW a b c.2.1 c.2.2.1 c.2.2.2.1 mg c.2.2.2.2.1 c.2.2.2.2.2
 Ky (λ_=>StateT II N1 (ForInStep OS)) d.1 (λr=>pure (.done (U r,d.2.1,d.2.2.1,d.2.2.2.1,mg))) λ_=>do
  rule "list.sort.gallop"
  let c <-forIn [:a.size+b.size] ((B,d.2.1,d.2.2.1,d.2.2.2.1,mg+1,d.2.2.2.2.1,d.2.2.2.2.2):LS) λ_ c=>loG a b c.2.1 c.2.2.1 c.2.2.2.1 c.2.2.2.2.1 c.2.2.2.2.2.1 c.2.2.2.2.2.2
  Ky (λ_=>StateT II N1 (ForInStep OS)) c.1 (λr=>pure (.done (U r,c.2.1,c.2.2.1,c.2.2.2.1,c.2.2.2.2.1))) λ_=>do
   bX (c.2.2.2.2.1+1)
   pure (.yield (B,c.2.1,c.2.2.1,c.2.2.2.1,c.2.2.2.2.1+1))
theorem GN (a b:Array HU):m7 a b=(do
 rule "list.sort.merge-lo"
 let x <-elem' b 0
 if 1==b.size then pure (dn' a b #[x] 0 1)
 else if 0+1==a.size then pure (la' a b #[x] 0 1)
 else do
  let s <-get
  let c <-forIn [:a.size+b.size] ((B,#[x],0,1,gallopOf s):OS) λ_ c=>loO a b c.2.1 c.2.2.1 c.2.2.2.1 c.2.2.2.2
  Ky (λ_=>StateT II N1 (Array HU)) c.1 pure λ_=>unsupported "internal:list.sort.merge-bound"):=rfl
section
variable{prog:IZ}{w:JA}{A:Ia}{E:HM->HN->Prop}{s:HN}{LT:HU->HU->Bool}{T:Array HU}{κ:Lx}{st:II}{a b:Array HU}
structure Two (LT:HU->HU->Bool) (T a b:Array HU):Prop where
 ha:∀i,i<a.size->K a i∈T
 hb:∀i,i<b.size->K b i∈T
 ua:Up LT a 0 a.size
 ub:Up LT b 0 b.size
 za:0<a.size
 zb:0<b.size
 h0:∀j,j<a.size->LT (K a j) (K b 0)=Y
 hl:∀j,j<b.size->LT (K a (a.size - 1)) (K b j)=Y
abbrev JL (LT:HU->HU->Bool) (a b out:Array HU) (ia ib:Nat):Prop:=J LT (a.toList++b.toList) out.toList (a.toList.drop ia) (b.toList.drop ib)
variable{out:Array HU}{ia ib:Nat}
def JL.dB (j:JL LT a b out ia ib) (e:ib=b.size):Good LT (a.toList++b.toList) (dn' a b out ia ib).toList:=by
 rw[IV,IV,g9,g9];rw[JL,eR (a:=b) (by lia)]at j
 rw[eR (a:=b) (by lia),Ka];exact j.done
def JL.dA (j:JL LT a b out ia ib) (e:ia=a.size):Good LT (a.toList++b.toList) (dn' a b out ia ib).toList:=by
 rw[IV,IV,g9,g9];rw[JL,eR (a:=a) (by lia)]at j
 rw[eR (a:=a) (by lia),Ka];exact j.swap.done
def JL.lA (W:Two LT T a b) (j:JL LT a b out ia ib) (e:ia+1=a.size):Good LT (a.toList++b.toList) (la' a b out ia ib).toList:=by
 rw[IV,IV,g9,g9];rw[JL,iQ (show ia<a.size by lia),eR (a:=a) (show a.size<=ia+1 by lia),Ka]at j
 rw[iQ (show ia<a.size by lia),eR (a:=a) (show a.size<=ia+1 by lia),Ka]
 refine j.last λy hy=>?_
 let⟨k,_,hk,rfl⟩:=dX hy;rw[show ia=a.size - 1 by lia];exact W.hl k hk
def JL.pB (j:JL LT a b out ia ib) (e:ib<b.size) (q:∀k,ia<=k->k<a.size->LT (K a k) (K b ib)=Y):JL LT a b (out.push (K b ib)) ia (ib+1):=by
 rw[JL,Kh];rw[JL,iQ e]at j;refine(j.swap.push λx hx y hy=>?_).swap
 obtain rfl:=on.mp hx;let⟨k,h1,h2,rfl⟩:=dX hy;exact q k h1 h2
def JL.pA (j:JL LT a b out ia ib) (e:ia<a.size) (q:∀k,ib<=k->k<b.size->LT (K b k) (K a ia)=Y):JL LT a b (out.push (K a ia)) (ia+1) ib:=by
 rw[JL,Kh];rw[JL,iQ e]at j;refine j.push λx hx y hy=>?_
 obtain rfl:=on.mp hx;let⟨k,h1,h2,rfl⟩:=dX hy;exact q k h1 h2
def JL.cA (k:Nat) (j:JL LT a b out ia ib) (q:∀i,i<k->ia+i<a.size->∀j,ib<=j->j<b.size->LT (K b j) (K a (ia+i))=Y):JL LT a b (out++a.extract ia (ia+k)) (ia+k) ib:=by
 rw[JL,IV];rw[JL,c6 a ia k]at j;refine j.push λx hx y hy=>?_
 let⟨i,h1,h2,h3,rfl⟩:=bi hx;let⟨k,h4,h5,rfl⟩:=dX hy;have:=q (i - ia) (by lia) (by lia) k h4 h5
 simp_all
def JL.cB (k:Nat) (j:JL LT a b out ia ib) (q:∀i,i<k->ib+i<b.size->∀j,ia<=j->j<a.size->LT (K a j) (K b (ib+i))=Y):JL LT a b (out++b.extract ib (ib+k)) ia (ib+k):=by
 rw[JL,IV];rw[JL,c6 b ib k]at j;refine(j.swap.push λx hx y hy=>?_).swap
 let⟨i,h1,h2,h3,rfl⟩:=bi hx;let⟨k,h4,h5,rfl⟩:=dX hy;have:=q (i - ib) (by lia) (by lia) k h4 h5
 simp_all
def pw_up {c:Array HU}(u:Up LT c 0 c.size):c.toList.Pairwise (R LT):=qaj.mpr λi j hi hj hij=>by
 simp at hi hj;have:=u i j (Im _) (by lia) hj
 unfold R;unfold K at this
 simp_all
def Two.j0 (W:Two LT T a b):JL LT a b #[K b 0] 0 1:=by
 let j:JL LT a b #[] 0 0:=⟨KU _,pw_up W.ua,pw_up W.ub⟩;exact j.pB W.zb λk _ hk=>W.h0 k hk
abbrev IL (LT:HU->HU->Bool) (a b:Array HU) (n:Nat) (out:Array HU) (ia ib:Nat):Prop:=JL LT a b out ia ib/\ia+1<a.size/\ib<b.size/\n<=ia+ib
structure EndL (LT:HU->HU->Bool) (a b:Array HU) (st:II) (n0:Nat) (P:ForInStep LS->II->Prop):Prop where
 good:∀m r g,Good LT (a.toList++b.toList) m.toList->P (.done (U m,r)) (aw st g)
 next:∀out ia ib mg ac bc g,IL LT a b (n0+1) out ia ib->P (.done (B,out,ia,ib,mg,ac,bc)) (aw st g)/\P (.yield (B,out,ia,ib,mg,ac,bc)) (aw st g)
variable{n0 mg ac bc g:Nat}{P:ForInStep LS->II->Prop}
def Bu (W:Two LT T a b) (j:IL LT a b n0 out ia ib) (Z:EndL LT a b st n0 P) (q:∀k,ib<=k->k<b.size->LT (K b k) (K a ia)=Y):
  wpS (model prog w) A E s (loC a b out ia ib mg ac bc) P (aw st g):=by
 let⟨j,h1,h2,h3⟩:=j;refine HV (aL (by lia) ?_)
 let j1:=j.pA (by lia) q
 by_cases e:ia+1+1=a.size
 ·rw[if_pos (beq_iff_eq.mpr e)];exact H5 (Z.good _ _ _ (j1.lA W e))
 ·rw[if_neg (λq=>e (beq_iff_eq.mp q))]
  let z:=λac bc=>Z.next _ _ _ mg ac bc g ⟨j1,by lia,h2,by lia⟩
  by_cases c:(decide (ac<7)&&decide (bc<7))=V
  ·rw[if_pos c];exact H5 (z ac bc).1
  ·rw[if_neg c];exact H5 (z ac bc).2
variable(O:OrdK LT) (H:Ans prog w A s κ LT T) (hk:kindOf st=κ) (W:Two LT T a b)
include O H hk W
section
variable(j:IL LT a b n0 out ia ib)
include j
theorem AT (Z:EndL LT a b st n0 P) (q:∀k,ia<=k->k<a.size->LT (K a k) (K b ib)=Y):
  wpS (model prog w) A E s (loB a b out ia ib mg ac bc) P (aw st g):=by
 let⟨j,h1,h2,h3⟩:=j;refine HV (aL h2 ?_)
 let j1:=j.pB h2 q
 by_cases e:ib+1=b.size
 ·rw[if_pos (beq_iff_eq.mpr e)];exact H5 (Z.good _ _ _ (j1.dB e))
 rw[if_neg (λq=>e (beq_iff_eq.mp q))]
 refine HV (aL (by lia) ?_)
 refine HV (cX (st:=aw st g) O H hk (W.ha _ (by lia)) (by lia) (by lia) (λi hi=>W.hb _ (by lia)) (λp q a1 a2 a3=>W.ub p q (Im _) a2 (by lia)) λk k1 k2 k3=>?_)
 let q2:∀m,ib+1+k<=m->m<b.size->LT (K b m) (K a ia)=Y:=λm m1 m2=>by
  have:=k3 (m - (ib+1)) (by lia) (by lia)
  unfold fB at this
  simpa only[if_true,show ib+1+(m - (ib+1))=m by lia]using this
 dsimp only
 by_cases c:k>0
 ·rw[if_pos c]
  let j2:=j1.cB k λi i1 i2 m m1 m2=>O.tr _ _ _ (O.asym _ _ (by simpa only[fB,if_true]using k2 i i1)) (W.ua ia m (Im _) m1 m2)
  by_cases e2:ib+1+k=b.size
  ·rw[if_pos (beq_iff_eq.mpr e2)];exact H5 (Z.good _ _ _ (j2.dB e2))
  ·rw[if_neg (λq=>e2 (beq_iff_eq.mp q))]
   exact Bu W ⟨j2,h1,by lia,by lia⟩ Z q2
 ·rw[if_neg c]
  exact Bu W ⟨j1,h1,by lia,by lia⟩ Z (by rw[show k=0 by lia]at q2;exact q2)
theorem EO (Z:EndL LT a b st n0 P):wpS (model prog w) A E s (loA a b out ia ib mg ac bc) P (aw st g):=by
 let⟨j,h1,h2,h3⟩:=j;refine HV (KC ?_)
 refine HV (aL h2 ?_)
 refine HV (cX (st:=aw st mg) O H hk (W.hb _ h2) (by lia) (by lia) (λi hi=>W.ha _ (by lia)) (λp q a1 a2 a3=>W.ua p q (Im _) a2 (by lia)) λk k1 k2 k3=>?_)
 let q2:∀m,ia+k<=m->m<a.size->LT (K a m) (K b ib)=Y:=λm m1 m2=>by
  have:=k3 (m - ia) (by lia) (by lia)
  unfold fB at this;simp![Ig,if_false,NE,show ia+(m - ia)=m by lia]at this
  exact O.asym _ _ this
 dsimp only
 by_cases c:k>0
 ·rw[if_pos c]
  let j2:=j.cA k λi i1 i2 m m1 m2=>O.tr _ _ _ (by simpa only[fB,Ig,if_false,K3]using k2 i i1) (W.ub ib m (Im _) m1 m2)
  by_cases e1:ia+k+1=a.size
  ·rw[if_pos (beq_iff_eq.mpr e1)];exact H5 (Z.good _ _ _ (j2.lA W e1))
  ·rw[if_neg (λq=>e1 (beq_iff_eq.mp q))]
   by_cases e2:ia+k=a.size
   ·rw[if_pos (beq_iff_eq.mpr e2)];exact H5 (Z.good _ _ _ (j2.dA e2))
   ·rw[if_neg (λq=>e2 (beq_iff_eq.mp q))]
    exact AT O H hk W ⟨j2,by lia,h2,by lia⟩ Z q2
 ·rw[if_neg c]
  exact AT O H hk W ⟨j,h1,h2,h3⟩ Z (by rw[show k=0 by lia]at q2;exact q2)
theorem E0 {P:ForInStep WS->II->Prop}(z1:∀m r,Good LT (a.toList++b.toList) m.toList->P (.done (U m,r)) (aw st g)) (z2:∀out ia ib ac bc,IL LT a b n0 out ia ib->P (.done (B,out,ia,ib,ac,bc)) (aw st g)/\P (.yield (B,out,ia,ib,ac,bc)) (aw st g)):
  wpS (model prog w) A E s (loW a b out ia ib mg ac bc) P (aw st g):=by
 let⟨j,i1,i2,i3⟩:=j;refine HV (aL i2 (HV (aL (by lia) (HV (xr (st:=aw st g) H hk (W.hb _ i2) (W.ha _ (by lia)) ?_)))))
 cases hw:LT (K b ib) (K a ia)with
 |true=>
  refine HV (aL i2 ?_)
  let j1:=j.pB i2 λk k1 k2=>O.tr _ _ _ (O.asym _ _ hw) (W.ua ia k (Im _) k1 k2)
  by_cases e:ib+1=b.size
  ·rw[if_pos (beq_iff_eq.mpr e)];exact H5 (z1 _ _ (j1.dB e))
  ·rw[if_neg (λq=>e (beq_iff_eq.mp q))]
   let z:=λac bc=>z2 _ _ _ ac bc ⟨j1,i1,by lia,by lia⟩
   by_cases c:bc+1>=mg
   ·rw[if_pos c];exact H5 (z _ _).1
   ·rw[if_neg c];exact H5 (z _ _).2
 |false=>
  refine HV (aL (by lia) ?_)
  let j1:=j.pA (by lia) λk k1 k2=>O.tr _ _ _ hw (W.ub ib k (Im _) k1 k2)
  by_cases e:ia+1+1=a.size
  ·rw[if_pos (beq_iff_eq.mpr e)];exact H5 (z1 _ _ (j1.lA W e))
  ·rw[if_neg (λq=>e (beq_iff_eq.mp q))]
   let z:=λac bc=>z2 _ _ _ ac bc ⟨j1,by lia,i2,by lia⟩
   by_cases c:ac+1>=mg
   ·rw[if_pos c];exact H5 (z _ _).1
   ·rw[if_neg c];exact H5 (z _ _).2
theorem Fs (Z:EndL LT a b st n0 P):wpS (model prog w) A E s (loG a b out ia ib mg ac bc) P (aw st g):=by
 unfold loG;split<;>exact EO O H hk W j Z
theorem Fz {P:ForInStep OS->II->Prop}(z1:∀m r g,Good LT (a.toList++b.toList) m.toList->P (.done (U m,r)) (aw st g)) (z2:∀out ia ib mg g,IL LT a b (n0+1) out ia ib->P (.yield (B,out,ia,ib,mg)) (aw st g)):
  wpS (model prog w) A E s (loO a b out ia ib mg) P (aw st g):=by
 refine HV (Kz (Jw (I:=λy c st'=>∃out ia ib ac bc,c=(B,out,ia,ib,ac,bc)/\st'=aw st g/\IL LT a b n0 out ia ib)
  (Q:=λc st'=>st'=aw st g/\((∃m r,c=(U m,r)/\Good LT (a.toList++b.toList) m.toList)\/∃out ia ib ac bc,c=(B,out,ia,ib,ac,bc)/\IL LT a b n0 out ia ib)) ?_ ?_ ⟨out,ia,ib,0,0,rfl,rfl,j⟩) ?_)
 ·intro y c st' _ _ hz;let⟨out,ia,ib,ac,bc,rfl,rfl,j⟩:=hz
  exact E0 O H hk W j (λm r hm=>⟨rfl,.inl ⟨m,r,rfl,hm⟩⟩) λout ia ib ac bc j=>⟨⟨rfl,.inr ⟨_,_,_,_,_,rfl,j⟩⟩,⟨_,_,_,_,_,rfl,rfl,j⟩⟩
 ·intro c st' hz;let⟨out,ia,ib,ac,bc,rfl,rfl,j⟩:=hz
  exact⟨rfl,.inr ⟨_,_,_,_,_,rfl,j⟩⟩
 ·intro c st' hz;let⟨rfl,hz⟩:=hz;rcases hz with hz|hz
  ·let⟨m,r,rfl,hm⟩:=hz;exact H5 (z1 m _ g hm)
  ·let⟨out,ia,ib,ac,bc,rfl,j⟩:=hz
   refine HV (NF (Ju ⟨rfl,?_⟩))
   refine HV (Kz (Jw (I:=λy c st'=>∃out ia ib mg ac bc g,c=(B,out,ia,ib,mg,ac,bc)/\st'=aw st g/\IL LT a b n0 out ia ib/\(1<=y->n0<ia+ib))
    (Q:=λc st'=>∃g,st'=aw st g/\((∃m r,c=(U m,r)/\Good LT (a.toList++b.toList) m.toList)\/∃out ia ib mg ac bc,c=(B,out,ia,ib,mg,ac,bc)/\IL LT a b (n0+1) out ia ib)) ?_ ?_ ⟨out,ia,ib,_,ac,bc,g,rfl,rfl,j,λq=>absurd q (by lia)⟩) ?_)
   ·intro y c st' _ _ hz;let⟨out,ia,ib,mg,ac,bc,g,rfl,rfl,j,_⟩:=hz
    exact Fs O H hk W j ⟨λm r g hm=>⟨g,rfl,.inl ⟨m,r,rfl,hm⟩⟩,λout ia ib mg ac bc g j=>⟨⟨g,rfl,.inr ⟨_,_,_,_,_,_,rfl,j⟩⟩,⟨_,_,_,_,_,_,g,rfl,rfl,⟨j.1,j.2.1,j.2.2.1,by lia⟩,λ_=>j.2.2.2⟩⟩⟩
   ·intro c st' hz;let⟨out,ia,ib,mg,ac,bc,g,rfl,rfl,⟨j,i1,i2,i3⟩,i4⟩:=hz
    exact⟨g,rfl,.inr ⟨_,_,_,_,_,_,rfl,j,i1,i2,i4 (by lia)⟩⟩
   ·intro c st' hz;let⟨g,rfl,hz⟩:=hz;rcases hz with hz|hz
    ·let⟨m,r,rfl,hm⟩:=hz;exact H5 (z1 m _ g hm)
    ·let⟨out,ia,ib,mg,ac,bc,rfl,j⟩:=hz;exact HV (KC (H5 (z2 _ _ _ _ _ j)))
end
theorem uB {Q:Array HU->II->Prop}(h:∀m g,Good LT (a.toList++b.toList) m.toList->Q m (aw st g)):wpS (model prog w) A E s (m7 a b) Q st:=by
 rw[GN];refine HV (NF (Ju ⟨rfl,?_⟩))
 refine HV (aL W.zb ?_)
 by_cases e1:1=b.size
 ·rw[if_pos (beq_iff_eq.mpr e1)];exact H5 (h _ (gallopOf st) (W.j0.dB e1))
 rw[if_neg (λq=>e1 (beq_iff_eq.mp q))]
 by_cases e2:0+1=a.size
 ·rw[if_pos (beq_iff_eq.mpr e2)];exact H5 (h _ (gallopOf st) (W.j0.lA W e2))
 rw[if_neg (λq=>e2 (beq_iff_eq.mp q))]
 let za:=W.za;let zb:=W.zb;refine HV (MN ?_)
 refine HV (Kz (Jw (I:=λx c st'=>∃out ia ib mg g,c=(B,out,ia,ib,mg)/\st'=aw st g/\IL LT a b (x+1) out ia ib)
  (Q:=λc st'=>∃m g r,c=(U m,r)/\st'=aw st g/\Good LT (a.toList++b.toList) m.toList) ?_ ?_ ⟨_,_,_,_,gallopOf st,rfl,rfl,W.j0,by lia,by lia,by lia⟩) ?_)
 ·intro x c st' g1 g2 hz;let⟨out,ia,ib,mg,g,rfl,rfl,j⟩:=hz
  exact Fz O H hk W j (λm r g hm=>⟨m,g,_,rfl,rfl,hm⟩) λout ia ib mg g j=>⟨_,_,_,_,_,rfl,rfl,j⟩
 ·intro c st' hz;let⟨out,ia,ib,mg,g,rfl,rfl,j,i1,i2,i3⟩:=hz
  exfalso;lia
 ·intro c st' hz;let⟨m,g,r,rfl,rfl,hm⟩:=hz
  exact H5 (h m g hm)
end
end SM
namespace SM
open PySem PyProof.Rows
abbrev HS:=Qq (Array HU)×Nat×Nat×Array HU×Nat×Nat×Nat
abbrev dh' (a b out:Array HU) (na nb:Nat):Array HU:=a.extract 0 na++b.extract 0 nb++out.reverse
abbrev fh' (a b out:Array HU) (na nb:Nat):Array HU:=b.extract 0 nb++a.extract 0 na++out.reverse
def hiC (a b out:Array HU) (na nb mg ac bc:Nat):StateT II N1 (ForInStep HS):=do
 let x <-elem' a (na - 1)
 if na - 1==0 then pure (.done (U (dh' a b (out.push x) (na - 1) nb),na - 1,nb,out.push x,mg,ac,bc))
 else if ac<7&&bc<7 then pure (.done (B,na - 1,nb,out.push x,mg,ac,bc)) else pure (.yield (B,na - 1,nb,out.push x,mg,ac,bc))
def hiB (a b out:Array HU) (na nb mg ac bc:Nat):StateT II N1 (ForInStep HS):=do
 let x <-elem' b (nb - 1)
 if nb - 1==1 then pure (.done (U (fh' a b (out.push x) na (nb - 1)),na,nb - 1,out.push x,mg,ac,bc))
 else do
  let y <-elem' a (na - 1)
  match <-eD V y b 0 (nb - 1) (nb - 1 - 1)with
  |some t=>
   if nb - 1 - t>0 then
    if t==1 then pure (.done (U (fh' a b (out.push x++(b.extract t (nb - 1)).reverse) na t),na,t,out.push x++(b.extract t (nb - 1)).reverse,mg,ac,nb - 1 - t))
    else if t==0 then pure (.done (U (dh' a b (out.push x++(b.extract t (nb - 1)).reverse) na t),na,t,out.push x++(b.extract t (nb - 1)).reverse,mg,ac,nb - 1 - t))
    else hiC a b (out.push x++(b.extract t (nb - 1)).reverse) na t mg ac (nb - 1 - t)
   else hiC a b (out.push x) na (nb - 1) mg ac (nb - 1 - t)
  |_=>pure (.done (U (dh' a b (out.push x) na (nb - 1)),na,nb - 1,out.push x,mg,ac,bc))
def hiA (a b out:Array HU) (na nb mg ac bc:Nat):StateT II N1 (ForInStep HS):=do
 bX mg
 let y <-elem' b (nb - 1)
 match <-eD Y y a 0 na (na - 1)with
 |some t=>
  if na - t>0 then
   if t==0 then pure (.done (U (dh' a b (out++(a.extract t na).reverse) t nb),t,nb,out++(a.extract t na).reverse,mg,na - t,bc))
   else hiB a b (out++(a.extract t na).reverse) t nb mg (na - t) bc
  else hiB a b out na nb mg (na - t) bc
 |_=>pure (.done (U (dh' a b out na nb),na,nb,out,mg,ac,bc))
abbrev VS:=Qq (Array HU)×Nat×Nat×Array HU×Nat×Nat
abbrev PS:=Qq (Array HU)×Nat×Nat×Array HU×Nat
def hiW (a b out:Array HU) (na nb mg ac bc:Nat):StateT II N1 (ForInStep VS):=do
 let x <-elem' b (nb - 1)
 let y <-elem' a (na - 1)
 match <-lt' x y with
 |some t=>
  if t then do
   let x <-elem' a (na - 1)
   if na - 1==0 then pure (.done (U (dh' a b (out.push x) (na - 1) nb),na - 1,nb,out.push x,ac+1,0))
   else if ac+1>=mg then pure (.done (B,na - 1,nb,out.push x,ac+1,0)) else pure (.yield (B,na - 1,nb,out.push x,ac+1,0))
  else do
   let x <-elem' b (nb - 1)
   if nb - 1==1 then pure (.done (U (fh' a b (out.push x) na (nb - 1)),na,nb - 1,out.push x,0,bc+1))
   else if bc+1>=mg then pure (.done (B,na,nb - 1,out.push x,0,bc+1)) else pure (.yield (B,na,nb - 1,out.push x,0,bc+1))
 |_=>pure (.done (U (dh' a b out na nb),na,nb,out,ac,bc))
def hiG (a b out:Array HU) (na nb mg ac bc:Nat):StateT II N1 (ForInStep HS):=if mg>1 then hiA a b out na nb (mg - 1) ac bc else hiA a b out na nb mg ac bc
def hiO (a b out:Array HU) (na nb mg:Nat):StateT II N1 (ForInStep PS):=do
 let d <-forIn [:a.size+b.size] ((B,na,nb,out,0,0):VS) λ_ c=>hiW a b c.2.2.2.1 c.2.1 c.2.2.1 mg c.2.2.2.2.1 c.2.2.2.2.2
 Ky (λ_=>StateT II N1 (ForInStep PS)) d.1 (λr=>pure (.done (U r,d.2.1,d.2.2.1,d.2.2.2.1,mg))) λ_=>do
  rule "list.sort.gallop"
  let c <-forIn [:a.size+b.size] ((B,d.2.1,d.2.2.1,d.2.2.2.1,mg+1,d.2.2.2.2.1,d.2.2.2.2.2):HS) λ_ c=>hiG a b c.2.2.2.1 c.2.1 c.2.2.1 c.2.2.2.2.1 c.2.2.2.2.2.1 c.2.2.2.2.2.2
  Ky (λ_=>StateT II N1 (ForInStep PS)) c.1 (λr=>pure (.done (U r,c.2.1,c.2.2.1,c.2.2.2.1,c.2.2.2.2.1))) λ_=>do
   bX (c.2.2.2.2.1+1)
   pure (.yield (B,c.2.1,c.2.2.1,c.2.2.2.1,c.2.2.2.2.1+1))
theorem Gg (a b:Array HU):ms a b=(do
 rule "list.sort.merge-hi"
 let x <-elem' a (a.size - 1)
 if a.size - 1==0 then pure (dh' a b #[x] (a.size - 1) b.size)
 else if b.size==1 then pure (fh' a b #[x] (a.size - 1) b.size)
 else do
  let s <-get
  let c <-forIn [:a.size+b.size] ((B,a.size - 1,b.size,#[x],gallopOf s):PS) λ_ c=>hiO a b c.2.2.2.1 c.2.1 c.2.2.1 c.2.2.2.2
  Ky (λ_=>StateT II N1 (Array HU)) c.1 pure λ_=>unsupported "internal:list.sort.merge-bound"):=rfl
def fl (LT:HU->HU->Bool) (x y:HU):Bool:=LT y x
section
variable{prog:IZ}{w:JA}{A:Ia}{E:HM->HN->Prop}{s:HN}{LT:HU->HU->Bool}{T:Array HU}{κ:Lx}{st:II}{a b:Array HU}
abbrev JH (LT:HU->HU->Bool) (a b out:Array HU) (na nb:Nat):Prop:=J (fl LT) (a.toList++b.toList) out.toList (a.toList.take na).reverse (b.toList.take nb).reverse
def Good.rev {T l:Qw HU}(h:Good (fl LT) T l):Good LT T l.reverse:=⟨(NP l).trans h.pm,qaB.mpr h.so⟩
variable{out:Array HU}{na nb:Nat}
def JH.dA (j:JH LT a b out na nb) (e:na=0):Good LT (a.toList++b.toList) (dh' a b out na nb).toList:=by
 subst e;have:=j.swap.done.rev
 simp_all
def JH.dB (j:JH LT a b out na nb) (e:nb=0):Good LT (a.toList++b.toList) (dh' a b out na nb).toList:=by
 subst e;have:=j.done.rev
 simp_all
def JH.fB (W:Two LT T a b) (j:JH LT a b out na nb) (e:nb=1):Good LT (a.toList++b.toList) (fh' a b out na nb).toList:=by
 subst e;rw[JH,iP (a:=b) (i:=0) W.zb,List.take_zero,List.reverse_nil,Ka]at j;have:=(j.swap.last λy hy=>?_).rev
 ·let e:=iP (a:=b) (i:=0) W.zb
  simp_all
 ·let⟨k,_,hk,rfl⟩:=d7 (qah.mp hy)
  exact W.h0 k hk
def JH.pA (j:JH LT a b out (na+1) nb) (e:na<a.size) (q:∀k,k<nb->k<b.size->LT (K a na) (K b k)=Y):JH LT a b (out.push (K a na)) na nb:=by
 rw[JH,Kh];rw[JH,iP e]at j;refine j.push λx hx y hy=>?_
 obtain rfl:=on.mp hx;let⟨k,h1,h2,rfl⟩:=d7 (qah.mp hy);exact q k h1 h2
def JH.pB (j:JH LT a b out na (nb+1)) (e:nb<b.size) (q:∀k,k<na->k<a.size->LT (K b nb) (K a k)=Y):JH LT a b (out.push (K b nb)) na nb:=by
 rw[JH,Kh];rw[JH,iP e]at j;refine(j.swap.push λx hx y hy=>?_).swap
 obtain rfl:=on.mp hx;let⟨k,h1,h2,rfl⟩:=d7 (qah.mp hy);exact q k h1 h2
def JH.cA {t:Nat}(ht:t<=na) (j:JH LT a b out na nb) (q:∀i,t<=i->i<na->i<a.size->∀j,j<nb->j<b.size->LT (K a i) (K b j)=Y):JH LT a b (out++(a.extract t na).reverse) t nb:=by
 rw[JH,IV];rw[JH,oM a ht]at j;refine j.push λx hx y hy=>?_
 rw[Nh,qah]at hx;let⟨i,h1,h2,h3,rfl⟩:=bi hx;let⟨k,h4,h5,rfl⟩:=d7 (qah.mp hy);exact q i h1 h2 h3 k h4 h5
def JH.cB {t:Nat}(ht:t<=nb) (j:JH LT a b out na nb) (q:∀i,t<=i->i<nb->i<b.size->∀j,j<na->j<a.size->LT (K b i) (K a j)=Y):JH LT a b (out++(b.extract t nb).reverse) na t:=by
 rw[JH,IV];rw[JH,oM b ht]at j;refine(j.swap.push λx hx y hy=>?_).swap
 rw[Nh,qah]at hx;let⟨i,h1,h2,h3,rfl⟩:=bi hx;let⟨k,h4,h5,rfl⟩:=d7 (qah.mp hy);exact q i h1 h2 h3 k h4 h5
def Two.k0 (W:Two LT T a b):JH LT a b #[K a (a.size - 1)] (a.size - 1) b.size:=by
 let rv:∀{c:Array HU},Up LT c 0 c.size->(c.toList.take c.size).reverse.Pairwise (R (fl LT)):=λ{c} u=>by
  rw[J2 (by simp)];exact qaB.mpr (pw_up u)
 let j:JH LT a b #[] a.size b.size:=⟨by
  rw[J2 (by simp),J2 (by simp)]
  exact((NP _).append (NP _)),rv W.ua,rv W.ub⟩
 let za:=W.za;rw[show a.size=a.size - 1+1 by lia]at j
 exact j.pA (by lia) λk k1 k2=>W.hl k k2
abbrev IH (LT:HU->HU->Bool) (a b:Array HU) (n:Nat) (out:Array HU) (na nb:Nat):Prop:=JH LT a b out na nb/\1<=na/\na<=a.size/\2<=nb/\nb<=b.size/\na+nb+n<=a.size+b.size
structure EndH (LT:HU->HU->Bool) (a b:Array HU) (st:II) (n0:Nat) (P:ForInStep HS->II->Prop):Prop where
 good:∀m r g,Good LT (a.toList++b.toList) m.toList->P (.done (U m,r)) (aw st g)
 next:∀out na nb mg ac bc g,IH LT a b (n0+1) out na nb->P (.done (B,na,nb,out,mg,ac,bc)) (aw st g)/\P (.yield (B,na,nb,out,mg,ac,bc)) (aw st g)
variable{n0 mg ac bc g:Nat}{P:ForInStep HS->II->Prop}
def AM (W:Two LT T a b) (j:IH LT a b n0 out na nb) (Z:EndH LT a b st n0 P) (q:∀k,k<nb->k<b.size->LT (K a (na - 1)) (K b k)=Y):
  wpS (model prog w) A E s (hiC a b out na nb mg ac bc) P (aw st g):=by
 let⟨j,h1,h1',h2,h2',h3⟩:=j;refine HV (aL (by lia) ?_)
 let j1:=JH.pA (na:=na - 1) (by rw[show na - 1+1=na by lia];exact j) (by lia) q
 by_cases e:na - 1=0
 ·rw[if_pos (beq_iff_eq.mpr e)];exact H5 (Z.good _ _ _ (j1.dA e))
 ·rw[if_neg (λq=>e (beq_iff_eq.mp q))]
  let z:=λac bc=>Z.next _ _ _ mg ac bc g ⟨j1,by lia,by lia,h2,h2',by lia⟩
  by_cases c:(decide (ac<7)&&decide (bc<7))=V
  ·rw[if_pos c];exact H5 (z ac bc).1
  ·rw[if_neg c];exact H5 (z ac bc).2
variable(O:OrdK LT) (H:Ans prog w A s κ LT T) (hk:kindOf st=κ) (W:Two LT T a b)
include O H hk W
section
variable(j:IH LT a b n0 out na nb)
include j
theorem Bl (Z:EndH LT a b st n0 P) (q:∀k,k<na->k<a.size->LT (K b (nb - 1)) (K a k)=Y):
  wpS (model prog w) A E s (hiB a b out na nb mg ac bc) P (aw st g):=by
 let⟨j,h1,h1',h2,h2',h3⟩:=j;refine HV (aL (by lia) ?_)
 let j1:=JH.pB (nb:=nb - 1) (by rw[show nb - 1+1=nb by lia];exact j) (by lia) q
 by_cases e:nb - 1=1
 ·rw[if_pos (beq_iff_eq.mpr e)];exact H5 (Z.good _ _ _ (j1.fB W e))
 rw[if_neg (λq=>e (beq_iff_eq.mp q))]
 refine HV (aL (by lia) ?_)
 refine HV (cX (st:=aw st g) O H hk (W.ha _ (by lia)) (by lia) (by lia) (λi hi=>W.hb _ (by lia)) (λp q a1 a2 a3=>W.ub p q (Im _) a2 (by lia)) λt k1 k2 k3=>?_)
 let q2:∀m,m<t->m<b.size->LT (K a (na - 1)) (K b m)=Y:=λm m1 m2=>by
  have:=k2 m m1;unfold fB at this;simp![if_true,KS]at this;exact O.asym _ _ this
 dsimp only
 by_cases c:nb - 1 - t>0
 ·rw[if_pos c]
  let j2:=j1.cB (t:=t) (by lia) λi i1 i2 i3 m m1 m2=>O.tr _ _ _ (W.ua m (na - 1) (Im _) (by lia) (by lia)) (by simpa only[fB,if_true,KS]using k3 i i1 i2)
  by_cases e2:t=1
  ·rw[if_pos (beq_iff_eq.mpr e2)];exact H5 (Z.good _ _ _ (j2.fB W e2))
  rw[if_neg (λq=>e2 (beq_iff_eq.mp q))]
  by_cases e3:t=0
  ·rw[if_pos (beq_iff_eq.mpr e3)];exact H5 (Z.good _ _ _ (j2.dB e3))
  rw[if_neg (λq=>e3 (beq_iff_eq.mp q))]
  exact AM W ⟨j2,h1,h1',by lia,by lia,by lia⟩ Z q2
 ·rw[if_neg c]
  exact AM W ⟨j1,h1,h1',by lia,by lia,by lia⟩ Z (by rw[show t=nb - 1 by lia]at q2;exact q2)
theorem ES (Z:EndH LT a b st n0 P):
  wpS (model prog w) A E s (hiA a b out na nb mg ac bc) P (aw st g):=by
 let⟨j,h1,h1',h2,h2',h3⟩:=j;refine HV (KC ?_)
 refine HV (aL (by lia) ?_)
 refine HV (cX (st:=aw st mg) O H hk (W.hb _ (by lia)) (by lia) (by lia) (λi hi=>W.ha _ (by lia)) (λp q a1 a2 a3=>W.ua p q (Im _) a2 (by lia)) λt k1 k2 k3=>?_)
 let q2:∀m,m<t->m<a.size->LT (K b (nb - 1)) (K a m)=Y:=λm m1 m2=>by
  have:=k2 m m1;unfold fB at this
  lia
 dsimp only
 by_cases c:na - t>0
 ·rw[if_pos c]
  let j2:=j.cA (t:=t) (by lia) λi i1 i2 i3 m m1 m2=>O.tr _ _ _ (W.ub m (nb - 1) (Im _) (by lia) (by lia)) (O.asym _ _ (by simpa only[fB,Ig,if_false,NE,KS]using k3 i i1 i2))
  by_cases e1:t=0
  ·rw[if_pos (beq_iff_eq.mpr e1)];exact H5 (Z.good _ _ _ (j2.dA e1))
  ·rw[if_neg (λq=>e1 (beq_iff_eq.mp q))]
   exact Bl O H hk W ⟨j2,by lia,by lia,h2,h2',by lia⟩ Z q2
 ·rw[if_neg c]
  exact Bl O H hk W ⟨j,h1,h1',h2,h2',h3⟩ Z (by rw[show t=na by lia]at q2;exact q2)
theorem Fu {P:ForInStep VS->II->Prop}(z1:∀m r,Good LT (a.toList++b.toList) m.toList->P (.done (U m,r)) (aw st g)) (z2:∀out na nb ac bc,IH LT a b n0 out na nb->P (.done (B,na,nb,out,ac,bc)) (aw st g)/\P (.yield (B,na,nb,out,ac,bc)) (aw st g)):
  wpS (model prog w) A E s (hiW a b out na nb mg ac bc) P (aw st g):=by
 let⟨j,i1,i1',i2,i2',i3⟩:=j;refine HV (aL (by lia) (HV (aL (by lia) (HV (xr (st:=aw st g) H hk (W.hb _ (by lia)) (W.ha _ (by lia)) ?_)))))
 cases hw:LT (K b (nb - 1)) (K a (na - 1))with
 |true=>
  refine HV (aL (by lia) ?_)
  let j1:=JH.pA (na:=na - 1) (by rw[show na - 1+1=na by lia];exact j) (by lia) λk k1 k2=>O.tr _ _ _ (W.ub k (nb - 1) (Im _) (by lia) (by lia)) (O.asym _ _ hw)
  by_cases e:na - 1=0
  ·rw[if_pos (beq_iff_eq.mpr e)];exact H5 (z1 _ _ (j1.dA e))
  ·rw[if_neg (λq=>e (beq_iff_eq.mp q))]
   let z:=λac bc=>z2 _ _ _ ac bc ⟨j1,by lia,by lia,i2,i2',by lia⟩
   by_cases c:ac+1>=mg
   ·rw[if_pos c];exact H5 (z _ _).1
   ·rw[if_neg c];exact H5 (z _ _).2
 |false=>
  refine HV (aL (by lia) ?_)
  let j1:=JH.pB (nb:=nb - 1) (by rw[show nb - 1+1=nb by lia];exact j) (by lia) λk k1 k2=>O.tr _ _ _ (W.ua k (na - 1) (Im _) (by lia) (by lia)) hw
  by_cases e:nb - 1=1
  ·rw[if_pos (beq_iff_eq.mpr e)];exact H5 (z1 _ _ (j1.fB W e))
  ·rw[if_neg (λq=>e (beq_iff_eq.mp q))]
   let z:=λac bc=>z2 _ _ _ ac bc ⟨j1,i1,i1',by lia,by lia,by lia⟩
   by_cases c:bc+1>=mg
   ·rw[if_pos c];exact H5 (z _ _).1
   ·rw[if_neg c];exact H5 (z _ _).2
theorem EN (Z:EndH LT a b st n0 P):wpS (model prog w) A E s (hiG a b out na nb mg ac bc) P (aw st g):=by
 unfold hiG;split<;>exact ES O H hk W j Z
theorem D5 {P:ForInStep PS->II->Prop}(z1:∀m r g,Good LT (a.toList++b.toList) m.toList->P (.done (U m,r)) (aw st g)) (z2:∀out na nb mg g,IH LT a b (n0+1) out na nb->P (.yield (B,na,nb,out,mg)) (aw st g)):
  wpS (model prog w) A E s (hiO a b out na nb mg) P (aw st g):=by
 refine HV (Kz (Jw (I:=λy c st'=>∃na nb out ac bc,c=(B,na,nb,out,ac,bc)/\st'=aw st g/\IH LT a b n0 out na nb)
  (Q:=λc st'=>st'=aw st g/\((∃m r,c=(U m,r)/\Good LT (a.toList++b.toList) m.toList)\/∃na nb out ac bc,c=(B,na,nb,out,ac,bc)/\IH LT a b n0 out na nb)) ?_ ?_ ⟨na,nb,out,0,0,rfl,rfl,j⟩) ?_)
 ·intro y c st' _ _ hz;let⟨na,nb,out,ac,bc,rfl,rfl,j⟩:=hz
  exact Fu O H hk W j (λm r hm=>⟨rfl,.inl ⟨m,r,rfl,hm⟩⟩) λout na nb ac bc j=>⟨⟨rfl,.inr ⟨_,_,_,_,_,rfl,j⟩⟩,⟨_,_,_,_,_,rfl,rfl,j⟩⟩
 ·intro c st' hz;let⟨na,nb,out,ac,bc,rfl,rfl,j⟩:=hz
  exact⟨rfl,.inr ⟨_,_,_,_,_,rfl,j⟩⟩
 ·intro c st' hz;let⟨rfl,hz⟩:=hz;rcases hz with hz|hz
  ·let⟨m,r,rfl,hm⟩:=hz;exact H5 (z1 m _ g hm)
  ·let⟨na,nb,out,ac,bc,rfl,j⟩:=hz
   refine HV (NF (Ju ⟨rfl,?_⟩))
   refine HV (Kz (Jw (I:=λy c st'=>∃na nb out mg ac bc g,c=(B,na,nb,out,mg,ac,bc)/\st'=aw st g/\IH LT a b n0 out na nb/\(1<=y->na+nb+n0<a.size+b.size))
    (Q:=λc st'=>∃g,st'=aw st g/\((∃m r,c=(U m,r)/\Good LT (a.toList++b.toList) m.toList)\/∃na nb out mg ac bc,c=(B,na,nb,out,mg,ac,bc)/\IH LT a b (n0+1) out na nb)) ?_ ?_ ⟨na,nb,out,_,ac,bc,g,rfl,rfl,j,λq=>absurd q (by lia)⟩) ?_)
   ·intro y c st' _ _ hz;let⟨na,nb,out,mg,ac,bc,g,rfl,rfl,j,_⟩:=hz
    exact EN O H hk W j ⟨λm r g hm=>⟨g,rfl,.inl ⟨m,r,rfl,hm⟩⟩,λout na nb mg ac bc g j=>⟨⟨g,rfl,.inr ⟨_,_,_,_,_,_,rfl,j⟩⟩,⟨_,_,_,_,_,_,g,rfl,rfl,⟨j.1,j.2.1,j.2.2.1,j.2.2.2.1,j.2.2.2.2.1,by lia⟩,λ_=>by lia⟩⟩⟩
   ·intro c st' hz;let⟨na,nb,out,mg,ac,bc,g,rfl,rfl,⟨j,i1,i1',i2,i2',i3⟩,i4⟩:=hz
    exact⟨g,rfl,.inr ⟨_,_,_,_,_,_,rfl,j,i1,i1',i2,i2',i4 (by lia)⟩⟩
   ·intro c st' hz;let⟨g,rfl,hz⟩:=hz;rcases hz with hz|hz
    ·let⟨m,r,rfl,hm⟩:=hz;exact H5 (z1 m _ g hm)
    ·let⟨na,nb,out,mg,ac,bc,rfl,j⟩:=hz;exact HV (KC (H5 (z2 _ _ _ _ _ j)))
end
theorem tT {Q:Array HU->II->Prop}(h:∀m g,Good LT (a.toList++b.toList) m.toList->Q m (aw st g)):wpS (model prog w) A E s (ms a b) Q st:=by
 let za:=W.za;let zb:=W.zb;rw[Gg];refine HV (NF (Ju ⟨rfl,?_⟩))
 refine HV (aL (by lia) ?_)
 by_cases e1:a.size - 1=0
 ·rw[if_pos (beq_iff_eq.mpr e1)];exact H5 (h _ (gallopOf st) (W.k0.dA e1))
 rw[if_neg (λq=>e1 (beq_iff_eq.mp q))]
 by_cases e2:b.size=1
 ·rw[if_pos (beq_iff_eq.mpr e2)];exact H5 (h _ (gallopOf st) (W.k0.fB W e2))
 rw[if_neg (λq=>e2 (beq_iff_eq.mp q))]
 refine HV (MN ?_)
 refine HV (Kz (Jw (I:=λx c st'=>∃na nb out mg g,c=(B,na,nb,out,mg)/\st'=aw st g/\IH LT a b (x+1) out na nb)
  (Q:=λc st'=>∃m g r,c=(U m,r)/\st'=aw st g/\Good LT (a.toList++b.toList) m.toList) ?_ ?_ ⟨_,_,_,_,gallopOf st,rfl,rfl,W.k0,by lia,by lia,by lia,by lia,by lia⟩) ?_)
 ·intro x c st' g1 g2 hz;let⟨na,nb,out,mg,g,rfl,rfl,j⟩:=hz
  exact D5 O H hk W j (λm r g hm=>⟨m,g,_,rfl,rfl,hm⟩) λout na nb mg g j=>⟨_,_,_,_,_,rfl,rfl,j⟩
 ·intro c st' hz;let⟨na,nb,out,mg,g,rfl,rfl,j,i1,i1',i2,i2',i3⟩:=hz
  exfalso;lia
 ·intro c st' hz;let⟨m,g,r,rfl,rfl,hm⟩:=hz
  exact H5 (h m g hm)
end
end SM
namespace SM
open PySem PyProof.Rows
theorem qh (i:Nat):mergeAt' i=(do
 let s <-get
 let (U (sa,na,power),U (sb,nb,_)):=((pendingOf s)[i]?,(pendingOf s)[i+1]?)|unsupported "internal:list.sort.pending"
 set (setPending s (((pendingOf s).setIfInBounds i (sa,na+nb,power)).eraseIdxIfInBounds (i+1)))
 let U k <-eD Y (<-elem' (arrOf s) sb) (arrOf s) sa na 0|return Y
 let (sa,na):=(sa+k,na - k)
 if na==0 then return V
 let U nb <-eD V (<-elem' (arrOf s) (sa+na - 1)) (arrOf s) sb nb (nb - 1)|return Y
 if nb==0 then return V
 let x:=(arrOf s).extract sa sb
 let y:=(arrOf s).extract sb (sb+nb)
 let merged <-if na<=nb then m7 x y else ms x y
 modify λs=>setArr s (merged.toList.zipIdx.foldl (λa (p,j)=>a.setIfInBounds (sa+j) p) (arrOf s))
 return (failedOf (<-get)).isNone):=rfl
def iK {a:Array HU}{s e i:Nat}(h:s+i<e):K (a.extract s e) i=K a (s+i):=by
 apply DB;rw[Array.getElem?_extract]
 split
 ·rfl
 ·rw[Ki];lia
def B2 {P L L' S:Qw HU}{q:Nat}(e:L.length=L'.length) (h:q<P.length\/P.length+L.length<=q):(P++L++S)[q]?=(P++L'++S)[q]?:=by
 grind
theorem An (m:Qw HU):∀(mid pre post:Qw HU) (a:Array HU) (o st:Nat),a.toList=pre++mid++post->pre.length=o+st->m.length=mid.length->
  ((m.zipIdx st).foldl (λa (p:HU×Nat)=>a.setIfInBounds (o+p.2) p.1) a).toList=pre++m++post:=by
 induction m with
 |nil=>intro mid pre post a o st h _ h3;rw[List.eq_nil_of_length_eq_zero h3.symm]at h;exact h
 |cons x m ih=>
  intro mid pre post a o st h h2 h3;cases mid with
  |nil=>cases h3
  |cons c mid=>
   rw[N2,L7];have:=ih mid (pre++[x]) post (a.setIfInBounds (o+st) x) o (st+1) (by
    simp_all) (by simp;lia) (L0 h3)
   rw[this];simp
section
variable{prog:IZ}{w:JA}{A:Ia}{E:HM->HN->Prop}{s:HN}{LT:HU->HU->Bool}{T:Array HU}{κ:Lx}{a:Array HU}
def rJ {i j:Nat}(u:Up LT a i j):(a.extract i j).toList.Pairwise (R LT):=by
 apply pw_up;intro p q _ h1 h2;rw[ND]at h2;rw[iK (by lia),iK (by lia)]
 exact u _ _ (by lia) (by lia) (by lia)
def yE (O:OrdK LT) {P L S:Qw HU}(h:a.toList=P++L++S) (hl:L.Pairwise (R LT)):Up LT a P.length (P.length+L.length):=λp q h1 h2 h3=>by
 let e:∀i (hi:i<L.length),K a (P.length+i)=L[i]:=λi hi=>by
  rw[hX,h,Jg,K9 (by lia),show P.length+i - P.length=i by lia,Jz hi];simp[hi]
 obtain⟨p,rfl⟩:∃p',p=P.length+p':=⟨p - P.length,by lia⟩
 obtain⟨q,rfl⟩:∃p',q=P.length+p':=⟨q - P.length,by lia⟩
 rw[e p (by lia),e q (by lia)]
 by_cases c:p=q
 ·subst c;exact O.irr _
 ·exact qaj.mp hl p q (by lia) (by lia) (by lia)
def uD (O:OrdK LT) (H:Ans prog w A s κ LT T) {p:Array (Nat×Nat×Nat)}{l1 l2:Qw (Nat×Nat×Nat)}{sa na pw nb pw2 g i:Nat}(hT:a.Perm T) (hp:p.toList=l1++(sa,na,pw)::(sa+na,nb,pw2)::l2) (hi:i=l1.length) (h1:1<=na) (h2:1<=nb)
  (hz:sa+na+nb<=T.size) (u1:Up LT a sa (sa+na)) (u2:Up LT a (sa+na) (sa+na+nb)) {Q:Bool->II->Prop}
  (h:∀a' p' g,a'.Perm T->(∀k,k<sa\/sa+na+nb<=k->K a' k=K a k)->Up LT a' sa (sa+(na+nb))->p'.toList=l1++(sa,na+nb,pw)::l2->Q V (IQ κ a' p' g B)):
  wpS (model prog w) A E s (mergeAt' i) Q (IQ κ a p g B):=by
 let ez:=hT.size_eq;let mT:∀k,k<T.size->K a k∈T:=λk hk=>hT.mem_iff.mp (Dx (by lia))
 subst hi;let g1:p[l1.length]?=U (sa,na,pw):=by rw[<-Ji,hp];simp
 let g2:p[l1.length+1]?=U (sa+na,nb,pw2):=by rw[<-Ji,hp];simp
 rw[qh];refine HV (MN ?_)
 let ea:∀p g,arrOf (IQ κ a p g B)=a:=λ_ _=>rfl
 simp![ea];rw[g1,g2];dsimp only;let hp':((p.setIfInBounds l1.length (sa,na+nb,pw)).eraseIdxIfInBounds (l1.length+1)).toList=l1++(sa,na+nb,pw)::l2:=by
  rw[Array.toList_eraseIdxIfInBounds,OF,hp];simp[List.eraseIdx_append_of_length_le]
 generalize ((p.setIfInBounds l1.length (sa,na+nb,pw)).eraseIdxIfInBounds (l1.length+1))=p' at hp'⊢;refine HV (?_:wpS (model prog w) A E s (set _:StateT II N1 PUnit) _ _)
 refine HK ⟨rfl,?_⟩
 refine HV (aL (by lia) ?_)
 refine HV (cX (st:=IQ κ a p' g B) O H rfl (mT _ (by lia)) (by lia) (by lia) (λj hj=>mT _ (by lia)) u1 λk k1 k2 k3=>?_)
 dsimp only;let whole:∀(e:∀q,q<na->LT (K a (sa+na)) (K a (sa+q))=Y),Up LT a sa (sa+(na+nb)):=λe x y a1 a2 a3=>by
  by_cases c1:y<sa+na
  ·exact u1 x y a1 a2 c1
  ·by_cases c2:x<sa+na
   ·have:=e (x - sa) (by lia)
    rw[show sa+(x - sa)=x by lia]at this
    exact O.tr _ _ _ this (u2 (sa+na) y (HQ _) (by lia) (by lia))
   ·exact u2 x y (by lia) a2 (by lia)
 by_cases c:na - k=0
 ·rw[if_pos (beq_iff_eq.mpr c)]
  exact H5 (h a p' g hT (λ_ _=>rfl) (whole λq hq=>by simpa only[fB,Ig,if_false,K3]using k2 q (by lia)) hp')
 rw[if_neg (λq=>c (beq_iff_eq.mp q))]
 let el:sa+k+(na - k) - 1=sa+na - 1:=by lia
 rw[el];refine HV (aL (by lia) ?_)
 refine HV (cX (st:=IQ κ a p' g B) O H rfl (mT _ (by lia)) (by lia) (by lia) (λj hj=>mT _ (by lia)) u2 λnb' n1 n2 n3=>?_)
 dsimp only
 by_cases c':nb'=0
 ·rw[if_pos (beq_iff_eq.mpr c')]
  refine H5 (h a p' g hT (λ_ _=>rfl) (whole λq hq=>?_) hp')
  have:=n3 0 (by lia) (by lia)
  exact O.tr _ _ _ (u1 (sa+q) (sa+na - 1) (by lia) (by lia) (by lia)) this
 rw[if_neg (λq=>c' (beq_iff_eq.mp q))]
 let W:Two LT T (a.extract (sa+k) (sa+na)) (a.extract (sa+na) (sa+na+nb')):=by
  let zx:(a.extract (sa+k) (sa+na)).size=na - k:=by rw[ND];lia
  let zy:(a.extract (sa+na) (sa+na+nb')).size=nb':=by rw[ND];lia
  refine⟨λi hi=>?_,λi hi=>?_,λx y a1 a2 a3=>?_,λx y a1 a2 a3=>?_,by lia,by lia,λj hj=>?_,λj hj=>?_⟩
  ·rw[iK (by lia)];exact mT _ (by lia)
  ·rw[iK (by lia)];exact mT _ (by lia)
  ·rw[iK (by lia),iK (by lia)];exact u1 _ _ (by lia) (by lia) (by lia)
  ·rw[iK (by lia),iK (by lia)];exact u2 _ _ (by lia) (by lia) (by lia)
  ·rw[iK (by lia),iK (by lia)]
   have:=k3 (k+j) (by lia) (by lia)
   simp![fB,Ig,if_false,NE]at this;rw[show sa+k+j=sa+(k+j) by lia]
   exact O.asym _ _ this
  ·rw[zx,iK (by lia),iK (by lia),show sa+k+(na - k - 1)=sa+na - 1 by lia]
   have:=n2 j (by lia)
   exact O.asym _ _ this
 let fin:∀(m:Array HU) (g':Nat),Good LT ((a.extract (sa+k) (sa+na)).toList++(a.extract (sa+na) (sa+na+nb')).toList) m.toList->
   wpS (model prog w) A E s (do
    modify λs=>setArr s (m.toList.zipIdx.foldl (λa (p:HU×Nat)=>a.setIfInBounds (sa+k+p.2) p.1) (arrOf s))
    return (failedOf (<-get)).isNone) Q (IQ κ a p' g' B):=λm g' hm=>by
  refine HV (KC (HV (MN (H5 ?_))))
  let dec:a.toList=a.toList.take sa++((a.extract sa (sa+k)).toList++((a.extract (sa+k) (sa+na)).toList++(a.extract (sa+na) (sa+na+nb')).toList)++(a.extract (sa+na+nb') (sa+na+nb)).toList)++a.toList.drop (sa+na+nb):=by
   let d1:=c6 a sa k;let d2:=c6 a (sa+k) (na - k);let d3:=c6 a (sa+na) nb';let d4:=c6 a (sa+na+nb') (nb - nb');rw[show sa+k+(na - k)=sa+na by lia]at d2
   rw[show sa+na+nb'+(nb - nb')=sa+na+nb by lia]at d4
   rw[d2,d3,d4]at d1;have:=(Ko sa a.toList).symm;rw[d1]at this
   conv=>lhs;rw[this]
   simp![Jg]
  let ml:m.toList.length=((a.extract (sa+k) (sa+na)).toList++(a.extract (sa+na) (sa+na+nb')).toList).length:=hm.pm.length_eq;let dec':a.toList=a.toList.take sa++(a.extract sa (sa+k)).toList++((a.extract (sa+k) (sa+na)).toList++(a.extract (sa+na) (sa+na+nb')).toList)++((a.extract (sa+na+nb') (sa+na+nb)).toList++a.toList.drop (sa+na+nb)):=by
   conv=>lhs;rw[dec]
   simp![Jg]
  let res:=An m.toList _ _ _ a (sa+k) 0 dec' (by simp;lia) ml
  let res':(m.toList.zipIdx.foldl (λa (p:HU×Nat)=>a.setIfInBounds (sa+k+p.2) p.1) a).toList=a.toList.take sa++((a.extract sa (sa+k)).toList++m.toList++(a.extract (sa+na+nb') (sa+na+nb)).toList)++a.toList.drop (sa+na+nb):=by
   rw[res];simp![Jg]
  let pl:(a.toList.take sa).length=sa:=by simp;lia
  let len:((a.extract sa (sa+k)).toList++m.toList++(a.extract (sa+na+nb') (sa+na+nb)).toList).length=na+nb:=by
   rw[IJ,IJ,ml];simp;lia
  refine h _ p' g' ?_ (λq hq=>?_) ?_ hp'
  ·refine Array.Perm.trans (Array.perm_iff_toList_perm.mpr ?_) hT
   rw[res']
   conv=>rhs;rw[dec]
   exact((((KU _).append hm.pm).append (KU _)).append_left _).append_right _
  ·rw[hX,hX,res']
   conv=>rhs;rw[dec]
   congr 1;exact B2 (by simp![IJ]at ml⊢;lia) (by rw[pl,len];lia)
  ·have:=yE O res' ?_
   ·rw[pl,len]at this;exact this
   let ux:∀v∈(a.extract (sa+k) (sa+na)).toList,LT (K a (sa+na - 1)) v=Y:=λv hv=>by
    let⟨i,i1,i2,_,rfl⟩:=bi hv;exact u1 i (sa+na - 1) (by lia) (by lia) (by lia)
   let uc:∀v∈(a.extract sa (sa+k)).toList,LT (K a (sa+na - 1)) v=Y:=λv hv=>by
    let⟨i,i1,i2,_,rfl⟩:=bi hv;exact u1 i (sa+na - 1) (by lia) (by lia) (by lia)
   let uz:∀z∈(a.extract (sa+na+nb') (sa+na+nb)).toList,LT z (K a (sa+na - 1))=Y:=λz hz=>by
    let⟨i,i1,i2,_,rfl⟩:=bi hz;have:=n3 (i - (sa+na)) (by lia) (by lia)
    simpa only[fB,if_true,show sa+na+(i - (sa+na))=i by lia]using this
   rw[JO,JO];refine⟨⟨rJ λx y a1 a2 a3=>u1 x y a1 a2 (by lia),hm.so,λu hu v hv=>?_⟩,rJ λx y a1 a2 a3=>u2 x y (by lia) a2 a3,λv hv z hz=>?_⟩
   ·let⟨i,i1,i2,_,rfl⟩:=bi hu
    rcases qab.mp (hm.pm.mem_iff.mp hv)with hv|hv
    ·let⟨j,j1,j2,_,rfl⟩:=bi hv
     exact u1 i j (by lia) (by lia) (by lia)
    ·let⟨j,j1,j2,_,rfl⟩:=bi hv
     have:=k2 (i - sa) (by lia)
     simp![fB,Ig,if_false,K3,show sa+(i - sa)=i by lia]at this
     exact O.tr _ _ _ this (u2 (sa+na) j (HQ _) (by lia) (by lia))
   ·rcases qab.mp hv with hv|hv
    ·exact O.tr _ _ _ (uc v hv) (uz z hz)
    ·rcases qab.mp (hm.pm.mem_iff.mp hv)with hv|hv
     ·exact O.tr _ _ _ (ux v hv) (uz z hz)
     ·let⟨j,j1,j2,_,rfl⟩:=bi hv
      let⟨i,i1,i2,_,rfl⟩:=bi hz;exact u2 j i (by lia) (by lia) (by lia)
 by_cases c3:na - k<=nb'
 ·rw[if_pos c3];exact HV (uB (st:=IQ κ a p' g B) O H rfl W λm g' hm=>fin m g' hm)
 ·rw[if_neg c3];exact HV (tT (st:=IQ κ a p' g B) O H rfl W λm g' hm=>fin m g' hm)
end
end SM
namespace SM
open PySem PyProof.Rows
abbrev P3:=Nat×Nat×Nat
def Tile:Qw P3->Nat->Nat->Prop
 |[],s,e=>s=e
 |q::r,s,e=>q.1=s/\1<=q.2.1/\Tile r (s+q.2.1) e
theorem Tile.le:∀{l:Qw P3}{s e:Nat},Tile l s e->s+l.length<=e
 |[],_,_,h=>by simp_all [Tile]
 |q::r,s,e,h=>by have:=h.2.2.le;have:=h.2.1;simp;lia
theorem Tile.app:∀{l m:Qw P3}{s e:Nat},Tile (l++m) s e->∃t,Tile l s t/\Tile m t e
 |[],m,s,e,h=>⟨s,rfl,h⟩
 |q::r,m,s,e,h=>by
  let⟨t,a,b⟩:=h.2.2.app;exact⟨t,⟨h.1,h.2.1,a⟩,b⟩
theorem Tile.join:∀{l m:Qw P3}{s t e:Nat},Tile l s t->Tile m t e->Tile (l++m) s e
 |[],m,s,t,e,h,h'=>by simp_all [Tile]
 |q::r,m,s,t,e,h,h'=>⟨h.1,h.2.1,h.2.2.join h'⟩
theorem Tile.bound:∀{l:Qw P3}{s e:Nat},Tile l s e->∀q∈l,s<=q.1/\q.1+q.2.1<=e
 |p::r,s,e,h,q,hq=>by
  have:=h.2.2.le
  rcases qaa.mp hq with rfl|hq
  ·have:=h.1;lia
  ·have:=h.2.2.bound q hq;lia
section
variable{prog:IZ}{w:JA}{A:Ia}{E:HM->HN->Prop}{s:HN}{LT:HU->HU->Bool}{T:Array HU}{κ:Lx}{a:Array HU}
structure Wait (LT:HU->HU->Bool) (T a:Array HU) (p:Array P3) (lo:Nat):Prop where
 pm:a.Perm T
 ti:Tile p.toList 0 lo
 up:∀q∈p.toList,Up LT a q.1 (q.1+q.2.1)
def Wait.merge (O:OrdK LT) (H:Ans prog w A s κ LT T) {p:Array P3}{lo g i:Nat}(hz:lo<=T.size) (h:Wait LT T a p lo) (hi:i+1<p.size) {Q:Bool->II->Prop}
  (hQ:∀a' p' g,Wait LT T a' p' lo->p'.size+1=p.size->(∀k,lo<=k->K a' k=K a k)->Q V (IQ κ a' p' g B)):wpS (model prog w) A E s (mergeAt' i) Q (IQ κ a p g B):=by
 obtain⟨l1,l2,x,y,e,hl⟩:∃l1 l2 x y,p.toList=l1++x::y::l2/\l1.length=i:=by
  let hi':i+1<p.toList.length:=by simpa using hi
  refine⟨p.toList.take i,p.toList.drop (i+2),p.toList[i],p.toList[i+1],?_,by simp;lia⟩
  rw[<-Jl hi',<-Jl (by lia),Ko]
 let⟨sa,na,pw⟩:=x;let⟨sb,nb,pw2⟩:=y;let ti:=h.ti;rw[e]at ti;let⟨t,t1,t2⟩:=ti.app;let⟨r1,r2,r3,r4,r5⟩:=t2;dsimp only at r1 r2 r3 r4 r5;subst r1 r3;let b1:=r5.le;let u1:=h.up (sa,na,pw) (by rw[e];simp)
 let u2:=h.up (sa+na,nb,pw2) (by rw[e];simp)
 refine uD O H h.pm e hl.symm r2 r4 (by lia) u1 u2 λa' p' g hp hk hu he=>hQ a' p' g ⟨hp,?_,λq hq=>?_⟩ ?_ λk hk'=>hk k (by lia)
 ·rw[he]
  exact t1.join ⟨rfl,by dsimp only;lia,by dsimp only;rw[<-O3];exact r5⟩
 ·rw[he]at hq
  let cg:∀q∈p.toList,q.1+q.2.1<=sa\/sa+na+nb<=q.1->Up LT a' q.1 (q.1+q.2.1):=λq hq hd x y a1 a2 a3=>by
   rw[hk x (by lia),hk y (by lia)];exact h.up q hq x y a1 a2 a3
  rcases qab.mp hq with hq|hq
  ·exact cg q (by rw[e];exact JQ _ hq) (.inl (t1.bound q hq).2)
  ·rcases qaa.mp hq with rfl|hq
   ·exact hu
   ·exact cg q (by simp_all) (.inr (r5.bound q hq).1)
 ·let l1:=congrArg J9 he
  let l2:=congrArg J9 e;simp at l1 l2;lia
def Wait.push {p:Array P3}{lo n z:Nat}(h:Wait LT T a p lo) (hn:1<=n) (hu:Up LT a lo (lo+n)):Wait LT T a (p.push (lo,n,z)) (lo+n):=by
 refine⟨h.pm,by rw[Kh];exact h.ti.join ⟨rfl,hn,rfl⟩,λq hq=>?_⟩
 rw[Kh]at hq
 rcases qab.mp hq with hq|hq
 ·exact h.up q hq
 simp_all
theorem rK {f:P3->P3}(hf:∀q,(f q).1=q.1/\(f q).2.1=q.2.1):∀{l:Qw P3}{i s e:Nat},Tile l s e->Tile (l.modify i f) s e
 |[],i,s,e,h=>by simpa using h
 |q::r,0,s,e,h=>by
  simp![Pj,Tile,(hf q).1,(hf q).2];exact h
 |q::r,i+1,s,e,h=>by
  simp![Pk];exact⟨h.1,h.2.1,rK hf h.2.2⟩
theorem k9 {f:P3->P3}:∀{l:Qw P3}{i:Nat}{q:P3},q∈l.modify i f->q∈l\/∃r∈l,q=f r
 |[],i,q,h=>by simp at h
 |p::r,0,q,h=>by
  simp![Pj]at h
  rcases qaa.mp h with rfl|h
  ·exact .inr ⟨p,.head _,rfl⟩
  ·exact .inl (.tail _ h)
 |p::r,i+1,q,h=>by
  simp![Pk]at h
  rcases qaa.mp h with rfl|h
  ·exact .inl (.head _)
  ·rcases k9 h with h|⟨x,h,e⟩
   ·exact .inl (.tail _ h)
   ·exact .inr ⟨x,.tail _ h,e⟩
def Wait.mod {p:Array P3}{lo i z:Nat}(h:Wait LT T a p lo):Wait LT T a (p.modify i λ(st,len,_)=>(st,len,z)) lo:=by
 refine⟨h.pm,by rw[Pw];exact rK (f:=λ(st,len,_)=>(st,len,z)) (λq=>⟨rfl,rfl⟩) h.ti,λq hq=>?_⟩
 rw[Pw]at hq
 rcases k9 hq with hq|⟨r,hr,rfl⟩
 ·exact h.up q hq
 ·exact h.up r hr
def sortRuns_wp (O:OrdK LT) (H:Ans prog w A s κ LT T) {g:Nat}(h2:2<=T.size) {Q:Unit->II->Prop}(hQ:∀a p g,a.Perm T->Up LT a 0 T.size->Q () (IQ κ a p g B)):wpS (model prog w) A E s sortRuns' Q (IQ κ T #[] g B):=by
 rw[sortRuns'_eq];refine HV (MN ?_)
 let ea:∀a p g,arrOf (IQ κ a p g B)=a:=λ_ _ _=>rfl
 let ep:∀a p g,pendingOf (IQ κ a p g B)=p:=λ_ _ _=>rfl
 simp![ea];generalize minRun' T.size T.size 0=mr;refine HV (Kz (Jw (I:=λx c st'=>∃a p g lo,c=(B,lo)/\st'=IQ κ a p g B/\Wait LT T a p lo/\lo<=T.size/\x<=lo)
  (Q:=λc st'=>∃a p g,c=(B,T.size)/\st'=IQ κ a p g B/\Wait LT T a p T.size) ?_ ?_ ⟨T,#[],g,0,rfl,rfl,⟨Array.Perm.refl _,rfl,λq hq=>nomatch hq⟩,Im _,HQ _⟩) ?_)
 ·intro x c st' _ hx hz;let⟨a,p,g,lo,rfl,rfl,hw,hlo,hxl⟩:=hz
  dsimp only
  by_cases c1:lo>=T.size
  ·rw[if_pos c1]
   have:lo=T.size:=by lia
   exact H5 ⟨a,p,g,by rw[this],rfl,by rw[<-this];exact hw⟩
  rw[if_neg c1];refine HV (qM (st:=IQ κ a p g B) O H rfl hw.pm (by lia) (by lia) λm a1 m1 m2 C1 U1=>?_)
  let wt:∀a2,Chg T a lo a2->Wait LT T a2 p lo:=λa2 C=>⟨C.perm,hw.ti,λq hq x y h1 h2 h3=>by
   have:=(hw.ti.bound q hq).2;rw[C.keep x (by lia),C.keep y (by lia)];exact hw.up q hq x y h1 h2 h3⟩
  dsimp only
  by_cases c2:m<mr
  all_goals first
   |rw[if_neg c2]
   |(rw[if_pos c2]
     refine HV (NF (Ju ⟨rfl,?_⟩))
     let C0:=C1;let n0:1<=min (T.size - lo) mr/\min (T.size - lo) mr<=T.size - lo:=by lia
     refine HV (mX (st:=IQ κ a1 p g B) O H rfl C1.perm (by lia) (by lia) (by lia) U1 λa1 C2 U1=>?_)
     let C1:Chg T a lo a1:=⟨C2.perm,λk hk=>(C2.keep k hk).trans (C0.keep k hk)⟩
     simp![NC,Ig,if_false];let⟨m1,m2⟩:=n0;generalize min (T.size - lo) mr=m at U1 m1 m2⊢)
  all_goals
   let W1:=wt a1 C1;clear wt C1;refine HV (MN ?_)
   let e0:pendingOf (setArr (IQ κ a p g B) a1)=p:=rfl;cases hb:(pendingOf (IQ κ a1 p g B)).back? with
   |none=>
    let hb':p.back?=B:=hb;simp![ep,hb'];exact HV (KC (H5 ⟨_,_,_,_,rfl,rfl,W1.push m1 U1,by lia,by lia⟩))
   |some q=>
    let⟨s1,n1,z⟩:=q;let hb':p.back?=U (s1,n1,z):=hb;simp![ep,hb'];generalize power' T.size (2*s1+n1) (2*s1+n1+n1+m) T.size=pw;refine HV (Kz (Jw (I:=λ_ c st'=>c=(B,())/\∃a' p' g',st'=IQ κ a' p' g' B/\Wait LT T a' p' lo/\∀k,lo<=k->K a' k=K a1 k)
     (Q:=λc st'=>c=(B,())/\∃a' p' g',st'=IQ κ a' p' g' B/\Wait LT T a' p' lo/\∀k,lo<=k->K a' k=K a1 k) ?_ (λ_ _ h=>h) ⟨rfl,a1,p,g,rfl,W1,λ_ _=>rfl⟩) ?_)
    ·intro x c st' _ _ hz;let⟨rfl,a',p',g',rfl,hw',hk'⟩:=hz
     refine HV (MN ?_)
     simp![ep]
     by_cases c:p'.size>1
     ·rw[if_pos c,getElem?_pos p' (p'.size - 2) (by lia)]
      generalize p'[p'.size - 2]=q;let⟨u1,u2,old⟩:=q;dsimp only
      by_cases c2:old<=pw
      ·rw[if_pos c2];exact H5 ⟨rfl,a',p',g',rfl,hw',hk'⟩
      ·rw[if_neg c2]
       refine HV (hw'.merge O H (by lia) (by lia) λa2 p2 g2 hw2 _ hk2=>?_)
       exact H5 ⟨rfl,a2,p2,g2,rfl,hw2,λk hk=>(hk2 k hk).trans (hk' k hk)⟩
     ·rw[if_neg c];exact H5 ⟨rfl,a',p',g',rfl,hw',hk'⟩
    ·intro c st' hz;let⟨rfl,a',p',g',rfl,hw',hk'⟩:=hz
     let hu':Up LT a' lo (lo+m):=λx y h1 h2 h3=>by rw[hk' x h1,hk' y (by lia)];exact U1 x y h1 h2 h3
     exact HV (KC (HV (KC (H5 ⟨_,_,_,_,rfl,rfl,hw'.mod.push m1 hu',by lia,by lia⟩))))
 ·intro c st' hz;let⟨a,p,g,lo,rfl,rfl,hw,hlo,hxl⟩:=hz
  have:lo=T.size:=by lia
  exact⟨a,p,g,by rw[this],rfl,by rw[<-this];exact hw⟩
 ·intro c st' hz;let⟨a,p,g,rfl,rfl,hw⟩:=hz
  let hl:=hw.ti.le;refine HV (Kz (Jw (I:=λx c st'=>c=(B,())/\∃a p g,st'=IQ κ a p g B/\Wait LT T a p T.size/\p.size+x<=T.size)
   (Q:=λc st'=>c=(B,())/\∃a p g,st'=IQ κ a p g B/\Wait LT T a p T.size/\p.size<=1) ?_ ?_ ⟨rfl,a,p,g,rfl,hw,by simp_all⟩) ?_)
  ·intro x c st' _ _ hz;let⟨rfl,a,p,g,rfl,hw,hx⟩:=hz
   refine HV (MN ?_)
   by_cases c:p.size<=1
   ·rw[if_pos c];exact H5 ⟨rfl,a,p,g,rfl,hw,c⟩
   ·rw[if_neg c]
    refine HV (hw.merge O H (HQ _) ?_ λa2 p2 g2 hw2 hs _=>?_)
    ·have:∀b:Bool,(if b=V then p.size - 2 - 1 else p.size - 2)+1<p.size:=λb=>by cases b<;>simp<;>lia
     exact this _
    ·exact H5 ⟨rfl,a2,p2,g2,rfl,hw2,by lia⟩
  ·intro c st' hz;let⟨rfl,a,p,g,rfl,hw,hx⟩:=hz
   exact⟨rfl,a,p,g,rfl,hw,by lia⟩
  ·intro c st' hz;let⟨rfl,a,p,g,rfl,hw,hx⟩:=hz
   refine H5 (hQ a p g hw.pm ?_)
   let ti:=hw.ti;let up:=hw.up;let hx':p.toList.length<=1:=by simpa using hx
   rcases hp:p.toList with _|⟨q,_|⟨r,l⟩⟩
   ·rw[hp]at ti;simp![Tile]at ti;lia
   ·rw[hp]at ti up
    let⟨t1,t2,t3⟩:=ti
    simp_all [Tile,t1,t3]
   simp_all
end
end SM
namespace L2
open PySem PySem.Spec PyProof.Rows PySem.W Md
section
variable{prog:IZ}{w:JA}{A:Ia}{E:HM->HN->Prop}{s:HN}{vs:Qw HM}{a:HZ}
def xY {n:Nat}{P:PySem.Fin->HN->Prop}{κ:Lx}{LT:HM->HM->Bool}(ho:s.heap.get? a=U (seqObj "list" vs.toArray n)) (hz:vs.length<=sizeLine) (O:SM.OrdK λx y=>LT x.1 y.1)
  (hk:2<=vs.length->∀h',(∀b o,b≠a->s.heap.get? b=U o->h'.get? b=U o)->∀Q:Lx->HN->Prop,Q κ {s with heap:=h'}->wpAny (model prog w) A (keyKind' vs.toArray) Q (λ_ _=>False) {s with heap:=h'})
  (hlt:2<=vs.length->∀h',(∀b o,b≠a->s.heap.get? b=U o->h'.get? b=U o)->∀(u v:HM) (C:Bool->HN->Prop),u∈vs->v∈vs->C (LT u v) {s with heap:=h'}->wpAny (model prog w) A (keyLt' κ u v) C (λ_ _=>False) {s with heap:=h'})
  (h:∀us:Qw HM,us.Perm vs->us.Pairwise (λu v=>LT v u=Y)->∀h' c,(∀b o,b≠a->s.heap.get? b=U o->h'.get? b=U o)->h'.get? a=U (seqObj "list" us.toArray c)->P (.done (.ret .none)) {s with heap:=h'}):
  wpAny (model prog w) A (Lo.«list.sort» ⟨[.ref a],[]⟩) P E s:=by
 rw[list_sort_plain];refine HJ (listItems_at ho rfl (HJ (listUpdate_at ho rfl ?_ (by assumption) (Im _))))
 obtain⟨e1,g1⟩:∃e1,(s.heap.update a (IK λ_=>(#[]:Array HM))).get? a=U (seqObj "list" #[] e1):=⟨_,get?_update_seq ho λ_=>#[]⟩
 refine HJ (seqEpoch_at g1 rfl (HJ (Pb ?_ hz)))
 refine HJ (wpAny_newList ?_ (Im _))
 refine Ij ?_
 let keep:∀b o,b≠a->s.heap.get? b=U o->(((s.heap.update a (IK λ_=>(#[]:Array HM))).push (seqObj "tuple" vs.toArray 0)).push (seqObj "list" #[] 0)).get? b=U o:=λb o hb e=>
  HL _ (HL _ ((HX s.heap _ (Ib hb)).trans e))
 let g3:(((s.heap.update a (IK λ_=>(#[]:Array HM))).push (seqObj "tuple" vs.toArray 0)).push (seqObj "list" #[] 0)).get? a=U (seqObj "list" #[] e1):=HL _ (HL _ g1)
 generalize hH:(((s.heap.update a (IK λ_=>(#[]:Array HM))).push (seqObj "tuple" vs.toArray 0)).push (seqObj "list" #[] 0))=H1 at*
 let fin:∀st:II,((arrOf st).map (·.2)).toList.Perm vs->((arrOf st).map (·.2)).toList.Pairwise (λu v=>LT v u=Y)->failedOf st=B->
   wpAny (model prog w) A (do
    let touched:=(<-seqEpoch a) != e1
    Builtin.List.listUpdate (.ref a) λ_=>(arrOf st).map (·.2)
    if let U e:=failedOf st then rule "list.sort.comparison-raised";throw e
    if touched then rule "list.sort.modified";raiseError "ValueError" "list modified during sort"
    ret .none) P E {s with heap:=H1}:=λst hp hs hf=>by
  rw[hf];refine HJ (seqEpoch_at g3 rfl (HJ (listUpdate_at g3 rfl ?_ (Im _) ?_)))
  ·simp![bne_self_eq_false,Ig,if_false]
   obtain⟨c,g4⟩:∃c,(H1.update a (IK λ_=>(arrOf st).map (·.2))).get? a=U (seqObj "list" ((arrOf st).map (·.2)) c):=⟨_,get?_update_seq g3 λ_=>(arrOf st).map (·.2)⟩
   exact HK (h _ hp hs _ c (λb o hb e=>(HX H1 _ (Ib hb)).trans (keep b o hb e)) (by assumption))
  ·have:=hp.length_eq;rw[J6]at this;lia
 let zs:∀l:Qw HM,(l.toArray.zip l.toArray).map (·.2)=l.toArray:=λl=>by
  rw[show l.toArray.zip l.toArray=(l.zip l).toArray by simp];simp[LJ]
 by_cases h2:vs.toArray.size<2
 ·rw[if_pos h2,if_pos h2]
  let e0:(arrOf (IQ general' (vs.toArray.zip vs.toArray) #[] 7 B)).map (·.2)=vs.toArray:=zs vs
  refine fin (IQ general' (vs.toArray.zip vs.toArray) #[] 7 B) (by rw[e0]) ?_ rfl
  rw[e0];clear fin hlt hk h ho keep hH g3 g1 e0
  rcases vs with _|⟨v,_|⟨v',r⟩⟩
  ·exact .nil
  ·exact MK _ _
  ·exact absurd h2 (by simp)
 ·rw[if_neg h2,if_neg h2]
  rw[IR]at h2;refine HJ (Jv (hk (by lia) H1 keep _ ?_) (λ_ _ q=>q) λ_ _ x=>x.elim)
  let mz:∀x∈vs.toArray.zip vs.toArray,x.1=x.2/\x.1∈vs:=λx hx=>mem_zip_self (by simp_all)
  let sz:(vs.toArray.zip vs.toArray).size=vs.length:=by simp
  let run:=SM.sortRuns_wp (prog:=prog) (w:=w) (A:=A) (E:=E) (s:={s with heap:=H1}) (κ:=κ) (T:=vs.toArray.zip vs.toArray) (g:=7) (LT:=λx y=>LT x.1 y.1) O
   (λx hx y hy C hC=>hlt (by lia) H1 keep x.1 y.1 C (mz x hx).2 (mz y hy).2 hC) (by lia)
   (Q:=λ_ st=>((arrOf st).map (·.2)).toList.Perm vs/\((arrOf st).map (·.2)).toList.Pairwise (λu v=>LT v u=Y)/\failedOf st=B) (λb p g hp hu=>by
    let he:∀x∈b,x.1=x.2:=λx hx=>(mz x (hp.mem_iff.mp hx)).1
    refine⟨?_,?_,rfl⟩
    ·have:=(Array.perm_iff_toList_perm.mp hp).map (·.2)
     simp_all
    ·rw[Array.toList_map,qak]
     let bz:b.size=vs.length:=by rw[hp.size_eq,sz]
     rw[sz,<-bz]at hu;refine(SM.pw_up hu).imp_of_mem λ{x y} hx hy q=>?_
     rw[<-he x (by simp_all),<-he y (by simp_all)];exact q)
  refine HJ (Jv run ?_ λ_ _ e=>e)
  rintro⟨⟨⟩,st'⟩ s' ⟨rfl,hp,hs,hf⟩
  exact fin st' hp hs hf
end
def dw (lt:D->D->Qq Bool):Qw D->Qw D->Qq Bool
 |[],[]=>U Y
 |[],_::_=>U V
 |_::_,[]=>U Y
 |x::xs,y::ys=>if x=y then dw lt xs ys else lt x y
def ltD:Nat->D->D->Qq Bool
 |_,.int i,.int j=>U (decide (i<j))
 |_,.str x,.str y=>U (decide (x.cps.toList<y.cps.toList))
 |n+1,.tup xs,.tup ys=>dw (ltD n) xs ys
 |_,_,_=>B
theorem Bw {x y:Ih}(h:x.cps.toList=y.cps.toList):x=y:=by
 let⟨a⟩:=x;simp_all
section
variable{lt:D->D->Qq Bool}
theorem xJ (h:∀x y z,lt x y=U V->lt y z=U V->lt x z=U V) (hi:∀x y,lt x y=U V->lt y x≠U V):∀xs ys zs,dw lt xs ys=U V->dw lt ys zs=U V->dw lt xs zs=U V
 |[],[],_,a,_=>by simp[dw]at a
 |[],_::_,[],_,b=>by assumption
 |[],_::_,_::_,_,_=>by rfl
 |_::_,[],_,a,_=>by simp[dw]at a
 |_::_,_::_,[],_,b=>by assumption
 |x::xs,y::ys,z::zs,a,b=>by
  simp![dw]at a b⊢
  by_cases e1:x=y
  ·subst e1
   rw[if_pos rfl]at a
   by_cases e2:x=z
   ·subst e2
    rw[if_pos rfl]at b⊢;exact xJ h hi xs ys zs a b
   lia
  grind
theorem xG (hi:∀x y,lt x y=U V->lt y x≠U V):∀xs ys,dw lt xs ys=U V->dw lt ys xs≠U V
 |[],[],a=>by simp[dw]at a
 |[],_::_,_=>by simp[dw]
 |_::_,[],a=>by simp[dw]at a
 |x::xs,y::ys,a=>by
  simp![dw]at a⊢
  by_cases e1:x=y
  ·subst e1
   rw[if_pos rfl]at a⊢;exact xG hi xs ys a
  ·rw[if_neg e1]at a
   rw[if_neg (Ib e1)];exact hi _ _ a
theorem r9 (h:∀x y,lt x y=U Y->x=y\/lt y x=U V):∀xs ys,dw lt xs ys=U Y->xs=ys\/dw lt ys xs=U V
 |[],[],_=>.inl rfl
 |[],_::_,a=>by simp[dw]at a
 |_::_,[],_=>.inr (by rfl)
 |x::xs,y::ys,a=>by
  simp![dw]at a⊢
  by_cases e1:x=y
  ·simp_all [if_pos,r9]
  grind
end
def nO {n:Nat}{d e:D}{r:Bool}(h:ltD n d e=U r):(∃i j,d=.int i/\e=.int j/\r=decide (i<j))\/(∃x y,d=.str x/\e=.str y/\r=decide (x.cps.toList<y.cps.toList))\/∃k xs ys,n=k+1/\d=.tup xs/\e=.tup ys/\dw (ltD k) xs ys=U r:=by
 unfold ltD at h;split at h
 ·cases h;exact .inl ⟨_,_,rfl,rfl,rfl⟩
 ·cases h;exact .inr (.inl ⟨_,_,rfl,rfl,rfl⟩)
 ·exact .inr (.inr ⟨_,_,_,rfl,rfl,rfl,h⟩)
 ·cases h
def G4 (n:Nat) (i j:Int):ltD n (.int i) (.int j)=U (decide (i<j)):=by rw[ltD]
def GM (n:Nat) (x y:Ih):ltD n (.str x) (.str y)=U (decide (x.cps.toList<y.cps.toList)):=by rw[ltD]
theorem si (n:Nat):∀(x y:D),ltD n x y=U V->ltD n y x≠U V:=by
 induction n using Jq with
 |_ n ih=>
  intro x y h
  rcases nO h with⟨i,j,rfl,rfl,e⟩|⟨a,b,rfl,rfl,e⟩|⟨k,xs,ys,rfl,rfl,rfl,e⟩
  ·rw[G4];simp at e⊢;lia
  ·rw[GM];exact λq=>List.lt_asymm (of_decide_eq_true e.symm) (of_decide_eq_true (JT q))
  ·exact xG (ih k k.lt_succ_self) _ _ e
theorem Et (n:Nat):∀(x y z:D),ltD n x y=U V->ltD n y z=U V->ltD n x z=U V:=by
 induction n using Jq with
 |_ n ih=>
  intro x y z h h'
  rcases nO h with⟨i,j,rfl,rfl,e⟩|⟨a,b,rfl,rfl,e⟩|⟨k,xs,ys,rfl,rfl,rfl,e⟩<;>rcases nO h' with⟨_,_,q,rfl,e'⟩|⟨_,_,q,rfl,e'⟩|⟨_,_,_,q',q,rfl,e'⟩<;>cases q
  ·rw[G4];simp at e e'⊢;lia
  ·rw[GM];exact congrArg U (decide_eq_true (List.lt_trans (of_decide_eq_true e.symm) (of_decide_eq_true e'.symm)))
  ·cases q';exact xJ (ih k k.lt_succ_self) (si k) _ _ _ e e'
theorem v7 (n:Nat):∀(x y:D),ltD n x y=U Y->x=y\/ltD n y x=U V:=by
 induction n using Jq with
 |_ n ih=>
  intro x y h
  rcases nO h with⟨i,j,rfl,rfl,e⟩|⟨a,b,rfl,rfl,e⟩|⟨k,xs,ys,rfl,rfl,rfl,e⟩
  ·rw[G4];simp at e⊢;lia
  ·rw[GM];simp![KJ,decide_eq_true_eq,D.str.injEq];let e:=of_decide_eq_false e.symm;grind [Bw,List.le_antisymm]
  ·exact(r9 (ih k k.lt_succ_self) _ _ e).imp (congrArg _) id
def LtAt (A:Ia) (s:HN) (y x:HM) (b:Bool):Prop:=
 ∀(prog:IZ) (w:JA) (E:HM->HN->Prop) (Q:HM->HN->Prop),Q (.bool b) s->wpAny (model prog w) A (richCompare .Lt y x) Q E s
inductive LexAt (A:Ia) (s:HN):Qw HM->Qw HM->Bool->Prop
 |none:LexAt A s [] [] Y
 |less {w:HM}{ws:Qw HM}:LexAt A s [] (w::ws) V
 |more {v:HM}{vs:Qw HM}:LexAt A s (v::vs) [] Y
 |eq {v w:HM}{vs ws:Qw HM}{b:Bool}:MM A s v w V->LexAt A s vs ws b->LexAt A s (v::vs) (w::ws) b
 |ne {v w:HM}{vs ws:Qw HM}{b:Bool}:MM A s v w Y->LtAt A s v w b->LexAt A s (v::vs) (w::ws) b
section
open PySem.SeqAt
open PySem.AutoSeq1 (wpAny_loadPart')
open PySem.MeetsSeq PySem.MeetsSeq2 PySem.MeetsSeq3
def ww (l b:HZ) (items items2:Array HM) (n n2:Nat) (dd dd2:Qq HZ) (sl sl2:Array (Qq HM)) (r:Bool):
  Meets (Lo.«tuple.__lt__» ⟨[.ref l,.ref b],[]⟩)
   (λA R s=>s.heap.get? l=U {cls:=.type "tuple",dict:=dd,data:=.seq items n,slots:=sl}/\s.heap.get? b=U {cls:=.type "tuple",dict:=dd2,data:=.seq items2 n2,slots:=sl2}/\
    LexAt A.in1 s items.toList items2.toList r/\R (.ok (.ret (.bool r))) s):=
 .of_wp λprog w A R s h=>by
  let⟨hp,g,d,tk,os⟩:=s;let⟨hl,hb,hx,h⟩:=h;let f2:=AutoSeq1.sub_tuple_tuple
  wp_walk using Mr hl,Mr hb,KQ _ (λrest b s'=>b.1=B/\s'=⟨hp,g,d,tk,os⟩/\∃(vs ws:Qw HM),rest=vs.zip ws/\
   LexAt A.in1 ⟨hp,g,d,tk,os⟩ vs ws r/\vs.length+items2.size=ws.length+items.size) _
  case turn=>
   rintro⟨y,x⟩ rest b s' ⟨hb',rfl,vs,ws,hz,hlex,hlen⟩
   cases hlex with
   |none=>trivial
   |less=>trivial
   |more=>trivial
   |eq he ht=>
    injection hz with hyx hrest
    injection hyx with hy hx'
    subst hy hx';simp![H3]at hlen;refine HJ (he prog w _ _ ?_)
    wp_walk
    exact⟨rfl,rfl,_,_,hrest,ht,by lia⟩
   |ne he hlt=>
    injection hz with hyx hrest
    injection hyx with hy hx'
    subst hy hx';refine HJ (he prog w _ _ ?_)
    let hri:=hlt prog w
    wp_walk using hri
    exact⟨_,rfl,by simpa using h⟩
  case fin=>
   rintro⟨b1,b2⟩ s' ⟨hb',rfl,vs,ws,hz,hlex,hlen⟩
   subst hb';let hv:r=decide (items.size<items2.size):=by
    cases hlex with
    |none=>simp![Ku]at hlen;exact(decide_eq_false (by lia)).symm
    |less=>simp_all
    |more=>simp![Ku,H3]at hlen;exact(decide_eq_false (by lia)).symm
    |eq _ _=>trivial
    |ne _ _=>trivial
   rw[hv]at h
   wp_walk
   exact⟨_,rfl,by assumption⟩
  case h=>exact⟨rfl,rfl,items.toList,items2.toList,rfl,hx,by simp;lia⟩
end
def LtAt.tuples {A:Ia}{s:HN}{l b:HZ}{items items2:Array HM}{r:Bool}(hl:s.heap.IsTuple l items) (hb:s.heap.IsTuple b items2) (hu:A.units<cLine) (hx:LexAt A.in1 s items.toList items2.toList r):LtAt A s (.ref l) (.ref b) r:=λprog w E Q h=>by
 let⟨⟨cls,dd,data,sl⟩,ho,hc,n,hd⟩:=id hl;let⟨⟨cls2,dd2,data2,sl2⟩,ho2,hc2,n2,hd2⟩:=id hb;subst hc hd hc2 hd2;exact richCompare_meets_room (op:=.Lt) ⟨_,ho,rfl⟩ ⟨_,ho2,rfl⟩ PySem.F.slot_tuple_lt PySem.F.entry_tuple_lt (PySem.F.args_tuple_lt_2 _ _) (ww l b items items2 n n2 dd dd2 sl sl2 r)
  ⟨ho,ho2,hx,show Value.bool r≠Value.notImplemented/\Q (.bool r) s from⟨(λx=>nomatch x),h⟩⟩ hu
def leD (x y:D):Prop:=ltD 15 y x≠U V
def Db (x:D):Qw D->Qw D
 |[]=>[x]
 |y::ys=>if ltD 15 y x=U V then y::Db x ys else x::y::ys
def aY (ds:Qw D):Qw D:=ds.foldr Db []
def eZ (ds:Qw D):Bool:=ds.all λx=>okD 15 x&&ds.all λy=>(ltD 15 x y).isSome
def hO {ds:Qw D}(h:eZ ds=V) {x y:D}(hx:x∈ds) (hy:y∈ds):∃b,ltD 15 x y=U b:=by
 let h1:=qac.mp h x hx;rw[HW]at h1;exact Option.isSome_iff_exists.mp (qac.mp h1.2 y hy)
def gU {ds:Qw D}(h:eZ ds=V) {x:D}(hx:x∈ds):okD 15 x=V:=by
 unfold eZ at h;let h1:=qac.mp h x hx;rw[HW]at h1;exact h1.1
theorem kh (x:D):∀l:Qw D,(Db x l).Perm (x::l)
 |[]=>KU _
 |y::ys=>by
  unfold Db;split
  ·exact((kh x ys).cons y).trans (NW x y ys)
  rfl
theorem ax:∀ds:Qw D,(aY ds).Perm ds
 |[]=>KU _
 |d::ds=>by
  exact(kh d _).trans ((ax ds).cons d)
def AL {x y z:D}{ds:Qw D}(h:eZ ds=V) (hx:x∈ds) (hy:y∈ds) (hz:z∈ds) (a:leD x y) (b:leD y z):leD x z:=by
 intro c;let⟨r1,e1⟩:=hO h hy hx;let⟨r2,e2⟩:=hO h hz hy;cases r1 with
 |true=>exact a e1
 |false=>
  cases r2 with
  |true=>exact b e2
  |false=>
   grind [v7,si,Et]
def Bk {x y:D}{ds:Qw D}(h:eZ ds=V) (hx:x∈ds) (hy:y∈ds) (a:leD x y) (b:leD y x):x=y:=by
 let⟨r1,e1⟩:=hO h hx hy;cases r1 with
 |true=>trivial
 |false=>
  rcases v7 15 _ _ e1 with q|q
  ·exact q
  trivial
nonrec theorem j7 {x:D}{ds:Qw D}(h:eZ ds=V) (hx:x∈ds):∀l:Qw D,(∀y∈l,y∈ds)->l.Pairwise leD->(Db x l).Pairwise leD
 |[],_,_=>by simp[Db]
 |y::ys,hm,hp=>by
  unfold Db;let⟨h1,h2⟩:=qai.mp hp;let hy:=hm y Ik;split
  ·rename_i c
   refine qai.mpr ⟨λz hz=>?_,j7 h hx ys (λz hz=>hm z (Ic _ hz)) h2⟩
   rcases qaa.mp ((kh x ys).mem_iff.mp hz)with q|q
   ·subst q;exact si 15 _ _ c
   simp_all
  ·rename_i c
   refine qai.mpr ⟨λz hz=>?_,hp⟩
   rcases qaa.mp hz with q|q
   ·subst q;exact c
   ·exact AL h hx hy (hm z hz) c (h1 z q)
def bp {ds:Qw D}(h:eZ ds=V):(aY ds).Pairwise leD:=by
 let key:∀l:Qw D,(∀y∈l,y∈ds)->(aY l).Pairwise leD:=by
  intro l
  induction l with
  |nil=>intro _;exact L3
  |cons y l ih=>
   exact λhm=>j7 h (hm y Ik) _ (λz hz=>hm z (Ic _ ((ax l).mem_iff.mp hz))) (ih λz hz=>hm z (Ic _ hz))
 exact key ds λ_ h=>h
theorem cY {ds:Qw D}(h:eZ ds=V):∀(l1 l2:Qw D),(∀y∈l1,y∈ds)->l1.Perm l2->l1.Pairwise leD->l2.Pairwise leD->l1=l2
 |[],l2,_,hp,_,_=>(List.nil_perm.mp hp).symm
 |a::l1,[],_,hp,_,_=>(List.perm_nil.mp hp)
 |a::l1,b::l2,hm,hp,h1,h2=>by
  let⟨p1,q1⟩:=qai.mp h1;let⟨p2,q2⟩:=qai.mp h2;let hm2:=λy hy=>hm y (hp.mem_iff.mpr hy)
  let ab:a=b:=by
   let ha:a∈b::l2:=hp.mem_iff.mp Ik;let hb:b∈a::l1:=hp.mem_iff.mpr Ik
   rcases qaa.mp ha with z|z
   ·exact z
   ·rcases qaa.mp hb with y|y
    ·exact y.symm
    ·exact Bk h (hm a Ik) (hm2 b Ik) (p1 b y) (p2 a z)
  subst ab;rw[cY h l1 l2 (λy hy=>hm y (Ic _ hy)) (List.perm_cons a |>.mp hp) q1 q2]
inductive KD|st|it|ts|ti
def iT:KD->D->Bool
 |.st,.str _=>V
 |.it,.int _=>V
 |.ts,.tup (.str _::_)=>V
 |.ti,.tup (.int _::_)=>V
 |_,_=>Y
def pQ {d:D}(h:iT .ts d=V):∃x ds,d=.tup (.str x::ds):=by
 unfold iT at h;split at h<;>simp_all
def qT {d:D}(h:iT .ti d=V):∃x ds,d=.tup (.int x::ds):=by
 unfold iT at h;split at h<;>simp_all
def Dh:KD->Lx
 |.st=>oneType'
 |.it=>oneType'
 |.ts=>tuples' V
 |.ti=>tuples' V
section
variable{prog:IZ}{w:JA}{A:Ia}{E:HM->HN->Prop}{s:HN}
def lv {b:Bool}{Q:Bool->HN->Prop}{fin:Bool}{r:Bool}:∀{vs ws:Qw HM}{i:Nat},LexAt A s vs ws r->(b=Y\/1<=i)->(fin=decide (vs.length<ws.length))->Q r s->KatLex prog w A b fin Q (vs.zip ws) i s:=by
 intro vs ws i h
 induction h generalizing i with
 |none=>
  intro hb hf q;subst hf
  assumption
 |less=>
  intro hb hf q;subst hf
  assumption
 |more=>
  intro hb hf q;subst hf
  assumption
 |eq he ht ih=>
  intro hb hf q;refine Ou (he prog w _ _ (kat_yes ?_))
  exact ih (.inr (by lia)) (by rw[hf];simp) q
 |ne he hl=>
  intro hb hf q;refine Ou (he prog w _ _ (kat_no ?_))
  let hz:(b&&i==0)=Y:=by
   rcases hb with z|z
   ·rw[z,Bool.false_and]
   ·lia
  rw[hz];exact kat_one _ _ (hl prog w _ _ q)
end
def Ga {ds:Qw D}(h:eZ ds=V) {f:HM->D}(hf:ds≠[]->∀u,f u∈ds) (h0:ds=[]->∀u,f u=.non):SM.OrdK λx y=>decide (ltD 15 (f x.1) (f y.1)=U V):=by
 by_cases hn:ds=[]
 ·let e:=h0 hn
  exact⟨λi j q=>by simp[e,ltD],λi j k _ _=>by simp[e,ltD]⟩
 ·exact⟨λi j q=>decide_eq_false (si 15 _ _ (of_decide_eq_true q)),λi j k a b=>decide_eq_false (AL h (hf hn _) (hf hn _) (hf hn _) (of_decide_eq_false a) (of_decide_eq_false b))⟩
variable[Md]
section
variable{M:Mp}{s:HN}{m m':Bool}
theorem CL (H:Hm M s.heap) {n:Nat}{A:Ia}(hA:A.units+n+1<cLine) (ih:∀{d e u v r},okD n d=V->okD n e=V->R m M d u->R m' M e v->ltD n d e=U r->LtAt A s u v r):
  ∀{ds es us vs r},ds.all (okD n)=V->es.all (okD n)=V->Rs m M ds us->Rs m' M es vs->dw (ltD n) ds es=U r->LexAt A s us vs r
 |[],[],us,vs,r,hd,he,r1,r2,h=>by cases r1;cases r2;cases h;exact .none
 |[],e::es,us,vs,r,hd,he,r1,r2,h=>by cases r1;let⟨y,t,rfl,_,_⟩:=r2;cases h;exact .less
 |d::ds,[],us,vs,r,hd,he,r1,r2,h=>by cases r2;let⟨y,t,rfl,_,_⟩:=r1;cases h;exact .more
 |d::ds,e::es,us,vs,r,hd,he,r1,r2,h=>by
  let⟨x,xt,rfl,r1a,r1b⟩:=r1;let⟨y,yt,rfl,r2a,r2b⟩:=r2;rw[Iw,HW]at hd he;let q:=(Cg H n A hd.1 he.1 hA r1a r2a).2.1;simp![dw]at h
  by_cases c:d=e
  ·rw[if_pos c]at h;rw[decide_eq_true c]at q;exact .eq q (CL H hA ih hd.2 he.2 r1b r2b h)
  ·rw[if_neg c]at h;rw[decide_eq_false c]at q;exact .ne q (ih hd.1 he.1 r1a r2a h)
def HC (H:Hm M s.heap):∀(n:Nat) {d e u v r} (A:Ia),okD n d=V->okD n e=V->A.units+n+1<cLine->R m M d u->R m' M e v->ltD n d e=U r->LtAt A s u v r:=by
 intro n
 induction n using Jq with
 |ind n ih=>
 intro d e u v r A hd he hA rd re h
 rcases nO h with⟨i,j,rfl,rfl,rfl⟩|⟨i,j,rfl,rfl,rfl⟩|⟨k,ds,es,rfl,rfl,rfl,h⟩
 ·let⟨t,rfl⟩:=rd;let⟨t',rfl⟩:=re
  exact λprog w E Q hq=>(lt_int hq:wpAny (model prog w) A (compareOp .Lt (.int i t) (.int j t')) Q E s)
 ·let⟨t,rfl⟩:=rd;let⟨t',rfl⟩:=re
  exact λprog w E Q hq=>(lt_str hq:wpAny (model prog w) A (compareOp .Lt (.str i t) (.str j t')) Q E s)
 ·let⟨a,o,us,rfl,q1,t1,r1⟩:=rd
  let⟨b,o',vs,rfl,q2,t2,r2⟩:=re;let hA':A.in1.units+k+1<cLine:=by show A.units+1+k+1<cLine;lia
  exact LtAt.tuples (t1.is H q1) (t2.is H q2) (by lia) (by simpa using CL H hA' (λo1 o2 r1 r2 hl=>ih k (IY k) A.in1 o1 o2 hA' r1 r2 hl) hd he r1 r2 h)
theorem Ey (H:Hm M s.heap) {A:Ia}(hA:A.units+20<cLine) {c:KD}{d e:D}{u v:HM}{r:Bool}(hd:okD 15 d=V) (he:okD 15 e=V) (kd:iT c d=V) (ke:iT c e=V) (rd:R m M d u) (re:R m' M e v)
  (h:ltD 15 d e=U r) {C:Bool->HN->Prop}(q:C r s):wpAny (model P w) A (keyLt' (Dh c) u v) C (λ_ _=>False) s:=by
 let ll:∀{ds es us vs r},ds.all (okD 14)=V->es.all (okD 14)=V->Rs m M ds us->Rs m' M es vs->dw (ltD 14) ds es=U r->LexAt A s us vs r:=λh1 h2 h3 h4 h5=>CL H (by lia) (λo1 o2 r1 r2 hl=>HC H 14 A o1 o2 (by lia) r1 r2 hl) h1 h2 h3 h4 h5
 cases c with
 |st=>
  cases d<;>simp![iT,Ig]at kd
  cases e<;>simp![iT,Ig]at ke
  let⟨t,rfl⟩:=rd;let⟨t',rfl⟩:=re;simp![ltD,KJ]at h;subst h;exact oneLt_str q
 |it=>
  cases d<;>simp![iT,Ig]at kd
  cases e<;>simp![iT,Ig]at ke
  let⟨t,rfl⟩:=rd;let⟨t',rfl⟩:=re;simp![ltD,KJ]at h;subst h;exact oneLt_int q
 |ts=>
  let⟨i,ds,rfl⟩:=pQ kd;let⟨j,es,rfl⟩:=pQ ke;let⟨a,o,us,rfl,q1,t1,r1⟩:=rd;let⟨b,o',vs,rfl,q2,t2,r2⟩:=re;let⟨_,g1,c1,n1,d1⟩:=t1.is H q1;let⟨_,g2,c2,n2,d2⟩:=t2.is H q2;refine kat_lt g1 d1 g2 d2 ?_
  let⟨x,xt,rfl,⟨t,rfl⟩,r1b⟩:=r1;let⟨y,yt,rfl,⟨t',rfl⟩,r2b⟩:=r2;simp![okD,Iw,HW]at hd he;simp![ltD,dw,D.str.injEq]at h;let q1:=OW (A:=A) (s:=s) i t j t'
  by_cases cij:i=j
  ·subst cij
   rw[if_pos rfl]at h;rw[beq_self_eq_true]at q1;exact Ou (q1 _ _ _ _ (kat_yes (lv (ll hd.2 he.2 r1b r2b h) (.inr (HQ _)) (by simp) q)))
  ·rw[if_neg cij]at h
   let eb:(i==j)=Y:=by simpa using cij
   rw[eb]at q1;refine Ou (q1 _ _ _ _ (kat_no ?_))
   simp![KJ]at h;subst h;exact oneLt_str q
 |ti=>
  let⟨i,ds,rfl⟩:=qT kd;let⟨j,es,rfl⟩:=qT ke;let⟨a,o,us,rfl,q1,t1,r1⟩:=rd;let⟨b,o',vs,rfl,q2,t2,r2⟩:=re;let⟨_,g1,c1,n1,d1⟩:=t1.is H q1;let⟨_,g2,c2,n2,d2⟩:=t2.is H q2;refine kat_lt g1 d1 g2 d2 ?_
  let⟨x,xt,rfl,⟨t,rfl⟩,r1b⟩:=r1;let⟨y,yt,rfl,⟨t',rfl⟩,r2b⟩:=r2;simp![okD,Iw,HW]at hd he;simp![ltD,dw,D.int.injEq]at h;let q1:=MY (A:=A) (s:=s) i t j t'
  by_cases cij:i=j
  ·subst cij
   rw[if_pos rfl]at h;rw[beq_self_eq_true]at q1;exact Ou (q1 _ _ _ _ (kat_yes (lv (ll hd.2 he.2 r1b r2b h) (.inr (HQ _)) (by simp) q)))
  ·rw[if_neg cij]at h
   let eb:(i==j)=Y:=by simpa using cij
   rw[eb]at q1;refine Ou (q1 _ _ _ _ (kat_no ?_))
   simp![KJ]at h;subst h;exact oneLt_int q
theorem wC (H:Hm M s.heap) {T:HM->Prop}(hT:∀{d:D},iT c d=V->∃z es,d=.tup (z::es)/\∀v,R m M z v->T v):∀{ds:Qw D}{us},ds.all (iT c)=V->Rs m M ds us->∃fs,KatTups s.heap us fs/\fs.length=us.length/\∀f∈fs,T f
 |[],us,_,r=>by cases r;exact⟨[],.nil,rfl,λ_ h=>nomatch h⟩
 |d::ds,us,hk,r=>by
  let⟨x,xt,rfl,ra,rb⟩:=r;rw[Iw,HW]at hk;let⟨fs,f1,f2,f3⟩:=wC H hT hk.2 rb;let⟨z,es,rfl,hz⟩:=hT hk.1;let⟨a,o,vs,rfl,q,t,rs⟩:=ra;let⟨_,g1,c1,n1,d1⟩:=t.is H q;let⟨y,yt,rfl,ry,_⟩:=rs;exact⟨y::fs,.cons g1 c1 d1 (by simp) f1,by simp[f2],λf hf=>by
   grind⟩
theorem zI (H:Hm M s.heap) {A:Ia}{c:KD}{ds:Qw D}{us:Qw HM}(h2:2<=us.length) (hk:ds.all (iT c)=V) (r:Rs m M ds us) {Q:Lx->HN->Prop}(q:Q (Dh c) s):
  wpAny (model P w) A (keyKind' us.toArray) Q (λ_ _=>False) s:=by
 let each:∀u∈us,∃d,iT c d=V/\R m M d u:=λu hu=>by
  let⟨d,h1,h2⟩:=r.mem hu;exact⟨d,qac.mp hk d h1,h2⟩
 cases c with
 |st=>
  refine kas_kind (T:=.type "str") h2 (λu hu=>?_) (by decide) (by decide) q
  let⟨d,k1,rd⟩:=each u hu;cases d<;>simp![iT,Ig]at k1
  let⟨t,rfl⟩:=rd;exact .now
 |it=>
  refine kas_kind (T:=.type "int") h2 (λu hu=>?_) (by decide) (by decide) q
  let⟨d,k1,rd⟩:=each u hu;cases d<;>simp![iT,Ig]at k1
  let⟨t,rfl⟩:=rd;exact .now
 |ts=>
  let⟨fs,f1,f2,f3⟩:=wC (c:=.ts) (T:=λv=>∃z t,v=.str z t) H (λh=>by let⟨x,ds,rfl⟩:=pQ h;exact⟨_,_,rfl,λv ⟨t,e⟩=>⟨x,t,e⟩⟩) hk r
  refine kat_kind (T:=.type "str") f1 (by lia) (λf hf=>?_) (by decide) q
  let⟨z,t,rfl⟩:=f3 f hf;exact .now
 |ti=>
  let⟨fs,f1,f2,f3⟩:=wC (c:=.ti) (T:=λv=>∃z t,v=.int z t) H (λh=>by let⟨x,ds,rfl⟩:=qT h;exact⟨_,_,rfl,λv ⟨t,e⟩=>⟨x,t,e⟩⟩) hk r
  refine kat_kind (T:=.type "int") f1 (by lia) (λf hf=>?_) (by decide) q
  let⟨z,t,rfl⟩:=f3 f hf;exact .now
set_option tactic.hygienic true in
open Classical in
theorem ED {ds:Qw D}{us:Qw HM}(r:Rs m M ds us) (hc:eZ ds=V):∃f:HM->D,(ds≠[]->∀u,f u∈ds)/\(ds=[]->∀u,f u=.non)/\us.map f=ds/\∀u∈us,R m M (f u) u:=by
 let val:∀d u,d∈ds->R m M d u->(if h:∃d,d∈ds/\R m M d u then h.choose else ds.headD .non)=d:=λd u hd hr=>by
  let h:∃d,d∈ds/\R m M d u:=⟨d,hd,hr⟩;rw[dif_pos h];exact R.inj (gU hc h.choose_spec.1) (gU hc hd) h.choose_spec.2 hr
 refine⟨λu=>if h:∃d,d∈ds/\R m M d u then h.choose else ds.headD .non,λhn u=>?_,λhn u=>?_,?_,λu hu=>?_⟩
 ·dsimp only
  split
  ·rename_i h;exact h.choose_spec.1
  ·cases ds with
   |nil=>exact absurd rfl hn
   |cons d ds=>exact .head _
 ·simp_all
 ·refine Mz λi=>?_
  rw[H8]
  cases e:ds[i]? with
  |none=>have:=r.length;simp_all
  |some d=>let⟨u,h1,h2⟩:=r.get e;rw[h1,Option.map_some,val d u (HR e) h2]
 ·let⟨d,h1,h2⟩:=r.mem hu
  dsimp only;rw[val d u h1 h2];exact h2
theorem Fy {f:HM->D}:∀{us:Qw HM},(∀u∈us,R m M (f u) u)->Rs m M (us.map f) us
 |[],_=>rfl
 |u::us,h=>⟨u,us,rfl,h u (.head _),Fy λu hu=>h u (.tail _ hu)⟩
end
def dF (c:KD) (x:Qq D):Qq D:=match x with|some (.lst ds)=>if(eZ ds&&(decide (ds.length<2)||ds.all (iT c)))=V then U (.lst (aY ds)) else B|_=>B
def fZ {c:KD}{ds:Qw D}(h2:eZ ds=V) (h3:ds.length<2\/ds.all (iT c)=V):dF c (U (.lst ds))=U (.lst (aY ds)):=by
 unfold dF
 lia
nonrec theorem gP (h:dF c x=U d):∃ds,x=U (.lst ds)/\eZ ds=V/\(decide (ds.length<2)||ds.all (iT c))=V/\d=.lst (aY ds):=by
 unfold dF at h;split at h<;>try cases h
 split at h<;>cases h
 rename_i z;rw[HW]at z;exact⟨_,rfl,z.1,z.2,rfl⟩
section
variable{X:Cx}{M:Mp}{δ:DEnv}{s:HN}{a b:Expr}{fa fb:DEnv->Qq D}{m m':Bool}{p p2 pos pos2:MR}{t u:Bool}{Q:HM->HN->Prop}
def dk {c:KD}{ds:Qw D}{us:Qw HM}(I:Inv X M δ s) (r:Rs Y M ds us) (hz:us.length<=sizeLine) (hc:eZ ds=V) (hk:(decide (ds.length<2)||ds.all (iT c))=V) (q:PostF X M δ (.lst (aY ds)) Q):
  wpAny (model P w) X.A.in1 (do
   let l <-newList us
   let _ <-holding [l] (call (.builtin "list.sort") [l] [])
   ret l) (λfin s'=>∃w,fin=.done (.ret w)/\Q w s') (λ_ _=>False) s:=by
 let⟨f,f1,f0,f2,f3⟩:=ED r hc;let hl:=r.length;let un:=I.un;let hk':2<=us.length->ds.all (iT c)=V:=λh=>by
  rw[Oo,decide_eq_true_iff]at hk
  rcases hk with z|z
  ·lia
  ·exact z
 refine HJ (wpAny_newList ?_ hz)
 let g0:(s.heap.push (seqObj "list" us.toArray 0)).get? s.heap.objs.size=U (seqObj "list" us.toArray 0):=HO _ rfl
 let k2:∀b o,s.heap.get? b=U o->b≠s.heap.objs.size/\(s.heap.push (seqObj "list" us.toArray 0)).get? b=U o:=λb o e=>⟨Il (H6 e),HL _ e⟩
 refine HJ (Ij (Ii slot_list_sort ⟨_,g0,rfl⟩ entry_list_sort ?_ (args_list_sort _)))
 let hA:X.A.in1.in1.units+20<cLine:=by show X.A.units+1+1+20<cLine;lia
 refine xY (s:={s with heap:=s.heap.push (seqObj "list" us.toArray 0)}) (vs:=us) (κ:=Dh c) (LT:=λu v=>decide (ltD 15 (f u) (f v)=U V)) g0 hz (Ga hc f1 f0) (λh2 h' kp Q' q'=>?_) (λh2 h' kp u u' C hu hu' hC=>?_) (λus' hp hs h' cc kp g=>?_)
 ·let I1:Inv X M δ {s with heap:=h'}:=I.kp λb o e=>kp b o (k2 b o e).1 (k2 b o e).2
  exact zI I1.heap h2 (hk' h2) r q'
 ·let I1:Inv X M δ {s with heap:=h'}:=I.kp λb o e=>kp b o (k2 b o e).1 (k2 b o e).2
  let m1:f u∈ds:=by rw[<-f2];exact H4 hu
  let m2:f u'∈ds:=by rw[<-f2];exact H4 hu'
  let⟨rr,er⟩:=hO hc m1 m2;refine Ey I1.heap hA (gU hc m1) (gU hc m2) (qac.mp (hk' h2) _ m1) (qac.mp (hk' h2) _ m2) (f3 u hu) (f3 u' hu') er ?_
  simp_all
 ·let es:us'.map f=aY ds:=by
   let perm:(us'.map f).Perm ds:=by rw[<-f2];exact hp.map f
   refine cY hc _ _ (λy hy=>perm.mem_iff.mp hy) (perm.trans (ax ds).symm) ?_ (bp hc)
   rw[qak];exact hs.imp λq=>of_decide_eq_false q
  let rz:=Fy (us:=us') λu hu=>f3 u (hp.mem_iff.mp hu)
  rw[es]at rz;exact⟨_,rfl,HK ⟨_,rfl,q _ _ {s with heap:=h'} M Ext.refl (I.kp λb o e=>kp b o (k2 b o e).1 (k2 b o e).2) (I.fresh (HQ _)) g ⟨us',⟨by rw[hp.length_eq];exact hz,cc,rfl⟩,rz⟩⟩⟩
def fX:bootBuiltins "sorted"=U (.builtin "sorted"):=by rfl
def wv {c:KD}(g:Bn X "sorted") (ha:DE X Y a fa):DF X (.Call (.Name "sorted" p) [a] [] pos) (λδ=>dF c (fa δ)):=⟨rfl,λI e k=>by
 let⟨ds,e1,h1,h2,rfl⟩:=gP e;refine jV g fX ha I e1 λv s1 M1 x1 I1 r=>?_
 let⟨l,o,vs,rfl,q,t,rs⟩:=r;let z:=t.1;refine Kp OV Os Ov (Oy _) ?_
 refine HJ (m:=checkCount "sorted" 1 1 _) (HK (HJ (collect_list (t.is I1.heap q) ?_ (by lia))))
 refine dk (I1.kp λb o e=>?_) rs (by simpa using z) h1 h2 (PostF.to k x1)
 exact(HX _ _ (JI (H6 e))).trans (HL _ e)⟩
end
end L2
namespace L2
open PySem PySem.Spec PyProof.Rows Md
section
variable{prog:IZ}{w:JA}{A:Ia}{E:HM->HN->Prop}{s:HN}
end
section
variable{prog:IZ}{w:JA}{A:Ia}{R:L9->HN->Prop}{I:HZ}{fp wr:Qw HZ}{n:Nat}{P:Nat->HM->Prop}{St:Nat->Jr->Prop}{kw:Qw (Ih×HM)}
end
section
variable{prog:IZ}{w:JA}{A:Ia}{E:HM->HN->Prop}{s:HN}
end
def Fc:bootBuiltins "min"=U (.builtin "min"):=by rfl
section
variable{prog:IZ}{w:JA}{A:Ia}{R:L9->HN->Prop}{I:HZ}{fp wr:Qw HZ}{n:Nat}{P:Nat->HM->Prop}{St:Nat->Jr->Prop}{s0:HN}{S:HZ}{bt:Nat->Nat->Bool}
end
variable[Md]
section
variable{X:Cx}{M:Mp}{δ:DEnv}{s:HN}{a b:Expr}{fa fb:DEnv->Qq D}{m m' mm:Bool}{p p2 pos pos2 kp:MR}{t u:Bool}{Q:HM->HN->Prop}
end
end L2
namespace L2
open PySem PySem.Spec PyProof.Rows PySem.W Md
def BJ (vs:Qw HM) (p:Qw Nat):Qw HM:=p.map λi=>vs.getD i JG
nonrec theorem um {pos pos':MR}{cv c:HM}(l:Qw HM) (ht:TriplesOk l) (h:codeAmong pos' (l++[rawInt pos.line,rawInt pos.col,c])=U cv):codeAmong pos' l=U cv\/cv=c:=by
 fun_induction TriplesOk l with
 |case1=>
  simp_all [Oi,rawInt,codeAmong]
 |case2 a t b u x rest ih=>
  simp![List.cons_append,codeAmong]at h⊢;split at h
  ·rename_i hc;rw[if_pos hc];exact .inl h
  ·rename_i hc;rw[if_neg hc];exact ih ht h
 |case3 l h1 h2=>exact ht.elim
variable[Md]
section
variable{X:Cx}{M M':Mp}{δ:DEnv}{s s':HN}{tg iter c e:Expr}{pos p1 p2 p3:MR}{j:Nat}{x:Ih}{fi:DEnv->Qq (Qw D)}{τ:D->DEnv->Qq DEnv}{fc:DEnv->Qq Bool}{fe:DEnv->Qq D}
def Inv.tne (I:Inv X M δ s) (hP:q∈tb):X.env.locals≠q.1/\∀x c,X.env.cells.lookup x=U c->c≠q.1:=by
 let⟨_,ps,h,_⟩:=I.tabs q hP;refine⟨λz=>?_,λx c e z=>?_⟩
 ·let⟨_,⟨o,es,ep,h1,h2,_⟩,_⟩:=I.loc;lia
 ·let⟨⟨v,o,h1,h2⟩,_⟩:=I.cell x c e;lia
def Inv.grow {P c':HZ}{lq:Ih}{ps:Array HM}{pos:MR}{h':Jr}{t':Nat}(I:Inv X M δ s) (hP:(P,lq)∈tb) (hTu:∀q∈tb,q.1=P->q=(P,lq)) (hps:s.heap.get? P=U {cls:=.none,data:=.fields ps}) (hx:MA P s.heap h') (hge:s.heap.objs.size<=c') (hoc:h'.get? c'=U oc) (hd:oc.data=.fields vs) (hv:vs[1]?=U (.str lq t))
  (htb:h'.get? P=U (PySem.W.tabObj (ps++#[rawInt pos.line,rawInt pos.col,.ref c']))):Inv X (upd M c' (U (.f,oc))) δ {s with heap:=h',toks:=t'}:=by
 let⟨nl,nc⟩:=I.tne hP;let f:=I.fresh hge;let k:∀b o,b≠P->s.heap.get? b=U o->h'.get? b=U o:=λb o hb e=>hx b o hb e
 let mP:=(I.tabs _ hP).1;let of:∀{b y},M b=U y->upd M c' (U (.f,oc)) b=U y:=λ{b y} e=>by rw[ai (λz=>by simp_all [z,f.m])];exact e
 let no:∀{b},M b=B->b≠c'->upd M c' (U (.f,oc)) b=B:=λ{b} e n=>by rw[ai n];exact e
 let ow:∀{b k o},upd M c' (U (.f,oc)) b=U (k,o)->k.own=V->M b=U (k,o):=λ{b k o} e w=>by
  by_cases z:b=c'
  ·subst z;rw[ah]at e;cases e;cases w
  ·rw[ai z]at e;exact e
 let⟨m,⟨oL,es,ep,hL,hL2⟩,hl⟩:=I.loc;refine⟨I.ok,I.og,λb r o e=>?_,λb o e=>of (I.base b o e),⟨m,⟨oL,es,ep,k _ _ nl hL,hL2⟩,λi x d b e1 e2 e3=>?_⟩,no I.free (Ib f.l),λx c e=>?_,λq hq=>?_,λb k o e w=>I.own _ _ _ (ow e w) w,λa b k o o' w e e'=>I.uni _ _ _ _ _ w (ow e (by cases k<;>first|rfl|cases w)) (ow e' (by cases k<;>first|rfl|cases w)),I.len,λp a d e z=>by let⟨o,h1,h2⟩:=I.sto p a d e z;exact⟨o,of h1,h2.to (br f.m)⟩,λr o e=>?_,λa ha=>?_⟩
 ·by_cases z:b=c'
  ·simp_all [ah]
  ·rw[ai z]at e;exact k b o (λw=>by lia) (I.heap _ _ _ e)
 ·let⟨u,lk,va⟩:=hl i x d b e1 e2 e3
  exact⟨u,qC lk λc o e=>k c o (nc x c e),va.to (br f.m) λa j o _=>of⟩
 ·let⟨⟨v,o,h1,h2⟩,h3⟩:=I.cell x c e
  exact⟨⟨v,o,k c o (nc x c e) h1,h2⟩,h3.imp (λz=>no z λw=>f.c x (w▸e)) λ⟨g,o,z⟩=>⟨g,o,of z⟩⟩
 ·let⟨h1,qs,h2,h3,h4⟩:=I.tabs q hq
  refine⟨no h1 λw=>f.t q hq w.symm,?_⟩
  by_cases z:q.1=P
  ·obtain rfl:=hTu q hq z
   rw[hps]at h2;cases h2;refine⟨_,htb,by rw[IV];exact TriplesOk_snoc _ _ _ _ h3,λpos' cv e=>?_⟩
   rw[IV]at e
   rcases um _ h3 e with e|e
   ·let⟨c2,o2,v2,t2,z1,z2,z3⟩:=h4 pos' cv e
    exact⟨c2,o2,v2,t2,z1,of z2,z3⟩
   ·exact⟨c',oc,vs,t,e,ah,hd,hv⟩
  ·refine⟨qs,k _ _ z h2,h3,λpos' cv e=>?_⟩
   let⟨c2,o2,v2,t2,z1,z2,z3⟩:=h4 pos' cv e;exact⟨c2,o2,v2,t2,z1,of z2,z3⟩
 ·rw[ai (Ib f.s)]at e;exact I.sys _ _ e
 ·let⟨⟨o,e⟩,h⟩:=I.sx a ha
  refine⟨?_,λk o z w=>h k o (ow z w) w⟩
  by_cases z:a=P
  ·exact⟨_,z▸htb⟩
  ·exact⟨o,k a o z e⟩
def Room.in1 {A:Ia}{k:Nat}(r:Room (k+1) A):Room k A.in1:=⟨r.hd,by have:=r.dp;show A.depth+_+_<_;lia,by have:=r.un;show A.units+1+_+_<_;lia⟩
end
end L2
namespace L2
open PySem PySem.Spec PyProof.Rows PySem.W Md
variable[Md]
theorem Rs.order {vs:Qw HM}(r:Rs m M ds vs):∀(p:Qw Nat),(∀i∈p,i<ds.length)->Rs m M (p.map λi=>ds.getD i .non) (BJ vs p)
 |[],_=>rfl
 |i::p,h=>by
  let hi:=h i (Ik ..);let⟨x,hx,rx⟩:=r.get (i:=i) (d:=ds[i]) (by simp[hi])
  refine⟨_,_,rfl,?_,Rs.order r p λj hj=>h j (Ic _ hj)⟩
  show R m M (ds.getD i .non) (vs.getD i JG);rw[J3,J3,hx,JE hi]
  exact rx
section
variable{X:Cx}{M M':Mp}{δ:DEnv}{s:HN}{P:PySem.Fin->HN->Prop}{A:Ia}{E:HM->HN->Prop}
end
section
variable{X:Cx}{M:Mp}{δ:DEnv}{s:HN}{a lbody:Expr}{fa fb:DEnv->Qq D}{params:Ni}{lscope:Kg}{lpos kp pos p:MR}{c P:HZ}{lq x:Ih}{k:Nat}{Q:HM->HN->Prop}
end
end L2
namespace L2
open PySem PySem.Spec PyProof.Rows Md
section
variable{prog:IZ}{w:JA}{A:Ia}{E:HM->HN->Prop}{s:HN}
end
variable[Md]
theorem Rs.erase:∀{ds vs} (i:Nat),Rs m M ds vs->Rs m M (ds.eraseIdx i) (vs.eraseIdx i)
 |[],_,i,r=>by cases r;rfl
 |d::ds,_,0,⟨x,q,rfl,r1,r2⟩=>r2
 |d::ds,_,i+1,⟨x,q,rfl,r1,r2⟩=>⟨x,_,rfl,r1,Rs.erase i r2⟩
section
variable{X:Cx}{M:Mp}{δ:DEnv}{s:HN}{tg a b:Expr}{fa fb:DEnv->Qq D}{m m':Bool}{pos px apos cpos:MR}
end
end L2
namespace L2.G
open PySem
def Ris (xs:Qw Nat):Prop:=xs.Pairwise (· < ·)
def Ris.at {xs:Qw Nat}(h:Ris xs) {i j:Nat}(hij:i<j) (hj:j<xs.length):xs[i]'(Ph hij hj)<xs[j]:=(qaj.mp h) i j (Ph hij hj) hj hij
theorem mF {xs:Array Nat}(h:Ris xs.toList) (j:Nat):∀(fuel lo hi:Nat),hi - lo<=fuel->lo<=hi->hi<=xs.size->(∀i (hi':i<xs.size),i<lo->xs[i]<j)->(∀i (hi':i<xs.size),hi<=i->j<=xs[i])->
  (∀i (hi':i<xs.size),i<LU xs j fuel lo hi->xs[i]<j)/\(∀i (hi':i<xs.size),LU xs j fuel lo hi<=i->j<=xs[i])/\LU xs j fuel lo hi<=xs.size
 |0,lo,hi,h1,h2,h3,h4,h5=>by
  have:lo=hi:=by lia
  subst this
  trivial
 |fuel+1,lo,hi,h1,h2,h3,h4,h5=>by
  unfold LU
  by_cases hl:lo<hi
  ·rw[if_pos hl]
   let hm1:(lo+hi) / 2<hi:=by lia
   let hm2:lo<=(lo+hi) / 2:=by lia
   let hm:(lo+hi) / 2<xs.size:=by lia
   let hg:xs.getD ((lo+hi) / 2) j=xs[(lo+hi) / 2]:=by simp[OG,hm]
   dsimp only;rw[hg];let mono:∀a b (ha:a<xs.size) (hb:b<xs.size),a<=b->xs[a]<=xs[b]:=λa b ha hb hab=>by
    rcases Nat.lt_or_eq_of_le hab with q|q
    ·have:=Ris.at h q (by trivial)
     simp![LZ]at this;lia
    ·subst q;exact HQ _
   by_cases hq:xs[(lo+hi) / 2]<j
   ·rw[if_pos hq]
    refine mF h j fuel ((lo+hi) / 2+1) hi (by lia) (by lia) h3 (λi hi' q=>?_) h5
    exact Nat.lt_of_le_of_lt (mono i ((lo+hi) / 2) hi' hm (by lia)) hq
   ·rw[if_neg hq]
    refine mF h j fuel lo ((lo+hi) / 2) (by lia) hm2 (by lia) h4 (λi hi' q=>?_)
    exact Ja (by lia) (mono ((lo+hi) / 2) i hm hi' q)
  ·rw[if_neg hl]
   have:lo=hi:=by lia
   subst this;exact⟨λi hi' q=>h4 i hi' q,λi hi' q=>h5 i hi' q,h3⟩
def gm {xs:Array Nat}(h:Ris xs.toList) (j:Nat):(∀i (hi':i<xs.size),i<Io xs j->xs[i]<j)/\(∀i (hi':i<xs.size),Io xs j<=i->j<=xs[i])/\Io xs j<=xs.size:=
 mF h j xs.size 0 xs.size (by lia) (Im _) (HQ _) (λi _ q=>absurd q (KT i)) λi hi' q=>absurd q (by lia)
def Aw {xs:Array Nat}(h:Ris xs.toList) {i:Nat}(hi:i<xs.size):Io xs xs[i]=i:=by
 let⟨h1,h2,h3⟩:=gm h xs[i]
 rcases LF (Io xs xs[i]) i with q|q|q
 ·let hb:Io xs xs[i]<xs.size:=by lia
  have:=h2 _ hb (HQ _);let q2:=Ris.at h q (by trivial)
  simp![LZ]at q2;lia
 ·exact q
 ·have:=h1 i hi q;lia
def uG {xs:Array Nat}(h:Ris xs.toList) {i:Nat}(hi:i<xs.size):Io xs (xs[i]+1)=i+1:=by
 let⟨h1,h2,h3⟩:=gm h (xs[i]+1)
 rcases LF (Io xs (xs[i]+1)) (i+1)with q|q|q
 ·have:=h2 i hi (by lia);lia
 ·exact q
 ·let hb:i+1<xs.size:=by lia
  have:=h1 (i+1) hb q;let q2:=Ris.at h (show i<i+1 by lia) (by trivial)
  simp![LZ]at q2;lia
def tm {xs:Array Nat}(h:Ris xs.toList) {j:Nat}(hj:∀i (hi:i<xs.size),xs[i]≠j):Ris (Lq xs (Io xs j) j).toList:=by
 let⟨h1,h2,h3⟩:=gm h j;rw[Mq];generalize Io xs j=p at h1 h2 h3⊢;unfold Ris;rw[JO,qai];let ht:∀a∈xs.toList.take p,a<j:=λa ha=>by
  let⟨i,hi,rfl⟩:=qag.mp ha;rw[LL]at hi;rw[List.getElem_take];let hi2:i<xs.size:=by have:xs.toList.length=xs.size:=J6;lia
  have:=h1 i hi2 (by lia)
  simpa using this
 let hd:∀a∈xs.toList.drop p,j<a:=λa ha=>by
  let⟨i,hi,rfl⟩:=qag.mp ha;rw[List.length_drop]at hi;rw[List.getElem_drop];let hi2:p+i<xs.size:=by have:xs.toList.length=xs.size:=J6;lia
  have:=h2 (p+i) hi2 (by lia)
  have:=hj (p+i) hi2;simp![LZ];lia
 refine⟨h.sublist (qav _ _),⟨hd,h.sublist (List.drop_sublist _ _)⟩,λa ha b hb=>?_⟩
 rcases qaa.mp hb with rfl|hb
 ·exact ht a ha
 ·exact Ph (ht a ha) (hd b hb)
def dQ {t:IA}(h:Ris t.place.toList) {i:Nat}(hi:i<t.place.size):t.slot t.place[i]=.live i:=by
 unfold Of;rw[Aw h hi];simp[hi]
def sH {t:IA}(h:Ris t.place.toList) (hd:t.dummies=#[]) {j:Nat}(hj:∀i (hi:i<t.place.size),t.place[i]≠j):t.slot j=.empty:=by
 unfold Of;dsimp only;have:(t.place[Io t.place j]?==U j)=Y:=by
  cases q:t.place[Io t.place j]? with
  |none=>rfl
  |some v=>
   let⟨hi,e⟩:=Array.getElem?_eq_some_iff.mp q
   have:=hj _ hi;rw[e]at this
   simpa using this
 rw[this,hd];rfl
nonrec theorem oV {t:IA}{j i:Nat}(h:t.slot j=.live i):∃hi:i<t.place.size,t.place[i]=j:=by
 unfold Of at h;dsimp only at h;split at h
 ·rename_i q
  cases h;let⟨hi,e⟩:=Array.getElem?_eq_some_iff.mp (beq_iff_eq.mp q)
  exact⟨hi,e⟩
 ·split at h<;>cases h
end L2.G
namespace L2.G
open PySem
def b7 (t:IA):Nat->Jt->Jt
 |0,p=>p
 |n+1,p=>b7 t n (t.advance p)
def jG (t:IA) (n:Nat) (p:Jt):b7 t (n+1) p=t.advance (b7 t n p):=by
 induction n generalizing p with
 |zero=>rfl
 |succ n ih=>show b7 t (n+1) (t.advance p)=_;rw[ih];rfl
def gy (t:IA) (m n:Nat) (p:Jt):b7 t (m+n) p=b7 t n (b7 t m p):=by
 induction m generalizing p with
 |zero=>rw[KS];rfl
 |succ m ih=>rw[Nat.succ_add];show b7 t (m+n) (t.advance p)=_;rw[ih];rfl
def uW (t:IA) (p:Jt):(t.advance p).dummy=p.dummy:=by
 unfold Lz;split<;>rfl
def hU (t:IA) (n:Nat) (p:Jt):(b7 t n p).dummy=p.dummy:=by
 induction n generalizing p with
 |zero=>rfl
 |succ n ih=>show(b7 t n (t.advance p)).dummy=_;rw[ih,uW]
def zZ {t u:IA}(h:t.mask=u.mask) (p:Jt):t.advance p=u.advance p:=by
 unfold Lz;rw[h]
def u7 {t u:IA}(h:t.mask=u.mask) (n:Nat) (p:Jt):b7 t n p=b7 u n p:=by
 induction n generalizing p with
 |zero=>rfl
 |succ n ih=>show b7 t n (t.advance p)=b7 u n (u.advance p);rw[zZ h,ih]
def ud {t u:IA}(h:t.mask=u.mask) (x:Int):t.probeStart x=u.probeStart x:=by
 unfold O2;rw[h]
def aH (mask:Nat) (h:Int):Nat->Nat×Nat
 |0=>(JB h%(mask+1),JB h)
 |m+1=>Nd mask (aH mask h m).1 (aH mask h m).2
def gf (mask:Nat) (b:Nat×Nat):Jt:={j:=b.1,more:=IB mask b.1 - b.1,i:=b.1,perturb:=b.2,dummy:=B}
def AP (mask i:Nat):IB mask i - i<=9:=by unfold IB;split<;>lia
theorem mG (t:IA):∀(k:Nat) (p:Jt),k<=p.more->b7 t k p={p with j:=p.j+k,more:=p.more - k}
 |0,p,_=>rfl
 |k+1,p,h=>by
  show b7 t k (t.advance p)=_;have:t.advance p={p with j:=p.j+1,more:=p.more - 1}:=by unfold Lz;rw[if_pos (by lia)]
  rw[this,mG t k _ (show k<=p.more - 1 by lia)]
  lia
def vJ (t:IA) (b:Nat×Nat):b7 t (IB t.mask b.1 - b.1+1) (gf t.mask b)=gf t.mask (Nd t.mask b.1 b.2):=by
 rw[jG,mG t (IB t.mask b.1 - b.1) _ (show IB t.mask b.1 - b.1<=(gf t.mask b).more from HQ _)]
 unfold Lz gf;rw[if_neg (by dsimp only;lia)]
theorem wc (t:IA) (h:Int):∀m:Nat,∃n,n<=10*m/\b7 t n (t.probeStart h)=gf t.mask (aH t.mask h m)
 |0=>⟨0,HQ _,rfl⟩
 |m+1=>by
  let⟨n,hn,e⟩:=wc t h m;let hr:=AP t.mask (aH t.mask h m).1;refine⟨n+(IB t.mask (aH t.mask h m).1 - (aH t.mask h m).1+1),by lia,?_⟩
  rw[gy,e,vJ];rfl
theorem He (mask:Nat) (h:Int):∀m,(aH mask h m).2=JB h / 32 ^ m
 |0=>by simp[aH]
 |m+1=>by
  show(aH mask h m).2 / 32=_;rw[He mask h m,Nat.div_div_eq_div_mul,Nat.pow_succ]
def Dd (h:Int):JB h<2 ^ 64:=by unfold JB;lia
def G1 (mask:Nat) (h:Int) (m:Nat):(aH mask h (13+m)).2=0:=by
 rw[He];apply Nat.div_eq_of_lt;refine NK (Dd h) ?_
 grind
def lcg (mask:Nat):Nat->Nat->Nat
 |0,x=>x
 |n+1,x=>(lcg mask n x*5+1)%(mask+1)
def rW (mask:Nat) (h:Int) (m:Nat):(aH mask h (13+m)).1=lcg mask m (aH mask h 13).1:=by
 induction m with
 |zero=>rfl
 |succ m ih=>
  show(Nd mask (aH mask h (13+m)).1 (aH mask h (13+m)).2).1=(lcg mask m _*5+1)%(mask+1);rw[G1,ih];rfl
theorem qu (mask:Nat) (h:Int):∀m,(aH mask h m).1<mask+1
 |0=>MV _ (Mm _)
 |m+1=>MV _ (Mm _)
def FZ (mask:Nat):Nat->Nat->Qw Nat
 |0,_=>[]
 |n+1,x=>x::FZ mask n ((x*5+1)%(mask+1))
theorem pF (mask:Nat):∀n x,lcg mask n ((x*5+1)%(mask+1))=lcg mask (n+1) x
 |0,x=>rfl
 |n+1,x=>by
  show(lcg mask n ((x*5+1)%(mask+1))*5+1)%(mask+1)=(lcg mask (n+1) x*5+1)%(mask+1);rw[pF mask n x]
theorem sX {mask j:Nat}:∀{n x:Nat},j∈FZ mask n x->∃k,k<n/\lcg mask k x=j
 |0,x,h=>by simp[FZ]at h
 |n+1,x,h=>by
  rcases qaa.mp h with rfl|h
  ·exact⟨0,Mm _,rfl⟩
  ·let⟨k,hk,e⟩:=sX h
   exact⟨k+1,Nat.succ_lt_succ hk,by rw[<-pF];exact e⟩
def qn (mask:Nat) (m n x:Nat):lcg mask (m+n) x=lcg mask m (lcg mask n x):=by
 induction m with
 |zero=>rw[KS];rfl
 |succ m ih=>rw[Nat.succ_add];show(lcg mask (m+n) x*5+1)%(mask+1)=(lcg mask m (lcg mask n x)*5+1)%(mask+1);rw[ih]
def qI (mask:Nat):Bool:=let l:=FZ mask (mask+1) 0;((Iu (mask+1)).all λj=>l.contains j)&&lcg mask (mask+1) 0==0
def HH:qI 7=V:=by rfl
def Msk (mask:Nat):Prop:=mask=7\/mask=31\/mask=127
def Msk.cov {mask:Nat}(h:Msk mask):qI mask=V:=by
 rcases h with rfl|rfl|rfl
 ·exact HH
 ·rfl
 rfl
def wh {mask x j:Nat}(h:Msk mask) (hx:x<mask+1) (hj:j<mask+1):∃n,n<mask+1/\lcg mask n x=j:=by
 let hc:=h.cov;unfold qI at hc;rw[HW,beq_iff_eq]at hc;let at0:=λy hy=>sX (List.contains_iff_mem.mp (qac.mp hc.1 y (qad.mpr hy)))
 let⟨k0,h0,e0⟩:=at0 x hx;let⟨k1,h1,e1⟩:=at0 j hj
 by_cases hk:k0<=k1
 ·refine⟨k1 - k0,by lia,?_⟩
  rw[<-e0,<-qn,Nat.sub_add_cancel hk,e1]
 ·refine⟨k1+(mask+1) - k0,by lia,?_⟩
  rw[<-e0,<-qn,Nat.sub_add_cancel (by lia),qn,hc.2,e1]
def CU {t:IA}(hm:Msk t.mask) (h:Int) {j:Nat}(hj:j<t.mask+1):∃n,n<10*Iy t.mask/\(b7 t n (t.probeStart h)).j=j:=by
 let⟨k,hk,e⟩:=wh hm (qu t.mask h 13) hj;let⟨n,hn,en⟩:=wc t h (13+k);refine⟨n,by unfold Iy;lia,?_⟩
 rw[en];show(aH t.mask h (13+k)).1=j;rw[rW,e]
theorem m8 {t:IA}{hashAt:Nat->Int}{h:Int}:∀(n fuel:Nat) (p:Jt),n<fuel->(∀m,m<n->∃i,t.slot (b7 t m p).j=.live i/\(hashAt i==h)=Y)->
  (t.slot (b7 t n p).j=.empty->Kj t hashAt h fuel p=U (.empty (b7 t n p).j (b7 t n p).dummy))/\
  (∀i,t.slot (b7 t n p).j=.live i->(hashAt i==h)=V->Kj t hashAt h fuel p=U (.candidate (b7 t n p).j i (t.advance (b7 t n p))))
 |0,fuel+1,p,_,_=>by
  refine⟨λe=>?_,λi e q=>?_⟩
  ·unfold Kj
   rw[show t.slot p.j=.empty from e]
   rfl
  ·unfold Kj
   rw[show t.slot p.j=.live i from e]
   dsimp only;rw[if_pos q];rfl
 |n+1,fuel+1,p,hn,hm=>by
  let⟨i,e,q⟩:=hm 0 (Mm _);let ih:=m8 (hashAt:=hashAt) (h:=h) n fuel (t.advance p) (by lia) λm hm'=>hm (m+1) (by lia)
  let e0:Kj t hashAt h (fuel+1) p=Kj t hashAt h fuel (t.advance p):=by
   conv=>lhs;unfold Kj
   rw[show t.slot p.j=.live i from e]
   dsimp only;rw[if_neg (by lia)]
  rw[e0];exact ih
end L2.G
namespace L2.G
open PySem
abbrev way (t:IA) (h:Int) (n:Nat):Nat:=(b7 t n (t.probeStart h)).j
structure Tab (t:IA) (hs:Qw Int):Prop where
 msk:Msk t.mask
 dum:t.dummies=#[]
 len:t.place.size=hs.length
 ris:Ris t.place.toList
 le:∀j∈t.place.toList,j<=t.mask
 rch:∀(i:Nat) h j,hs[i]?=U h->t.place.toList[i]?=U j->∃n,n<10*Iy t.mask/\way t h n=j/\∀m,m<n->∃k,t.slot (way t h m)=.live k
def Tab.fresh (f m:Nat) (l:Bool):Tab (N0 f m l) []:=by
 refine⟨.inl rfl,rfl,rfl,L3,λj hj=>absurd hj (by simp[N0]),λi h j e=>absurd e (by simp)⟩
def Tab.slots {t:IA}{hs:Qw Int}(T:Tab t hs) (j:Nat):t.slot j=.empty\/∃k,t.slot j=.live k:=by
 by_cases h:∃i,∃hi:i<t.place.size,t.place[i]=j
 ·let⟨i,hi,e⟩:=h
  exact .inr ⟨i,by rw[<-e];exact dQ T.ris hi⟩
 ·exact .inl (sH T.ris T.dum λi hi e=>h ⟨i,hi,e⟩)
theorem gap:∀(n:Nat) (xs:Qw Nat),Ris xs->xs.length=n->∃j,j<=n/\j∉xs
 |n,xs,h,hl=>by
  by_cases q:∀i (hi:i<xs.length),xs[i]=i
  ·refine⟨n,HQ _,λm=>?_⟩
   let⟨i,hi,e⟩:=qag.mp m;rw[q i hi]at e;lia
  ·let hex:∃i,∃hi:i<xs.length,xs[i]≠i:=by
    let⟨i,hi⟩:=Classical.not_forall.mp q;let⟨hi,ne⟩:=Classical.not_forall.mp hi;exact⟨i,hi,ne⟩
   obtain⟨i,⟨hi,ne⟩,hmin⟩:∃i,(∃hi:i<xs.length,xs[i]≠i)/\∀k,k<i->¬∃hk:k<xs.length,xs[k]≠k:=by
    let⟨i,hi⟩:=hex
    induction i using Jq with
    |_ i ih=>
     by_cases z:∃k,k<i/\∃hk:k<xs.length,xs[k]≠k
     ·let⟨k,hk,hk2⟩:=z
      exact ih k hk hk2
     ·exact⟨i,hi,λk hk hh=>z ⟨k,hk,hh⟩⟩
   let hlow:=λk hk hki=>J4 λz=>hmin k hki ⟨hk,z⟩
   let hgt:i<xs[i]:=by
    rcases LF i xs[i]with z|z|z
    ·exact z
    ·exact absurd z.symm ne
    ·let e1:=hlow xs[i] (by lia) z
     let e2:=Ris.at h z hi;rw[e1]at e2;lia
   refine⟨i,by lia,λm=>?_⟩
   let⟨k,hk,e⟩:=qag.mp m
   rcases LF k i with z|z|z
   ·have:=hlow k hk z;lia
   ·subst z;lia
   ·have:=Ris.at h z hk;lia
def Fa {P:Nat->Prop}{n:Nat}(h:P n):∃m,m<=n/\P m/\∀k,k<m->¬P k:=by
 induction n using Jq with
 |_ n ih=>
  by_cases z:∃k,k<n/\P k
  ·let⟨k,hk,pk⟩:=z
   let⟨m,hm,r⟩:=ih k hk pk;exact⟨m,by lia,r⟩
  ·exact⟨n,HQ _,h,λk hk pk=>z ⟨k,hk,pk⟩⟩
def Tab.free {t:IA}{hs:Qw Int}(T:Tab t hs) (hf:t.place.size<=t.mask) (h:Int):∃n,n<10*Iy t.mask/\t.slot (way t h n)=.empty/\∀m,m<n->∃k,t.slot (way t h m)=.live k:=by
 let⟨j,hj,nj⟩:=gap t.place.size t.place.toList T.ris (by simp)
 let⟨n,hn,e⟩:=CU T.msk h (show j<t.mask+1 by lia)
 have:t.slot (way t h n)=.empty:=by
  show t.slot (b7 t n (t.probeStart h)).j=.empty;rw[e];exact sH T.ris T.dum λi hi q=>nj (by rw[<-q];simp)
 let⟨m,hm,e1,e2⟩:=Fa (P:=λn=>t.slot (way t h n)=.empty) this
 refine⟨m,by lia,e1,λk hk=>?_⟩
 rcases T.slots (way t h k)with q|q
 ·simp_all
 ·exact q
def cE {t u:IA}(h:t.mask=u.mask) (x:Int) (n:Nat):way t x n=way u x n:=by
 unfold way;rw[ud h,u7 h]
def nI {α:Type}(xs:Array α) (p:Nat) (x:α):(Lq xs p x).size=xs.size+1:=by
 have:=(MB xs p x).length_eq
 simpa using this
def n7 {α:Type}(l:Qw α) (x:α) {p:Nat}(hp:p<=l.length) (i:Nat):(l.take p++x::l.drop p)[i]?=if i<p then l[i]? else if i=p then U x else l[i - 1]?:=by
 by_cases h1:i<p
 ·rw[if_pos h1,Jz (by rw[LL];lia),OZ h1]
 ·rw[if_neg h1,K9 (by rw[LL];lia),LL,Me hp]
  by_cases h2:i=p
  ·simp_all
  ·rw[if_neg h2]
   obtain⟨d,rfl⟩:∃d,i=p+1+d:=⟨i - p - 1,by lia⟩
   rw[show p+1+d - p=d+1 by lia,IT,List.getElem?_drop]
   congr 1;lia
def Tab.put {t:IA}{hs:Qw Int}(T:Tab t hs) {h:Int}{n:Nat}(hn:n<10*Iy t.mask) (he:t.slot (way t h n)=.empty) (hw:∀m,m<n->∃k,t.slot (way t h m)=.live k) (hj:way t h n<=t.mask):
  Tab (t.put (way t h n)).1 (hs.take (t.put (way t h n)).2++h::hs.drop (t.put (way t h n)).2)/\(t.put (way t h n)).2<=hs.length:=by
 generalize hJ:way t h n=J at he hj⊢;let nin:∀i (hi:i<t.place.size),t.place[i]≠J:=λi hi q=>by
  rw[<-q,dQ T.ris hi]at he;cases he
 let hp:(t.put J).1.place=Lq t.place (Io t.place J) J:=rfl;let h2:(t.put J).2=Io t.place J:=rfl;let hpl:(t.put J).1.place.toList=t.place.toList.take (Io t.place J)++J::t.place.toList.drop (Io t.place J):=by rw[hp,Mq]
 let hd:(t.put J).1.dummies=#[]:=by
  show(if SetTable.has t.dummies J then SetTable.eraseAt t.dummies (Io t.dummies J) else t.dummies)=#[]
  rw[T.dum];simp[SetTable.has]
 let hr:Ris (t.put J).1.place.toList:=by rw[hp];exact tm T.ris nin
 let ble:=(gm T.ris J).2.2;let keep:∀j,(∃k,t.slot j=.live k)->∃k,(t.put J).1.slot j=.live k:=λj ⟨k,hk⟩=>by
  let⟨hi,e⟩:=oV hk;have:j∈(t.put J).1.place.toList:=by
   rw[hp];exact(MB _ _ _).mem_iff.mpr (by rw[<-e];simp)
  let⟨i,hi,e⟩:=qag.mp this;let hi':i<(t.put J).1.place.size:=by simpa using hi
  exact⟨i,by rw[<-e];simpa using dQ hr hi'⟩
 let em:(t.put J).1.mask=t.mask:=rfl;let hll:=T.len;rw[h2];refine⟨⟨T.msk,hd,?_,hr,?_,?_⟩,by lia⟩
 ·rw[hp,nI]
  simp;lia
 ·intro j hj'
  have:=(MB _ _ _).mem_iff.mp hj';simp![Kh,MX,Km]at this
  rcases this with q|q
  ·exact T.le j q
  ·rw[q];exact hj
 ·intro i h' j' e1 e2
  rw[hpl]at e2;rw[n7 _ _ (by rw[<-hll];exact ble)]at e1
  rw[n7 _ _ (by trivial)]at e2
  let old:∀k,hs[k]?=U h'->t.place.toList[k]?=U j'->∃n,n<10*Iy (t.put J).1.mask/\way (t.put J).1 h' n=j'/\∀m,m<n->∃q,(t.put J).1.slot (way (t.put J).1 h' m)=.live q:=λk q1 q2=>by
   let⟨n,a1,a2,a3⟩:=T.rch k h' j' q1 q2;refine⟨n,a1,by rw[cE em];exact a2,λm hm=>?_⟩
   rw[cE em];exact keep _ (a3 m hm)
  by_cases z1:i<Io t.place J
  ·rw[if_pos z1]at e1 e2
   exact old i e1 e2
  ·rw[if_neg z1]at e1 e2
   by_cases z2:i=Io t.place J
   ·rw[if_pos z2]at e1 e2
    cases e1;cases e2;refine⟨n,hn,by rw[cE em];exact hJ,λm hm=>?_⟩
    rw[cE em];exact keep _ (hw m hm)
   ·rw[if_neg z2]at e1 e2
    exact old (i - 1) e1 e2
end L2.G
namespace L2.G
open PySem
abbrev dx (mask:Nat):IA:={mask:=mask,place:=#[],dummies:=#[],finger:=0,led:=V,moves:=0,plain:=V}
abbrev ya (mask:Nat) (h:Int) (n:Nat):Nat:=way (dx mask) h n
def Own (o:Array (Qq Nat)) (j:Nat):Prop:=∃k,o[j]?=U (U k)
def vP {mask i:Nat}(h:i<mask+1):IB mask i<mask+1:=by unfold IB;split<;>lia
def wm (mask i:Nat):i<=IB mask i:=by unfold IB;split<;>lia
def DV (mask:Nat) (b:Nat×Nat) (k:Nat) (hk:k<=IB mask b.1 - b.1):(b7 (dx mask) k (gf mask b)).j=b.1+k:=by
 rw[mG (dx mask) k (gf mask b) hk];rfl
theorem vB {mask:Nat}{o:Array (Qq Nat)}(hs:o.size=mask+1) (h:Int):∀(fuel m n:Nat),n<=10*m->b7 (dx mask) n ((dx mask).probeStart h)=gf mask (aH mask h m)->(∀q,q<n->Own o (ya mask h q))->
  (∃j n',Kb mask o fuel (aH mask h m).1 (aH mask h m).2=U j/\n'<10*(m+fuel)/\ya mask h n'=j/\o[j]?=U B/\∀q,q<n'->Own o (ya mask h q))\/
  (Kb mask o fuel (aH mask h m).1 (aH mask h m).2=B/\∀k,k<fuel->Own o (aH mask h (m+k)).1)
 |0,m,n,_,_,_=>.inr ⟨rfl,λk hk=>absurd hk (KT k)⟩
 |fuel+1,m,n,hn,e,hq=>by
  let hb:=qu mask h m;let hr:=vP hb;let hg:=wm mask (aH mask h m).1;let h9:=AP mask (aH mask h m).1;let inb:∀k,k<=IB mask (aH mask h m).1 - (aH mask h m).1->ya mask h (n+k)=(aH mask h m).1+k:=λk hk=>by
   show(b7 (dx mask) (n+k) ((dx mask).probeStart h)).j=_;rw[gy,e,DV mask _ k hk]
  let own:∀k,k<=IB mask (aH mask h m).1 - (aH mask h m).1->(o.getD ((aH mask h m).1+k) (U 0)).isNone=Y->Own o ((aH mask h m).1+k):=λk hk q=>by
   let hlt:(aH mask h m).1+k<o.size:=by lia
   have:o.getD ((aH mask h m).1+k) (U 0)=o[(aH mask h m).1+k]:=by simp[OG,hlt]
   cases z:o[(aH mask h m).1+k]with
   |none=>simp_all
   |some v=>exact⟨v,by rw[Jd hlt,z]⟩
  unfold Kb;cases hf:(Iu (IB mask (aH mask h m).1+1 - (aH mask h m).1)).find? λk=>(o.getD ((aH mask h m).1+k) (U 0)).isNone with
  |some k=>
   let⟨pk,as,bs,eab,hall⟩:=List.find?_eq_some_iff_append.mp hf
   let hkr:k<IB mask (aH mask h m).1+1 - (aH mask h m).1:=qad.mp (by simp_all)
   let has:as.length=k:=by
    let h1:(Iu (IB mask (aH mask h m).1+1 - (aH mask h m).1))[as.length]?=U k:=by rw[eab];simp
    let h2:=(List.getElem?_eq_some_iff.mp h1)
    let⟨hl,e2⟩:=h2
    simpa using e2
   let hlow:∀q,q<k->(o.getD ((aH mask h m).1+q) (U 0)).isNone=Y:=λq hqk=>by
    have:q∈as:=by
     let h1:(Iu (IB mask (aH mask h m).1+1 - (aH mask h m).1))[q]?=U q:=by rw[List.getElem?_range (by lia)]
     rw[eab,Jz (by lia)]at h1
     exact HR h1
    simp_all
   refine .inl ⟨(aH mask h m).1+k,n+k,rfl,by lia,inb k (by lia),?_,λq hqn=>?_⟩
   ·let hlt:(aH mask h m).1+k<o.size:=by lia
    simp_all
   ·by_cases z:q<n
    ·exact hq q z
    ·obtain⟨d,rfl⟩:∃d,q=n+d:=⟨q - n,by lia⟩
     rw[inb d (by lia)]
     exact own d (by lia) (hlow d (by lia))
  |none=>
   let hall:=List.find?_eq_none.mp hf
   let hown:=λk hk=>own k hk (by
    have:=hall k (qad.mpr (by lia))
    exact Bool.not_eq_true _▸this)
   let hstep:b7 (dx mask) (n+(IB mask (aH mask h m).1 - (aH mask h m).1+1)) ((dx mask).probeStart h)=gf mask (aH mask h (m+1)):=by
    rw[gy,e];exact vJ (dx mask) _
   let ih:=vB hs h fuel (m+1) (n+(IB mask (aH mask h m).1 - (aH mask h m).1+1)) (by lia) hstep λq hqn=>by
    by_cases z:q<n
    ·exact hq q z
    ·obtain⟨d,rfl⟩:∃d,q=n+d:=⟨q - n,by lia⟩
     rw[inb d (by lia)]
     exact hown d (by lia)
   rcases ih with⟨j,n',a1,a2,a3,a4,a5⟩|⟨a1,a2⟩
   ·exact .inl ⟨j,n',a1,by lia,a3,a4,a5⟩
   ·refine .inr ⟨a1,λk hk=>?_⟩
    cases k with
    |zero=>exact hown 0 (by lia)
    |succ k=>
     have:=a2 k (by lia)
     rwa[show m+(k+1)=m+1+k by lia]
def BG {mask:Nat}{o:Array (Qq Nat)}(hm:Msk mask) (hs:o.size=mask+1) (h:Int) {j:Nat}(hj:j<mask+1) (hfree:o[j]?=U B):
  ∃J n,Kb mask o (Iy mask) (JB h%(mask+1)) (JB h)=U J/\n<10*Iy mask/\ya mask h n=J/\o[J]?=U B/\∀q,q<n->Own o (ya mask h q):=by
 rcases vB hs h (Iy mask) 0 0 (HQ _) rfl (λq hq=>absurd hq (KT q))with⟨J,n,a1,a2,a3⟩|⟨a1,a2⟩
 ·exact⟨J,n,a1,by lia,a3⟩
 ·let⟨k,hk,e⟩:=wh hm (qu mask h 13) hj
  let⟨v,hv⟩:=a2 (13+k) (by unfold Iy;lia)
  rw[KS,rW,e,hfree]at hv;cases hv
end L2.G
namespace L2.G
open PySem
structure Lain (mask:Nat) (hs:Qw Int) (o:Array (Qq Nat)):Prop where
 sz:o.size=mask+1
 cnt:o.toList.countP (·.isSome)=hs.length
 lt:∀(j:Nat) v,o[j]?=U (U v)->v<hs.length
 inj:∀(j j':Nat) v,o[j]?=U (U v)->o[j']?=U (U v)->j=j'
 at':∀(v:Nat) h,hs[v]?=U h->∃j n,o[j]?=U (U v)/\n<10*Iy mask/\ya mask h n=j/\∀q,q<n->Own o (ya mask h q)
def Lain.nil (mask:Nat):Lain mask [] (Array.replicate (mask+1) B):=by
 refine⟨by simp,?_,λj v e=>?_,λj j' v e=>?_,λv h e=>by simp at e⟩
 ·simp
 ·simp_all [OU]
 ·simp[OU]
def Lain.hole {mask:Nat}{hs:Qw Int}{o:Array (Qq Nat)}(L:Lain mask hs o) (h:hs.length<=mask):∃j,j<mask+1/\o[j]?=U B:=by
 apply J4;intro hn;have:∀x∈o.toList,x.isSome=V:=λx hx=>by
  let⟨i,hi,e⟩:=qag.mp hx;let hi':i<o.size:=by simpa using hi
  cases x with
  |some v=>rfl
  |none=>simp_all [L.sz]
 let e:=List.countP_eq_length.mpr this;let e2:=L.cnt;let e3:=L.sz;rw[e]at e2;simp![J6]at e2;lia
theorem Lain.step {mask:Nat}{hs:Qw Int}{o:Array (Qq Nat)}(hm:Msk mask) (L:Lain mask hs o) (h:Int) (hl:hs.length<=mask):
  ∃J,Kb mask o (Iy mask) (JB h%(mask+1)) (JB h)=U J/\Lain mask (hs++[h]) (o.setIfInBounds J (U hs.length)):=by
 let⟨j,hj,hf⟩:=L.hole hl;let⟨J,n,a1,a2,a3,a4,a5⟩:=BG hm L.sz h hj hf;let⟨hJ,eJ⟩:=Array.getElem?_eq_some_iff.mp a4
 let keep:∀(i:Nat),Own o i->Own (o.setIfInBounds J (U hs.length)) i:=λi ⟨v,hv⟩=>by
  refine⟨v,?_⟩
  rw[L4,if_neg (by lia)]
  exact hv
 let at0:(o.setIfInBounds J (U hs.length))[J]?=U (U hs.length):=by rw[L4,if_pos rfl,if_pos hJ]
 let atn:∀i,i≠J->(o.setIfInBounds J (U hs.length))[i]?=o[i]?:=λi hi=>by rw[L4,if_neg (λe=>hi e.symm)]
 refine⟨J,a1,⟨by simp[L.sz],?_,λi v e=>?_,λi i' v e e'=>?_,λv h' e=>?_⟩⟩
 ·rw[OF,List.countP_set (by trivial),L.cnt]
  simp_all
 ·by_cases z:i=J
  ·rw[z,at0]at e;cases e;simp
  ·rw[atn i z]at e
   have:=L.lt i v e;simp;lia
 ·by_cases z:i=J<;>by_cases z':i'=J
  ·rw[z,z']
  ·rw[z,at0]at e;cases e
   rw[atn i' z']at e';exact absurd (L.lt i' _ e') (J0 _)
  ·rw[z',at0]at e';cases e'
   rw[atn i z]at e;exact absurd (L.lt i _ e) (J0 _)
  ·rw[atn i z]at e
   rw[atn i' z']at e';exact L.inj i i' v e e'
 ·by_cases z:v<hs.length
  ·rw[Jz z]at e
   let⟨j,n,b1,b2,b3,b4⟩:=L.at' v h' e;refine⟨j,n,?_,b2,b3,λq hq=>keep _ (b4 q hq)⟩
   rw[atn j (by lia)]
   exact b1
  ·let hv:v=hs.length:=by
    have:=(List.getElem?_eq_some_iff.mp e).1
    simp at this;lia
   subst hv;simp at e;subst e;exact⟨J,n,at0,a2,a3,λq hq=>keep _ (a5 q hq)⟩
theorem sY {mask:Nat}(hm:Msk mask):∀(post pre:Qw Int) (o:Array (Qq Nat)),Lain mask pre o->(pre++post).length<=mask->
  ∃o',post.foldl (λ(acc:Qq (Array (Qq Nat)×Nat)) h=>do
   let (owner,k) <-acc
   let j <-Kb mask owner (Iy mask) (JB h%(mask+1)) (JB h)
   pure (owner.setIfInBounds j (U k),k+1)) (U (o,pre.length))=U (o',(pre++post).length)/\Lain mask (pre++post) o'
 |[],pre,o,L,_=>⟨o,by simp,by simpa using L⟩
 |h::post,pre,o,L,hl=>by
  rw[IJ,H3]at hl;let⟨J,e,L1⟩:=L.step hm h (by lia)
  let⟨o',e',L'⟩:=sY hm post (pre++[h]) _ L1 (by simp;lia)
  simp_all
def E8 {mask:Nat}(hm:Msk mask) (hs:Qw Int) (hl:hs.length<=mask):∃o,Pg mask hs.toArray=U o/\Lain mask hs o:=by
 let⟨o,e,L⟩:=sY hm hs [] _ (Lain.nil mask) (by trivial)
 unfold Pg
 simp_all
theorem nh {β:Type}(g:Nat->Qq β):∀l:Qw Nat,(l.filterMap λj=>(g j).map (j,·)).map (·.1)=l.filter λj=>(g j).isSome
 |[]=>rfl
 |x::l=>by
  rw[Nx,qaC];cases e:g x with
  |none=>simpa using nh g l
  |some v=>simpa using nh g l
theorem mW {β:Type}(g:Nat->Qq β):∀l:Qw Nat,(l.filterMap λj=>(g j).map (j,·)).map (·.2)=l.filterMap g
 |[]=>rfl
 |x::l=>by
  rw[Nx,Nx];cases e:g x with
  |none=>simpa using mW g l
  |some v=>simpa using mW g l
def B3 {mask:Nat}(hm:Msk mask) (hs:Qw Int) (hl:hs.length<=mask) (finger moves:Nat) (led plain:Bool):∃t order,SetTable.laid mask finger moves led plain hs.toArray=U (t,order)/\
  order.toList.Perm (Iu hs.length)/\Tab t (order.toList.map λi=>hs.getD i 0)/\t.mask=mask/\t.led=led/\t.plain=plain/\t.place.size=hs.length:=by
 let⟨o,e,L⟩:=E8 hm hs hl;unfold SetTable.laid;rw[e];refine⟨_,_,rfl,?_⟩
 let gd:∀j v,o.getD j B=U v↔o[j]?=U (U v):=λj v=>by
  by_cases h:j<o.size
  ·simp[h]
  ·simp[h]
 generalize hlive:((Iu (mask+1)).filterMap λj=>(o.getD j B).map (j,·))=live
 let hf:live.map (·.1)=(Iu (mask+1)).filter λj=>(o.getD j B).isSome:=by rw[<-hlive];exact nh (λj=>o.getD j B) _
 let hsn:live.map (·.2)=(Iu (mask+1)).filterMap λj=>o.getD j B:=by rw[<-hlive];exact mW (λj=>o.getD j B) _
 let mem:∀j v,(j,v)∈live↔o[j]?=U (U v):=λj v=>by
  rw[<-hlive,qaD];constructor
  ·simp_all
  ·intro h
   refine⟨j,qad.mpr ?_,by simp_all⟩
   have:=(Array.getElem?_eq_some_iff.mp h).1
   simp_all [L.sz]
 let nd:(live.map (·.2)).Nodup:=by
  rw[hsn];unfold List.Nodup;rw[List.pairwise_filterMap];refine List.Pairwise.imp ?_ (ML (n:=mask+1))
  intro a b hab x hx y hy hxy;subst hxy;exact hab (L.inj a b x ((gd a x).mp hx) ((gd b x).mp hy))
 let perm:(live.map (·.2)).Perm (Iu hs.length):=by
  refine(K7 nd ML).mpr λv=>?_
  rw[qad];constructor
  ·intro h
   let⟨⟨j,u⟩,hp,rfl⟩:=mt.mp h;exact L.lt j u ((mem j u).mp hp)
  ·intro h
   let⟨j,n,a1,_⟩:=L.at' v hs[v] (by simp[h])
   exact mt.mpr ⟨(j,v),(mem j v).mpr a1,rfl⟩
 let ris:Ris (live.map (·.1)):=by
  rw[hf];exact List.Pairwise.filter _ (O8 (n:=mask+1))
 let llen:live.length=hs.length:=by have:=perm.length_eq;simpa using this
 refine⟨by simpa using perm,⟨hm,rfl,?_,by simpa using ris,?_,?_⟩,rfl,rfl,rfl,by simpa using llen⟩
 ·simp
 ·grind
 ·intro i h j e1 e2
  obtain⟨⟨j',v⟩,hp,rfl⟩:∃p,live[i]?=U p/\p.1=j:=by
   rw[H8]at e2
   cases q:live[i]? with
   |none=>simp_all
   |some p=>simp_all
  let ho:=(mem j' v).mp (HR hp);let hv:=L.lt j' v ho;let eh:h=hs[v]:=by
   rw[H8,H8,hp]at e1
   simp[hv]at e1;exact e1.symm
  subst eh;let⟨j2,n,b1,b2,b3,b4⟩:=L.at' v hs[v] (by simp[hv])
  have:j2=j':=L.inj j2 j' v b1 ho;subst this;refine⟨n,b2,?_,λm hm'=>?_⟩
  ·exact(cE (t:={mask:=mask,place:=(live.map (·.1)).toArray,dummies:=#[],finger:=finger,led:=led,moves:=moves,plain:=plain}) (u:=dx mask) rfl _ _).trans b3
  ·rw[cE (t:={mask:=mask,place:=(live.map (·.1)).toArray,dummies:=#[],finger:=finger,led:=led,moves:=moves,plain:=plain}) (u:=dx mask) rfl]
   let⟨u,hu⟩:=b4 m hm';let hmem:ya mask hs[v] m∈live.map (·.1):=mt.mpr ⟨(_,u),(mem _ u).mpr hu,rfl⟩
   let⟨k,hk,ek⟩:=qag.mp hmem;let hk2:k<((live.map (·.1)).toArray).size:=by simpa using hk
   have:=dQ (t:={mask:=mask,place:=(live.map (·.1)).toArray,dummies:=#[],finger:=finger,led:=led,moves:=moves,plain:=plain}) (by simpa using ris) hk2
   simp_all
end L2.G
namespace L2.G
open PySem PySem.Spec PyProof.Rows
def Tab.fits {t:IA}{hs:Qw Int}(T:Tab t hs) (hf:t.place.size<=t.mask):t.fits hs.length=V:=by
 unfold SetTable.fits SetTable.fill
 simp_all [T.dum,T.len,hf]
def Tab.odd {t:IA}{hs:Qw Int}(T:Tab t hs):t.gaveWay=Y:=by
 unfold SetTable.gaveWay
 rcases T.msk with h|h|h<;>rw[h]<;>rfl
section
variable{prog:IZ}{w:JA}{A:Ia}{E:HM->HN->Prop}{s:HN}{a:HZ}{o:LW}{es:Qw (Int×HM)}{ep:Nat}{t:IA}{x:HM}{hx:Int}
theorem jv (ho:s.heap.get? a=U o) (hd:o.data=.set es.toArray ep t) (T:Tab t (es.map (·.1))) (hf:t.place.size<=t.mask) (eqb:HM->Bool) (hrefs:∀e∈es,∃b,e.2=.ref b)
  (heq:∀e∈es,e.1=hx->MM A s e.2 x (eqb e.2)) (hquiet:∀l:Qw HM,(∀y∈l,∃e∈es,e.2=y)->∀Q:Bool->HN->Prop,Q Y s->wpAny (model prog w) A (searchCouldBeSeen x l) Q E s)
  {Q:SetFound->HN->Prop}{N:Nat}(hN:N<10*Iy t.mask) (hw:∀m,m<N->∃k,t.slot (way t hx m)=.live k)
  (hend:(t.slot (way t hx N)=.empty/\(∀e∈es,e.1=hx->eqb e.2=Y)/\Q (.free (way t hx N) Y) s)\/(∃i e,t.slot (way t hx N)=.live i/\es[i]?=U e/\e.1=hx/\eqb e.2=V)/\Q (.there B) s)
  (hthere:(∃e∈es,e.1=hx/\eqb e.2=V)->Q (.there B) s):
  ∀(fuel m:Nat) (st:Qq Jt),m<=N->N - m<fuel->st.getD (t.probeStart hx)=b7 t m (t.probeStart hx)->wpAny (model prog w) A (setSearchFrom a x hx V fuel st) Q E s:=by
 intro fuel
 induction fuel with
 |zero=>lia
 |succ fuel ih=>
  intro m st hm hfu hst;let hfit:t.fits es.toArray.size=V:=by simpa using T.fits hf
  refine HJ (Jx ho hd hfit ?_)
  dsimp only;rw[T.odd];simp![Ig,if_false];rw[hst]
  letI hashAt:Nat->Int:=λi=>(es.toArray[i]?.map (·.1)).getD 0
  let hat:∀i e,es[i]?=U e->hashAt i=e.1:=λi e h=>by show(es.toArray[i]?.map (·.1)).getD 0=_;simp[h]
  let tellsN:t.slot (way t hx N)=.empty\/∃i,t.slot (way t hx N)=.live i/\(hashAt i==hx)=V:=by
   rcases hend with⟨h,_⟩|⟨⟨i,e,h1,h2,h3,_⟩,_⟩
   ·exact .inl h
   ·exact .inr ⟨i,h1,by rw[hat i e h2,h3];lia⟩
  let⟨n,hn,tell,before⟩:=Fa (P:=λk=>t.slot (way t hx (m+k))=.empty\/∃i,t.slot (way t hx (m+k))=.live i/\(hashAt i==hx)=V) (n:=N - m) (by simp_all)
  let hadd:∀k,(b7 t k (b7 t m (t.probeStart hx))).j=way t hx (m+k):=λk=>by rw[<-gy]
  let live:∀k,k<n->∃i,t.slot (way t hx (m+k))=.live i:=λk hk=>hw (m+k) (by lia)
  let⟨go1,go2⟩:=m8 (t:=t) (hashAt:=hashAt) (h:=hx) n (10*Iy t.mask) (b7 t m (t.probeStart hx)) (by lia) λk hk=>by
   let⟨i,hi⟩:=live k hk;refine⟨i,by simp_all,?_⟩
   cases q:(hashAt i==hx)with
   |false=>rfl
   |true=>exact absurd (.inr ⟨i,hi,q⟩) (before k hk)
  rw[hadd]at go1 go2;let dum0:(b7 t n (b7 t m (t.probeStart hx))).dummy=B:=by rw[hU,hU];rfl
  rw[dum0]at go1
  rcases tell with te|⟨i,ti,hi⟩
  ·-- an empty one:it is the last
   let hnN:m+n=N:=by
    rcases NU (m+n) N with z|z
    ·let⟨k,hk⟩:=hw (m+n) z;lia
    ·lia
   let hp:∀f:Nat->Int,f=hashAt->t.probe f hx (b7 t m (t.probeStart hx))=U (.empty (way t hx (m+n)) B):=λf e=>by rw[e];exact go1 te
   rw[hp]
   rotate_left
   ·rfl
   rcases hend with⟨_,_,h⟩|⟨⟨i,e,h1,_⟩,_⟩
   ·rw[hnN];exact HK h
   lia
  ·let hp:∀f:Nat->Int,f=hashAt->t.probe f hx (b7 t m (t.probeStart hx))=U (.candidate (way t hx (m+n)) i (t.advance (b7 t n (b7 t m (t.probeStart hx))))):=λf e=>by rw[e];exact go2 i ti hi
   rw[hp]
   rotate_left
   ·rfl
   let⟨hil,hpl⟩:=oV ti;let hie:i<es.length:=by have:=T.len;simp at this;lia
   let hes:es[i]?=U es[i]:=by simp[hie]
   let hh:es[i].1=hx:=by
    have:=hat i _ hes;rw[this]at hi;exact beq_iff_eq.mp hi
   let hmem:=JR hie;let⟨b,hb⟩:=hrefs _ hmem;let tail:wpAny (model prog w) A (do
     let U (_,y):=es.toArray[i]?|unsupported "internal:set-entry"
     let equal <-holding [y] (eqBool y x)
     let (es',_,t') <-setState a
     if V&&equal then return .there B
     let U same:=t'.sameMemory t.moves t.mask|unsupported "set.changed-during-lookup:is-the-new-block-at-the-old-address"
     let still <-match(if same then t'.slot (way t hx (m+n)) else .empty)with
      |.live i'=>match es'[i']? with
       |some (_,y')=>do pure (if <-isSame y' y then U i' else B)
       |none=>pure B
      |_=>pure B
     match still with
     |none=>rule "set.search.anew";setSearchFrom a x hx V fuel B
     |some i'=>if equal then return .there (U i') else setSearchFrom a x hx V fuel (U (t.advance (b7 t n (b7 t m (t.probeStart hx)))))) Q E s:=by
    let e1:es.toArray[i]?=U es[i]:=by simp[hie]
    rw[e1];dsimp only;refine HJ (Ij (heq _ hmem hh _ _ _ _ ?_))
    refine HJ (Jx ho hd hfit ?_)
    dsimp only;cases hq:eqb es[i].2 with
    |true=>
     exact HK (hthere ⟨_,hmem,hh,hq⟩)
    |false=>
     let sm:t.sameMemory t.moves t.mask=U V:=by unfold SetTable.sameMemory;rw[if_pos (beq_self_eq_true _)]
     rw[sm];simp![if_true];rw[ti];dsimp only;rw[e1];dsimp only;rw[hb];let e3:isSame (.ref b) (.ref b)=pure V:=by unfold isSame;dsimp only;rw[if_pos (beq_self_eq_true _)]
     rw[e3]
     ·let h1:m+n+1<=N:=by
       rcases NU (m+n) N with z|z
       ·lia
       ·let zN:m+n=N:=by lia
        rcases hend with⟨h,_⟩|⟨⟨i',e,h1,h2,h3,h4⟩,_⟩
        ·lia
        ·lia
      refine ih (m+n+1) _ h1 (by lia) ?_
      simp[gy,jG]
   cases hled:t.led with
   |true=>
    assumption
   |false=>
    refine HJ (hquiet _ (λy hy=>?_) _ ?_)
    ·let⟨e,he,rfl⟩:=mt.mp hy
     refine⟨e,?_,rfl⟩
     have:e∈(es.toArray.filter λz=>z.1==hx).toList:=he
     simp at this;exact this.1
    assumption
end
end L2.G
namespace L2.G
open PySem PySem.Spec PyProof.Rows
def SetAt (h:Jr) (a:HZ) (es:Qw (Int×HM)) (led:Bool):Prop:=
 ∃o ep t,h.get? a=U o/\o.ExactSet/\o.data=.set es.toArray ep t/\Tab t (es.map (·.1))/\t.place.size*5<t.mask*3/\t.led=led
def Tab.plain {t:IA}{hs:Qw Int}(T:Tab t hs) (b:Bool):Tab {t with plain:=b} hs:=by
 refine⟨T.msk,T.dum,T.len,T.ris,T.le,λi h j e1 e2=>?_⟩
 let⟨n,a1,a2,a3⟩:=T.rch i h j e1 e2;refine⟨n,a1,(cE (t:={t with plain:=b}) (u:=t) rfl _ _).trans a2,λm hm=>?_⟩
 rw[cE (t:={t with plain:=b}) (u:=t) rfl]
 exact a3 m hm
def sF {es:Qw (Int×HM)}{order:Qw Nat}(h:order.Perm (Iu es.length)):(order.filterMap (es[·]?)).Perm es/\(order.filterMap (es[·]?)).map (·.1)=order.map λi=>(es.map (·.1)).getD i 0:=by
 constructor
 ·let h1:=h.filterMap (es[·]?)
  simp_all [List.filterMap_getElem?_range_length]
 ·let hl:∀i∈order,i<es.length:=λi hi=>qad.mp (h.mem_iff.mp hi)
  clear h
  induction order with
  |nil=>rfl
  |cons i order ih=>
   simp_all
section
variable{prog:IZ}{w:JA}{A:Ia}{E:HM->HN->Prop}{s:HN}{a:HZ}
theorem yS (a:HZ) (wanted:Nat):setRelay a wanted=(do
  let (es,_,t) <-setState a
  if Nj wanted>sizeLine then unsupported "set:memory"
  let (es,t) <-(do
   let U (t,order):=t.relaid (es.map (·.1)) wanted|unsupported "internal:set-table-without-room"
   let es':=order.filterMap (es[·]?)
   if es'.size != es.size then unsupported "internal:set-table-lost-an-element"
   pure (es',t))
  storeSet a es t):=rfl
def gB {h:Jr}{o:LW}{es es':Array (Int×HM)}{ep:Nat}{t t':IA}(ho:h.get? a=U o) (hd:o.data=.set es ep t):(h.update a (LV es' t')).get? a=U {o with data:=.set es' (ep+1) t'}:=by
 have:=H7 (LV es' t') ho (by rw[putSet_of es' t' hd];rfl)
 rw[putSet_of es' t' hd]at this;exact this
def Er {t:IA}{p:Jt}(h:p.j+p.more<=t.mask):(t.advance p).j+(t.advance p).more<=t.mask:=by
 unfold Lz;split
 ·dsimp only;lia
 ·unfold Nd
  dsimp only;let h1:(p.i*5+1+p.perturb / 32)%(t.mask+1)<t.mask+1:=MV _ (Mm _);have:=vP h1;have:=wm t.mask ((p.i*5+1+p.perturb / 32)%(t.mask+1));lia
def EY (t:IA) (hx:Int) (n:Nat):∃m,m<=t.mask/\way t hx n=m:=by
 have:∀n,(b7 t n (t.probeStart hx)).j+(b7 t n (t.probeStart hx)).more<=t.mask:=λn=>by
  induction n with
  |zero=>
   show(t.probeStart hx).j+(t.probeStart hx).more<=t.mask;unfold O2;dsimp only;let h1:JB hx%(t.mask+1)<t.mask+1:=MV _ (Mm _);have:=vP h1;have:=wm t.mask (JB hx%(t.mask+1));lia
  |succ n ih=>rw[jG];exact Er ih
 exact⟨_,by have:=this n;show(b7 t n (t.probeStart hx)).j<=t.mask;lia,rfl⟩
def rB {es:Qw (Int×HM)}(T:Tab t (es.map (·.1))) (hg:t.mask*3<=es.length*5) (hl:es.length*5<t.mask*3+5) (h76:es.length<=76):∃(es2:Qw (Int×HM)) (t2:IA) (order:Array Nat),t.relaid (es.toArray.map (·.1)) (Kc es.length)=U (t2,order)/\Nj (Kc es.length)<=128/\
  order.filterMap (es.toArray[·]?)=es2.toArray/\order.toList.Perm (Iu es.length)/\es2.Perm es/\Tab t2 (es2.map (·.1))/\t2.place.size*5<t2.mask*3/\t2.led=t.led:=by
 obtain⟨m,e2,e3,e4⟩:∃m,Nj (Kc es.length)=m+1/\Msk m/\es.length*5<m*3:=by
  rcases T.msk with z|z|z
  ·let h5:es.length=5:=by lia
   exact⟨31,by rw[h5];decide,.inr (.inl rfl),by lia⟩
  ·let h5:es.length=19:=by lia
   exact⟨127,by rw[h5];decide,.inr (.inr rfl),by lia⟩
  ·lia
 let⟨t',order,q1,q2,q3,q4,q5,q6,q7⟩:=B3 e3 (es.map (·.1)) (by simp;lia) t.finger (t.movedTo m) t.led t.plain
 rw[HT]at q2 q7;let⟨p1,p2⟩:=sF q2;refine⟨order.toList.filterMap (es[·]?),t',order,?_,by rcases e3 with h|h|h<;>lia,by apply Array.ext';simp,q2,p1,by rw[p2];exact q3,by rw[q7,q4];exact e4,q5⟩
 unfold SetTable.relaid
 simp_all
def zk (ho:s.heap.get? a=U o) (hex:o.ExactSet) (hd:o.data=.set es.toArray ep t) (T:Tab t (es.map (·.1))) (hf:t.place.size<=t.mask) (hg:t.mask*3<=es.length*5) (hl:es.length*5<t.mask*3+5) (h76:es.length<=76) (h:∀es' t',es'.Perm es->SetAt (s.heap.update a (LV es'.toArray t')) a es' t.led->Q () {s with heap:=s.heap.update a (LV es'.toArray t')}):
  wpAny (model prog w) A (setRelay a (Kc es.length)) Q E s:=by
 let⟨es2,t2,order,e1,e2,e3,e4,p1,e5,e6,e7⟩:=rB T hg hl h76;let hlen:=p1.length_eq;rw[yS];refine HJ (Jx ho hd (by simpa using T.fits hf) ?_)
 dsimp only;rw[if_neg (by rw[K1];lia),e1]
 dsimp only;rw[e3,show(es2.toArray.size != es.toArray.size)=Y by simp[hlen]]
 exact HJ (HK (MO ho hd (h _ t2 p1 ⟨_,ep+1,t2,gB ho hd,hex,rfl,e5,e6,e7⟩) (by rw[K1];simp[hlen];lia)))
def xz {es:Qw (Int×HM)}(T:Tab t (es.map (·.1))) (hn:n<10*Iy t.mask) (he:t.slot (way t hx n)=.empty) (hw:∀m,m<n->∃k,t.slot (way t hx m)=.live k) (x:HM):∃(t1:IA) (p:Nat) (es1:Qw (Int×HM)),t.put (way t hx n)=(t1,p)/\t1.mask=t.mask/\t1.led=t.led/\
  Lq es.toArray p (hx,x)=es1.toArray/\es1.Perm ((hx,x)::es)/\Tab t1 (es1.map (·.1)):=by
 let⟨m,hm,e⟩:=EY t hx n;refine⟨_,_,es.take _++(hx,x)::es.drop _,rfl,rfl,rfl,Array.ext' (by rw[Mq]),?_,?_⟩
 ·grind [qap,Ko]
 ·rw[Ip,HP,MC,NB];exact(T.put hn he hw (by lia)).1
def Tab.full (T:Tab t hs):t.tooFull=decide (t.place.size*5>=t.mask*3):=by
 unfold SetTable.tooFull SetTable.fill;rw[T.dum];rfl
theorem zW {o:LW}{es:Qw (Int×HM)}{ep:Nat}{t:IA}{x:HM}{hx:Int}{n:Nat}{Q:Bool->HN->Prop}(ho:s.heap.get? a=U o) (hex:o.ExactSet) (hd:o.data=.set es.toArray ep t) (T:Tab t (es.map (·.1)))
  (hf:t.place.size*5<t.mask*3) (h75:es.length<=75) (hn:n<10*Iy t.mask) (he:t.slot (way t hx n)=.empty) (hw:∀m,m<n->∃k,t.slot (way t hx m)=.live k)
  (hbv:∀R:Bool->HN->Prop,(∀b,R b s)->wpAny (model prog w) A (hashByValue 8 x) R E s) {J:Nat}(hJ:way t hx n=J)
  (h:∀h' es',IM a s.heap h'->es'.Perm ((hx,x)::es)->SetAt h' a es' t.led->Q V {s with heap:=h'}):
  wpAny (model prog w) A (do
   let (es,_,t) <-setState a
   let (t,p):=t.put J
   let byValue <-if t.plain then hashByValue 8 x else pure V
   let t:=if byValue then t else{t with plain:=Y}
   storeSet a (Lq es p (hx,x)) t
   if !Y&&t.tooFull then setRelay a (Kc (es.size+1))
   return V) Q E s:=by
 subst hJ;let hl:=T.len;rw[HT]at hl;refine HJ (Jx ho hd (by simpa using T.fits (by lia)) ?_)
 dsimp only;let⟨t1,p,es1,ep1,hm1,hl1,ei,eperm,T1⟩:=xz T hn he hw x;let elen:=eperm.length_eq;rw[H3]at elen;rw[ep1];dsimp only;rw[ei];let core:∀tb:IA,Tab tb (es1.map (·.1))->tb.mask=t.mask->tb.led=t.led->wpAny (model prog w) A (do
   storeSet a es1.toArray tb
   if(!Y&&tb.tooFull)=V then do
     setRelay a (Kc (es.toArray.size+1))
     pure V
    else pure V) Q E s:=λtb Tb mb lb=>by
  let plb:=Tb.len;rw[HT]at plb;refine HJ (MO ho hd ?_ (by rw[K1];simp[elen];lia))
  let hst:=gB (es':=es1.toArray) (t':=tb) ho hd;let hsb:IM a s.heap (s.heap.update a (LV es1.toArray tb)):=IG s.heap a _;let tf:=Tb.full;cases hfull:tb.tooFull with
  |false=>
   rw[hfull]at tf;have:=of_decide_eq_false tf.symm;exact HK (h _ es1 hsb eperm ⟨_,ep+1,tb,hst,hex,rfl,Tb,by lia,lb⟩)
  |true=>
   rw[hfull]at tf;let hge:=of_decide_eq_true tf.symm;rw[IR,<-elen];refine HJ (zk (s:={s with heap:=s.heap.update a (LV es1.toArray tb)}) (o:={o with data:=.set es1.toArray (ep+1) tb}) hst hex rfl Tb (by lia) (by lia) (by lia) (by lia) λes2 t2 p2 S2=>?_)
   rw[lb]at S2;exact HK (h _ es2 (hsb.trans (IG _ a _)) (p2.trans eperm) S2)
 cases hpl:t1.plain with
 |true=>
  exact HJ (hbv _ λb=>by cases b;exact core _ (T1.plain Y) hm1 hl1;exact core _ T1 hm1 hl1)
 |false=>
  simp![Ig,if_false];exact HJ (HK (core _ T1 hm1 hl1))
end
end L2.G
namespace L2.G
open PySem PySem.Spec PyProof.Rows
section
variable{prog:IZ}{w:JA}{A:Ia}{E:HM->HN->Prop}{s:HN}{a:HZ}
def CH {es:Qw (Int×HM)}{led:Bool}{b:HZ}{hx:Int}{Q:Bool->HN->Prop}(S:SetAt s.heap a es led) (h75:es.length<=75) (eqb:HM->Bool) (hrefs:∀e∈es,∃b,e.2=.ref b)
  (heq:∀e∈es,e.1=hx->MM A s e.2 (.ref b) (eqb e.2)) (himp:∀e∈es,eqb e.2=V->e.1=hx)
  (hquiet:∀l:Qw HM,(∀y∈l,∃e∈es,e.2=y)->∀Q:Bool->HN->Prop,Q Y s->wpAny (model prog w) A (searchCouldBeSeen (.ref b) l) Q E s)
  (hbv:∀R:Bool->HN->Prop,(∀b,R b s)->wpAny (model prog w) A (hashByValue 8 (.ref b)) R E s)
  (h1:(∃e∈es,eqb e.2=V)->Q Y s)
  (h2:(∀e∈es,eqb e.2=Y)->∀h' es',IM a s.heap h'->es'.Perm ((hx,.ref b)::es)->SetAt h' a es' led->Q V {s with heap:=h'}):
  wpAny (model prog w) A (setAddHashed a (.ref b) hx) Q E s:=by
 let⟨o,ep,t,ho,hex,hd,T,hf,hled⟩:=S;let hl:=T.len;rw[HT]at hl;let hfm:t.place.size<=t.mask:=by lia
 let hfit:t.fits es.toArray.size=V:=by simpa using T.fits hfm
 refine Ij (HJ (Jx ho hd hfit ?_))
 by_cases hyes:∃e∈es,eqb e.2=V
 ·let⟨e,hem,heb⟩:=hyes
  let⟨i,hi,rfl⟩:=qag.mp hem;let hh:=himp _ hem heb;let hip:i<t.place.size:=by lia
  let⟨N,n1,n2,n3⟩:=T.rch i es[i].1 t.place[i] (by simp[hi]) (by simp[hip])
  rw[hh]at n2 n3;refine HJ (jv ho hd T hfm eqb hrefs heq hquiet n1 n3 (.inr ⟨⟨i,es[i],by rw[n2];exact dQ T.ris hip,by simp[hi],hh,heb⟩,?_⟩) (λ_=>?_) 100000 0 B (Im _) ?_ rfl)
  ·exact HK (h1 ⟨_,hem,heb⟩)
  ·exact HK (h1 ⟨_,hem,heb⟩)
  ·have:Iy t.mask<=142:=by unfold Iy;rcases T.msk with z|z|z<;>lia
   lia
 ·let hno:∀e∈es,eqb e.2=Y:=λe he=>by
   grind
  let⟨N,n1,n2,n3⟩:=T.free hfm hx;refine HJ (jv ho hd T hfm eqb hrefs heq hquiet n1 n3 (.inl ⟨n2,λe he _=>hno e he,?_⟩) (λ⟨e,he,_,q⟩=>absurd ⟨e,he,q⟩ hyes) 100000 0 B (Im _) ?_ rfl)
  ·exact zW ho hex hd T hf h75 n1 n2 n3 hbv rfl λh' es' k p S'=>h2 hno h' es' k p (hled▸S')
  ·have:Iy t.mask<=142:=by unfold Iy;rcases T.msk with z|z|z<;>lia
   lia
def qj {t:IA}{hs:Qw Int}(T:Tab t hs) {hx:Int}{n:Nat}(hn:n<10*Iy t.mask) (he:t.slot (way t hx n)=.empty) (hw:∀m,m<n->∃k,t.slot (way t hx m)=.live k):
  t.freeSlot hx=U (way t hx n,Y):=by
 unfold SetTable.freeSlot;have:=(m8 (t:=t) (hashAt:=λ_=>hx+1) (h:=hx) n (10*Iy t.mask) (t.probeStart hx) hn λm hm=>by
  grind).1 he
 let e:t.probe (λ_=>hx+1) hx (t.probeStart hx)=U (.empty (way t hx n) B):=by
  unfold SetTable.probe;rw[this,hU];rfl
 rw[e];rfl
theorem x0 {es:Qw (Int×HM)}{led:Bool}{K:Type}[DecidableEq K] {knd:KeyKind prog w K}{k:K}{x:HM}{Q:Bool->HN->Prop}(S:SetAt s.heap a es led) (h75:es.length<=75) (hkey:knd.is k x=V) (hsc:x.scannable=V) (hel:ElemsOf knd es)
  (h1:(∃e∈es,knd.is k e.2=V)->Q Y s)
  (h2:(∀e∈es,knd.is k e.2=Y)->∀h' es',IM a s.heap h'->es'.Perm ((knd.hash k,x)::es)->SetAt h' a es' led->Q V {s with heap:=h'}):
  wpAny (model prog w) A (setAddHashed a x (knd.hash k)) Q E s:=by
 let⟨o,ep,t,ho,hex,hd,T,hf,hled⟩:=S;let hl:=T.len;rw[HT]at hl;let hfm:t.place.size<=t.mask:=by lia
 let hfit:t.fits es.toArray.size=V:=by simpa using T.fits hfm
 let hel':ElemsOf knd es.toArray.toList:=by simpa using hel
 refine Ij (HJ (Jx ho hd hfit ?_))
 dsimp only;rw[byScan_of hsc (by unfold scanBound;simp;lia) hel']
 refine HJ ?_
 refine HJ (Ju ?_)
 refine HJ (wpAny_setScan_of hkey ho hd hfit hel' ?_)
 cases hr:List.findIdx? (λe=>knd.is k e.2) es.toArray.toList with
 |some j=>
  let⟨hj,hpj,_⟩:=List.findIdx?_eq_some_iff_getElem.mp hr
  refine HK (HK (h1 ⟨es[j]'(by simpa using hj),JR _,by simpa using hpj⟩))
 |none=>
  let hno:=λe he=>List.findIdx?_eq_none_iff.mp hr e (by trivial)
  let⟨n,n1,n2,n3⟩:=T.free hfm (knd.hash k);generalize hhx:knd.hash k=hx at n1 n2 n3 h2⊢;let⟨t1,p,es1,ep1,hm1,hl1,ei,eperm,T1⟩:=xz T n1 n2 n3 x;let elen:=eperm.length_eq;rw[H3]at elen;let pl1:=T1.len;rw[HT]at pl1;let elay:layNew t es.toArray hx x=(es1.toArray,t1,Y,Y):=by
   unfold layNew;rw[qj T n1 n2 n3];dsimp only;rw[ep1];dsimp only;rw[ei];unfold SetTable.orStandIn;rw[show t1.fits es1.toArray.size=V by simpa using T1.fits (by lia)]
   rfl
  rw[elay];dsimp only;let core:∀tb:IA,Tab tb (es1.map (·.1))->tb.mask=t.mask->tb.led=t.led->wpAny (model prog w) A (do
    storeSet a es1.toArray tb
    if(!Y&&tb.tooFull)=V then do
      (match(relayAll tb es1.toArray (Kc es1.toArray.size)).2.2 with|true=>rule "set.scan.the-table-gave-way"|false=>pure ())
      storeSet a (relayAll tb es1.toArray (Kc es1.toArray.size)).1 (relayAll tb es1.toArray (Kc es1.toArray.size)).2.1
      pure (U V)
     else pure (U V)) (λr s'=>wpAny (model prog w) A (match r with|some added=>pure added|none=>setAddHashedIn a x hx 99999) Q E s') E s:=λtb Tb mb lb=>by
   let plb:=Tb.len;rw[HT]at plb;refine HJ (MO ho hd ?_ (by rw[K1];simp[elen];lia))
   let hst:=gB (es':=es1.toArray) (t':=tb) ho hd;let hsb:IM a s.heap (s.heap.update a (LV es1.toArray tb)):=IG s.heap a _;let tf:=Tb.full;cases hfull:tb.tooFull with
   |false=>
    rw[hfull]at tf;have:=of_decide_eq_false tf.symm;exact HK (HK (h2 hno _ es1 hsb eperm ⟨_,ep+1,tb,hst,hex,rfl,Tb,by lia,lb.trans hled⟩))
   |true=>
    rw[hfull]at tf;let hge:=of_decide_eq_true tf.symm;let⟨es2,t2,order,e1,e2,e3,e4,p1,e5,e6,e7⟩:=rB Tb (by lia) (by lia) (by lia)
    let c2:=e5.fits (by lia)
    let er:relayAll tb es1.toArray (Kc es1.toArray.size)=(es2.toArray,t2,Y):=by
     unfold relayAll;rw[IR,e1];dsimp only;rw[e3,show coversAll order es1.length=V by unfold coversAll;rw[List.isPerm_iff];exact e4,show t2.fits es2.toArray.size=V by simpa using c2]
     rfl
    rw[er];refine HJ (HK ?_)
    refine HJ (MO (s:={s with heap:=s.heap.update a (LV es1.toArray tb)}) (o:={o with data:=.set es1.toArray (ep+1) tb}) hst rfl ?_ (by rw[K1];have:=p1.length_eq;simp[this,elen];lia))
    exact HK (HK (h2 hno _ es2 (hsb.trans (IG _ a _)) (p1.trans eperm) ⟨_,ep+2,t2,gB (o:={o with data:=.set es1.toArray (ep+1) tb}) hst rfl,hex,rfl,e5,e6,e7.trans (lb.trans hled)⟩))
  split
  ·refine HJ ?_
   rw[hashByValue_scannable 8 hsc];refine HK ?_
   cases plainKind x with
   |true=>exact core _ T1 hm1 hl1
   |false=>exact core _ (T1.plain Y) hm1 hl1
  ·exact HJ (HK (core _ T1 hm1 hl1))
end
end L2.G
namespace L2.G
open PySem PySem.Spec PyProof.Rows
abbrev eX (w:JA):Bool:=!w.params.followText "set-order"
abbrev fg (led:Bool):LW:={cls:=.type "set",dict:=B,data:=.set #[] 0 (.fresh 0 0 led)}
section
variable{prog:IZ}{w:JA}{A:Ia}{E:HM->HN->Prop}{s:HN}
def oP (a:HM) {Q₁:HM->HN->Prop}(h:Q₁ (.ref s.heap.objs.size) {s with heap:=s.heap.push (fg (eX w))}):
  codeAny (model prog w) A (.call (.builtin "set.__new__") ⟨[.type "set",a],[]⟩) (wants Q₁ E) s:=by
 refine codeAny_of_tree ?_
 refine HJ (Ml (F.newCall_set_1 a) (HK ⟨Jo F.plain_set_new _,IW F.entry_set_new ?_⟩))
 let hsub:=sub_set_self
 wp_walk
 refine Nb (HK ?_)
 refine HJ (wpAny_alloc (HK ?_))
 exact HK h
end
end L2.G
namespace L2.G
open PySem PySem.Spec PyProof.Rows
def aG:Slot "set_iterator" "__next__" "set_iterator.__next__":=
 .of (owner:="set_iterator") (n:="__next__") (by rfl) (by rfl) (by rfl) (by rfl)
  (by trivial) (by rfl)
def bV:entryFor table "set_iterator.__next__"=U Lo.«set_iterator.__next__»:=entryFor_of_tree (by kernel_rfl)
def hZ:Slot "set_iterator" "__iter__" "set_iterator.__iter__":=
 .of (owner:="set_iterator") (n:="__iter__") (by rfl) (by rfl) (by rfl) (by rfl)
  (by trivial) (by rfl)
def my:entryFor table "set_iterator.__iter__"=U Lo.«dict_keyiterator.__iter__»:=
 Pf (id':="dict_keyiterator.__iter__") (by kernel_rfl) rfl (by decide +kernel) (by kernel_rfl)
def j3:entryFor table "set.__iter__"=U Lo.«frozenset.__iter__»:=
 Pf (id':="frozenset.__iter__") (by kernel_rfl) rfl (by decide +kernel) (by kernel_rfl)
def cD (a:HM):argsOk "set_iterator.__next__" ⟨[a],[]⟩:=by
 rfl
def oH (a:HM):argsOk "set_iterator.__iter__" ⟨[a],[]⟩:=by
 rfl
def lK {α:Type}{l:Qw α}{i:Nat}(h:i<l.length):(l[i]::l.eraseIdx i).Perm l:=by
 rw[NV];refine qap.symm.trans ?_
 simp
theorem kO {prog:IZ}{w:JA}{A:Ia}{E:HM->HN->Prop}{α:Type}:∀(n:Nat) (xs:Qw α) (s:HN) (Q:Qw α->HN->Prop),xs.length=n->
  (∀ys d,ys.Perm xs->Q ys {s with drawn:=d})->wpAny (model prog w) A (drawOrder n xs) Q E s
 |0,xs,s,Q,hl,hQ=>by
  have:xs=[]:=qal.mp hl;subst this;exact HK (hQ [] s.drawn (KU _))
 |n+1,[],s,Q,hl,hQ=>by cases hl
 |n+1,x::xs,s,Q,hl,hQ=>by
  unfold drawOrder;refine HJ (Q:=Q) ?_
  intro Γ p hΓ;refine⟨by simp,?_⟩
  generalize hd:s.drawn.bump .order=d1;generalize hi:(model prog w).w.draws .order (s.drawn.get .order)%(x::xs).length=i;let hlt:i<(x::xs).length:=by rw[<-hi];exact MV _ (by simp)
  let key:wpAny (model prog w) A (match(x::xs)[i]? with|some y=>(do return y::(<-drawOrder n ((x::xs).eraseIdx i)))|none=>unsupported "internal:drawOrder") Q E {s with drawn:=d1}:=by
   rw[JE hlt]
   dsimp only;refine HJ (kO n ((x::xs).eraseIdx i) _ _ (by rw[OI hlt,hl];rfl) λys d hp=>?_)
   refine HK (hQ _ d ?_)
   exact(List.Perm.cons _ hp).trans (lK hlt)
  exact key
theorem uU {α:Type}(f:Nat->Nat):∀(fuel k:Nat) (left:Qw α) (out:Array α),fuel=left.length->(Ot f fuel k left out).toList.Perm (out.toList++left)
 |0,k,left,out,h=>by
  have:left=[]:=qal.mp h.symm;subst this;unfold Ot;simp
 |fuel+1,k,left,out,h=>by
  unfold Ot;let hlt:f k%left.length<left.length:=MV _ (by lia)
  rw[JE hlt]
  dsimp only;refine(uU f fuel (k+1) _ _ (by rw[OI hlt];lia)).trans ?_
  rw[Kh,Jg];exact MI _ (lK hlt)
theorem jT {α:Type}(f:Nat->Nat) (xs:Array α):(pickOrder f xs).toList.Perm xs.toList:=by
 unfold pickOrder
 simpa using uU f xs.size 0 xs.toList #[] (by simp)
end L2.G
namespace L2.G
open PySem PySem.Spec PyProof.Rows
structure SetIs (h:Jr) (S:HZ) (es:Qw (Int×HM)) (ep:Nat) (t:IA):Prop where
 ob:∃o,h.get? S=U o/\o.ExactSet/\o.data=.set es.toArray ep t
 tab:Tab t (es.map (·.1))
 few:t.place.size<=t.mask
def SetIs.fits {h:Jr}{S:HZ}{es:Qw (Int×HM)}{ep:Nat}{t:IA}(x:SetIs h S es ep t):t.fits es.toArray.size=V:=by simpa using x.tab.fits x.few
def SetIs.at {h h':Jr}{S:HZ}{es:Qw (Int×HM)}{ep:Nat}{t:IA}(x:SetIs h S es ep t) (k:∀o,h.get? S=U o->h'.get? S=U o):SetIs h' S es ep t:=by
 let⟨⟨o,ho,r⟩,a,b⟩:=x;exact⟨⟨o,k o ho,r⟩,a,b⟩
def IterAt (h:Jr) (I:HZ) (first:HM) (i:Nat) (S:HZ) (n ep:Nat):Prop:=∃o,h.get? I=U o/\o.cls=.type "set_iterator"/\o.data=.fields #[first,rawInt i,.ref S,rawInt n,rawInt ep]
def IterAt.typeIs {s:HN}{I S:HZ}{first:HM}{i n ep:Nat}(x:IterAt s.heap I first i S n ep):s.TypeIs (.ref I) "set_iterator":=by
 let⟨o,ho,hc,_⟩:=x;exact⟨o,ho,hc⟩
def IterAt.at {h h':Jr}{I S:HZ}{first:HM}{i n ep:Nat}(x:IterAt h I first i S n ep) (k:∀o,h.get? I=U o->h'.get? I=U o):IterAt h' I first i S n ep:=by
 let⟨o,ho,r⟩:=x;exact⟨o,k o ho,r⟩
section
variable{prog:IZ}{w:JA}{A:Ia}{E:HM->HN->Prop}{s:HN}{I S:HZ}{es:Qw (Int×HM)}{ep:Nat}{t:IA}{i:Nat}
def iu {sl nx:Nat}{v:HM}{Q:Qq HM->HN->Prop}(hne:S≠I) (it:IterAt s.heap I (rawInt sl) i S es.length ep) (st:SetIs s.heap S es ep t)
  (hn:∀(s:HN) (R:Qq (HM×Nat)->HN->Prop) (E:HM->HN->Prop),SetIs s.heap S es ep t->R (U (v,nx)) s->wpAny (model prog w) A.in1 (setNext S sl i ep) R E s)
  (hQ:∀h',IterAt h' I (rawInt nx) (i+1) S es.length ep->(∀b o,b≠I->s.heap.get? b=U o->h'.get? b=U o)->Q (U v) {s with heap:=h'}):wpAny (model prog w) A (pyNext (.ref I)) Q E s:=by
 let hT:=it.typeIs;let⟨o,ho,hc,hd⟩:=it;refine HJ (K6 (IC (name:=IU "__next__") hT aG (Ii aG hT bV ?_ (cD _))))
 refine HJ (m:=slotArgs "__next__" 0 _) (HK ?_)
 refine HJ (LN ho hd ?_)
 let⟨os,hos,hex,hds⟩:=st.ob;refine HJ (Lr hos hds st.fits ?_)
 rw[if_neg (by simp)]
 refine HJ (hn s _ _ st ?_)
 refine HJ (JN ho hd (by simp) ?_)
 let g1:=H7 (JF (·.setIfInBounds 0 (rawInt nx))) ho (JD (IF hd _))
 refine HJ (JN g1 (IF hd _) (by simp) ?_)
 let g2:=H7 (JF (·.setIfInBounds 1 (rawInt ((i:Int)+1)))) g1 (JD (IF (IF hd _) _))
 refine HK ⟨_,rfl,HK (hQ _ ?_ ?_)⟩
 ·exact⟨_,g2,(K4 ..).trans ((K4 ..).trans hc),by rw[IF (IF hd _)];rfl⟩
 ·exact λb o' hb e=>(HX _ _ (Ib hb)).trans ((HX _ _ (Ib hb)).trans e)
def mN {T:HZ}{ps:Qw Nat}{p:Nat}{e:Int×HM}{Q:Qq HM->HN->Prop}(hne:S≠I) (it:IterAt s.heap I (.ref T) i S es.length ep) (st:SetIs s.heap S es ep t) (ht:∃o n,s.heap.get? T=U o/\o.data=.seq (ps.map λ(k:Nat)=>rawInt k).toArray n)
  (hp:ps[i]?=U p) (he:es[p]?=U e)
  (hQ:∀h',IterAt h' I (.ref T) (i+1) S es.length ep->(∀b o,b≠I->s.heap.get? b=U o->h'.get? b=U o)->Q (U e.2) {s with heap:=h'}):wpAny (model prog w) A (pyNext (.ref I)) Q E s:=by
 let hT:=it.typeIs;let⟨o,ho,hc,hd⟩:=it;refine HJ (K6 (IC (name:=IU "__next__") hT aG (Ii aG hT bV ?_ (cD _))))
 refine HJ (m:=slotArgs "__next__" 0 _) (HK ?_)
 refine HJ (LN ho hd ?_)
 let⟨os,hos,hex,hds⟩:=st.ob;refine HJ (Lr hos hds st.fits ?_)
 rw[if_neg (by simp)]
 simp![Kw];let⟨oT,nT,hoT,hdT⟩:=ht;refine HJ (Jk hoT hdT ?_)
 dsimp only;let e1:(ps.map λ(k:Nat)=>rawInt k).toArray[i]?=U (rawInt p):=by simp[hp]
 rw[e1];dsimp only[rawInt];simp![Kw];refine HJ ?_
 refine HJ (Jx hos hds st.fits ?_)
 dsimp only;rw[if_neg (by simp)]
 let e2:es.toArray[p]?=U e:=by simp[he]
 rw[e2];refine HK ?_
 refine HJ (JN ho hd (by simp) ?_)
 let g2:=H7 (JF (·.setIfInBounds 1 (rawInt ((i:Int)+1)))) ho (JD (IF hd _))
 refine HK ⟨_,rfl,HK (hQ _ ?_ ?_)⟩
 ·exact⟨_,g2,(K4 ..).trans hc,by rw[IF hd];rfl⟩
 ·exact λb o' hb e=>(HX _ _ (Ib hb)).trans e
def jB {sl:Nat}{Q:Qq HM->HN->Prop}(hh:A.handled=B) (it:IterAt s.heap I (rawInt sl) i S es.length ep) (st:SetIs s.heap S es ep t)
  (hn:∀(s:HN) (R:Qq (HM×Nat)->HN->Prop) (E:HM->HN->Prop),SetIs s.heap S es ep t->R B s->wpAny (model prog w) A.in1 (setNext S sl i ep) R E s)
  (hQ:∀h',(∀b o,b≠I->s.heap.get? b=U o->h'.get? b=U o)->Q B {s with heap:=h'}):wpAny (model prog w) A (pyNext (.ref I)) Q E s:=by
 let hT:=it.typeIs;let⟨o,ho,hc,hd⟩:=it;refine HJ (K6 (IC (name:=IU "__next__") hT aG (Ii aG hT bV ?_ (cD _))))
 refine HJ (m:=slotArgs "__next__" 0 _) (HK ?_)
 refine HJ (LN ho hd ?_)
 let⟨os,hos,hex,hds⟩:=st.ob;refine HJ (Lr hos hds st.fits ?_)
 rw[if_neg (by simp)]
 refine HJ (hn s _ _ st ?_)
 refine HJ (JN ho hd (by simp) ?_)
 refine HJ ?_
 refine HJ (m:=firstArgMember _ _) (Ml (a:=JG) (by rfl) ?_)
 refine Ir ?_ (by size_fits)
 refine HJ (MU ?_)
 rw[show A.in1.handled=B from hh]
 refine HJ (HK (NG ?_))
 refine HJ (Kf (T:="StopIteration") (b:=V) ⟨_,HO _ rfl,rfl⟩ MF ?_)
 exact HK (hQ _ λb o' hb e=>HL _ (HL _ ((HX _ _ (Ib hb)).trans e)))
def nY {T:HZ}{ps:Qw Nat}{Q:Qq HM->HN->Prop}(hh:A.handled=B) (it:IterAt s.heap I (.ref T) i S es.length ep) (st:SetIs s.heap S es ep t) (ht:∃o n,s.heap.get? T=U o/\o.data=.seq (ps.map λ(k:Nat)=>rawInt k).toArray n)
  (hp:ps[i]?=B) (hQ:∀h',(∀b o,b≠I->s.heap.get? b=U o->h'.get? b=U o)->Q B {s with heap:=h'}):wpAny (model prog w) A (pyNext (.ref I)) Q E s:=by
 let hT:=it.typeIs;let⟨o,ho,hc,hd⟩:=it;refine HJ (K6 (IC (name:=IU "__next__") hT aG (Ii aG hT bV ?_ (cD _))))
 refine HJ (m:=slotArgs "__next__" 0 _) (HK ?_)
 refine HJ (LN ho hd ?_)
 let⟨os,hos,hex,hds⟩:=st.ob;refine HJ (Lr hos hds st.fits ?_)
 rw[if_neg (by simp)]
 simp![Kw];let⟨oT,nT,hoT,hdT⟩:=ht;refine HJ (Jk hoT hdT ?_)
 dsimp only;let e1:(ps.map λ(k:Nat)=>rawInt k).toArray[i]?=B:=by simpa using hp
 rw[e1];refine HJ (JN ho hd (by simp) ?_)
 let g1:=H7 (JF (·.setIfInBounds 0 (rawInt 0))) ho (JD (IF hd _))
 refine HJ (JN g1 (IF hd _) (by simp) ?_)
 refine HJ ?_
 refine HJ (m:=firstArgMember _ _) (Ml (a:=JG) (by rfl) ?_)
 refine Ir ?_ (by size_fits)
 refine HJ (MU ?_)
 rw[show A.in1.handled=B from hh]
 refine HJ (HK (NG ?_))
 refine HJ (Kf (T:="StopIteration") (b:=V) ⟨_,HO _ rfl,rfl⟩ MF ?_)
 exact HK (hQ _ λb o' hb e=>HL _ (HL _ ((HX _ _ (Ib hb)).trans ((HX _ _ (Ib hb)).trans e))))
def pU {first:HM}{n:Nat}{Q:HM->HN->Prop}(it:IterAt s.heap I first i S n ep) (hQ:Q (.ref I) s):wpAny (model prog w) A (pyIter (.ref I)) Q E s:=by
 refine LM it.typeIs hZ (Ii hZ it.typeIs my ?_ (oH _))
 exact HK ⟨_,rfl,"set_iterator",_,it.typeIs,aG.lookup,hQ⟩
end
end L2.G
namespace L2.G
open PySem PySem.Spec PyProof.Rows
section
variable{prog:IZ}{w:JA}{A:Ia}{E:HM->HN->Prop}{s:HN}{S:HZ}{es:Qw (Int×HM)}{ep:Nat}{t:IA}{i sl:Nat}
theorem uH (a:HZ) (slot given epochThen:Nat):setNext a slot given epochThen=(do
  let (es,epoch,t) <-setState a
  if <-setsByText then
   if epoch != epochThen then unsupported "set_iterator.__next__:elements-changed"
   return ((<-setWalk a)[given]?).map λe=>(e.2,slot)
  if !t.plain&&es.size>1 then unsupported "set_iterator.__next__:the-table-is-plain-no-more"
  (if(!t.led&&!es.isEmpty)=V then unsupported "set:maker-not-led" else pure ():N1 Unit)
  let i:=Io t.place slot
  return match es[i]?,t.place[i]? with
   |some (_,x),U j=>U (x,j+1)
   |_,_=>B):=rfl
def pC (hb:w.params.followText "set-order"=V) (st:SetIs s.heap S es ep t) {R:Qq (HM×Nat)->HN->Prop}
  (h:R (((pickOrder (w.params.setOrder S ep) es.toArray)[i]?).map λe=>(e.2,sl)) s):wpAny (model prog w) A (setNext S sl i ep) R E s:=by
 let⟨os,hos,hex,hds⟩:=st.ob;refine HJ (Jx hos hds st.fits ?_)
 show wpAny _ _ (if w.params.followText "set-order"=V then _ else _) _ _ _
 rw[if_pos hb,if_neg (by simp)]
 refine HJ ?_
 refine HJ (Jx hos hds st.fits ?_)
 show wpAny _ _ (if w.params.followText "set-order"=V then _ else _) _ _ _
 rw[if_pos hb];refine HJ (Nb (HK ?_))
 exact HK h
def nF (hb:w.params.followText "set-order"=Y) (st:SetIs s.heap S es ep t) (hled:t.led=V) (hpl:(!t.plain&&decide (es.toArray.size>1))=Y) {R:Qq (HM×Nat)->HN->Prop}
  (h:R (match es.toArray[Io t.place sl]?,t.place[Io t.place sl]? with|some (_,x),U j=>U (x,j+1)|_,_=>B) s):wpAny (model prog w) A (setNext S sl i ep) R E s:=by
 let⟨os,hos,hex,hds⟩:=st.ob;rw[uH];refine HJ (Jx hos hds st.fits ?_)
 show wpAny _ _ (if w.params.followText "set-order"=V then _ else _) _ _ _
 rw[if_neg (by rw[hb];exact JM),if_neg (by rw[hpl];exact JM),if_neg (by rw[hled];simp)]
 exact HK h
end
def nN (t:IA) (i:Nat):Nat:=match i with|0=>0|k+1=>t.place.getD k 0+1
def tW {t:IA}{hs:Qw Int}(T:Tab t hs):Io t.place 0=0:=by
 let⟨h1,h2,h3⟩:=gm T.ris 0
 rcases Nat.eq_zero_or_pos (Io t.place 0)with z|z
 ·exact z
 ·have:=h1 0 (by lia) z
  exact absurd this (KT _)
def ip {t:IA}{hs:Qw Int}(T:Tab t hs) {i:Nat}(hi:i<=t.place.size):Io t.place (nN t i)=i:=by
 cases i with
 |zero=>exact tW T
 |succ k=>
  let hk:k<t.place.size:=by lia
  show Io t.place (t.place.getD k 0+1)=k+1;have:t.place.getD k 0=t.place[k]:=by simp[OG,hk]
  rw[this];exact uG T.ris hk
section
variable{prog:IZ}{w:JA}{A:Ia}{E:HM->HN->Prop}{s:HN}{I S:HZ}{es:Qw (Int×HM)}{ep:Nat}{t:IA}
def tu (hb:w.params.followText "set-order"=V) (hh:A.handled=B) (hne:S≠I):Walks prog w A I [I,S] [I] es.length (λi v=>((pickOrder (w.params.setOrder S ep) es.toArray).toList.map (·.2))[i]?=U v)
  (λi h=>IterAt h I (rawInt 0) i S es.length ep/\SetIs h S es ep t) where
 sub:=λb hb=>by simp_all
 frame:=λ_ _ _ st hk=>⟨st.1.at λo e=>hk I (by simp) o e,st.2.at λo e=>hk S (by simp) o e⟩
 item:=λi s Q E hi st hQ=>by
  let hl:(pickOrder (w.params.setOrder S ep) es.toArray).toList.length=es.length:=by have:=(jT (w.params.setOrder S ep) es.toArray).length_eq;simpa using this
  let hi':i<(pickOrder (w.params.setOrder S ep) es.toArray).size:=by rw[<-J6];lia
  exact iu (sl:=0) (nx:=0) (v:=((pickOrder (w.params.setOrder S ep) es.toArray)[i]).2) hne st.1 st.2 (λs R E st' hR=>pC hb st' (by simp_all)) λh' it' k=>(hQ _ h' s.toks (by simp[hi']) ⟨it',st.2.at λo e=>k S o hne e⟩ λb o hb e=>k b o (λz=>hb (by simp[z])) e)
 done:=λs Q E st hQ=>by
  let hl:(pickOrder (w.params.setOrder S ep) es.toArray).size=es.length:=by have:=(jT (w.params.setOrder S ep) es.toArray).length_eq;simpa using this
  exact jB hh st.1 st.2 (λs R E st' hR=>pC hb st' (by simp_all)) λh' k=>hQ h' s.toks λb o hb e=>k b o (λz=>hb (by simp[z])) e
 self:=λ_ _ _ _ st hQ=>pU st.1 hQ
def uv (hb:w.params.followText "set-order"=Y) (hled:t.led=V) (hpl:(!t.plain&&decide (es.toArray.size>1))=Y) (hh:A.handled=B) (hne:S≠I):Walks prog w A I [I,S] [I] es.length (λi v=>(es.map (·.2))[i]?=U v)
  (λi h=>IterAt h I (rawInt (nN t i)) i S es.length ep/\SetIs h S es ep t) where
 sub:=λb hb=>by simp_all
 frame:=λ_ _ _ st hk=>⟨st.1.at λo e=>hk I (by simp) o e,st.2.at λo e=>hk S (by simp) o e⟩
 item:=λi s Q E hi st hQ=>by
  let hl:=st.2.tab.len;rw[HT]at hl;let hip:i<t.place.size:=by lia
  refine iu (sl:=nN t i) (nx:=nN t (i+1)) (v:=es[i].2) hne st.1 st.2 (λs R E st' hR=>nF hb st' hled hpl (by
   rw[ip st.2.tab (by lia)]
   rw[show es.toArray[i]?=U es[i] by simp[hi],Jd hip]
   have:nN t (i+1)=t.place[i]+1:=by show t.place.getD i 0+1=_;simp[OG,hip]
   rw[this]at hR;exact hR)) λh' it' k=>?_
  exact hQ _ h' s.toks (by simp[hi]) ⟨it',st.2.at λo e=>k S o hne e⟩ λb o hb e=>k b o (λz=>hb (by simp[z])) e
 done:=λs Q E st hQ=>by
  let hl:=st.2.tab.len;rw[HT]at hl;exact jB hh st.1 st.2 (λs R E st' hR=>nF hb st' hled hpl (by
   rw[ip st.2.tab (by lia)]
   simp;lia)) λh' k=>hQ h' s.toks λb o hb e=>k b o (λz=>hb (by simp[z])) e
 self:=λ_ _ _ _ st hQ=>pU st.1 hQ
def qX {T:HZ}{ps:Qw Nat}(hp:ps.Perm (Iu es.length)) (hh:A.handled=B) (hne:S≠I) (hTI:T≠I):Walks prog w A I [I,S,T] [I] es.length (λi v=>((ps.filterMap (es[·]?)).map (·.2))[i]?=U v)
  (λi h=>IterAt h I (.ref T) i S es.length ep/\SetIs h S es ep t/\∃o n,h.get? T=U o/\o.data=.seq (ps.map λ(k:Nat)=>rawInt k).toArray n) where
 sub:=λb hb=>by simp_all
 frame:=λ_ _ _ st hk=>⟨st.1.at λo e=>hk I (by simp) o e,st.2.1.at λo e=>hk S (by simp) o e,by let⟨o,n,e,r⟩:=st.2.2;exact⟨o,n,hk T (by simp) o e,r⟩⟩
 item:=λi s Q E hi st hQ=>by
  let hpl:=hp.length_eq;rw[LB]at hpl;let hip:i<ps.length:=by lia
  let hpe:=qad.mp (hp.mem_iff.mp (JR hip));refine mN (ps:=ps) (p:=ps[i]) (e:=es[ps[i]]) hne st.1 st.2.1 st.2.2 (by simp[hip]) (by simp[hpe]) λh' it' k=>?_
  refine hQ _ h' s.toks ?_ ⟨it',st.2.1.at λo e=>k S o hne e,by let⟨o,n,e,r⟩:=st.2.2;exact⟨o,n,k T o hTI e,r⟩⟩ λb o hb e=>k b o (λz=>hb (by simp[z])) e
  let e1:ps.filterMap (es[·]?)=ps.map λk=>es.getD k (0,.none):=by
   let hall:∀k∈ps,k<es.length:=λk hk=>qad.mp (hp.mem_iff.mp hk)
   clear hpl hip hpe hp hi hQ st
   induction ps with
   |nil=>rfl
   |cons k ps ih=>
    simp_all
  rw[e1];simp[hip,hpe]
 done:=λs Q E st hQ=>by
  let hpl:=hp.length_eq;rw[LB]at hpl;exact nY hh st.1 st.2.1 st.2.2 (by rw[List.getElem?_eq_none (by lia)]) λh' k=>hQ h' s.toks λb o hb e=>k b o (λz=>hb (by simp[z])) e
 self:=λ_ _ _ _ st hQ=>pU st.1 hQ
end
end L2.G
namespace L2.G
open PySem PySem.Spec PyProof.Rows
def xM:typeLookup (.type "set") "__len__"=pure (U (.builtin "set.__len__")):=F.slot_set_len.lookup
section
variable{prog:IZ}{w:JA}{A:Ia}{E:HM->HN->Prop}{s:HN}{S:HZ}{es:Qw (Int×HM)}{ep:Nat}{t:IA}
def yf (st:SetIs s.heap S es ep t) (hled:t.led=eX w) (hn:es.length<=1000) {Q:HM->HN->Prop}
  (hQ:∀(I:HZ) (vs:Qw HM) (fp:Qw HZ) (St:Nat->Jr->Prop) (h':Jr) (d:Drawn),vs.Perm (es.map (·.2))->(∀A':Ia,A'.handled=B->Walks prog w A' I fp [I] es.length (λi v=>vs[i]?=U v) St)->St 0 h'->
   (∀b o,s.heap.get? b=U o->h'.get? b=U o)->s.heap.objs.size<=I->I∈fp->(∀b∈fp,b=S\/s.heap.objs.size<=b)->Q (.ref I) {s with heap:=h',drawn:=d}):wpAny (model prog w) A (pyIter (.ref S)) Q E s:=by
 let⟨os,hos,hex,hds⟩:=id st.ob;let hT:s.TypeIs (.ref S) "set":=⟨os,hos,hex.1⟩;let hSlt:=H6 hos;refine LM hT F.slot_set_iter (Ii F.slot_set_iter hT j3 ?_ (F.args_set_iter_1 _))
 unfold Lo.«frozenset.__iter__» Builtin.Frozenset.slot0 slotArgs;simp![List.isEmpty_nil,NC,Ig,↓reduceIte,bind_assoc,Ku,bne_self_eq_false];refine HJ (HK ?_)
 refine HJ (HK ?_)
 refine HJ (HJ (Lr hos hds st.fits (HK ?_)))
 refine HJ ?_
 refine HJ (Jx hos hds st.fits ?_)
 refine HJ ?_
 refine HJ (Nb (HK ?_))
 refine HK ?_
 let hsz:es.toArray.size=es.length:=by simp
 show wpAny _ _ (if(!w.params.followText "set-order"&&(!t.plain&&decide (es.toArray.size>1)))=V then _ else _) _ _ _
 by_cases hdr:(!w.params.followText "set-order"&&(!t.plain&&decide (es.toArray.size>1)))=V
 ·rw[if_pos hdr]
  refine HJ (kO es.toArray.size (Iu es.toArray.size) s _ (by simp) λps d hp=>?_)
  rw[hsz]at hp⊢;let hpl:=hp.length_eq;rw[LB]at hpl;refine HJ (Ir ?_ (by show(ps.map λ(i:Nat)=>rawInt i).toArray.size<=sizeLine;rw[K1];simp;lia))
  let g1:(s.heap.push {cls:=.type "tuple",data:=.seq (ps.map λ(i:Nat)=>rawInt i).toArray}).get? S=U os:=HL _ hos
  refine HJ (wpAny_setEpoch_of (s:={s with heap:=s.heap.push {cls:=.type "tuple",data:=.seq (ps.map λ(i:Nat)=>rawInt i).toArray},drawn:=d}) g1 hds st.fits ?_)
  refine HJ (Ir ?_ (by size_fits))
  refine HK ⟨_,rfl,"set_iterator",_,⟨_,HO _ rfl,rfl⟩,aG.lookup,?_⟩
  let sz1:(s.heap.push {cls:=.type "tuple",data:=.seq (ps.map λ(i:Nat)=>rawInt i).toArray}).objs.size=s.heap.objs.size+1:=IP ..
  refine hQ (s.heap.push {cls:=.type "tuple",data:=.seq (ps.map λ(i:Nat)=>rawInt i).toArray}).objs.size ((ps.filterMap (es[·]?)).map (·.2)) [(s.heap.push {cls:=.type "tuple",data:=.seq (ps.map λ(i:Nat)=>rawInt i).toArray}).objs.size,S,s.heap.objs.size] _ _ d ((sF hp).1.map _)
   (λA' hA'=>qX (T:=s.heap.objs.size) (ps:=ps) (es:=es) (S:=S) (ep:=ep) (t:=t) hp hA' ?_ ?_) ?_ (λb o e=>HL _ (HL _ e)) ?_ (by simp) ?_
  ·rw[sz1];exact Il (LG hSlt)
  ·lia
  ·exact⟨⟨_,HO _ rfl,rfl,rfl⟩,st.at λo e=>HL _ (HL _ e),_,_,HL _ (HO _ rfl),rfl⟩
  ·rw[sz1];exact Kl _
  simp
 ·rw[if_neg hdr]
  refine HJ (HK ?_)
  refine HJ (wpAny_setEpoch_of hos hds st.fits ?_)
  refine HJ (Ir ?_ (by size_fits))
  refine HK ⟨_,rfl,"set_iterator",_,⟨_,HO _ rfl,rfl⟩,aG.lookup,?_⟩
  let fin:∀(vs:Qw HM) (St:Nat->Jr->Prop),vs.Perm (es.map (·.2))->(∀A':Ia,A'.handled=B->Walks prog w A' s.heap.objs.size [s.heap.objs.size,S] [s.heap.objs.size] es.length (λi v=>vs[i]?=U v) St)->
    St 0 (s.heap.push {cls:=.type "set_iterator",data:=.fields [rawInt 0,rawInt 0,.ref S,rawInt es.length,rawInt ep].toArray})->
    Q (.ref s.heap.objs.size) {s with heap:=s.heap.push {cls:=.type "set_iterator",data:=.fields [rawInt 0,rawInt 0,.ref S,rawInt es.length,rawInt ep].toArray}}:=λvs St hp W h0=>by
   refine hQ s.heap.objs.size vs [s.heap.objs.size,S] St _ s.drawn hp W h0 (λb o e=>HL _ e) (HQ _) (by simp) λb hb=>?_
   grind
  cases hbt:w.params.followText "set-order" with
  |true=>
   refine fin _ _ ?_ (λA' hA'=>tu (S:=S) (es:=es) (ep:=ep) (t:=t) hbt hA' (Il hSlt)) ⟨⟨_,HO _ rfl,rfl,rfl⟩,st.at λo e=>HL _ e⟩
   grind [jT]
  |false=>
   let hpl:(!t.plain&&decide (es.toArray.size>1))=Y:=by
    rw[hbt]at hdr
    simpa using hdr
   exact fin _ _ (KU _) (λA' hA'=>uv (S:=S) (es:=es) (ep:=ep) (t:=t) hbt (by lia) hpl hA' (Il hSlt)) ⟨⟨_,HO _ rfl,rfl,rfl⟩,st.at λo e=>HL _ e⟩
def qv (hh:A.handled=B) (st:SetIs s.heap S es ep t) (hled:t.led=eX w) (hn:es.length<=1000) {Q:Qw HM->HN->Prop}
  (hQ:∀(vs:Qw HM) (h':Jr) (d:Drawn) (tk:Nat),vs.Perm (es.map (·.2))->(∀b o,s.heap.get? b=U o->h'.get? b=U o)->s.heap.objs.size<=h'.objs.size->Q vs {s with heap:=h',drawn:=d,toks:=tk}):wpAny (model prog w) A (collect (.ref S)) Q E s:=by
 let⟨os,hos,hex,hds⟩:=id st.ob;let hSlt:=H6 hos;refine HJ (NH (IW Nr ?_))
 refine HJ (Ir ?_)
 refine HK ⟨Jo Ob _,IW Oe ?_⟩
 generalize hL:s.heap.objs.size=L;let hst1:SetIs (s.heap.push {cls:=.type "list",data:=.seq ([]:Qw HM).toArray}) S es ep t:=st.at λo e=>HL _ e
 let g0:(s.heap.push {cls:=.type "list",data:=.seq ([]:Qw HM).toArray}).get? L=U {cls:=.type "list",data:=.seq ([]:Qw HM).toArray}:=by rw[<-hL];exact HO _ rfl
 let hS1:(s.heap.push {cls:=.type "list",data:=.seq ([]:Qw HM).toArray}).get? S=U os:=HL _ hos
 let hT1:JV {s with heap:=s.heap.push {cls:=.type "list",data:=.seq ([]:Qw HM).toArray}} (.ref S) "set":=⟨os,hS1,hex.1⟩
 show wpAny _ A.in1 (LI (.ref L) (.ref S) (.ref L)) _ _ _;refine HJ (Kn hT1 ?_)
 let h1:J7 (.ref L) (.ref S)=Y:=by simp[J7];rw[<-hL];exact JI hSlt
 let h2:(JW "set"==JW "list")=Y:=by decide
 let h3:(JW "set"==JW "tuple")=Y:=by decide
 simp![h1,h2,h3,O1,Ig,if_false];refine HJ (yf (s:={s with heap:=s.heap.push {cls:=.type "list",data:=.seq ([]:Qw HM).toArray}}) hst1 hled hn λI vs fp St h' d hp W hS0 hk hI hIf hfp=>?_)
 let hT2:JV {s with heap:=h',drawn:=d} (.ref S) "set":=⟨os,hk S os hS1,hex.1⟩
 let gL:h'.get? L=U {cls:=.type "list",data:=.seq ([]:Qw HM).toArray}:=hk L _ g0;refine HJ (Ij ?_)
 refine HJ (Kx hT2 xM ?_)
 generalize hid:("set.__len__":String)=id0;subst hid;refine HJ (Kf (b:=V) hT2 (by rfl) ?_)
 refine HJ (Kn hT2 ?_)
 refine HK ?_
 refine HJ (Ju ?_)
 refine HJ ?_
 refine HJ (JS gL rfl ?_)
 let gL2:=H7 (IK (·.push JG)) gL rfl
 refine JS gL2 rfl ?_
 let gL3:=H7 (IK (·.pop)) gL2 rfl
 let oth:∀b o,b≠L->h'.get? b=U o->((h'.update L (IK (·.push JG))).update L (IK (·.pop))).get? b=U o:=
  λb o hb e=>(HX _ _ (Ib hb)).trans ((HX _ _ (Ib hb)).trans e)
 let WS:=(W A.in1 (by simp[hh])).toS
 let hLS:L≠S:=by rw[<-hL];exact JI hSlt
 let hLf:L∉fp:=λhm=>by
  rcases hfp L hm with e|e
  ·exact hLS e
  ·let e2:s.heap.objs.size+1<=L:=by have:=e;rwa[IP]at this
   rw[hL]at e2;exact J0 _ e2
 refine HK ⟨Jo NO _,NI WS (by rw[K1];lia) L hLf _ es.length 0 _ _ _ rfl (Im _)
  (WS.frame 0 ({s with heap:=h',drawn:=d}:HN) _ s.toks hS0 (HQ _) λb hb o e=>oth b o (λh=>hLf (h▸hb)) e) gL3 (O5 _) λs' acc' c' hm hS' hacc=>?_⟩
 refine HJ (ME hS' ?_)
 let e1:=hm.gens;let e2:=hm.drawn;let e3:=hm.os;let⟨hh',gg',dd',tt',oo'⟩:=s';simp only at e1 e2 e3;subst e1;subst e3;refine HK (hQ acc'.toList hh' dd' tt' ?_ (λb o e=>?_) (by rw[hL];exact Pi (H6 hS')))
 ·have:acc'.toList=vs:=by
   let hvl:=hp.length_eq;rw[HT]at hvl;apply Mz;intro j
   by_cases hj:j<acc'.size
   ·have:=hacc.2 j acc'[j] (by simp[hj])
    simp_all
   ·simp_all [hvl,hacc.1]
  rw[this];exact hp
 ·let hbL:b≠L:=by rw[<-hL];exact Il (H6 e)
  let hbI:b≠I:=λz=>by
   let h5:s.heap.objs.size+1<=I:=by have:=hI;rwa[IP]at this
   have:=H6 e;rw[z]at this;exact absurd (NK (LG this) h5) (J0 _)
  refine hm.heap b o (by simp;lia) (oth b o hbL (hk b o (HL _ e)))
end
end L2.G
namespace L2.G
open PySem PySem.Spec PyProof.Rows Md
def eS {α β:Type}(f:α->β):∀{l1 l2:Qw β},l1.Perm l2->∀l:Qw α,l2=l.map f->∃l':Qw α,l'.Perm l/\l1=l'.map f:=by
 intro l1 l2 p
 induction p with
 |nil=>simp
 |cons x p ih=>
  intro l h;cases l with
  |nil=>cases h
  |cons a l=>
   simp![HP,KH]at h;let⟨l',p',e'⟩:=ih l h.2;exact⟨a::l',List.Perm.cons a p',by rw[HP,h.1,e']⟩
 |swap x y l0=>
  intro l h;cases l with
  |nil=>cases h
  |cons a l=>
   cases l with
   |nil=>cases h
   |cons b l=>
    simp![HP,KH]at h;exact⟨b::a::l,NW a b l,by rw[HP,HP,h.1,h.2.1,h.2.2]⟩
 |trans p q ih1 ih2=>
  intro l h;let⟨l2,p2,e2⟩:=ih2 l h;let⟨l1,p1,e1⟩:=ih1 l2 e2;exact⟨l1,p1.trans p2,e1⟩
def SetAt.same {h h':Jr}{a:HZ}{es:Qw (Int×HM)}{led:Bool}(S:SetAt h a es led) (k:∀o,h.get? a=U o->h'.get? a=U o):SetAt h' a es led:=by
 let⟨o,ep,t,ho,r⟩:=S;exact⟨o,ep,t,k o ho,r⟩
def rp {l m:Qw D}(hl:l.Nodup) (h:∀x∈l,x∈m):l.length<=m.length:=by
 induction l generalizing m with
 |nil=>simp
 |cons x l ih=>
  let hx:=h x (Ik ..);let⟨h1,h2⟩:=qae.mp hl;have:=ih (m:=m.erase x) h2 λy hy=>(K8 (λ(e:y=x)=>h1 (e▸hy))).mpr (h y (Ic _ hy))
  rw[OY hx]at this;have:0<m.length:=O9 hx;rw[H3];lia
def uniqD:Qw D->Qw D
 |[]=>[]
 |d::ds=>if d∈ds then uniqD ds else d::uniqD ds
nonrec theorem uniqD_mem (x:D):∀ds:Qw D,x∈uniqD ds↔x∈ds
 |[]=>Iff.rfl
 |d::ds=>by
  unfold uniqD;split
  ·rename_i h
   rw[uniqD_mem x ds,ID]
   lia
  ·rw[ID,ID,uniqD_mem x ds]
nonrec theorem uniqD_nodup:∀ds:Qw D,(uniqD ds).Nodup
 |[]=>Jf
 |d::ds=>by
  unfold uniqD;split
  ·exact uniqD_nodup ds
  ·rename_i h
   exact qae.mpr ⟨λz=>h ((uniqD_mem d ds).mp z),uniqD_nodup ds⟩
def uniqD_len (ds:Qw D):(uniqD ds).length<=ds.length:=rp (uniqD_nodup ds) λx hx=>(uniqD_mem x ds).mp hx
def lH {ds es:Qw D}(hc:eZ ds=V) (hp:es.Perm ds):aY es=aY ds/\eZ es=V:=by
 let hc2:eZ es=V:=by
  unfold eZ;rw[Iz];intro x hx;rw[HW];let hx':=hp.mem_iff.mp hx;refine⟨gU hc hx',?_⟩
  rw[Iz];intro y hy;let⟨b,e⟩:=hO hc hx' (hp.mem_iff.mp hy);rw[e];rfl
 exact⟨cY hc _ _ (λy hy=>hp.mem_iff.mp ((ax es).mem_iff.mp hy)) ((ax es).trans (hp.trans (ax ds).symm)) (bp hc2) (bp hc),hc2⟩
def yY {ds es:Qw D}(hc:eZ ds=V) (h:∀x∈es,x∈ds):eZ es=V:=by
 unfold eZ;rw[Iz];intro x hx;rw[HW];refine⟨gU hc (h x hx),?_⟩
 rw[Iz];intro y hy;let⟨b,e⟩:=hO hc (h x hx) (h y hy);rw[e];rfl
def scD:D->Bool
 |.int _=>V
 |.str _=>V
 |_=>Y
abbrev El:=D×HM
variable[Md]
structure ElOk (M:Mp) (sc:Bool) (t:El):Prop where
 rep:R Y M t.1 t.2
 has:cT 8 t.1=V
 sc:scD t.1=sc
abbrev elE (w:JA) (t:El):Int×HM:=(cK w t.1,t.2)
def wB:∀(n:Nat) {d u} {A:Ia}{s:HN}{Q:Bool->HN->Prop}{E:HM->HN->Prop},Hm M s.heap->cT n d=V->R m M d u->Q Y s->wpAny (model P w) A (ofAClassStatement n u) Q E s:=by
 intro n
 induction n using Jq with
 |ind n ih=>
 intro d u A s Q E H hd r hQ
 rcases shh hd r with⟨i,t,rfl,rfl⟩|⟨i,t,rfl,rfl⟩|⟨ds,a,o,vs,k,rfl,rfl,rfl,hd',q,t,rs⟩
 ·unfold ofAClassStatement;exact HK hQ
 ·unfold ofAClassStatement;exact HK hQ
 ·let⟨o,ho,hc,m,hdat⟩:=t.is H q
  unfold ofAClassStatement;refine HJ (Kn ⟨o,ho,hc⟩ (HJ (HK (HJ (Jk ho hdat ?_)))))
  dsimp only;rw[<-Mn];refine HJ (KQ _ (λrest b s'=>b.1=B/\s'=s/\∃left,left.all (cT k)=V/\Rs _ M left rest) _ ?_ ?_ _ _ ⟨rfl,rfl,ds,hd',by trivial⟩)
  ·rintro v rest b s' ⟨hb,rfl,left,hall,hl⟩
   cases left with
   |nil=>cases hl
   |cons d' left'=>
    let⟨v',r',e',r1,r2⟩:=hl;cases e';rw[Iw,HW]at hall;exact HJ (ih k (by lia) H hall.1 r1 (HK ⟨rfl,rfl,left',hall.2,r2⟩))
  ·rintro⟨b1,b2⟩ s' ⟨hb,rfl,_⟩
   simp only at hb;subst hb;exact HK hQ
def Dw:∀(n:Nat) {d u} {A:Ia}{s:HN}{Q:Bool->HN->Prop}{E:HM->HN->Prop},Hm M s.heap->cT n d=V->R m M d u->(∀b,Q b s)->wpAny (model P w) A (hashByValue n u) Q E s:=by
 intro n
 induction n using Jq with
 |ind n ih=>
 intro d u A s Q E H hd r hQ
 rcases shh hd r with⟨i,t,rfl,rfl⟩|⟨i,t,rfl,rfl⟩|⟨ds,a,o,vs,k,rfl,rfl,rfl,hd',q,t,rs⟩
 ·unfold hashByValue;exact HK (hQ _)
 ·unfold hashByValue;exact HK (hQ _)
 ·let⟨o,ho,hc,m,hdat⟩:=t.is H q
  refine HJ (Kx ⟨o,ho,hc⟩ F.slot_tuple_hash.lookup (HJ (Jk ho hdat (HJ ?_))))
  rw[<-Mn];refine KQ _ (λrest b s'=>s'=s/\∃left,left.all (cT k)=V/\Rs _ M left rest) _ ?_ ?_ _ _ ⟨rfl,ds,hd',by trivial⟩
  ·rintro v rest b s' ⟨rfl,left,hall,hl⟩
   cases left with
   |nil=>cases hl
   |cons d' left'=>
    let⟨v',r',e',r1,r2⟩:=hl;cases e';rw[Iw,HW]at hall;refine HJ (ih k (by lia) H hall.1 r1 λb=>?_)
    cases b with
    |true=>exact HK ⟨rfl,left',hall.2,r2⟩
    |false=>exact HK (by first|exact HK (hQ _)|exact hQ _|exact rfl)
  ·rintro⟨b1,b2⟩ s' ⟨rfl,_⟩
   cases b1<;>exact HK (hQ _)
section
variable{M:Mp}{s:HN}{A:Ia}{E:HM->HN->Prop}{a:HZ}{sc led:Bool}
def rL {t:El}(h:ElOk M Y t):∃b,t.2=.ref b:=by
 let⟨d,u⟩:=t
 rcases shh h.has h.rep with⟨i,t,e,_⟩|⟨i,t,e,_⟩|⟨ds,a,o,vs,k,e,e',_⟩
 ·cases e;cases h.sc
 ·cases e;cases h.sc
 ·exact⟨a,e'⟩
def FM (h:ElOk M V t):kOk Y t.1=V:=by
 have:=h.sc;let⟨d,u⟩:=t;cases d<;>first|rfl|cases this
def Fe (h:ElOk M V t):oU t.1 t.2=V/\t.2.scannable=V:=by
 refine⟨by rw[Ck (FM h) (FM h) h.rep];simp,?_⟩
 have:=h.sc;let r:=h.rep;let⟨d,u⟩:=t;cases d<;>first|(let⟨t,e⟩:=r;simp only at e;rw[e];rfl)|cases this
def DR (H:Hm M s.heap) {t:El}(ht:ElOk M Y t) (l:Qw HM) (hl:∀y∈l,∃t':El,ElOk M Y t'/\t'.2=y) {Q:Bool->HN->Prop}(hQ:Q Y s):wpAny (model P w) A (searchCouldBeSeen t.2 l) Q E s:=by
 refine HJ ?_
 refine KQ _ (λrest b s'=>b.1=B/\s'=s/\∀y∈rest,∃t':El,ElOk M Y t'/\t'.2=y) _ ?_ ?_ _ _ ⟨rfl,rfl,hl⟩
 ·rintro y rest b s' ⟨hb,rfl,hr⟩
  let hr':=λz hz=>hr z (Ic _ hz)
  let⟨t',h',rfl⟩:=hr y (Ik ..);let⟨c,hc⟩:=rL ht;let⟨c',hc'⟩:=rL h';let q1:=ht.rep;let q2:=h'.rep;rw[hc]at q1⊢;rw[hc']at q2⊢;dsimp only;split
  ·exact HK ⟨rfl,rfl,hr'⟩
  ·exact HJ (qF 8 H ht.has q1 (HJ (qF 8 H h'.has q2 (HJ (wB 8 H ht.has q1 (HJ (wB 8 H h'.has q2 (HK ⟨rfl,rfl,hr'⟩))))))))
 ·rintro⟨b1,b2⟩ s' ⟨hb,rfl,_⟩
  subst hb;exact HK hQ
open Classical in
theorem GA (H:Hm M s.heap) (hA:A.units+32<cLine) {ts:Qw El}{t:El}{Q:Bool->HN->Prop}(S:SetAt s.heap a (ts.map (elE w)) led) (h75:ts.length<=75) (hts:∀t∈ts,ElOk M sc t) (ht:ElOk M sc t)
  (h:∀h' ts' tk,s.toks<=tk->IM a s.heap h'->(ts'=ts/\t.1∈ts.map (·.1)\/ts'.Perm (t::ts)/\t.1∉ts.map (·.1))->SetAt h' a (ts'.map (elE w)) led->∀b,Q b {s with heap:=h',toks:=tk}):
  wpAny (model P w) A (setAdd a t.2) Q E s:=by
 refine Ij (HJ ?_)
 refine pH 8 H ht.has (by lia) ht.rep ?_
 let htk:=N9 s.toks (cj t.1);generalize s.toks+cj t.1=tk at htk⊢;let new:t.1∉ts.map (·.1)->∀h' es',IM a s.heap h'->es'.Perm ((cK w t.1,t.2)::ts.map (elE w))->SetAt h' a es' led->Q V {s with heap:=h',toks:=tk}:=λhno h' es' hsb hp S2=>by
  let⟨ts',pt,rfl⟩:=eS (elE w) hp (t::ts) rfl;exact h h' ts' tk htk hsb (.inr ⟨pt,hno⟩) S2 V
 let old:t.1∈ts.map (·.1)->Q Y {s with toks:=tk}:=λhm=>h s.heap ts tk htk (Heap.SameBut.refl a s.heap) (.inl ⟨rfl,hm⟩) S Y
 cases sc with
 |false=>
  let⟨b,hb⟩:=rL ht;let ht':=ht.rep;rw[hb]at new ht'⊢;let inj:∀t1∈ts,∀t2∈ts,t1.2=t2.2->t1.1=t2.1:=λt1 h1 t2 h2 e=>R.inj (eM (hts t1 h1).has) (eM (hts t2 h2).has) (hts t1 h1).rep (e▸(hts t2 h2).rep)
  let dec:∀t1∈ts,decide (∃t2∈ts,t2.2=t1.2/\t2.1=t.1)=decide (t1.1=t.1):=λt1 h1=>decide_eq_decide.mpr ⟨λ⟨t2,h2,e1,e2⟩=>by rw[<-inj t2 h2 t1 h1 e1];exact e2,λe=>⟨t1,h1,rfl,e⟩⟩
  refine CH (s:={s with toks:=tk}) (led:=led) (es:=ts.map (elE w)) S (by simpa using h75) (λv=>decide (∃t1∈ts,t1.2=v/\t1.1=t.1)) ?_ ?_ ?_ ?_ ?_ ?_ ?_
  ·intro e he
   let⟨t1,h1,rfl⟩:=mt.mp he;exact rL (hts t1 h1)
  ·intro e he _
   let⟨t1,h1,rfl⟩:=mt.mp he;have:=(Cg (s:={s with toks:=tk}) H 8 A (eM (hts t1 h1).has) (eM ht.has) (by lia) (hts t1 h1).rep ht').2.1
   rw[<-dec t1 h1]at this;exact this
  ·grind
  ·intro l hl Q' hQ'
   have:=DR (A:=A) (E:=E) (s:={s with toks:=tk}) H ht l (λy hy=>by
    let⟨e,he,rfl⟩:=hl y hy;let⟨t1,h1,rfl⟩:=mt.mp he;exact⟨t1,hts t1 h1,rfl⟩) hQ'
   rw[hb]at this;exact this
  ·exact λR hR=>Dw (s:={s with toks:=tk}) 8 H ht.has ht' hR
  ·grind
  ·intro hno
   exact new λhm=>by
    let⟨t2,h2,e2⟩:=mt.mp hm;have:=hno (elE w t2) (mt.mpr ⟨t2,h2,rfl⟩);exact absurd ⟨t2,h2,rfl,e2⟩ (of_decide_eq_false this)
 |true=>
  let⟨k1,k2⟩:=Fe ht;let eq:∀t1∈ts,oU t.1 t1.2=decide (t1.1=t.1):=λt1 h1=>Ck (FM (hts t1 h1)) (FM ht) (hts t1 h1).rep
  refine x0 (knd:=cz) (k:=t.1) (s:={s with toks:=tk}) (led:=led) (es:=ts.map (elE w)) S (by simpa using h75) k1 k2 ?_ ?_ ?_
  ·intro e he
   let⟨t1,h1,rfl⟩:=mt.mp he;let⟨a1,a2⟩:=Fe (hts t1 h1);exact⟨⟨_,a1,rfl⟩,a2⟩
  ·rintro⟨e,he,hq⟩
   let⟨t1,h1,rfl⟩:=mt.mp he;exact old (mt.mpr ⟨t1,h1,of_decide_eq_true ((eq t1 h1).symm.trans hq)⟩)
  ·intro hno
   exact new λhm=>by
    let⟨t1,h1,e1⟩:=mt.mp hm;let hq:=(eq t1 h1).symm.trans (hno (elE w t1) (mt.mpr ⟨t1,h1,rfl⟩))
    lia
structure Fill (M:Mp) (sc led:Bool) (h:Jr) (a:HZ) (done:Qw D) (ts:Qw El):Prop where
 at':SetAt h a (ts.map (elE w)) led
 ok:∀t∈ts,ElOk M sc t
 nd:(ts.map (·.1)).Nodup
 mem:∀d,d∈ts.map (·.1)↔d∈done
variable{R':L9->HN->Prop}{It:HZ}{fp wr:Qw HZ}{G:Array GenState->Array GenState->Prop}{n:Nat}{Pv:Nat->HM->Prop}{St:Nat->HN->Prop}
theorem zB (H:Hm M s.heap) (hA:A.units+40<cLine) (W:WalksS P w A.in1 It fp wr G n Pv St) (hG:∀a b,G a b->b=a) (S:HZ) (hSf:S∉fp) (hS0:s.heap.get? S=B) (hwr:∀b∈wr,s.heap.get? b=B) (ds:Qw D) (hn:ds.length=n) (h76:(uniqD ds).length<=75)
  (hval:∀i v d,Pv i v->ds[i]?=U d->ElOk M sc (d,v)):
  ∀(k i:Nat) (h:Jr) (tk:Nat) (ts:Qw El),n - i=k->i<=n->St i {s with heap:=h,toks:=tk}->(∀b o,s.heap.get? b=U o->h.get? b=U o)->Fill M sc led h S (ds.take i) ts->
   (∀h' tk' ts',(∀b o,s.heap.get? b=U o->h'.get? b=U o)->Fill M sc led h' S ds ts'->R' (.ok (.ret .none)) {s with heap:=h',toks:=tk'})->
   codeAny (model P w) A (.builtin "set.update.loop" ⟨[.ref S,.ref It],[]⟩) R' {s with heap:=h,toks:=tk}:=by
 let hSw:=λh=>hSf (W.sub _ h)
 let back:∀{h:Jr}{tk:Nat}{s':HN},(∀b o,s.heap.get? b=U o->h.get? b=U o)->Moved wr G {s with heap:=h,toks:=tk} s'->s'={s with heap:=s'.heap,toks:=s'.toks}/\∀b o,s.heap.get? b=U o->s'.heap.get? b=U o:=λ{h tk s'} hk hm=>by
  let e1:=hG _ _ hm.gens;let e2:=hm.drawn;let e3:=hm.os;refine⟨?_,λb o e=>?_⟩
  ·let⟨h',g',d',t',o'⟩:=s'
   lia
  ·refine hm.heap b o (λhb=>?_) (hk b o e)
   simp_all
 intro k
 induction k with
 |zero=>
  intro i h tk ts hk hi hst hkeep hF hR;let hin:i=n:=by lia
  subst hin;refine IW Pu ?_
  refine HJ (W.done _ _ _ hst λs' hm=>?_)
  let⟨es,hkeep'⟩:=back hkeep hm;rw[es];refine HK (hR s'.heap s'.toks ts hkeep' ⟨hF.at'.same λo e=>hm.heap S o hSw e,hF.ok,hF.nd,λd=>?_⟩)
  rw[hF.mem d,<-hn,List.take_length]
 |succ k ih=>
  intro i h tk ts hk hi hst hkeep hF hR;let hlt:i<n:=by lia
  refine IW Pu ?_
  refine HJ (W.item i _ _ _ hlt hst λv s' hP hst' hm=>?_)
  let⟨es,hkeep'⟩:=back hkeep hm;let hil:i<ds.length:=by lia
  let hx:=hval i v ds[i] hP (by simp[hil])
  let hat:=hF.at'.same λo e=>hm.heap S o hSw e
  let h75:ts.length<=75:=by
   have:=rp hF.nd λd hd=>(uniqD_mem d ds).mpr (List.mem_of_mem_take ((hF.mem d).mp hd))
   rw[HT]at this;lia
  refine HJ (Ij ?_)
  rw[es]at hst'⊢;refine GA (s:={s with heap:=s'.heap,toks:=s'.toks}) (t:=(ds[i],v)) (λa k o e=>hkeep' _ _ (H _ _ _ e)) (by show A.units+1+32<cLine;lia) hat h75 hF.ok hx λh' ts' tk' htk hsb hor hS' b=>?_
  let keep2:∀b o,s.heap.get? b=U o->h'.get? b=U o:=λb o e=>by
   rw[hsb.2 b (λz=>by lia)]
   exact hkeep' b o e
  let F':Fill M sc led h' S (ds.take (i+1)) ts':=by
   let htake:ds.take (i+1)=ds.take i++[ds[i]]:=by rw[List.take_succ];simp[hil]
   rcases hor with⟨rfl,hm'⟩|⟨hp,hm'⟩
   ·refine⟨hS',hF.ok,hF.nd,λd=>?_⟩
    rw[hF.mem d,htake,MX,Km];constructor
    ·exact .inl
    ·rintro(h|rfl)
     ·exact h
     ·exact(hF.mem _).mp hm'
   ·let hp2:=hp.map (·.1)
    rw[HP]at hp2;refine⟨hS',λt ht=>?_,?_,λd=>?_⟩
    ·rcases qaa.mp (hp.mem_iff.mp ht)with rfl|h
     ·exact hx
     ·exact hF.ok t h
    ·rw[hp2.nodup_iff,J8];exact⟨hm',hF.nd⟩
    ·rw[hp2.mem_iff,ID,hF.mem d,htake,MX,Km]
     exact Or.comm
  refine HK ⟨Jo F.plain_set_update_loop _,ih (i+1) h' tk' ts' (by lia) hlt ?_ keep2 F' hR⟩
  exact W.frame _ {s with heap:=s'.heap,toks:=s'.toks} _ _ hst' htk λb hb o e=>by
   rw[hsb.2 b (λh:b=S=>hSf (by lia))];exact e
def yW {h:Jr}{a:HZ}(e:h.get? a=U (fg (eX w))):Fill M sc (eX w) h a [] []:=
 ⟨⟨_,0,_,e,⟨rfl,rfl,rfl⟩,rfl,Tab.fresh _ _ _,by simp[N0],rfl⟩,λt ht=>by simp at ht,Jf,λd=>Iff.rfl⟩
theorem uj (H:Hm M s.heap) (hh:A.handled=B) (hA:A.units+50<cLine) {l:HZ}{items:Array HM}{Q:HM->HN->Prop}(hl:s.heap.IsList l items) (ds:Qw D) (hlen:ds.length=items.size) (h76:(uniqD ds).length<=75)
  (hel:∀(i:Nat) v d,items[i]?=U v->ds[i]?=U d->ElOk M sc (d,v))
  (h:∀(h':Jr) (tk:Nat) ts,(∀b o,s.heap.get? b=U o->h'.get? b=U o)->Fill M sc (eX w) h' s.heap.objs.size ds ts->Q (.ref s.heap.objs.size) {s with heap:=h',toks:=tk}):
  wpAny (model P w) A (call (.type "set") [.ref l]) Q E s:=by
 let⟨c,tl,hmro⟩:=F.called_set.mro;let hmade:=F.called_set.made;let hsub:=F.called_set.sub;refine Nn (codeAny_of_tree ?_)
 show wpAny _ _ (callAny (.type "set") _) _ _ _;refine HK ⟨Code.quiet_builtin _ (by decide +kernel),IW F.entry_type_call ?_⟩
 rw[Around.under_plain (weight_type_call_type "set" [.ref l] []) rfl];let h1:=F.called_set.notType;let h2:=F.called_set.canCreate;let hct:=F.typeCall_set_1 (.ref l)
 repeat (any_goals (first|assumption|wp_step))
 refine Mx (oP (.ref l) (E:=E) (Q₁:=λobj s₁=>obj=.ref s.heap.objs.size/\s₁={s with heap:=s.heap.push (fg (eX w))}) ⟨rfl,rfl⟩) λr s₁ hr=>?_
 cases r with
 |error e=>exact hr
 |ok fl=>
  cases fl with
  |ret obj=>
   let⟨rfl,rfl⟩:=hr;let hS:(s.heap.push (fg (eX w))).get? s.heap.objs.size=U (fg (eX w)):=HO _ rfl
   let hT:JV {s with heap:=s.heap.push (fg (eX w))} (.ref s.heap.objs.size) "set":=⟨_,hS,rfl⟩
   let hli:=F.called_set.init.lookup;let hbi:=F.called_set.init.bind (.ref s.heap.objs.size)
   repeat (any_goals (first|assumption|wp_step))
   refine Mx (codeAny_call_builtin (R:=wants (λr s₂=>r=.none/\∃h' tk ts,s₂={s with heap:=h',toks:=tk}/\Fill M sc (eX w) h' s.heap.objs.size ds ts/\
     (∀b o,s.heap.get? b=U o->h'.get? b=U o)) E) F.called_set.init.plain F.entry_set_init (check_set_init_1 hT ?_)) λr₂ s₂ hr₂=>?_
   ·let⟨ol,hol,hcl,nl,hdl⟩:=hl
    let⟨ocls,odict,odata,oslots⟩:=ol;simp only at hcl hdl;subst hcl;subst hdl;let hol':(s.heap.push (fg (eX w))).get? l=U {cls:=.type "list",dict:=odict,data:=.seq items nl,slots:=oslots}:=HL _ hol
    let hsls:=F.sub_list_set;let hslf:=F.sub_list_frozenset;let hne:(JW "list"==JW "dict")=Y:=by decide
    let hl1:(s.heap.push (fg (eX w))).IsList l items:=⟨_,hol',rfl,nl,rfl⟩;unfold Lo.«set.__init__» noKeywords Builtin.Frozenset.updateFrom;generalize hPI:pyIter=PI
    wp_walk
    subst hPI;refine Lb hl1 ?_
    refine HJ (NH ?_)
    let hlS:=H6 hol;let hh3:A.in1.in1.in1.handled=B:=by simp[hh]
    let hneI:l≠(s.heap.push (fg (eX w))).objs.size:=by
     rw[IP];exact Il (LG hlS)
    let hSf:s.heap.objs.size∉[(s.heap.push (fg (eX w))).objs.size,l]:=by
     rw[IP];simp![ID,Km,Je,or_false,not_or];exact⟨Il (IY _),JI hlS⟩
    let hnone:∀b,s.heap.objs.size<=b->s.heap.get? b=B:=λb hb=>by
     cases q:s.heap.get? b with
     |none=>rfl
     |some o=>exact absurd (H6 q) (Nat.not_lt.mpr hb)
    refine zB (s:=s) (M:=M) (sc:=sc) (led:=eX w) H ?_ ((Walks.list hh3 _ l hneI items).toS) ?_ s.heap.objs.size
     hSf (hnone _ (HQ _)) ?_ ds hlen h76 (λi v d hv hd=>hel i v d hv hd) (items.size - 0) 0 _ s.toks [] (by lia) (Im _)
     ⟨⟨_,HO _ rfl,rfl,rfl⟩,(hl1.push _)⟩ (λb o e=>HL _ (HL _ e)) ?_ ?_
    ·show A.units+1+1+40<cLine;lia
    ·intro a b e;exact e
    ·intro b hb
     simp![Km]at hb;rw[hb,IP];exact hnone _ (Kl _)
    ·exact yW (HL _ hS)
    ·intro h' tk' ts hk hF
     show wpAny _ _ _ _ _ _;refine HK ?_
     show wpAny _ _ (ret JG) _ _ _;exact HK ⟨rfl,h',tk',ts,rfl,hF,hk⟩
   ·cases r₂ with
    |error e=>exact hr₂
    |ok fl₂=>
     cases fl₂ with
     |ret r=>
      let⟨rfl,h',tk,ts,rfl,hF,hk⟩:=hr₂
      repeat (any_goals (first|assumption|wp_step))
      exact h _ _ _ hk hF
     |_=>exact hr₂.elim
  |_=>exact hr.elim
end
theorem AY:∀{ts:Qw El},(∀t∈ts,ElOk M sc t)->Rs Y M (ts.map (·.1)) (ts.map (·.2))
 |[],_=>rfl
 |t::ts,h=>⟨_,_,rfl,(h t (Ik ..)).rep,AY λz hz=>h z (Ic _ hz)⟩
def Fm:bootBuiltins "set"=U (.type "set"):=by rfl
def _root_.L2.sortSetO (c:KD) (sc:Bool) (x:Qq D):Qq D:=match x with
 |some (.lst ds)=>if(decide ((uniqD ds).length<64)&&eZ ds&&ds.all (iT c)&&ds.all (cT 8)&&ds.all λd=>scD d==sc)=V then U (.lst (aY (uniqD ds))) else B
 |_=>B
nonrec theorem _root_.L2.df_sortedSet {X:Cx}{a:Expr}{fa:DEnv->Qq D}{pos pos2 p p2:MR}{c:KD}{sc:Bool}(g:Bn X "sorted") (g2:Bn X "set") (ha:DE X Y a fa):DF X (.Call (.Name "sorted" p) [.Call (.Name "set" p2) [a] [] pos2] [] pos) (λδ=>sortSetO c sc (fa δ)):=⟨rfl,λ{M δ s d Q} I e k=>by
 unfold sortSetO at e;split at e<;>try cases e
 split at e<;>cases e
 rename_i ds qd cc;simp![HW,decide_eq_true_eq]at cc;let⟨⟨⟨⟨c1,c2⟩,c3⟩,c4⟩,c5⟩:=cc;refine IN (I.bltn g fX (JZ ?_ rfl rfl))
 refine Ie (cQ g2 Fm ha I qd λv s1 M1 x1 I1 r=>?_)
 let⟨l,o,vs,rfl,q,t,rs⟩:=r;let un:=I1.un;let hl:=rs.length;refine uj (sc:=sc) I1.heap I.ok.room.hd (by lia) (t.is I1.heap q) ds (by simp;lia) (by lia) (λi v d hv hd=>?_) λh' tk ts hk hF=>IX ?_
 ·let⟨v',h1,h2⟩:=rs.get hd
  simp![Na]at hv
  rw[h1]at hv;cases hv;let hm:=HR hd;exact⟨h2,qac.mp c4 d hm,beq_iff_eq.mp (qac.mp c5 d hm)⟩
 ·let⟨o,ep,tb,ho,hex,hdt,T,hf,hled⟩:=hF.at'
  let hp:(ts.map (·.1)).Perm (uniqD ds):=(K7 hF.nd (uniqD_nodup ds)).mpr λx=>(hF.mem x).trans (uniqD_mem x ds).symm
  let hl1:=hp.length_eq;let hl2:=T.len;simp![HT]at hl1 hl2;let⟨es1,hcm⟩:=lH (yY c2 λx hx=>(uniqD_mem x ds).mp hx) hp
  let st:SetIs h' s1.heap.objs.size (ts.map (elE w)) ep tb:=⟨⟨o,ho,hex,hdt⟩,T,by lia⟩
  refine Kp OV Os Ov (Oy _) ?_
  refine HJ (m:=checkCount "sorted" 1 1 _) (HK (HJ (qv (s:={s1 with heap:=h',toks:=tk}) (by simp[I.ok.room.hd]) st hled (by rw[HT];lia) λvs h2 d tk2 hp2 hk2 hsz=>?_)))
  rw[Ix]at hp2;let⟨ts2,p2,rfl⟩:=eS (λt:El=>t.2) hp2 ts rfl
  let⟨es2,hcm2⟩:=lH hcm (p2.map (·.1))
  rw[<-es1,<-es2]at k;let hl3:=p2.length_eq;refine dk (c:=c) (I1.kp (s':={s1 with heap:=h2,drawn:=d,toks:=tk2}) λb o e=>hk2 _ _ (hk _ _ e)) (AY λt ht=>hF.ok t (p2.mem_iff.mp ht)) (by rw[HT,K1];lia) hcm2 ?_ (PostF.to k x1)
  rw[Oo];right;rw[Iz]at c3⊢;exact λx hx=>c3 x ((hF.mem x).mp ((p2.map (·.1)).mem_iff.mp hx))⟩
end L2.G
namespace L2
open PySem PySem.Spec PyProof.Rows Md
def Gf:Qq Kt->Bool
 |some .local=>V|some .cell=>V|some .free=>V|_=>Y
def GC:Qq Kt->Bool
 |some .local=>V|some .cell=>V|_=>Y
def nmB (N:Qw Ih) (sc:Kg) (i:Nat) (x:Ih):Bool:=decide (N[i]?=U x)&&Gf (sc.names.lookup x)&&!(x==("__debug__":Ih))&&!(x==("__classdict__":Ih))
def lcB (N:Qw Ih) (sc:Kg) (i:Nat) (x:Ih):Bool:=decide (N[i]?=U x)&&GC (sc.names.lookup x)
def Ha (N:Qw Ih) (sc:Kg) (i:Nat) (x:Ih):Bool:=decide (N[i]?=U x)&&decide (sc.names.lookup x=U .local)
def gbB (sc:Kg) (x:Ih):Bool:=decide (sc.names.lookup x=U .globalImplicit)&&!(x==("__debug__":Ih))
nonrec theorem yy {sc:Kg}{x:Ih}(h:Gf (sc.names.lookup x)=V):Vis sc x:=by
 unfold Gf at h;split at h
 ·rename_i e;exact .inl e
 ·rename_i e;exact .inr (.inl e)
 ·rename_i e;exact .inr (.inr e)
 ·cases h
nonrec theorem yC {sc:Kg}{x:Ih}(h:GC (sc.names.lookup x)=V):Loc sc x:=by
 unfold GC at h;split at h
 ·rename_i e;exact .inl e
 ·rename_i e;exact .inr e
 ·cases h
def Hd (scope sc:Kg):Kg:=
 {scope with names:=scope.names.map λ(n,k)=>if(k==.free&&sc.kind==.function&&sc.names.lookup n==U .cell) then(n,.cell) else(n,k)}
def BS {scope sc:Kg}{env:Env}(h:env.scope=sc):relabel scope env=Hd scope sc:=by subst h;rfl
def swB (sc scope:Kg) (t:Ih) (l1 l2:Nat):Bool:=
 ((if sc.kind.isAnnotationScope then ScopeKind.function else sc.kind)==.function)&&sc.names.lookup t==U .local&&l1==l2&&!(scope.names.any λ(n,k)=>n==t&&(k==.local||k==.cell))
def vI (osc:Kg) (scope:Kg) (N:Qw Ih) (bs:Qw Bool):Bool:=
 decide (scope.kind=.function)&&scope.names.all (λy=>!decide (y.2=.cell))&&scope.names.all (λy=>!decide (y.2=.local)||decide (scope.names.lookup y.1=U .local))&&
 scope.names.all (λy=>!decide (y.2=.free)||(decide (scope.names.lookup y.1=U .free)&&(decide (osc.names.lookup y.1=U .cell)||decide (osc.names.lookup y.1=U .free))))&&
 decide (bs.length=N.length)&&(N.zip bs).all (λp=>!p.2||decide (scope.names.lookup p.1=U .free))
variable[Md]
structure Has (X:Cx) (N:Qw Ih) (sc:Kg):Prop where
 n:X.N=N
 sc:X.env.scope=sc
 nd:X.N.Nodup
section
variable{X:Cx}{N:Qw Ih}{sc scope:Kg}{i:Nat}{x:Ih}
def Has.nm (h:Has X N sc) (b:nmB N sc i x=V):Nm X i x:=by
 unfold nmB at b;simp![HW,decide_eq_true_eq,K3]at b;exact⟨by rw[h.n];exact b.1.1.1,by rw[h.sc];exact yy b.1.1.2,b.1.2,b.2⟩
def Has.nmI (h:Has X N sc) (b:nmB N sc i (N.getD i "")=V):∃x,Nm X i x:=⟨_,h.nm b⟩
def Has.lc (h:Has X N sc) (hf:X.fn=V) (b:lcB N sc i x=V):Lc X i x:=by
 unfold lcB at b;simp![HW,decide_eq_true_eq]at b;exact⟨by rw[h.n];exact b.1,h.nd,by rw[h.sc];exact(yC b.2).imp id λz=>⟨z,hf⟩⟩
def Has.lcl (h:Has X N sc) (b:Ha N sc i x=V):Lc X i x:=by
 unfold Ha at b;simp![HW,decide_eq_true_eq]at b;exact⟨by rw[h.n];exact b.1,h.nd,.inl (by rw[h.sc];exact b.2)⟩
def Has.gb (h:Has X N sc) (b:gbB sc x=V):Gb X x:=by
 unfold gbB at b;simp![HW,decide_eq_true_eq,K3]at b;refine⟨?_,b.2⟩
 unfold Env.kindOf;rw[h.sc];exact b.1
def Has.comp (h:Has X N sc) (scope:Kg) (cl:Qw (Ih×HZ)) (C:HZ):Has (cxC X scope cl C) N (Hd scope sc):=⟨h.n,BS h.sc,h.nd⟩
def CompScope.of' {bs:Qw Bool}(h:Has X N sc) (b:vI sc scope N bs=V):CompScope X scope bs:=by
 let⟨h2,h1,_⟩:=h;unfold vI at b;simp![HW,decide_eq_true_eq]at b;let⟨⟨⟨⟨⟨a,b⟩,c⟩,d⟩,e⟩,f⟩:=b;refine⟨a,λy hy z=>?_,λy hy z=>?_,λy hy z=>?_,by rw[h2];exact e,λi x hx hb=>?_⟩
 ·grind
 ·grind
 ·have:=qac.mp d y hy
  rw[decide_eq_true z]at this;simp![NC,Bool.false_or,HW,Oo,decide_eq_true_eq]at this;refine⟨this.1,?_⟩
  unfold Env.kindOf;rw[h1];exact this.2
 ·rw[h2]at hx
  let hz:(N.zip bs)[i]?=U (x,V):=by rw[OR];exact⟨hx,hb⟩
  have:=qac.mp f _ (HR hz)
  simpa using this
def uw {c:Bool}{elt:Expr}{gens:Qw Comprehension}{pos pos':MR}{l:Nat}(h:Has X N sc) (q:swB sc scope x pos'.line pos.line=c):swapsWith (.ListComp elt gens scope pos) (U (.Name x pos')) l X.env=pure c:=by
 subst q;rw[<-h.sc];rfl
end
def Txb (bl:Qw Ih):Prop:=∀x∈bl,mg x=B
def Txb.bn {X:Cx}{bl:Qw Ih}{N:Qw Ih}{sc:Kg}{x:Ih}(T:Txb bl) (h:Has X N sc) (b:(gbB sc x&&decide (x∈bl)&&decide (x≠"__name__"))=V):Bn X x:=by
 simp![HW,decide_eq_true_eq]at b;exact⟨h.gb b.1.1,T x b.1.2,b.2⟩
theorem us0 {P:Qw HM->Prop}(h:P []):∀us:Qw HM,us.length=0->P us
 |[],_=>h
theorem usS {n:Nat}{P:Qw HM->Prop}(h:∀a us,us.length=n->P (a::us)):∀us:Qw HM,us.length=n+1->P us
 |a::us,e=>h a us (L0 e)
def Df (x:Ih) (st:Jp):Prop:=∃f fd,Fun K x x st f fd/\mg x=U (.ref f)
def DfC (x:Ih) (st:Jp) (c:HZ):Prop:=∃f fd,Fun K x x st f fd/\mg x=U (.ref f)/\fd.code=.ref c
section
variable{x:Ih}{st:Jp}{f:HZ}
abbrev HB (x:Ih) (st:Jp) (N:Qw Ih) (n:Nat):Prop:=∀(kV doc pm:HM) (an:Qq HZ) (cdv ct:HM) (us:Qw HM),us.length=(N.take n).length->bindArgs (OP x x (defArgs st) (defBody st) (defScope st) .none kV doc pm an cdv ct) ⟨us,[]⟩=pure ((N.take n).zip us)
abbrev HY (N:Qw Ih) (st:Jp) (k:Nat) (J:Cx->Prop):Prop:=∀X:Cx,Has X N (defScope st)->X.fn=V->Room k X.A->J X
def Fun.binds {fd:NN}(F:Fun K x x st f fd) (hb:HB x st N n):As fd (N.take n):=by
 let⟨oc,od,kV,doc,pm,an,cdv,ct,osl,rfl,_⟩:=F.ex;exact λs us hl=>.of_eq (hb kV doc pm an cdv ct us hl)
def mk {k:Nat}(n:Nat) (N:Qw Ih) (g:DEnv->Qq Out) (D:Df x st) (S:FnScope N (N.take n) (defScope st):=by walk_at "sc")
  (hb:HB x st N n:=by walk_at "bi") (body:HY N st k (λX=>DSs X (defBody st) g):=by walk_at "mk"):FnM (k+1) x (bW N.length (N.take n).length g):=by
 let⟨f,fd,F,hm⟩:=D;exact A0 F S (F.binds hb) hm λA L as hr=>body (cxF N x (defScope st) f fd.code A L as) ⟨rfl,rfl,S.nd⟩ rfl hr
def mkW {k:Nat}(n:Nat) (N:Qw Ih) (g:DEnv->Qq Out) (D:Df x st) (S:FnScope N (N.take n) (defScope st):=by walk_at "sc")
  (hb:HB x st N n:=by walk_at "bi") (body:HY N st k (λX=>DSs X (defBody st) g):=by walk_at "mk"):FnW (k+1) x (u9 N.length (N.take n).length g):=by
 let⟨f,fd,F,hm⟩:=D;exact ER F S (F.binds hb) hm λA L as hr=>body (cxF N x (defScope st) f fd.code A L as) ⟨rfl,rfl,S.nd⟩ rfl hr
def mkC {k:Nat}{c:HZ}{lq:Ih}(n:Nat) (N:Qw Ih) (g:DEnv->Qq Out) (D:DfC x st c) (hq:∀L f cd,(envOfC x (defScope st) L f cd).qual++"<lambda>"=lq) (S:FnScope N (N.take n) (defScope st)) (hb:HB x st N n) (body:∀X:Cx,Has X N (defScope st)->X.fn=V->Room k X.A->X.env.qual++"<lambda>"=lq->X.env.code=.ref c->DSs X (defBody st) g):FnM (k+1) x (bW N.length (N.take n).length g):=by
 let⟨f,fd,F,hm,hc⟩:=D;exact A0 F S (F.binds hb) hm λA L as hr=>body (cxF N x (defScope st) f fd.code A L as) ⟨rfl,rfl,S.nd⟩ rfl hr (hq L f fd.code) hc
end
end L2
namespace L2
open PySem
variable[Md]
def xF (ns:Qw Ih):tQ (ns.map D.str)=U ns:=by
 induction ns with
 |nil=>rfl
 |cons n ns ih=>simp![HP,tQ,ih]
@[simp] theorem lim_eq:lim=1000000:=by decide
@[simp] theorem bindO_s {α β:Type}(a:α) (f:α->Qq β):ae (U a) f=f a:=(rfl)
@[simp] theorem shO_s (d:D) (b:Bool):shO (U (d,b))=U d:=(rfl)
@[simp] theorem frO_s (ds:Qw D):frO (U (.lst ds,V))=U (.lst ds):=(rfl)
@[simp] theorem consO_s (a:D) (l:Qw D):aa (U a) (U l)=U (a::l):=(rfl)
@[simp] theorem seqO_n (δ:DEnv) (k:DEnv->Qq Out):au (U (.next δ)) k=k δ:=(rfl)
@[simp] theorem ifO_t (x y:Qq Out):ifO (U V) x y=x:=(rfl)
@[simp] theorem ifO_f (x y:Qq Out):ifO (U Y) x y=y:=(rfl)
@[simp] theorem retF_s (d:D) (δ:DEnv):dz (U d) δ=U (.ret d V δ):=(rfl)
@[simp] theorem outF_r (d:D) (b:Bool) (δ:DEnv):lN (U (.ret d b δ))=U (d,b):=(rfl)
@[simp] theorem nextO_s (δ:DEnv):nextO δ=U (.next δ):=(rfl)
@[simp] theorem setO_s (i:Nat) (d:D) (δ:DEnv) (h:i<δ.length):bj i (U d) δ=U (.next (δ.set i (U (d,Y)))):=by unfold bj;simp![if_pos h]
@[simp] theorem setF_s (i:Nat) (d:D) (δ:DEnv) (h:i<δ.length):gN i (U d) δ=U (.next (δ.set i (U (d,V)))):=by unfold gN;simp![if_pos h]
@[simp] theorem toName_s (i:Nat) (d:D) (δ:DEnv) (h:i<δ.length):af i d δ=U (δ.set i (U (d,Y))):=by unfold af;simp![if_pos h]
@[simp] theorem addI_s (i j:Int):dY (U (.int i)) (U (.int j))=U (.int (i+j)):=(rfl)
@[simp] theorem mulI_s (i j:Int) (h:(-(2 ^ 64)<i/\i<2 ^ 64)\/(-(2 ^ 64)<j/\j<2 ^ 64)):uS (U (.int i)) (U (.int j))=U (.int (i*j)):=by simp![uS,b2,ae,bI,gd,Hp,decide_eq_true_eq,if_pos h]
@[simp] theorem modI_s (i j:Int) (h:0<j):c9 (U (.int i)) (U (.int j))=U (.int (i%j)):=by simp[c9,b2,ae,bI,gd,Hw,h]
@[simp] theorem divI_s (i j:Int) (h:0<j/\j<1073741824):iS (U (.int i)) (U (.int j))=U (.int (i / j)):=by simp[iS,b2,ae,bI,gd,Hl,h]
@[simp] theorem tupO_s (ds:Qw D) (h:ds.length<=lim):dh (U ds)=U (.tup ds):=by simp![dh,b2,ae,gd,decide_eq_true_eq,if_pos h]
@[simp] theorem lstO_s (ds:Qw D) (h:ds.length<=lim):dC (U ds)=U (.lst ds):=by simp![dC,b2,ae,gd,decide_eq_true_eq,if_pos h]
@[simp] theorem lstLim_s (ds:Qw D):ar (U ds)=U (.lst ds):=(rfl)
@[simp] theorem lstL_s (ds:Qw D):dj (U (.lst ds))=U ds:=(rfl)
@[simp] theorem tupleO_l (ds:Qw D):hY (U (.lst ds))=U (.tup ds):=(rfl)
@[simp] theorem lenL_l (ds:Qw D):cS (U (.lst ds))=U (.int ds.length):=(rfl)
@[simp] theorem ixO_l (ds:Qw D) (i:Int):ixO (U (.lst ds)) (U (.int i))=atI ds i:=(rfl)
@[simp] theorem partI_s (i:Int):aX (U (.int i))=U (U i):=(rfl)
@[simp] theorem cutSO_s (z:Ih) (l u:Qq Int) (h:z.length<=lim):xC (U (.str z)) (U l) (U u)=U (.str (wj z l u)):=by simp![xC,b3,b2,ae,gd,decide_eq_true_eq,if_pos h]
@[simp] theorem addS_s (x y:Ih) (h:x.length+y.length<=lim):Es (U (.str x)) (U (.str y))=U (.str (x++y)):=by simp![Es,b2,ae,gd,decide_eq_true_eq,if_pos h]
@[simp] theorem catO_s (x y:Qw D) (h:x.length+y.length<=lim):gO (U (.lst x)) (U (.lst y))=U (.lst (x++y)):=by simp![gO,b2,ae,gd,decide_eq_true_eq,if_pos h]
@[simp] theorem notO_s (b:Bool):be (U b)=U (!b):=(rfl)
@[simp] theorem tyB_s (b:Bool):tyB (U (.bl b))=U b:=(rfl)
@[simp] theorem ofB_s (b:Bool):ofB (U b)=U (.bl b):=(rfl)
@[simp] theorem cI_s (g:Int->Int->Bool) (i j:Int):cI g (U (.int i)) (U (.int j))=U (g i j):=(rfl)
@[simp] theorem orO_f (y:Qq Bool):orO (U Y) y=y:=(rfl)
theorem uV (x y:D) (h:ok2 x y=V):eqO (U x) (U y)=U (decide (x=y)):=by simp![eqO,b2,ae,gd,decide_eq_true_eq,if_pos h]
@[simp] theorem eqO_int (i j:Int):eqO (U (.int i)) (U (.int j))=U (decide (i=j)):=by
 rw[uV _ _ (by rfl)];simp![D.int.injEq]
def CB (x y:D) (h:ok2 x y=V):neO (U x) (U y)=U (!decide (x=y)):=by unfold neO;rw[uV _ _ h];rfl
def jq (j:Int) (h: -(2 ^ 62)<=j/\j<2 ^ 62):nG (U (.int j))=U (jK 0 j.toNat):=by unfold nG;simp![decide_eq_true h,if_true]
def sE {δ:DEnv}{i:Nat}{ds:Qw D}(d:D) (h:δ[i]?=U (U (.lst ds,V))) (hl:ds.length<lim):ui i (U d) δ=U (.next (δ.set i (U (.lst (ds++[d]),V)))):=by
 unfold ui bu;simp![h,nx,if_true,if_pos hl]
def FI {δ:DEnv}{i:Nat}{ds es:Qw D}(h:δ[i]?=U (U (.lst ds,V))) (hl:ds.length+es.length<=lim):AV i (U (.lst es)) δ=U (.next (δ.set i (U (.lst (ds++es),V)))):=by
 unfold AV bu;simp![h,nx,if_true,if_pos hl]
@[simp] theorem rd_0 (m:Bool) (d:D) (δ:DEnv):rd m 0 (U (d,Y)::δ)=U d:=(rfl)
@[simp] theorem rdOwn_0 (ds:Qw D) (δ:DEnv):bu 0 (U (.lst ds,V)::δ)=U (.lst ds):=(rfl)
@[simp] theorem rdOwn_1 (i:Nat) (x:Qq (D×Bool)) (δ:DEnv):bu (i+1) (x::δ)=bu i δ:=(rfl)
theorem Br {n np:Nat}{g:DEnv->Qq Out}{ds:Qw D}(h:ds.length=np):bW n np g ds=lN (g (pi n ds)):=by unfold bW;rw[if_pos h]
def jn {f:Qw D->Qq (D×Bool)}{n np:Nat}{g:DEnv->Qq Out}{ds:Qw D}{δ:DEnv}(hf:f=bW n np g) (hl:ds.length=np) (hs:pi n ds=δ):f ds=lN (g δ):=by subst hf hs;exact Br hl
def A9 {α:Type}{xs:Qw α}{i:Int}(h0:0<=i) (h1:i<xs.length):∃v,v∈xs/\xs[i.toNat]?=U v/\atI xs i=U v:=by
 let hi:i.toNat<xs.length:=by lia
 refine⟨xs[i.toNat],JR hi,by simp[hi],?_⟩
 have:=Ds (xs:=xs) (j:=i.toNat) (v:=xs[i.toNat]) (by simp[hi])
 rwa[Int.toNat_of_nonneg h0]at this
theorem rM {h:D->Qq (Qq D)}{P:D->D->Prop}:∀{ds:Qw D},(∀d∈ds,∃y,h d=U (U y)/\P d y)->∃g:Qw D,bD h ds=U g/\g.length=ds.length/\∀(i:Nat) d,ds[i]?=U d->∃y,g[i]?=U y/\P d y
 |[],_=>⟨[],rfl,rfl,λi d h=>by simp at h⟩
 |d::ds,e=>by
  let⟨y,e1,p⟩:=e d (Ik ..);let⟨g,e2,hl,hp⟩:=rM λx hx=>e x (Ic _ hx)
  refine⟨y::g,?_,by simp[hl],λi z hz=>?_⟩
  ·unfold bD;rw[e1,e2]
  ·cases i with
   |zero=>simp_all
   |succ i=>simp_all
def sD {bo:Bool}{bs:Qw Bool}{τ:D->DEnv->Qq DEnv}{ft:DEnv->Qq Bool}{fe:DEnv->Qq D}{δ:DEnv}{ds:Qw D}(h:ds.length<=lim):bA bo bs τ ft fe δ ds=bD (cw τ ft fe (cx bo bs δ)) ds:=by unfold bA;rw[if_pos h]
def zC {lo:Int}{n:Nat}{d:D}(h:d∈jK lo n):∃i:Nat,i<n/\d=.int (lo+i):=by
 let⟨i,hi,e⟩:=mt.mp h;exact⟨i,qad.mp hi,e.symm⟩
def fQ (lo:Int) (n:Nat):(jK lo n).length=n:=by unfold jK;simp
def uZ:∀(ts:Qw Ih),(ON "" ts).length=(ts.map (·.length)).sum:=by
 intro ts;show(Builtin.Str.glued "" ts).length=_;rw[StrLaws.glued_eq_join]
 induction ts with
 |nil=>rfl
 |cons x r ih=>
  cases r with
  |nil=>rfl
  |cons y r=>
   show(x++("":Ih)++Str.join "" (y::r)).length=_;rw[LD,LD,ih];rfl
def CX {P:D->D->Prop}{ds g:Qw D}{Q:Ih->Prop}(hl:g.length=ds.length) (h:∀(i:Nat) d,ds[i]?=U d->∃y,g[i]?=U y/\P d y) (hP:∀d y,P d y->∃x,y=.str x/\Q x):∃ss:Qw Ih,g=ss.map D.str/\∀x∈ss,Q x:=by
 let hy:∀y∈g,∃x,y=.str x/\Q x:=λy hy=>by
  let⟨i,hi,e⟩:=qag.mp hy;let⟨z,ez,p⟩:=h i (ds[i]'(by lia)) (by simp)
  rw[JE hi]at ez
  obtain rfl:=JT ez;rw[<-e];exact hP _ _ p
 clear h hl
 induction g with
 |nil=>simp
 |cons y g ih=>
  let⟨x,e,q⟩:=hy y (Ik ..);let⟨ss,e2,q2⟩:=ih λz hz=>hy z (Ic _ hz)
  refine⟨x::ss,by rw[e,e2];rfl,λz hz=>?_⟩
  grind
def CM (z:Ih) (ys:Qw Ih) (h:(ys.map (·.length)).sum+ys.length*z.length<=16777216):zY (U (.str z)) (U (.lst (ys.map D.str)))=U (.str (ON z ys)):=by
 simp![zY,b2,ae,gd,xF,decide_eq_true_eq,if_pos h]
def rH {ss:Qw Ih}(h:∀x∈ss,x.length=1):(ss.map (·.length)).sum=ss.length:=by
 induction ss with
 |nil=>rfl
 |cons x r ih=>
  grind
@[simp] theorem lenS_s (z:Ih) (h:z.length<=lim):FO (U (.str z))=U (.int z.length):=by simp![FO,ae,gd,decide_eq_true_eq,if_pos h]
theorem eO (n d:Nat):sIx n d B=d:=rfl
def fO (n d k:Nat):sIx n d (U (k:Int))=min k n:=by
 rfl
def CF (x y:Ih):eqO (U (.str x)) (U (.str y))=U (decide (x=y)):=by
 rw[uV _ _ rfl];simp
end L2
namespace JP
open PySem L2
variable[Md]
inductive Ce where|nm (w:Ih)|bk (n:Int)
deriving DecidableEq,Inhabited
inductive Te where|any (l:Ih)|nm (w:Ih)
deriving DecidableEq
def ceD:Ce->D|.nm w=>.tup [.str "name",.str w]|.bk n=>.tup [.str "blank",.int n]
def mh {a b:Ce}(h:ceD a=ceD b):a=b:=by
 cases a<;>cases b<;>simp[ceD]at h
 ·rw[h]
 ·rw[h]
abbrev Row:=Ih×Qw Ce
abbrev Pat:=Ih×Qw Te
def rowD (r:Row):D:=.tup [.str r.1,.tup (r.2.map ceD)]
abbrev Fit:=Ih->Ce
def ev (φ:Fit):Te->Ce|.any l=>φ l|.nm w=>.nm w
def HF (rows:Qw Row) (φ:Fit) (p:Pat):Prop:=∃r∈rows,r.1=p.1/\r.2=p.2.map (ev φ)
def ans:Qw Te->Qw Ih
 |[]=>[]
 |.any l::ts=>l::ans ts
 |.nm _::ts=>ans ts
abbrev Bi:=Qw (Ih×Ce)
def gt (b:Bi) (l:Ih):Qq Ce:=(b.find? λq=>decide (q.1=l)).map (·.2)
def bnd:Qw Te->Qw Ce->Bi->Qq Bi
 |.any l::ts,c::cs,b=>(match gt b l with|some c'=>if c'=c then bnd ts cs b else B|none=>bnd ts cs (b++[(l,c)]))
 |.nm w::ts,c::cs,b=>if Ce.nm w=c then bnd ts cs b else B
 |_,_,b=>U b
def GL (p:Pat) (r:Row):Qq Bi:=if r.1=p.1/\r.2.length=p.2.length then bnd p.2 r.2 [] else B
def binds (rows:Qw Row) (p:Pat):Qw Bi:=rows.filterMap (GL p)
def vl (b:Bi) (ls:Qw Ih):Qw Ce:=ls.map λl=>(gt b l).getD default
abbrev Gr:=Qw (Qw Ce×Qw (Qw Ce))
def HE (g:Gr) (k:Qw Ce):Qw (Qw Ce):=((g.find? λq=>decide (q.1=k)).map (·.2)).getD []
def pk (c:Qw Ce) (ps:Qw Nat):Qw Ce:=ps.map λi=>c.getD i default
def ins (x:Qw Ce) (l:Qw (Qw Ce)):Qw (Qw Ce):=if x∈l then l else l++[x]
def p9 {x y:Qw Ce}{l:Qw (Qw Ce)}:y∈ins x l↔y∈l\/y=x:=by
 unfold ins;split
 ·constructor
  ·exact .inl
  ·lia
 ·simp
nonrec theorem wW {x:Qw Ce}{l:Qw (Qw Ce)}(h:l.Nodup):(ins x l).Nodup:=by
 unfold ins;split
 ·exact h
 ·rename_i n
  rw[IS];exact⟨h,by simp,λa ha b hb e=>n (by simp_all)⟩
def Hy (g:Gr) (sp kp:Qw Nat) (l:Qw (Qw Ce)) (c:Qw Ce):Qw (Qw Ce):=(HE g (pk c sp)).foldl (λl a=>ins (pk c kp++a) l) l
def ext (found:Qw (Qw Ce)) (sp kp:Qw Nat) (g:Gr):Qw (Qw Ce):=found.foldl (Hy g sp kp) []
structure Jn (rows:Qw Row) (kn:Qw Ih) (fd:Qw (Qw Ce)) (wanted:Qw Ih) (done rest:Qw Pat) (known:Qw Ih) (found:Qw (Qw Ce)):Prop where
 nk:known.Nodup
 nf:found.Nodup
 mem:∀x,x∈found↔∃φ:Fit,x=known.map φ/\kn.map φ∈fd/\∀p∈done,HF rows φ p
 has:∀l,(l∈kn\/∃p∈done,l∈ans p.2)->(l∈wanted\/∃p∈rest,l∈ans p.2)->l∈known
 few:∀l∈known,l∈wanted\/∃p∈rest,l∈ans p.2
end JP
namespace K22
open PySem L2 JP
variable[Md]
def opn {f:Qw D->Qq (D×Bool)}{n np:Nat}{g:DEnv->Qq Out}{ds:Qw D}{r:Qq (D×Bool)}(hf:f=bW n np g) (k:lN (g (pi n ds))=r) (hl:Nat.beq ds.length np=V:=by rfl):f ds=r:=by
 subst hf;rw[Br (Nat.eq_of_beq_eq_true hl)];exact k
def stO {i:Nat}{x:Qq D}{d:D}{δ:DEnv}{g:DEnv->Qq Out}{r:Qq (D×Bool)}(h:x=U d) (k:lN (g (δ.set i (U (d,Y))))=r) (hi:MW i δ.length=V:=by rfl):lN (au (bj i x δ) g)=r:=by
 simp_all
def stF {i:Nat}{x:Qq D}{d:D}{δ:DEnv}{g:DEnv->Qq Out}{r:Qq (D×Bool)}(h:x=U d) (k:lN (g (δ.set i (U (d,V))))=r) (hi:MW i δ.length=V:=by rfl):lN (au (gN i x δ) g)=r:=by
 simp_all
def stN {x:Qq Out}{δ:DEnv}{g:DEnv->Qq Out}{r:Qq (D×Bool)}(h:x=U (.next δ)) (k:lN (g δ)=r):lN (au x g)=r:=by
 subst h;exact k
def stI {c:Qq Bool}{x:Qq Out}{δ:DEnv}{g:DEnv->Qq Out}{r:Qq (D×Bool)}(h:c=U Y) (k:lN (g δ)=r):lN (au (ifO c x (nextO δ)) g)=r:=by
 subst h;exact k
def stR {c:Qq Bool}{x:Qq D}{d:D}{y:Qq Out}{δ:DEnv}{g:DEnv->Qq Out}(h:c=U V) (k:x=U d):lN (au (ifO c (cG x δ) y) g)=U (d,Y):=by
 subst h k;rfl
def rO {x:Qq D}{d:D}{δ:DEnv}(h:x=U d):lN (cG x δ)=U (d,Y):=by subst h;rfl
def rF {x:Qq D}{d:D}{δ:DEnv}(h:x=U d):lN (dz x δ)=U (d,V):=by subst h;rfl
section
variable{x y:Qq D}{a b:Int}
def ni (h:x=U (.int a)) (h':y=U (.int b)) (hb:0<b):c9 x y=U (.int (a%b)):=by simp_all
def vS (h:x=U (.int a)) (h':y=U (.int b)) (hb:0<b/\b<1073741824):iS x y=U (.int (a / b)):=by subst h h';exact divI_s _ _ hb
def vT (h:x=U (.int a)) (h':y=U (.int b)):dY x y=U (.int (a+b)):=by simp_all
def ug {ds:Qw D}(h:x=U (.lst ds)):cS x=U (.int ds.length):=by simp_all
def ixG {ds:Qw D}{i:Int}{d:D}(h:x=U (.lst ds)) (h':y=U (.int i)) (e:atI ds i=U d):ixO x y=U d:=by simp_all
def eqG {a b:Int}(h:x=U (.int a)) (h':y=U (.int b)):eqO x y=U (decide (a=b)):=by simp_all
end
def az {α:Type}{x:Qq α}{β:Type}{f:α->Qq β}{a:α}{r:Qq β}(h:x=U a) (k:f a=r):ae x f=r:=by subst h;exact k
def Hr {x:Qq D}{j:Int}(h:x=U (.int j)) (hj: -(2 ^ 62)<=j/\j<2 ^ 62):nG x=U (jK 0 j.toNat):=by subst h;exact jq j hj
def ixA {x:Qq D}{a b:D}(h:x=U (.tup [a,b])):ixO x (U (.int 0))=U a/\ixO x (U (.int 1))=U b:=by subst h;trivial
def lO {x y:Qq D}{a b:D}(h:x=U a) (h':y=U b):dh (aa x (aa y (U [])))=U (.tup [a,b]):=by simp_all
def frG {x:Qq (D×Bool)}{d:Qw D}(h:x=U (.lst d,V)):frO x=U (.lst d):=by subst h;rfl
def i5 {bs:Qw Bool}{τ:D->DEnv->Qq DEnv}{ft:DEnv->Qq Bool}{fe:DEnv->Qq D}{δ ε:DEnv}{x:Qq (Qw D)}{ds es:Qw D}(hx:x=U ds) (hl:ds.length<=1000) (hm:cx Y bs δ=ε) (h:bD (cw τ ft fe ε) ds=U es) (he:es.length<=1000):ar (ae x (bA Y bs τ ft fe δ))=U (.lst es):=by
 subst hx hm;rw[bindO_s,sD (by simp;lia),h,lstLim_s]
def itG {i:Nat}{fe:DEnv->Qq D}{ε:DEnv}{d e:D}(h:fe (ε.set i (U (d,Y)))=U e) (hi:MW i ε.length=V:=by rfl):cw (af i) (λδ=>U V) fe ε d=U (U e):=by
 unfold cw
 simp_all
theorem qg {α β:Type}{f:α->D}{g:β->D}{P:β->Prop}{F:D->Qq (Qq D)}:∀{xs:Qw α},(∀x∈xs,∃b,P b/\F (f x)=U (U (g b)))->∃bs:Qw β,bs.length=xs.length/\(∀b∈bs,P b)/\bD F (xs.map f)=U (bs.map g)
 |[],_=>⟨[],rfl,(λ_ h=>nomatch h),rfl⟩
 |x::xs,h=>by
  let⟨b,hb,e⟩:=h x (.head _);let⟨bs,h1,h2,h3⟩:=qg λx hx=>h x (.tail _ hx)
  refine⟨b::bs,by simp[h1],λc hc=>?_,?_⟩
  ·grind
  ·rw[HP];unfold bD;rw[h3,e];rfl
def sd {β:Type}{g:β->D}{P:β->Prop}{F:D->Qq (Qq D)}{n:Nat}(h:∀k:Nat,k<n->∃b,P b/\F (.int (0+(k:Int)))=U (U (g b))):∃bs:Qw β,bs.length=n/\(∀b∈bs,P b)/\bD F (jK 0 n)=U (bs.map g):=by
 let⟨bs,h1,h2,h3⟩:=qg (f:=λk:Nat=>D.int (0+(k:Int))) (xs:=Iu n) λk hk=>h k (qad.mp hk)
 exact⟨bs,by simpa using h1,h2,h3⟩
theorem yD {α β γ:Type}{f:α->D}{P:β->Prop}{body:D->DEnv->Qq Out}{E:Qw β->γ->DEnv}:∀{xs:Qw α}{acc:Qw β}{y:γ},acc.length+xs.length<=1000->(∀x∈xs,∀acc y,acc.length<=1000->∃b y',P b/\body (f x) (E acc y)=U (.next (E (acc++[b]) y')))->∃bs y',bs.length=xs.length/\(∀b∈bs,P b)/\aq body (xs.map f) (E acc y)=U (.next (E (acc++bs) y'))
 |[],acc,y,_,_=>⟨[],y,rfl,(λ_ h=>nomatch h),by simp[aq]⟩
 |x::xs,acc,y,hl,h=>by
  simp![H3]at hl;let⟨b,y1,hb,e⟩:=h x (.head _) acc y (by lia)
  let⟨bs,y2,h1,h2,h3⟩:=yD (xs:=xs) (acc:=acc++[b]) (y:=y1) (by simp;lia) λx hx=>h x (.tail _ hx)
  refine⟨b::bs,y2,by simp[h1],λc hc=>?_,?_⟩
  ·grind
  ·unfold aq;simp_all
theorem l7 {α β γ:Type}{f:α->D}{h:α->β}{body:D->DEnv->Qq Out}{E:Qw β->γ->DEnv}:∀{xs:Qw α}{acc:Qw β}{y:γ},acc.length+xs.length<=1000->(∀x∈xs,∀acc y,acc.length<=1000->∃y',body (f x) (E acc y)=U (.next (E (acc++[h x]) y')))->∃y',aq body (xs.map f) (E acc y)=U (.next (E (acc++xs.map h) y'))
 |[],acc,y,_,_=>⟨y,by simp[aq]⟩
 |x::xs,acc,y,hl,hb=>by
  simp![H3]at hl;let⟨y1,e⟩:=hb x (.head _) acc y (by lia)
  let⟨y2,h3⟩:=l7 (xs:=xs) (acc:=acc++[h x]) (y:=y1) (by simp;lia) λx hx=>hb x (.tail _ hx)
  exact⟨y2,by unfold aq;simp_all⟩
def sqO {i:Nat}{x:Qq D}{d:D}{δ:DEnv}{g:DEnv->Qq Out}{r:Qq Out}(h:x=U d) (k:g (δ.set i (U (d,Y)))=r) (hi:MW i δ.length=V:=by rfl):au (bj i x δ) g=r:=by
 simp_all
def sqF {i:Nat}{x:Qq D}{d:D}{δ:DEnv}{g:DEnv->Qq Out}{r:Qq Out}(h:x=U d) (k:g (δ.set i (U (d,V)))=r) (hi:MW i δ.length=V:=by rfl):au (gN i x δ) g=r:=by
 simp_all
def rtG {x:Qq D}{d:D}{δ:DEnv}(h:x=U d):cG x δ=U (.ret d Y δ):=by subst h;rfl
def Ht {x y z:Qq D}{a b c:D}(h:x=U a) (h':y=U b) (h2:z=U c):dh (aa x (aa y (aa z (U []))))=U (.tup [a,b,c]):=by simp_all
def Ex {α:Type}{f:α->D}(hf:∀a b,f a=f b->a=b) (ok:∀a,okD 16 (f a)=V) (a:α) (as:Qw α) [Decidable (a∈as)]:o4 (U (f a)) (U (.lst (as.map f)))=U (!decide (a∈as)):=by
 unfold o4 inO;simp![fW,b2,ae,gd];rw[if_pos]
 ·show U (!_)=_
  grind
 simp_all
def ifT {c:Qq Bool}{x y r:Qq Out}{g:DEnv->Qq Out}(h:c=U V) (k:au x g=r):au (ifO c x y) g=r:=by subst h;exact k
def ifF {c:Qq Bool}{x y r:Qq Out}{g:DEnv->Qq Out}(h:c=U Y) (k:au y g=r):au (ifO c x y) g=r:=by subst h;exact k
def sqN {x r:Qq Out}{δ:DEnv}{g:DEnv->Qq Out}(h:x=U (.next δ)) (k:g δ=r):au x g=r:=by subst h;exact k
theorem sN {α β γ:Type}{f:α->D}{h:α->Qw β}{body:D->DEnv->Qq Out}{E:Qw β->γ->DEnv}{PA:Nat}:∀{xs:Qw α}{acc:Qw β}{y:γ},acc.length+(xs.flatMap h).length<=PA->(∀x∈xs,∀acc y,acc.length+(h x).length<=PA->∃y',body (f x) (E acc y)=U (.next (E (acc++h x) y')))->∃y',aq body (xs.map f) (E acc y)=U (.next (E (acc++xs.flatMap h) y'))
 |[],acc,y,_,_=>⟨y,by simp[aq]⟩
 |x::xs,acc,y,hl,hb=>by
  rw[qaE,IJ]at hl;let⟨y1,e⟩:=hb x (.head _) acc y (by lia)
  let⟨y2,h3⟩:=sN (xs:=xs) (acc:=acc++h x) (y:=y1) (by rw[IJ];lia) λx hx=>hb x (.tail _ hx)
  exact⟨y2,by unfold aq;simp_all⟩
def Ho {δ:DEnv}{i:Nat}{ds:Qw D}{x:Qq D}{d:D}(hx:x=U d) (h:δ[i]?=U (U (.lst ds,V))) (hl:ds.length<=100000):ui i x δ=U (.next (δ.set i (U (.lst (ds++[d]),V)))):=by
 subst hx;exact sE d h (by simp;lia)
def Hc {δ:DEnv}{i:Nat}{ds es:Qw D}{x:Qq D}(hx:x=U (.lst es)) (h:δ[i]?=U (U (.lst ds,V))) (hl:ds.length+es.length<=100000):AV i x δ=U (.next (δ.set i (U (.lst (ds++es),V)))):=by
 subst hx;exact FI h (by simp;lia)
theorem me {α β:Type}{h:α->Qw β}{k:Nat}:∀{xs:Qw α},(∀x∈xs,(h x).length<=k)->(xs.flatMap h).length<=k*xs.length
 |[],_=>HQ _
 |x::xs,hh=>by
  let h1:=hh x (.head _);let h2:=me (xs:=xs) λy hy=>hh y (.tail _ hy)
  rw[qaE,IJ,H3,NT];lia
def gR {α:Type}{f:α->D}(h1:∀a,okD 15 (f a)=V) (h2:∀a b,(ltD 15 (f a) (f b)).isSome=V) (as:Qw α):eZ (as.map f)=V:=by
 unfold eZ
 simp_all
def dr {α:Type}{f:α->D}{p:D->Bool}(h:∀a,p (f a)=V) (as:Qw α):(as.map f).all p=V:=by simp_all
def sq {α:Type}{F:α->D}{l:Qw D}{P:α->Prop}(h:∀x∈l,∃a,P a/\x=F a):∃as:Qw α,l=as.map F/\∀a∈as,P a:=by
 induction l with
 |nil=>exact⟨[],rfl,by simp⟩
 |cons x l ih=>
  let⟨a,pa,e⟩:=h x (Ik ..);let⟨as,e2,pas⟩:=ih λy hy=>h y (Ic _ hy)
  refine⟨a::as,by rw[e,e2];rfl,λb hb=>?_⟩
  grind
open L2.G (uniqD scD uniqD_mem uniqD_len uniqD_nodup) in
theorem Ej {α:Type}{f:α->D}(hf:∀a b,f a=f b->a=b) (xs:Qw α):∃ys:Qw α,aY (uniqD (xs.map f))=ys.map f/\ys.Nodup/\(∀a,a∈ys↔a∈xs)/\ys.length<=xs.length:=by
 let hp:=ax (uniqD (xs.map f));let⟨ys,e,_⟩:=sq (F:=f) (P:=λ_=>True) (l:=aY (uniqD (xs.map f))) λd hd=>by
  let⟨a,_,e⟩:=mt.mp ((uniqD_mem _ _).mp (hp.mem_iff.mp hd));exact⟨a,trivial,e.symm⟩
 let hm:∀a,a∈ys↔f a∈ys.map f:=λa=>⟨H4,λh=>by grind⟩
 refine⟨ys,e,(qak.mp (e▸hp.nodup_iff.mpr (uniqD_nodup _))).imp λh z=>h (z▸rfl),λa=>?_,?_⟩
 ·rw[hm,<-e,hp.mem_iff,uniqD_mem]
  exact⟨λh=>by grind,H4⟩
 ·have:=hp.length_eq
  rw[e,HT]at this;let h2:=uniqD_len (xs.map f);rw[HT]at h2;lia
open L2.G (uniqD scD uniqD_len) in
theorem EX {α:Type}{f:α->D}{c:KD}{sc:Bool}(k1:∀a,iT c (f a)=V) (k2:∀a,cT 8 (f a)=V) (k3:∀a,(scD (f a)==sc)=V) (hc:∀as:Qw α,eZ (as.map f)=V) {xs:Qw α}(h:xs.length<64):sortSetO c sc (U (.lst (xs.map f)))=U (.lst (aY (uniqD (xs.map f)))):=by
 let hu:=uniqD_len (xs.map f);rw[HT]at hu;unfold sortSetO;dsimp only;rw[if_pos];rw[hc,dr k1,dr k2,dr (p:=λd=>scD d==sc) k3,decide_eq_true (by lia)]
 rfl
def ifG {c:Qq Bool}{x y r:Qq Out}(h:c=U V) (k:x=r):ifO c x y=r:=by subst h;exact k
def ifN {c:Qq Bool}{x y r:Qq Out}(h:c=U Y) (k:y=r):ifO c x y=r:=by subst h;exact k
def shG {x:Qq (D×Bool)}{d:D}{b:Bool}(h:x=U (d,b)):shO x=U d:=by subst h;rfl
theorem j4 {α σ γ:Type}{f:α->D}{F:σ->α->σ}{m:σ->Nat}{body:D->DEnv->Qq Out}{E:σ->γ->DEnv}{k PA:Nat}:∀{xs:Qw α}{s:σ}{y:γ},m s+k*xs.length<=PA->(∀x∈xs,∀s y,m s+k<=PA->m (F s x)<=m s+k/\∃y',body (f x) (E s y)=U (.next (E (F s x) y')))->m (xs.foldl F s)<=m s+k*xs.length/\∃y',aq body (xs.map f) (E s y)=U (.next (E (xs.foldl F s) y'))
 |[],s,y,_,_=>⟨HQ _,y,rfl⟩
 |x::xs,s,y,hl,h=>by
  rw[H3,NT]at hl⊢;let⟨h1,y1,e⟩:=h x (.head _) s y (by lia)
  let⟨h2,y2,e2⟩:=j4 (xs:=xs) (s:=F s x) (y:=y1) (by lia) λx hx=>h x (.tail _ hx)
  rw[L7];exact⟨by lia,y2,by rw[HP];unfold aq;rw[e];exact e2⟩
def rdv (m:Bool) (x:Qq (Qq (D×Bool))) (δ:DEnv):Qq D:=match x with|some (U x)=>(match res δ x with|some (d,o)=>if(o&&!m)=V then B else U d|none=>B)|_=>B
theorem xV (m:Bool) (i:Nat) (δ:DEnv):rd m i δ=rdv m δ[i]? δ:=(rfl)
theorem kA (m:Bool) (d:D) (δ:DEnv):rdv m (U (U (d,Y))) δ=U d:=(rfl)
theorem kI (ds:Qw D) (δ:DEnv):rdv V (U (U (.lst ds,V))) δ=U (.lst ds):=(rfl)
end K22
namespace L2
open PySem PySem.Spec PyProof.Rows Md
variable[Md]
structure Lent (X:Cx) (M:Mp) (s:HN) (as:Qw HZ) (σ:Qw D):Prop where
 fr:∀a∈as,Fre X M a
 nd:as.Nodup
 len:as.length=σ.length
 ob:∀(p:Nat) a d,as[p]?=U a->σ[p]?=U d->∃o,s.heap.get? a=U o/\Ow o/\Ca M d o
open Classical in
noncomputable def yn (M:Mp) (h:Jr) (as:Qw HZ):Mp:=λa=>if a∈as then(h.get? a).map λo=>(.s (as.idxOf a),o) else cal Y Y M h as a
open Classical in
noncomputable def drp (as:Qw HZ) (M:Mp):Mp:=λa=>if a∈as/\∀o,M a≠U (.f,o) then B else M a
section
variable{X:Cx}{M M':Mp}{δ:DEnv}{s s':HN}{as:Qw HZ}{σ:Qw D}{Q:HM->HN->Prop}{k p:Nat}{f:Qw D->Qw D->Qq (D×Bool×DEnv)}
def BX:Sub Y M Y (drp as M):=λa o q=>by
 rw[rdf]at q⊢;unfold drp;rw[if_neg λz=>z.2 o q];exact q
def iV (h:drp as M a=U x):M a=U x/\(a∉as\/∃o,M a=U (.f,o)):=by
 unfold drp at h
 lia
def Inv.basW (I:Inv X M δ s) (L:Lent X M s as σ):Bas (yn M s.heap as) s as:=by
 let⟨h1,h2,h3,h4⟩:=I.calI (m:=Y) (ko:=Y) L.fr;let nb:∀{b k o},M b=U (k,o)->b∉as:=λe z=>by rw[(L.fr _ z).m]at e;cases e
 let ns:∀{b},b∉as->yn M s.heap as b=cal Y Y M s.heap as b:=λz=>if_neg z
 let yes:∀{b},b∈as->yn M s.heap as b=(s.heap.get? b).map λo=>(.s (as.idxOf b),o):=λz=>if_pos z
 let ex:∀{b},b∈as->∃(p:Nat) (d:D) (o:LW),as[p]?=U b/\as.idxOf b=p/\σ[p]?=U d/\s.heap.get? b=U o/\Ow o/\Ca M d o:=λ{b} z=>by
  let⟨p,hp⟩:=List.mem_iff_getElem?.mp z;let hl:=(List.getElem?_eq_some_iff.mp hp).1
  let⟨o,w⟩:=L.ob p b (σ[p]'(by rw[<-L.len];exact hl)) hp (by simp)
  refine⟨p,_,o,hp,?_,by simp,w⟩
  let⟨_,e⟩:=List.getElem?_eq_some_iff.mp hp
  rw[<-e];exact N5 L.nd p hl
 refine⟨I.og,λb k o e=>?_,λb o e=>?_,h3.to (λb o q=>?_) (λq hq=>?_) (λ_ _ _ h=>h),λb k o e w=>?_,λb o e=>?_,λk o e=>?_⟩
 ·by_cases z:b∈as
  ·simp_all
  ·rw[ns z]at e;exact h1 _ _ _ e
 ·rw[ns (nb (I.base b o e))];exact h2 b o e
 ·rw[rdf]at q⊢
  rw[ns];exact q;intro z;unfold cal at q;rw[(L.fr _ z).m]at q;dsimp only at q;rw[if_pos (.inl z)]at q;cases q
 ·rw[ns λz=>(L.fr _ z).t q hq rfl];exact(h3 q hq).1
 ·by_cases z:b∈as
  ·let⟨p,d,o',e1,e2,_,e3,e4,_⟩:=ex z
   rw[yes z,e3,e2]at e;cases e;exact⟨e4,p,rfl,e1⟩
  ·rw[ns z]at e;exact absurd (h4 b k o w e).1 JM
 ·by_cases z:b∈as
  ·rw[yes z,e];exact .inl (by simp)
  ·rw[ns z]
   unfold cal;cases h:M b with
   |some x=>exact .inl (by simp)
   |none=>simp![e];by_cases t:∃q∈tb,b=q.1
          ·exact .inr t
          ·exact .inl (by rw[if_neg (by rintro(y|y);exact z y;exact t y)];simp)
 ·by_cases z:sysModules∈as
  ·exact absurd rfl (L.fr _ z).s
  ·rw[ns z]at e;exact I.calS e
def kS {us:Qw HM}{RR:L9->HN->Prop}{A:Ia}(F:FnA p k f) (hr:Room k A) (I:Inv X M δ s) (L:Lent X M s as σ) (av:Avs M as ds us) (e:f ds σ=U (r,fr,σ'))
  (kk:∀v s' M',Ext M M'->Inv X M' δ s'->(∀(p:Nat) a d,as[p]?=U a->σ'[p]?=U (U (d,V))->Fre X M' a/\∃o,s'.heap.get? a=U o/\Ow o/\Ca M' d o)->(fr=Y->R Y M' r v)->(fr=V->(Fn X M' s' Y r v/\∀a∈as,v≠.ref a)\/Fi X M' s' Y r v)->RR (.ok (.ret v)) s'):codeAny (model P w) A (.call (.ref p) ⟨us,[]⟩) RR s:=by
 let PA:=I.basW L;let fw:∀{a o},M a=U (.f,o)->yn M s.heap as a=U (.f,o):=λ{a o} q=>by
  unfold yn;rw[if_neg λz=>by rw[(L.fr _ z).m]at q;cases q];unfold cal;rw[q];rfl
 let sbC:Sub Y M Y (yn M s.heap as):=λa o q=>rdf.mpr (fw (rdf.mp q))
 let av':Avs (yn M s.heap as) as ds us:=by
  clear e
  induction ds generalizing us with
  |nil=>exact av
  |cons d ds ih=>
   let⟨u,r,rfl,h1,h2⟩:=av;refine⟨u,r,rfl,?_,ih h2⟩
   cases d with
   |loc c q=>
    cases c with
    |none=>exact h1
    |some c=>let⟨a,x,ox,w1,w2,w3,w4⟩:=h1;exact⟨a,x,ox,w1,w2,fw w3,w4⟩
   |_=>exact R.to sbC h1
 let idx:∀{q:Nat}{a:HZ},as[q]?=U a->as.idxOf a=q:=λ{q a} h=>by
  let⟨hl,e⟩:=List.getElem?_eq_some_iff.mp h
  rw[<-e];exact N5 L.nd q hl
 refine Mx (F as hr I.ok.mod PA av' L.len (λq a d h1 h2=>?_) e) λres s' hz=>?_
 ·let⟨o,w1,w2,w3⟩:=L.ob q a d h1 h2
  exact⟨o,by unfold yn;rw[if_pos (HR h1),w1,idx h1];rfl,w3.to sbC⟩
 let⟨v,X',M1,δ1,rfl,x1,J,hS,hσ,rt⟩:=hz;let J':Lft (drp as M1) s':=⟨J.og,λa k o q=>J.heap _ _ _ (iV q).1,J.tabs.to BX (λq hq=>?_) (λ_ _ _ h=>h),λk o q=>J.sys _ _ (iV q).1⟩
 rotate_left
 ·cases q2:drp as M1 q.1 with
  |none=>rfl
  |some x=>have:=(iV q2).1;rw[(J.tabs q hq).1]at this;cases this
 let nin:∀{a k o},cal Y Y M s.heap as a=U (k,o)->a∉as:=λ{a k o} q z=>by
  unfold cal at q;rw[(L.fr _ z).m]at q;dsimp only at q;rw[if_pos (.inl z)]at q;cases q
 let toC:∀{a k o},cal Y Y M s.heap as a=U (k,o)->yn M s.heap as a=U (k,o):=λq=>(if_neg (nin q)).trans q
 let keep:∀{a},a∉as->drp as M1 a=M1 a:=λz=>if_neg λw=>z w.1
 let x1':Sx (cal Y Y M s.heap as) (drp as M1):=by
  refine⟨λa o q=>?_,λa o q=>?_,λa o q=>?_⟩
  ·rw[rdf]at q
   exact BX _ _ (x1.f _ _ (rdf.mpr (toC q)))
  ·rw[keep (nin q)];exact x1.p _ _ (toC q)
  ·let⟨q1,q2⟩:=iV q
   have:=x1.n _ _ q1
   rcases q2 with z|⟨o',z⟩
   ·exact(if_neg z).symm.trans this
   ·rw[z]at q1;cases q1
 let⟨I2,sb⟩:=I.ret (m:=Y) (ko:=Y) J' L.fr (λa ha _=>(J.sx a (by rw[hS];exact ha)).1) x1' (λa k o w z=>absurd (((I.calI (m:=Y) (ko:=Y) L.fr).2.2.2 a k o w z).1) JM)
 let sb1:Sub Y M1 Y (bak M s.heap as (drp as M1)):=λa o q=>sb _ _ (BX _ _ q)
 let newIn:∀{c o},(Free X' M1 c\/∃i,M1 c=U (.o i,o))->c∉as/\Free X (bak M s.heap as (drp as M1)) c:=λz=>(I.newIn J PA x1 (λa=>by by_cases y:a∈as/\∀o,M1 a≠U (.f,o);exact .inr ⟨y.1,if_pos y⟩;exact .inl (if_neg y)) hS z).2
 refine kk v s' _ i8 I2 (λq a d h1 h2=>?_) (λz=>?_) λz=>?_
 ·subst hσ
  rw[List.getElem?_drop]at h2
  let⟨o,w1,w2⟩:=J.sto q a d (by rw[hS];exact h1) h2
  let f:=L.fr a (HR h1);refine⟨⟨?_,f.l,f.c,f.t,f.s⟩,o,J.heap _ _ _ w1,J.own _ _ _ w1 rfl,w2.to sb1⟩
  unfold bak;rw[f.m];dsimp only;have:drp as M1 a=B:=if_pos ⟨HR h1,λo' z=>by lia⟩
  split
  ·rfl
  ·rw[this]
 ·subst z;exact R.to sb1 rt
 ·subst z
  rcases rt with⟨c,o,rfl,hc,cc,z⟩|⟨c,ks,ds,y,oy,a,o,vs,e1,e2,e3,e4,e5,e6,e7,z⟩
  ·exact .inl ⟨⟨c,o,rfl,(newIn z).2,hc,cc.to sb1⟩,λa ha w=>by cases w;exact(newIn z).1 ha⟩
  ·exact .inr ⟨c,ks,ds,y,oy,a,o,vs,e1,e2,sb1 _ _ (rdf.mpr e3),λ_=>rdf.mp (sb1 _ _ (rdf.mpr e3)),e4,(newIn z).2,e5,e6,e7.to sb1⟩
def lJ {us:Qw HM}{RR:L9->HN->Prop}{A:Ia}(F:FnA p k f) (hr:Room k A) (I:Inv X M δ s) (L:Lent X M s as σ) (av:Avs M as ds us) (e:f ds σ=U (r,fr,σ'))
  (kk:∀v s' M',Ext M M'->Inv X M' δ s'->(∀(p:Nat) a d,as[p]?=U a->σ'[p]?=U (U (d,V))->Fre X M' a/\∃o,s'.heap.get? a=U o/\Ow o/\Ca M' d o)->(fr=Y->R Y M' r v)->(fr=V->Fn X M' s' Y r v\/Fi X M' s' Y r v)->RR (.ok (.ret v)) s'):codeAny (model P w) A (.call (.ref p) ⟨us,[]⟩) RR s:=
 kS F hr I L av e λv s' M' h1 h2 h3 h4 h5=>kk v s' M' h1 h2 h3 h4 λz=>(h5 z).imp And.left id
def n9 {us:Qw HM}{E:HM->HN->Prop}{A:Ia}(F:FnA p k f) (hr:Room k A) (I:Inv X M δ s) (L:Lent X M s as σ) (av:Avs M as ds us) (e:f ds σ=U (r,fr,σ'))
  (kk:∀v s' M',Ext M M'->Inv X M' δ s'->(∀(p:Nat) a d,as[p]?=U a->σ'[p]?=U (U (d,V))->Fre X M' a/\∃o,s'.heap.get? a=U o/\Ow o/\Ca M' d o)->(fr=Y->R Y M' r v)->(fr=V->Fn X M' s' Y r v\/Fi X M' s' Y r v)->Q v s'):wpAny (model P w) A (call (.ref p) us) Q E s:=
 Nn (lJ F hr I L av e λv s' M' h1 h2 h3 h4 h5=>kk v s' M' h1 h2 h3 h4 h5)
def Inv.lendS (I:Inv X M δ s) (e:δ[X.N.length+p]?=U (U (d,V))) (hp:X.S[p]?=U a):∃o,M a=U (.s p,o)/\s.heap.get? a=U o/\Ow o/\Ca M d o/\Fre X (upd M a B) a/\Inv X (upd M a B) (δ.set (X.N.length+p) B) s/\Sub Y M Y (upd M a B):=by
 let⟨o,q,ca⟩:=I.sto p a d hp e;let fwd:∀{b k ob},M b=U (k,ob)->k≠.s p->upd M a B b=U (k,ob):=λ{b k ob} h w=>by rw[ai (λz=>by lia)];exact h
 let bwd:∀{b k ob},upd M a B b=U (k,ob)->M b=U (k,ob)/\b≠a:=λ{b k ob} h=>by
  by_cases z:b=a
  ·simp_all [ah]
  ·rw[ai z]at h;exact⟨h,z⟩
 let hs:Sub Y M Y (upd M a B):=λb ob r=>rdf.mpr (fwd (rdf.mp r) λz=>nomatch z)
 refine⟨o,q,I.heap _ _ _ q,I.own _ _ _ q rfl,ca,⟨ah,λz=>?_,λy z=>?_,λt ht z=>?_,λz=>?_⟩,I.mp hs (λb k ob z=>I.heap _ _ _ (bwd z).1) (λ_ _ _ _ z=>z) (λb ob z _=>fwd z λw=>(nomatch w)) (λb z _=>?_) (λb k ob z=>I.own _ _ _ (bwd z).1) (λb c k ob oc w z z'=>I.uni _ _ _ _ _ w (bwd z).1 (bwd z').1) (λk ob z=>I.sys _ _ (bwd z).1) (by simp) (λj y e1 b e2 e3 e4=>?_) (λq b d' h z=>?_) λb _=>⟨λk ob z=>⟨ob,I.heap _ _ _ z⟩,λk ob z _=>.inl ⟨ob,(bwd z).1⟩⟩,hs⟩
 ·simp_all [z,I.free]
 ·rcases(I.cell y a z).2 with w|⟨_,_,w⟩<;>rw[w]at q<;>cases q
 ·rw[z,(I.tabs t ht).1]at q;cases q
 ·rw[z]at q;exact nomatch I.sys _ _ q
 ·by_cases w:b=a
  ·lia
  ·rw[ai w];exact z
 ·let hj:=(List.getElem?_eq_some_iff.mp e2).1
  rw[H0 (by lia)]at e4
  exact⟨e1,b,e4,λu _ v=>v.to hs λc k ob hk z=>fwd z (by lia)⟩
 ·by_cases y:q=p
  ·subst y;rw[LC]at z;split at z<;>simp_all
  ·rw[H0 (by lia)]at z
   exact .inl ⟨z,λob w=>fwd w λh=>y (by injection h)⟩
def Inv.regainS (I:Inv X M δ s) (hp:X.S[p]?=U a) (f:Fre X M a) (he:s.heap.get? a=U o) (ho:Ow o) (hc:Ca M d o) (no:∀b ob,M b≠U (.s p,ob)):Inv X (upd M a (U (.s p,o))) (δ.set (X.N.length+p) (U (d,V))) s/\Sub Y M Y (upd M a (U (.s p,o))):=by
 let na:∀{b k ob},M b=U (k,ob)->b≠a:=λh z=>by simp_all [f.m]
 let fwd:∀{b k ob},M b=U (k,ob)->upd M a (U (.s p,o)) b=U (k,ob):=λh=>by rw[ai (na h)];exact h
 let kn:∀{b k ob},upd M a (U (.s p,o)) b=U (k,ob)->(b=a/\k=.s p/\ob=o)\/M b=U (k,ob):=λ{b k ob} h=>by
  by_cases z:b=a
  ·simp_all [ah]
  ·rw[ai z]at h;exact .inr h
 let hs:Sub Y M Y (upd M a (U (.s p,o))):=λb ob r=>rdf.mpr (fwd (rdf.mp r))
 refine⟨I.mp hs (λb k ob z=>(kn z).elim (λw=>by rw[w.1,w.2.2];exact he) (I.heap _ _ _)) (λ_ _ _ _ z=>z) (λb ob z _=>fwd z) (λb z w=>?_) (λb k ob z w=>(kn z).elim (λy=>by rw[y.2.2];exact ho) λy=>I.own _ _ _ y w) (λb c k ob oc w z z'=>?_) (λk ob z=>(kn z).elim (λy=>absurd y.1.symm f.s) (I.sys _ _)) (by simp) (λj y' e1 b e2 e3 e4=>?_) (λq b d' h z=>?_) λb hb=>⟨λk ob z=>⟨ob,I.heap _ _ _ z⟩,λk ob z _=>(kn z).elim (λy=>.inr ⟨p,y.2.1⟩) λy=>.inl ⟨ob,y⟩⟩,hs⟩
 ·rw[ai (λy=>w (by rw[y];exact f))];exact z
 ·rcases kn z with⟨z1,z2,_⟩|z1<;>rcases kn z' with⟨y1,y2,_⟩|y1
  ·rw[z1,y1]
  ·rw[z2]at y1;exact absurd y1 (no _ _)
  ·rw[y2]at z1;exact absurd z1 (no _ _)
  ·exact I.uni _ _ _ _ _ w z1 y1
 ·let hj:=(List.getElem?_eq_some_iff.mp e2).1
  rw[H0 (by lia)]at e4
  exact⟨e1,b,e4,λu _ v=>v.to hs λc k ob _ z=>fwd z⟩
 ·by_cases y:q=p
  ·subst y
   rw[hp]at h;cases h;rw[LC]at z
   split at z<;>try contradiction
   split at z<;>cases z
   exact .inr ⟨o,ah,hc.to hs⟩
  ·rw[H0 (by lia)]at z
   exact .inl ⟨z,λob w=>fwd w⟩
end
end L2
namespace L2
open PySem PySem.Spec PyProof.Rows PySem.W Md Builtin Builtin.ObjectAttr
variable[Md]
theorem At.len:∀{ks:Qw Ih}{vs es},At ks vs es->es.length=ks.length/\vs.length=ks.length
 |[],_,_,⟨rfl,rfl⟩=>⟨rfl,rfl⟩
 |k::ks,_,_,⟨v0,r,e,t,tk0,rfl,rfl,_,_,h3⟩=>by have:=h3.len;simp[this]
theorem At.get:∀{ks:Qw Ih}{vs es} (name:Ih),At ks vs es->getL name es=U (aP name ks vs)
 |[],_,_,name,⟨rfl,rfl⟩=>rfl
 |k::ks,_,_,name,⟨v,r,e,t,tk,rfl,rfl,h1,h2,h3⟩=>by
  let ih:=h3.get name;unfold getL at ih⊢;let hs:e.key.isStr name=(k==name):=by rw[h1];rfl
  let hr:e.refKey=Y:=by unfold DictEntry.refKey;rw[h1]
  unfold aP
  by_cases z:k=name
  ·rw[List.find?_cons_of_pos (by rw[hs];simp[z]),if_pos z,<-h2]
  ·rw[List.find?_cons_of_neg (by rw[hs];simpa using z),if_neg z,List.any_cons,hr,Bool.false_or];exact ih
omit [Md] in
theorem tG {κ:Type}[DecidableEq κ] (n k:κ) (ks:Qw κ):aC n (k::ks)=if k=n then k::ks else k::aC n ks:=by
 unfold aC;simp;lia
omit [Md] in
theorem vL {κ β:Type}[DecidableEq κ] (n k:κ) (ks:Qw κ) (v x:β) (r:Qw β):bB n v (k::ks) (x::r)=if k=n then v::bN n v ks r else x::bB n v ks r:=by
 unfold bB
 by_cases z:k=n
 ·subst z;simp[bN]
 ·have:(n∈k::ks)↔n∈ks:=⟨λh=>(qaa.mp h).resolve_left λw=>z w.symm,λh=>.tail _ h⟩
  simp![this,if_neg z,bN];split<;>rfl
omit [Md] in
theorem r6 {κ β:Type}[DecidableEq κ] {n:κ}{v:β}:∀{ks:Qw κ}{r:Qw β},n∉ks->ks.length=r.length->bN n v ks r=r
 |[],[],_,_=>rfl
 |a::ks,b::r,h,h'=>by unfold bN;rw[if_neg (λz:a=n=>h (by rw[z];exact Ik ..)),r6 (λz=>h (.tail _ z)) (by simpa using h')]
theorem At.put (name:Ih) (v:HM) (hsh:Int) (tk:Tok):∀{ks:Qw Ih}{vs es},At ks vs es->ks.Nodup->At (aC name ks) (bB name v ks vs) (putL name hsh (.str name tk) v es)
 |[],_,_,⟨rfl,rfl⟩,_=>⟨v,[],_,[],tk,rfl,rfl,rfl,rfl,rfl,rfl⟩
 |k::ks,_,_,⟨v0,r,e,t,tk0,rfl,rfl,h1,h2,h3⟩,nd=>by
  let hs:e.key.isStr name=(k==name):=by rw[h1];rfl
  let nd':=qae.mp nd;rw[tG,vL];unfold putL
  by_cases z:k=name
  ·subst z
   rw[if_pos rfl,if_pos rfl,if_pos (by rw[hs];simp),r6 nd'.1 h3.len.2.symm]
   exact⟨v,r,_,t,tk0,rfl,rfl,h1,rfl,h3⟩
  ·rw[if_neg z,if_neg z,if_neg (by rw[hs];simpa using z)]
   exact⟨v0,_,e,_,tk0,rfl,rfl,h1,h2,h3.put name v hsh tk nd'.2⟩
structure Cls (c:Ih) (C:HZ) (ns:Qw Ih):Prop where
 mg:mg c=U (.ref C)
 kp:keepIn K (.ref C)=V
 mi:makesIn K C=V
 ov:plainOver K C=V
 hd:hasDictIn K C=V
 ga:findIn K (.ref C) "__getattribute__"=U (U (.builtin "object.__getattribute__"))
 sa:findIn K (.ref C) "__setattr__"=U (U (.builtin "object.__setattr__"))
 no:∀n∈ns,findIn K (.ref C) n=U B
def InsO.is {a C:HZ}{c:Ih}{o:LW}{ns:Qw Ih}(h:InsO c o a) (k:Cls c C ns):o=instObj C a:=by let⟨C',e,rfl⟩:=h;simp_all [k.mg]
def R.handed (r:R m M d v):handedIn v=V:=by
 cases d<;>simp![R]at r<;>first|(subst r;rfl)|(let⟨_,rfl⟩:=r;rfl)|(let⟨_,_,_,rfl,_⟩:=r;rfl)|(let⟨_,_,_,_,rfl,_⟩:=r;rfl)|(let⟨_,_,_,_,_,rfl,_⟩:=r;rfl)|exact r.elim
def bP (c name:Ih) (x:Qq D):Qq D:=match x with|some (.ob c' ks ds)=>if c'=c then aP name ks ds else B|_=>B
nonrec theorem tE (h:bP c name x=U d):∃ks ds,x=U (.ob c ks ds)/\aP name ks ds=U d:=by
 unfold bP at h;split at h<;>try cases h
 split at h<;>try cases h
 rename_i e;subst e;exact⟨_,_,rfl,h⟩
nonrec theorem yX {ks:Qw Ih}:∀{ds:Qw D}{vs},Rs m M ds vs->∀d,aP k ks ds=U d->∃v,aP k ks vs=U v/\R m M d v:=by
 induction ks with
 |nil=>intro ds vs _ d h;trivial
 |cons x ks ih=>
  intro ds vs r d h;cases ds with
  |nil=>cases h
  |cons e ds=>
   let⟨v,t,rfl,h1,h2⟩:=r;unfold aP at h⊢;split at h
   ·simp_all
   ·rename_i z;rw[if_neg z];exact ih h2 d h
section
variable{X:Cx}{M M':Mp}{δ:DEnv}{s s':HN}{Q:HM->HN->Prop}{a b:Expr}{es:Qw Expr}{fa:DEnv->Qq D}{fs:DEnv->Qq (Qw D)}{m:Bool}{pos pos' px p:MR}{c name:Ih}{C:HZ}{ns:Qw Ih}
nonrec theorem yu {Q:Unit->HN->Prop}{E:HM->HN->Prop}{A:Ia}{x ad:HZ}{v:HM}(k:Cls c C ns) (hn:name∈ns) (KI:K.In s.heap) (hx:s.heap.get? x=U (instObj C ad)) (ho:s.heap.get? ad=U o) (ao:AtO o ks vs) (hz:(aC name ks).length<=100)
  (h:∀h' o' tk,IM ad s.heap h'->h'.get? ad=U o'->AtO o' (aC name ks) (bB name v ks vs)->Q () {s with heap:=h',toks:=tk}):wpAny (model P w) A (setAttr (.ref x) name v) Q E s:=by
 let⟨nd,hl,es,n,rfl,at_⟩:=ao;let I0:∀t,InstAt ({s with toks:=t}:HN).heap x (instObj C ad) C (U (dictOf es n)):=λt=>⟨hx,rfl,rfl,ho⟩
 let ht:takerIn K C name=U B:=by unfold takerIn;rw[k.no _ hn];rfl
 refine set_plain KI (I0 s.toks) k.sa ?_
 refine osa_open (s:={s with toks:=s.toks+1}) KI (I0 _) k.ov ht λb=>?_
 let⟨cd,hc,hd'⟩:=any_some k.hd;refine HJ (HK (HJ (HJ (wpAny_loadPart (s:={s with toks:=s.toks+1}) hx (HJ (Looks.here (s:={s with toks:=s.toks+1}) (looks_clsIn KI hc) ?_))))))
 rw[hd'];refine HK (a:=U ad) (HJ (HK (HJ ?_)))
 refine HJ (HJ (Nb (HK (HJ (wpAny_mkText (HJ (wpAny_loadPart (s:={s with toks:=s.toks+1+1}) ho ?_)))))))
 dsimp only;let at':=at_.put name v (Og w.params name) (s.toks+1) nd;let len':=at'.len;let cc:(!es.toArray.any (·.key.isStr name)&&es.toArray.any (·.refKey))=Y:=by
  let hg:=at_.get name;unfold getL at hg;rw[<-Array.any_toList,<-Array.any_toList];split at hg
  ·rename_i en he
   rw[qaF.mpr ⟨en,List.mem_of_find?_eq_some he,List.find?_some he⟩];rfl
  ·lia
 rw[aRefKeyMayBeTheName_at,cc];refine wpAny_updatePart (s:={s with toks:=s.toks+1+1}) ho ?_
 let D':=H7 (h:=s.heap) (a:=ad) (o:=dictOf es n) (Obj.putName name (Og w.params name) (.str name (s.toks+1)) v) ho (by rw[putName_dict];rfl)
 rw[putName_dict]at D';refine HJ (wpAny_lookBehind (s:={s with heap:=s.heap.update ad (Obj.putName name (Og w.params name) (.str name (s.toks+1)) v),toks:=s.toks+1+1}) D' (by exact pastItsLine_dict (by rw[IR,K1];lia)) ?_)
 refine HK (h _ _ _ (IG ..) D' ⟨?_,hz,_,_,rfl,at'⟩)
 unfold aC;split
 ·exact nd
 ·rw[IS];exact⟨nd,by simp,λa ha b hb z=>by simp_all⟩
def Bz {ks:Qw Ih}:∀{ds:Qw D}{vs},Rs m M ds vs->R m M d v->Rs m M (bB name d ks ds) (bB name v ks vs):=by
 let g:∀{ks:Qw Ih}{ds:Qw D}{vs},Rs m M ds vs->R m M d v->Rs m M (bN name d ks ds) (bN name v ks vs):=by
  intro ks
  induction ks with
  |nil=>intro ds vs r _;rfl
  |cons k ks ih=>
   intro ds vs r h;cases ds with
   |nil=>cases r;rfl
   |cons e ds=>
    let⟨u,t,rfl,h1,h2⟩:=r;refine⟨_,_,rfl,?_,ih h2 h⟩
    split
    ·exact h
    ·exact h1
 intro ds vs r h;unfold bB;split
 ·exact g r h
 ·exact r.append (.one h)
def kB (c name:Ih) (i:Nat) (x:Qq D) (δ:DEnv):Qq Out:=match δ[i]?,x with
 |some (U (.loc (U c') j,V)),U d=>(match δ[j]? with
  |some (U (.ob c2 ks ds,V))=>if c'=c/\c2=c/\(aC name ks).length<=100 then U (.next (δ.set j (U (.ob c (aC name ks) (bB name d ks ds),V)))) else B
  |_=>B)
 |_,_=>B
nonrec theorem BK (k:∃C,Cls c C ns) (hn:name∈ns) (h:Nm X i y) (ha:DE X Y a fa) (hs:swapsWith a (U (.Attribute (.Name y px) name pos')) pos.line X.env=pure Y):DS X (.Assign [.Attribute (.Name y px) name pos'] a pos) (λδ=>kB c name i (fa δ) δ):=λ{M δ s o Q} I e kk=>by
 let⟨C,k⟩:=k;unfold kB at e;dsimp only at e;split at e<;>try cases e
 split at e<;>try cases e
 split at e<;>cases e
 rename_i c' j d e1 e2 _ c2 ks ds e3 hc;let⟨rfl,rfl,hz⟩:=hc;refine plainObj_wpAny_Assign_Attribute (ha.ev I e2 λv s1 M1 x1 I1 r1=>Kr (I1.load h e1 λu va=>?_) h.d) hs
 rcases va with⟨_,_,_,_,z⟩|⟨ad,x,ox,h1,h2,rfl,h4,h5⟩
 ·exact z.elim
 obtain rfl:=h5.is k;let hj:X.N.length+(j - X.N.length)=j:=by lia
 let⟨o,q,ca⟩:=I1.sto (j - X.N.length) ad _ h1 (by rw[hj];exact e3)
 rcases ca with ca|⟨_,_,_,vs,z,ao,rs⟩
 ·exact ca.elim
 cases z;refine yu k hn I1.kIn (I1.heap _ _ _ h4) (I1.heap _ _ _ q) ao hz λh' o' tk sb g' ao'=>?_
 let lt:∀{q:Nat}{y:Ih},X.N[q]?=U y->q<X.N.length:=λw=>(List.getElem?_eq_some_iff.mp w).1
 let⟨I2,f2,p2⟩:=I1.chg1 (κ:=.s (j - X.N.length)) (s':={s1 with heap:=h',toks:=tk}) (δ':=δ.set j (U (.ob c2 (aC name ks) (bB name d ks ds),V))) rfl q (λb ob z w=>(sb.2 b z).trans w) g' (by let⟨_,_,es,n,rfl,_⟩:=ao';exact⟨by simp,λ_ z=>nomatch z⟩) (by simp)
  (λq y d' b z1 z2 z3=>.inl ⟨λw=>(nomatch w),λw=>(nomatch w),by have:=lt z1;rw[H0 (by lia)]at z3;exact z3⟩)
  (λp d' z=>by
   by_cases w:p=j - X.N.length
   ·subst w
    rw[hj,IE (List.getElem?_eq_some_iff.mp e3).1]at z
    cases z;exact .inr ⟨rfl,.inr ⟨_,_,_,_,rfl,ao',Bz rs r1⟩⟩
   ·rw[H0 (by lia)]at z
    exact .inl ⟨λy=>w (by injection y with y;exact y.symm),z⟩)
  (λp b z1 z2=>by lia)
 exact kk _ _ (x1.sx.trans ⟨f2,λa o=>(p2 a o).mp,λa o=>(p2 a o).mpr⟩) I2
abbrev G5 (X:Cx) (M:Mp) (δ:DEnv) (d:D) (Q:HM->HN->Prop):Prop:=∀v s' M',Ext M M'->Inv X M' δ s'->Fi X M' s' Y d v->Q v s'
structure DNw (X:Cx) (e:Expr) (f:DEnv->Qq D):Prop where
 pl:plE e=V
 ev:∀{M δ s d} {Q:HM->HN->Prop},Inv X M δ s->f δ=U d->G5 X M δ d Q->WP X (eval e X.env) Q s
def Fi.put (F:Fi X M s Y d v) (I:Inv X M δ s):∃M',Ext M M'/\Inv X M' δ s/\R m M' d v:=by
 let⟨c,ks,ds,x,ox,ad,o,vs,rfl,rfl,q,_,i,f,e,ao,rs⟩:=F;exact⟨_,bQ f.m,I.put f e,R.weak ⟨x,ox,ad,o,vs,rfl,br f.m _ _ q,i,⟨.f,ah,rfl⟩,ao,rs.to (br f.m)⟩⟩
def DNw.share (h:DNw X a fa):DE X m a fa:=⟨h.pl,λI e k=>h.ev I e λv s' M' x I' F=>by let⟨M2,x2,I2,r⟩:=F.put (m:=m) I';exact k _ _ _ (x.trans x2) I2 r⟩
theorem vF (ha:DNw X a fa):DS X (.Return (U a) pos) (λδ=>dz (fa δ) δ):=λ{M δ s o Q} I e k=>by
 cases q:fa δ with
 |none=>simp[dz,q]at e
 |some d=>
  simp![dz,q]at e;cases e;exact MQ (ha.ev I q λv s1 M1 x1 I1 F=>k _ _ _ x1.sx I1 (.inr (by let⟨c,ks,ds,x,ox,ad,o,vs,e1,e2,q,q2,i,f,e,ao,rs⟩:=F;exact⟨c,ks,ds,x,ox,ad,o,vs,e1,e2,q2 rfl,i,e,ao,rs,.inl f⟩)))
def obO:Qq (D×Bool)->Qq D|some (.ob c ks ds,V)=>U (.ob c ks ds)|_=>B
nonrec theorem we {k:Nat}{f:Qw D->Qq (D×Bool)}{x:Ih}(F:FnM k x f) (hr:Room k X.A) (g:Gb X x) (ha:DA X Y (a::es) fs):DNw X (.Call (.Name x p) (a::es) [] pos) (λδ=>obO (ae (fs δ) f)):=⟨rfl,λ{M δ s d Q} I e k=>by
 unfold obO at e;split at e<;>cases e
 rename_i q;let⟨ds,e1,e2⟩:=ag q;refine lP F hr g ha I e1 e2 λv s1 M1 x1 I1 h1 h2=>?_
 rcases h2 rfl with⟨_,_,_,_,_,z⟩|F
 ·exact z.elim
 ·exact k _ _ _ x1 I1 F⟩
def Ini (c:Ih) (ns:Qw Ih) (k:Nat) (f:Qw D->Qw D->Qq (D×Bool×DEnv)):Prop:=∃C fI,Cls c C ns/\findIn K (.ref C) "__init__"=U (U (.ref fI))/\typeIn K (.ref fI)=U (.type "function")/\FnA fI k f
def Room.under {A:Ia}{k:Nat}(r:Room (k+1) A) (C:HZ) (us:Qw HM):Room k (A.under (.builtin "type.__call__" ⟨.ref C::us,[]⟩)):=by
 let h1:=r.dp;let h2:=r.un;refine⟨r.hd,?_,?_⟩
 ·show A.depth+(NR "type.__call__" ⟨.ref C::us,[]⟩).weight+3*k+5<_
  rw[show(NR "type.__call__" ⟨.ref C::us,[]⟩).weight=1 from rfl];lia
 ·show A.units+(NR "type.__call__" ⟨.ref C::us,[]⟩).cUnits+16*k+200<_
  rw[show(NR "type.__call__" ⟨.ref C::us,[]⟩).cUnits=1 from rfl];lia
def Aq (c:Ih) (f:Qw D->Qw D->Qq (D×Bool×DEnv)) (x:Qq (Qw D)):Qq D:=match x with
 |some ds=>(match f (.loc (U c) 0::ds) [.ob c [] []]with
  |some (.non,Y,[U (.ob c' ks vs,V)])=>if c'=c then U (.ob c ks vs) else B
  |_=>B)
 |none=>B
nonrec theorem Bf {k:Nat}{f:Qw D->Qw D->Qq (D×Bool×DEnv)}(F:Ini c ns k f) (hr:Room (k+1) X.A) (g:Gb X c) (ha:DA X Y (a::es) fs):DNw X (.Call (.Name c p) (a::es) [] pos) (λδ=>Aq c f (fs δ)):=⟨rfl,λ{M δ s d Q} I e kk=>by
 let⟨C,fI,k,hi,hf,FA⟩:=F;unfold Aq at e;split at e<;>try cases e
 split at e<;>try cases e
 split at e<;>cases e
 rename_i ds e1 _ c' ks vs e2 hc;subst hc;let h:=ha.pl;rw[Iw,HW]at h;refine IN (JY I.ok.kind g.g (KB (by rw[I.ok.glob];exact I.ok.mod.glob.keeps I.bk) k.mg ?_) g.d)
 refine Lj (h₀:=base) I.ok.mod.kin k.kp (ha.ev I e1 (λus s1 M1 x1 I1 rs=>⟨I1.kIn,?_⟩) pos) (aB h.1) (dm h.2)
 let KI:=I1.kIn;refine Nn ?_
 let⟨hh,gg,dd,tt,os⟩:=s1;refine make_core (makes_of KI k.mi) (looks_findIn KI hi) (λself=>bind_fn KI self hf) (.inl rfl) ?_
 let f0:=I1.fresh (HQ _);let I2:Inv X (upd M1 (hh.objs.size+1) (U (.f,instObj C hh.objs.size))) δ ⟨(hh.push emptyDict).push (instObj C hh.objs.size),gg,dd,tt,os⟩:=by
  have:=(I1.push (o:=emptyDict) (t:=tt)).new (o:=instObj C hh.objs.size) (t:=tt);rwa[show({heap:=hh.push emptyDict,gens:=gg,drawn:=dd,toks:=tt,os:=os}:HN).heap.objs.size=hh.objs.size+1 from IP ..]at this
 let fe:M1 (hh.objs.size+1)=B:=(I1.fresh (Kl _)).m;let xe:=bQ (o:=instObj C hh.objs.size) fe;let ne:hh.objs.size≠hh.objs.size+1:=Il (IY _);let fd:Free X (upd M1 (hh.objs.size+1) (U (.f,instObj C hh.objs.size))) hh.objs.size:=⟨by rw[ai ne];exact f0.m,f0.l,f0.c,f0.t,f0.s,f0.n⟩
 let hd:((hh.push emptyDict).push (instObj C hh.objs.size)).get? hh.objs.size=U emptyDict:=HL _ (HO _ rfl)
 refine lJ (as:=[hh.objs.size]) (σ:=[.ob c' [] []]) FA (hr.under C us) I2 ⟨λa ha=>by rw[on.mp ha];exact fd.fre,by simp,rfl,λq a d h1 h2=>?_⟩ (ds:=.loc (U c') 0::ds) ⟨_,us,rfl,⟨hh.objs.size,hh.objs.size+1,instObj C hh.objs.size,rfl,rfl,ah,C,k.mg,rfl⟩,(rs.up xe).av⟩ e2 λv s' M' x2 I3 hb hn _=>?_
 ·rw[O4]at h1 h2
  split at h1<;>cases h1
  rename_i z;subst z;cases h2;exact⟨_,hd,⟨by simp,λ_ z=>nomatch z⟩,.inr ⟨c',[],[],[],rfl,⟨Jf,Im _,[],_,rfl,rfl,rfl⟩,rfl⟩⟩
 ·obtain rfl:v=.none:=hn rfl
  let⟨fa,o,ho,_,ca⟩:=hb 0 _ _ rfl rfl
  rcases ca with ca|⟨_,_,_,ws,z,ao,rw'⟩
  ·exact ca.elim
  cases z;let q:M' (hh.objs.size+1)=U (.f,instObj C hh.objs.size):=rdf.mp (x2.sub _ _ (rdf.mpr ah));exact⟨rfl,kk _ _ M' ((x1.trans xe).trans x2) I3 ⟨c',ks,vs,hh.objs.size+1,instObj C hh.objs.size,hh.objs.size,o,ws,rfl,rfl,⟨.f,q,rfl⟩,λ_=>q,⟨C,k.mg,rfl⟩,⟨fa.m,fa.l,fa.c,fa.t,fa.s,f0.n⟩,ho,ao,rw'⟩⟩⟩
end
end L2
namespace L2
open PySem PySem.Spec PyProof.Rows Md
variable[Md]
section
variable{prog:IZ}{w:JA}{A:Ia}{E:HM->HN->Prop}{s:HN}
theorem rI {it d:HZ}{o:LW}{es:Array Kk}{i ep:Nat}{ok ov:HM}{Q:Qq HM->HN->Prop}(hit:MJ s.heap it d i es.size ep ok ov) (ho:s.heap.get? d=U o) (hdat:o.data=.dict es ep)
  (item:∀e,es[i]?=U e->∀E':HM->HN->Prop,wpAny (model prog w) A.in1 (MD (.ref it) 6 e.key e.val) (λv s'=>Q (U v) s') E' {s with heap:=s.heap.update it (JF (·.setIfInBounds 3 (rawInt ((i:Int)+1))))})
  (hh:A.handled=B) (stop:es[i]?=B->∀h',MA it s.heap h'->Q B {s with heap:=h'}):wpAny (model prog w) A (pyNext (.ref it)) Q E s:=by
 let ty:s.TypeIs (.ref it) "dict_itemiterator":=⟨_,hit,rfl⟩;refine HJ (K6 (IC (name:=IU "__next__") ty OJ (Ii OJ ty F.entry_dict_itemiterator_next ?_ (F.args_dict_itemiterator_next_1 _))))
 refine HJ (HK (HJ (HJ (HJ (L8 ty (HK (HJ (LN hit rfl ?_))))))))
 change wpAny _ _ (if(Kq d==JG)=V then _ else _) _ _ s
 refine HJ (HK (HJ (KA ho hdat ?_)))
 rw[if_neg (by simp)]
 refine HJ (HK (HJ (Nu ho hdat ?_)))
 rw[if_neg (by simp)]
 refine HK ?_
 dsimp only;rw[if_neg (Int.not_lt.mpr (NL i)),Kw];cases hx:es[i]? with
 |some e=>
  refine HJ (HJ (L8 ty (HK ?_)))
  refine HJ (Nl ty ?_)
  change wpAny _ _ (setField (.ref it) 3 (rawInt ((i:Int)+1)) >>= _) _ _ s;refine HJ (JN hit rfl (by simp) ?_)
  let ty1:JV {s with heap:=s.heap.update it (JF (·.setIfInBounds 3 (rawInt ((i:Int)+1))))} (.ref it) "dict_itemiterator":=⟨_,H7 _ hit (JD (IF rfl _)),K4 ..⟩
  refine HJ (Ij (HJ (Nl ty1 (HJ (Nl ty1 ?_)))))
  exact thn (item e hx _) λv s' q=>HK ⟨_,rfl,HK q⟩
 |none=>
  refine HJ (HJ (L8 ty (HK ?_)))
  change wpAny _ _ (setField (.ref it) 2 .none >>= _) _ _ s;refine HJ (JN hit rfl (by simp) ?_)
  refine HJ (HJ (Ir ?_ (by size_fits)))
  refine HJ (m:=firstArgMember _ _) (Ml (a:=JG) (by rfl) (Ir ?_ (by size_fits)))
  refine HJ (MU ?_)
  rw[show A.in1.handled=B from hh]
  refine HJ (HK (NG ?_))
  refine HJ (Kf (T:="StopIteration") (b:=V) ⟨_,HO _ rfl,rfl⟩ MF ?_)
  exact HK (stop hx _ (((IG ..).extBut.push _).push _))
def tC {it d:HZ}{i n ep:Nat}{ok ov k v:HM}{Q:HM->HN->Prop}(hit:MJ s.heap it d i n ep ok ov)
  (hQ:∀h',IsItemIterOut h' it d i n ep k v s.heap.objs.size->h'.get? s.heap.objs.size=U {cls:=.type "tuple",data:=.seq #[k,v]}->(∀b o,b≠it->s.heap.get? b=U o->h'.get? b=U o)->Q (.ref s.heap.objs.size) {s with heap:=h'}):
  wpAny (model prog w) A (MD (.ref it) 6 k v) Q E s:=by
 refine HJ (Pb ?_)
 let lt:=H6 hit;let h0:MJ (s.heap.push {cls:=.type "tuple",data:=.seq #[k,v]}) it d i n ep ok ov:=HL _ hit
 let t0:(s.heap.push {cls:=.type "tuple",data:=.seq #[k,v]}).get? s.heap.objs.size=U {cls:=.type "tuple",data:=.seq #[k,v]}:=HO _ rfl
 let k0:∀b o,s.heap.get? b=U o->(s.heap.push {cls:=.type "tuple",data:=.seq #[k,v]}).get? b=U o:=λb o e=>HL _ e
 refine HJ ?_
 refine HJ (K0 (s:={s with heap:=s.heap.push {cls:=.type "tuple",data:=.seq #[k,v]}}) h0 rfl (x:=.none) rfl (HK ?_))
 refine HJ (K0 (s:={s with heap:=s.heap.push {cls:=.type "tuple",data:=.seq #[k,v]}}) h0 rfl (x:=ok) rfl (HJ (K0 (s:={s with heap:=s.heap.push {cls:=.type "tuple",data:=.seq #[k,v]}}) h0 rfl (x:=ov) rfl ?_)))
 refine HJ (Jy (s:={s with heap:=s.heap.push {cls:=.type "tuple",data:=.seq #[k,v]}}) h0 (by simp) λh1 g1 m1=>HJ (Jy (s:={s with heap:=h1}) g1 (by simp) λh2 g2 m2=>HJ (Jy (s:={s with heap:=h2}) g2 (by simp) λh3 g3 m3=>HJ (Jy (s:={s with heap:=h3}) g3 (by simp) λh4 g4 m4=>HJ (KZ (HK (hQ h4 g4 ?_ ?_)))))))
 ·exact m4.extBut _ _ (JI lt) (m3.extBut _ _ (JI lt) (m2.extBut _ _ (JI lt) (m1.extBut _ _ (JI lt) t0)))
 ·exact λb o hb e=>m4.extBut b o hb (m3.extBut b o hb (m2.extBut b o hb (m1.extBut b o hb (k0 b o e))))
def kJ:entryFor table "dict_itemiterator.__iter__"=U Lo.«dict_keyiterator.__iter__»:=Pf (id':="dict_keyiterator.__iter__") (by kernel_rfl) rfl (by decide +kernel) (by kernel_rfl)
def mq {prog:IZ}{w:JA}{A:Ia}{E:HM->HN->Prop}{s:HN}{it d:HZ}{i n ep:Nat}{ok ov:HM}{Q:HM->HN->Prop}(hit:MJ s.heap it d i n ep ok ov) (h:Q (.ref it) s):wpAny (model prog w) A (pyIter (.ref it)) Q E s:=by
 let ty:s.TypeIs (.ref it) "dict_itemiterator":=⟨_,hit,rfl⟩;refine LM ty OK (Ii OK ty kJ ?_ (F.args_dict_itemiterator_iter_1 _))
 exact HK ⟨_,rfl,"dict_itemiterator",_,ty,F.slot_dict_itemiterator_next.lookup,h⟩
def uJ {prog:IZ}{w:JA}{A:Ia}{E:HM->HN->Prop}{s:HN}{v d:HZ}{o:LW}{es:Array Kk}{ep:Nat}{Q:HM->HN->Prop}(hv:s.heap.IsItemsView v d) (ho:s.heap.get? d=U o) (hdat:o.data=.dict es ep)
  (hQ:Q (.ref s.heap.objs.size) {s with heap:=s.heap.push {cls:=.type "dict_itemiterator",data:=.fields #[.none,.bool Y,.ref d,.int 0 0,.int es.size 0,.int ep 0,.none,.none]}}):wpAny (model prog w) A (pyIter (.ref v)) Q E s:=by
 let⟨ov,hov,hcv,hdv⟩:=id hv;refine LM hv.typeIs F.slot_dict_items_iter (Ii F.slot_dict_items_iter hv.typeIs F.entry_dict_items_iter ?_ (F.args_dict_items_iter_1 _))
 refine HJ (HK (HJ ?_))
 refine HJ (K0 hov hdv (x:=.ref d) rfl (HK (HJ ?_)))
 refine HJ (KA ho hdat (HJ (Nu ho hdat ?_)))
 dsimp only;rw[if_pos (show Builtin.Dict_items.ownsTuple "dict_itemiterator"=V by decide)]
 refine Ir (HK ⟨_,rfl,"dict_itemiterator",_,⟨_,HO _ rfl,rfl⟩,F.slot_dict_itemiterator_next.lookup,?_⟩) (by simp![sizeOk,Builtin.Dict_items.ownedTupleFields,IR,IJ,H3,Ku,K1];decide)
 assumption
end
def Az (x:Qq D):Qq (Qw D×Qw D):=match x with|some (.dK ks vs)=>U (ks.map kD,vs)|some (.dD ks vs)=>U (ks,vs)|_=>B
def dM (h:Az x=U (ks,vs)):∃d b,x=U d/\dcD d=U (b,ks,vs):=by
 unfold Az at h;split at h<;>cases h
 ·exact⟨_,_,rfl,rfl⟩
 ·exact⟨_,_,rfl,rfl⟩
def d8 (x:Qq D):Qq (Qw D):=match Az x with|some (ks,vs)=>U (LA (λk v=>.tup [k,v]) ks vs)|none=>B
def jF (x:Qq D):Qq (Qw D):=match Az x with|some (ks,_)=>U ks|none=>B
section
variable{X:Cx}{M M':Mp}{δ:DEnv}{s:HN}{tg a:Expr}{elts:Qw Expr}{x1:Nat}{fa:DEnv->Qq D}{m m' bb:Bool}{p pos tp apos cpos:MR}{it c:HZ}{A:Ia}{ks ds:Qw D}{us vs:Qw HM}{o:LW}{es:Array Kk}{ep:Nat}
def th (hh:A.handled=B) (q:Rd m M c o) (dc:DcO bb o ks us vs) (he:o.data=.dict es ep) (rk:Rs m M ks us) (rs:Rs m M ds vs):C5 A (.Tuple elts x1 tp) m M (LA (λk v=>.tup [k,v]) ks ds) [it] it (λi h=>∃ok ov,MJ h it c i es.size ep ok ov) where
 ex:=λ⟨ok,ov,e⟩ b hb=>by rw[on.mp hb];exact⟨_,e⟩
 keep:=λ⟨ok,ov,e⟩ k=>⟨ok,ov,k it (by simp) _ e⟩
 item:=λ{i s d} st h e=>by
  let⟨l1,l2,l3,ha⟩:=dc.at he;rw[List.getElem?_zipWith_eq_some]at e
  let⟨kd,vd,g1,g2,rfl⟩:=e;let⟨u,hu,ru⟩:=rk.get g1;let⟨v,hv,rv⟩:=rs.get g2;let⟨ok,ov,st⟩:=st;let lt:=H6 st;refine rI st (h _ _ q) he (λen hen E'=>?_) hh λhn=>?_
  ·let ek:en.key=u/\en.val=v:=by
    let w1:=(ha i).2.1;let w2:=(ha i).2.2;rw[hen,hu]at w1;rw[hen,hv]at w2;exact⟨JT w1,JT w2⟩
   let st1:MJ (s.heap.update it (JF (·.setIfInBounds 3 (rawInt ((i:Int)+1))))) it c (i+1) es.size ep ok ov:=by
    have:=H7 (JF (·.setIfInBounds 3 (rawInt ((i:Int)+1)))) st (JD (IF rfl _))
    simpa[MJ,JF,rawInt]using this
   let sb:IM it s.heap (s.heap.update it (JF (·.setIfInBounds 3 (rawInt ((i:Int)+1))))):=IG ..
   let sz:=sb.1;refine tC (s:={s with heap:=s.heap.update it (JF (·.setIfInBounds 3 (rawInt ((i:Int)+1))))}) st1 λh' out tup k=>?_
   rw[sz]at out tup⊢;rw[ek.1,ek.2]at out tup;let nT:s.heap.objs.size≠it:=JI lt;refine⟨_,rfl,wpAny_letOwnedTupleGo_items (s:={s with heap:=h'}) out λg2 e2 m2=>⟨⟨⟨rfl,rfl⟩,λb o hb g=>ak m2 (λw=>hb (by simp[w])) (k b o (λz=>hb (by simp[z])) (sb.extBut b o (λz=>hb (by simp[z])) g))⟩,⟨_,_,e2⟩,.inr ⟨s.heap.objs.size,_,HQ _,ak m2 nT tup,R.pairN h (HQ _) ru rv⟩⟩⟩
  ·let w1:=(ha i).2.1;rw[hn,hu]at w1;cases w1
 done:=λ{s} st h=>by
  let⟨l1,l2,l3,ha⟩:=dc.at he;let e2:=rs.length;let⟨ok,ov,st⟩:=st;refine rI st (h _ _ q) he (λen hen E'=>?_) hh λhn h' eb=>⟨rfl,ir eb⟩
  rw[Ki (by simp;lia)]at hen;cases hen
 self:=λ⟨ok,ov,st⟩ h=>mq st h
end
end L2
namespace L2
open PySem PySem.Spec PyProof.Rows Md
variable[Md]
section
variable{h h':Jr}{d:HZ}{o:LW}{ks:Qw D}{us vs:Qw HM}{m:Bool}{M:Mp}{es:Array Kk}{ep:Nat}
theorem sB:∀{l:Qw Kk}{ks:Qw D}{us vs:Qw HM},l.map (·.key)=us->l.map (·.val)=vs->ks.all (kOk Y)=V->Rs m M ks us->Pairs (cz) l (ks.zip vs)
 |[],ks,us,vs,h1,h2,_,rk=>by
  subst h1 h2;have:=rk.length;cases ks with
  |nil=>exact .nil
  |cons _ _=>cases this
 |e::l,ks,us,vs,h1,h2,hk,rk=>by
  subst h1 h2;cases ks with
  |nil=>cases rk
  |cons k ks=>
   let⟨u,r,e1,r1,r2⟩:=rk;cases e1;rw[Iw,HW]at hk;refine .cons ?_ rfl (sB rfl rfl hk.2 r2)
   show oU k e.key=V;rw[Ck hk.1 hk.1 r1];simp
def DcO.dictAt (dc:DcO Y o ks us vs) (rk:Rs m M ks us) (he:o.data=.dict es ep) (ho:h.get? d=U o):h.DictAt cz d (ks.zip vs) ep:=by
 let⟨_,hc,nd,al,es',ep',e,h1,h2,h3⟩:=dc;rw[he]at e;cases e;let pr:=sB h2 h3 al rk;let hl:ks.length=vs.length:=by have:=congrArg J9 h3;let w:=congrArg J9 h1;simp at this w;lia
 refine⟨o,es,ho,hc,he,λen hen=>?_,pr,?_⟩
 ·let⟨i,hi,rfl⟩:=Array.mem_iff_getElem.mp hen
  let hk:i<ks.length:=by have w:=congrArg J9 h1;simp at w;lia
  refine⟨ks[i],?_,?_⟩
  ·let⟨v,g1,g2⟩:=rk.get (i:=i) (d:=ks[i]) (by simp)
   let w:us[i]?=U es[i].key:=by rw[<-h2,H8,Ji,Jd hi];rfl
   rw[w]at g1;cases g1;let ok:=(qac.mp al) _ (JR hk);show oU ks[i] es[i].key=V;rw[Ck ok ok g2];simp
  ·let w:=congrArg (·[i]?) h1
   simp[hi,hk]at w;exact w
 ·rw[LK (by lia)];exact nd
def Gc (h:oU k v=V):R m M k v/\kOk Y k=V:=by
 rcases db h with⟨i,t,rfl,rfl⟩|⟨x,t,rfl,rfl⟩
 ·exact⟨⟨t,rfl⟩,rfl⟩
 ·exact⟨⟨t,rfl⟩,rfl⟩
theorem rE:∀{l:Qw Kk}{kvs:Qw (D×HM)},Pairs cz l kvs->(∀e∈l,∃k,oU k e.key=V/\e.hash=cK w k)->Rs m M (kvs.map (·.1)) (l.map (·.key))/\l.map (·.val)=kvs.map (·.2)/\l.map (·.hash)=(kvs.map (·.1)).map (cK w)/\(kvs.map (·.1)).all (kOk Y)=V
 |[],_,.nil,_=>⟨rfl,rfl,rfl,rfl⟩
 |e::l,_,.cons (kv:=kv) h1 h2 h3,hk=>by
  let⟨g1,g2,g3,g4⟩:=rE h3 λe he=>hk e (.tail _ he)
  let⟨q1,q2⟩:=Gc (m:=m) (M:=M) h1;let⟨k,w1,w2⟩:=hk e (.head _);have:k=kv.1:=cz.inj _ _ _ w1 h1;subst this;refine⟨⟨_,_,rfl,q1,g1⟩,by simp[g2,h2],by simp[g3,w2],by simp[HP,Iw,q2,g4]⟩
def FF {kvs:Qw (D×HM)}(x:h.DictOf cz d kvs) (hz:kvs.length<=sizeLine):∃o us,h.get? d=U o/\DcO Y o (kvs.map (·.1)) us (kvs.map (·.2))/\Rs m M (kvs.map (·.1)) us:=by
 let⟨o,es,ep,ho,hc,hd,hk,hp,hn⟩:=x;let⟨g1,g2,g3,g4⟩:=rE (m:=m) (M:=M) hp λe he=>hk e (by simp_all)
 exact⟨o,_,ho,⟨by simpa using hz,hc,hn,g4,es,ep,hd,g3,rfl,g2⟩,g1⟩
end
def wO (x:Qq D):Qq D:=match x with|some (.dK ks vs)=>U (.dK ks vs)|_=>B
def cp:Qw Key->Qw D->Qw Key->Qw D->Qw Key×Qw D
 |k::r,v::t,ks,vs=>cp r t (aC k ks) (bB k v ks vs)
 |_,_,ks,vs=>(ks,vs)
def B5 (x y:Qq D):Qq D:=match x,y with
 |some (.dK ks vs),U (.dK ls us)=>if ks.length+ls.length<=lim then U (.dK (cp ls us ks vs).1 (cp ls us ks vs).2) else B
 |_,_=>B
def n5 (h:B5 x y=U d):∃ks vs ls us,x=U (.dK ks vs)/\y=U (.dK ls us)/\ks.length+ls.length<=lim/\d=.dK (cp ls us ks vs).1 (cp ls us ks vs).2:=by
 unfold B5 at h;split at h<;>try cases h
 split at h<;>cases h
 exact⟨_,_,_,_,rfl,rfl,by assumption,rfl⟩
def tP {k:D}{v:HM}:∀{ks:Qw D}{vs:Qw HM},ks.length=vs.length->stored (ks.zip vs) k v=(aC k ks).zip (bB k v ks vs):=by
 let g:∀{ks:Qw D}{vs:Qw HM},ks.length=vs.length->(ks.zip vs).map (λkv=>if kv.1=k then(kv.1,v) else kv)=ks.zip (bN k v ks vs):=by
  intro ks
  induction ks with
  |nil=>intro vs _;rfl
  |cons x ks ih=>intro vs h;cases vs with
   |nil=>cases h
   |cons y vs=>
    simp![List.zip_cons_cons,HP,bN,ih (by simpa using h)]
    lia
 intro ks vs h;unfold stored aC bB;have:(ks.zip vs).any (λkv=>decide (kv.1=k))=decide (k∈ks):=by
  rw[Lp,qaF,decide_eq_true_iff];constructor
  ·rintro⟨⟨a,b⟩,h1,h2⟩;have:=of_decide_eq_true h2;rw[<-this];exact(Oh h1).1
  ·intro hm
   let⟨i,hi,rfl⟩:=qag.mp hm;exact⟨(ks[i],vs[i]'(by lia)),by rw[qag];exact⟨i,by simp;lia,by simp⟩,by simp⟩
 rw[this]
 by_cases z:k∈ks
 ·rw[if_pos (by simpa using z),if_pos z,if_pos z];exact g h
 simp_all [if_neg,List.zip_append]
theorem pj {κ β:Type}[DecidableEq κ] {k:κ}{v:β}:∀{ks:Qw κ}{vs:Qw β},ks.length=vs.length->(bN k v ks vs).length=ks.length
 |[],_,_=>by rfl
 |_::_,[],h=>by cases h
 |x::ks,y::vs,h=>by unfold bN;simp[pj (v:=v) (k:=k) (ks:=ks) (vs:=vs) (by simpa using h)]
def yN {κ β:Type}[DecidableEq κ] {k:κ}{v:β}{ks:Qw κ}{vs:Qw β}(h:ks.length=vs.length):(aC k ks).length=(bB k v ks vs).length:=by
 unfold aC bB;split
 ·rw[pj h]
 ·simp[h]
theorem yz {m:Bool}{M:Mp}:∀{ls:Qw Key}{es:Qw D}{ws:Qw HM}{ks:Qw Key}{ds:Qw D}{vs:Qw HM},ls.length=es.length->Rs m M es ws->ks.length=ds.length->Rs m M ds vs->
  ∃vs',merged ((ks.map kD).zip vs) ((ls.map kD).zip ws)=((cp ls es ks ds).1.map kD).zip vs'/\(cp ls es ks ds).1.length=(cp ls es ks ds).2.length/\Rs m M (cp ls es ks ds).2 vs'/\(cp ls es ks ds).1.length<=ks.length+ls.length:=by
 intro ls
 induction ls with
 |nil=>intro es ws ks ds vs hl r1 hk r2;exact⟨vs,by rfl,by assumption,by assumption,by simp[cp]⟩
 |cons l ls ih=>
  intro es ws ks ds vs hl r1 hk r2;cases es with
  |nil=>cases hl
  |cons e es=>
   let⟨w',ws,rfl,q1,q2⟩:=r1;let h2:=r2.length;let⟨vs',g1,g2,g3,g4⟩:=ih (ks:=aC l ks) (ds:=bB l e ks ds) (vs:=bB (kD l) w' (ks.map kD) vs) (by simpa using hl) q2 (yN hk) (by rw[<-gw (β:=D)];exact sk r2 q1)
   refine⟨vs',?_,g2,g3,?_⟩
   ·rw[show cp (l::ls) (e::es) ks ds=cp ls es (aC l ks) (bB l e ks ds) from rfl,<-g1]
    show(((ls.map kD).zip ws).foldl (λacc kv=>stored acc kv.1 kv.2) (stored ((ks.map kD).zip vs) (kD l) w'))=_
    rw[tP (by simp;lia),dJ];rfl
   ·have:(aC l ks).length<=ks.length+1:=by unfold aC;split<;>simp
    show(cp ls es (aC l ks) (bB l e ks ds)).1.length<=_;simp![H3];lia
section
variable{X:Cx}{M M':Mp}{δ:DEnv}{s:HN}{a b:Expr}{fa fb:DEnv->Qq D}{m m' mm:Bool}{p px pos apos cpos:MR}
def Ks.len:∀{ks us},Ks ks us->ks.length=us.length:=λh=>by have:=(Ks.rs (m:=Y) (M:=λ_=>B)).mp h;have:=this.length;simpa using this
def DcO.lens (dc:DcO bb o ks us vs):ks.length=vs.length:=by let⟨_,_,_,_,es,ep,he,h1,h2,h3⟩:=dc;let a:=congrArg J9 h1;let b:=congrArg J9 h3;simp at a b;lia
nonrec theorem zp (g:Bn X "dict") (ha:DE X Y a fa):DF X (.Call (.Name "dict" p) [a] [] pos) (λδ=>wO (fa δ)):=⟨rfl,λ{M δ s d Q} I e k=>by
 unfold wO at e;split at e<;>cases e
 rename_i ks ds q0;refine cQ g (by rfl:bootBuiltins "dict"=U (.type "dict")) ha I q0 λv s1 M1 x1 I1 r=>?_
 let⟨c,o,us,vs,rfl,q,dc,rk,rs⟩:=r;obtain⟨es,ep,he⟩:∃es ep,o.data=.dict es ep:=by let⟨_,_,_,_,es,ep,h,_⟩:=dc;exact⟨es,ep,h⟩
 let rk':=(Ks.rs (m:=Y) (M:=M1)).mp rk;let da:=(dc.dictAt rk' he (q.heap I1.heap)).dictOf;let ln:=dc.lens;let z:=dc.1;let sz:((ks.map kD).zip vs).length<=sizeLine:=by simp at z⊢;lia
 refine kt_call_dict (I1.nsys q) da sz λh' hd hs=>?_
 let⟨o',us',ho',dc',rk2⟩:=FF (m:=Y) (M:=M1) hd sz;rw[LK (by lia),LJ (by lia)]at dc'
 rw[LK (by lia)]at rk2
 exact k _ _ _ _ x1 (I1.kp (s':={s1 with heap:=h'}) λb ob e=>(hs.2 b (Il (H6 e))).trans (HL _ e)) (I1.fresh (HQ _)) ho' ⟨us',vs,dc',Ks.rs.mpr rk2,rs⟩⟩
end
end L2
namespace L2
open PySem PySem.Spec PyProof.Rows Md
variable[Md]
section
variable{X:Cx}{M M':Mp}{δ:DEnv}{s:HN}{tg a b:Expr}{elts:Qw Expr}{x1:Nat}{fa fb:DEnv->Qq D}{m m' mm bb:Bool}{p px pos tp apos cpos:MR}{it c:HZ}{A:Ia}{ks ds:Qw D}{us vs:Qw HM}{o:LW}{es:Array Kk}{ep:Nat}
def DcO.dat (dc:DcO bb o ks us vs):∃es ep,o.data=.dict es ep:=by let⟨_,_,_,_,es,ep,h,_⟩:=dc;exact⟨es,ep,h⟩
def C8 {id:String}{name:Ih}{Q:HM->HN->Prop}(slot:Slot "dict" name id) (hty:typeOf (.builtin id)=pure (.type "method_descriptor")) (l:(apos.endLine==cpos.line)=V) (ha:DE X m a fa) (I:Inv X M δ s) (e:Az (fa δ)=U (ks,ds))
  (k:∀c o us vs bb s' M',Ext M M'->Inv X M' δ s'->Rd m M' c o->DcO bb o ks us vs->Rs m M' ks us->Rs m M' ds vs->WP X (call (.builtin id) [.ref c]) Q s'):WP X (eval (.Call (.Attribute a name apos) [] [] cpos) X.env) Q s:=by
 let⟨d,bb,e1,e2⟩:=dM e;refine Nc (fM ha.pl) l (ha.ev I e1 λv s1 M1 x1 I1 r=>?_)
 let⟨c,o,us,vs,rfl,q,dc,rk,rs⟩:=r.dc e2;let ho:=q.heap I1.heap;exact⟨"dict",id,F.plainAttrs_dict,slot,hty,dc.ty ho,λb e=>by cases e;exact⟨o,ho,dc.2.1.2.1⟩,JX rfl (Np (k c o us vs bb s1 M1 x1 I1 q dc rk rs))⟩
def pV (h:d8 x=U ds):∃ks vs,Az x=U (ks,vs)/\ds=LA (λk v=>.tup [k,v]) ks vs:=by
 unfold d8 at h;split at h<;>cases h;exact⟨_,_,by assumption,rfl⟩
def p6 (h:jF x=U ds):∃vs,Az x=U (ds,vs):=by
 unfold jF at h;split at h<;>cases h;exact⟨_,by assumption⟩
theorem zX (h:DE X m a fa) (l:(apos.endLine==cpos.line)=V):DI X m (.Tuple elts x1 tp) (.Call (.Attribute a "items" apos) [] [] cpos) (λδ=>d8 (fa δ)):=⟨rfl,λ{M δ s ds Q} I e k=>by
 let⟨ks,vs,e',rfl⟩:=pV e;refine C8 F.slot_dict_items F.type_dict_items l h I e' λc o us vs bb s1 M1 x1 I1 q dc rk rs=>?_
 let ho:=q.heap I1.heap;let⟨es,ep,he⟩:=dc.dat;refine Ii F.slot_dict_items (dc.ty ho) F.entry_dict_items ?_ (F.args_dict_items_1 _)
 refine HJ ?_
 refine HJ (Kd (dc.ty ho) ?_)
 refine HK ?_
 unfold Ln;rw[if_neg (by rw[I1.nsys q];exact JM)]
 refine HJ (HK (HJ (Ir (HK ⟨_,rfl,?_⟩))))
 refine uJ (s:={s1 with heap:=s1.heap.push {cls:=.type "dict_items",data:=.fields #[.ref c]}}) (d:=c) (es:=es) ⟨_,HO _ rfl,rfl,rfl⟩ (HL _ ho) he ?_
 exact k _ _ _ _ _ x1 ((I1.push (t:=s1.toks)).push (t:=s1.toks)) (th I.ok.room.hd q dc he rk rs) ⟨.none,.none,HO _ rfl⟩ λb hb=>by rw[on.mp hb];exact I1.fresh (by simp)⟩
theorem yA (h:DE X m a fa):DI X m tg a (λδ=>jF (fa δ)):=⟨h.pl,λI e k=>by
 let⟨vs,e⟩:=p6 e;let⟨d,bb,e1,e2⟩:=dM e;refine h.ev I e1 λv s1 M1 x1 I1 r=>?_
 let⟨c,o,us,vs,rfl,q,dc,rk,rs⟩:=r.dc e2;let⟨_,hc,_,_,es,ep,he,_⟩:=id dc;exact ou (I1.nsys q) (q.heap I1.heap) hc he (k _ _ _ _ _ x1 (I1.push (t:=s1.toks)) (uY I.ok.room.hd q dc he rk) ⟨_,HO _ rfl,rfl,rfl⟩ (ze I1))⟩
def Rs.zip1:∀{ks ds:Qw D}{vs:Qw HM}{i:Nat}{d:D},ks.length=ds.length->Rs m M ds vs->ds[i]?=U d->∃k v,(ks.zip vs)[i]?=U (k,v)/\R m M d v:=λ{ks ds vs i d} hl r e=>by
 let⟨v,h1,h2⟩:=r.get e;let hi:=(List.getElem?_eq_some_iff.mp e).1
 exact⟨ks[i]'(by lia),v,by rw[OR];exact⟨by simp,h1⟩,h2⟩
def vt (hh:A.handled=B) (q:Rd m M c o) (dc:DcO Y o ks us vs) (he:o.data=.dict es ep) (rk:Rs m M ks us) (rs:Rs m M ds vs):C5 A tg m M ds [it] it (λi h=>h.IsValIter it c i (ks.zip vs).length ep) where
 ex:=λ⟨o,e,_⟩ b hb=>by rw[on.mp hb];exact⟨o,e⟩
 keep:=λst k=>st.at λo e=>k it (by simp) o e
 item:=λ{i s d} st h e=>by
  let l1:=dc.lens;let l2:=rs.length;let⟨k,v,h1,h2⟩:=rs.zip1 (ks:=ks) (by lia) e
  refine wpAny_pyNext_values_item st (dc.dictAt rk he (h _ _ q)) h1 λh' st' sb=>?_
  let⟨o,e,c,d⟩:=id st';exact⟨_,rfl,uP (s:={s with heap:=h'}) e c d (by decide) ⟨gT (t:=s.toks) sb,st',.inl h2⟩⟩
 done:=λ{s} st h=>by
  let l1:=dc.lens;let l2:=rs.length;exact wpAny_pyNext_values_end hh st (dc.dictAt rk he (h _ _ q)) (by simp;lia) λh' eb=>⟨rfl,ir eb⟩
 self:=λst h=>wpAny_pyIter_valiter st h
def eY (x:Qq D):Qq (Qw D):=match x with|some (.dK ks vs)=>U vs|_=>B
def tZ (h:eY x=U ds):∃ks,x=U (.dK ks ds):=by unfold eY at h;split at h<;>cases h;exact⟨_,rfl⟩
def ji {Q:HM->HN->Prop}(ha:DE X m a fa) (l:(apos.endLine==cpos.line)=V) (I:Inv X M δ s) (e:eY (fa δ)=U ds)
  (k:∀v c o ks us vs es ep s' M',Ext M M'->Inv X M' δ s'->Rd m M' c o->DcO Y o ks us vs->o.data=.dict es ep->Rs m M' ks us->Rs m M' ds vs->s'.heap.IsValuesView v c->Free X M' v->Q (.ref v) s'):WP X (eval (.Call (.Attribute a "values" apos) [] [] cpos) X.env) Q s:=by
 let⟨ks,e1⟩:=tZ e;refine Nc (fM ha.pl) l (ha.ev I e1 λv s1 M1 x1 I1 r=>?_)
 let⟨c,o,us,vs,rfl,q,dc,rk,rs⟩:=r;let ho:=q.heap I1.heap;let⟨es,ep,he⟩:=dc.dat;let rk':=(Ks.rs (m:=m) (M:=M1)).mp rk;refine⟨"dict",_,F.plainAttrs_dict,F.slot_dict_values,F.type_dict_values,dc.ty ho,λb e=>by cases e;exact⟨o,ho,dc.2.1.2.1⟩,JX rfl (Np ?_)⟩
 refine Ii F.slot_dict_values (dc.ty ho) F.entry_dict_values ?_ (F.args_dict_values_1 _)
 refine HJ ?_
 refine HJ (Kd (dc.ty ho) ?_)
 refine HK ?_
 unfold Ln;rw[if_neg (by rw[I1.nsys q];exact JM)]
 refine HJ (HK (HJ (Ir (HK ⟨_,rfl,?_⟩))))
 exact k _ c o _ us vs es ep _ M1 x1 (I1.push (t:=s1.toks)) q dc he rk' rs ⟨_,HO _ rfl,rfl,rfl⟩ (I1.fresh (HQ _))
theorem BN (h:DE X m a fa) (l:(apos.endLine==cpos.line)=V):DI X m tg (.Call (.Attribute a "values" apos) [] [] cpos) (λδ=>eY (fa δ)):=⟨rfl,λ{M δ s ds Q} I e k=>by
 refine ji h l I e λv c o ks us vs es ep s1 M1 x1 I1 q dc he rk rs vw _=>?_
 exact wpAny_pyIter_values vw (dc.dictAt rk he (q.heap I1.heap)) (k _ _ _ _ _ x1 (I1.push (t:=s1.toks)) (vt I.ok.room.hd q dc he rk rs) ⟨_,HO _ rfl,rfl,rfl⟩ (ze I1))⟩
def zg {E:HM->HN->Prop}{d:HZ}{Q:HM->HN->Prop}(hd:(d==sysModules)=Y) (ho:s.heap.get? d=U o) (dc:DcO bb o ks us vs) (h:Q (.int ks.length (s.toks+1)) {s with toks:=s.toks+1+1}):wpAny (model P w) A (call (.builtin "len") [.ref d]) Q E s:=by
 let⟨es,ep,he⟩:=dc.dat;let hz:=dc.1;let l1:=(dc.at he).1;let hn:=lE;let fit:((ks.length:Nat):Int)<2 ^ 63:=by lia
 refine Kp kind_len plain_len entry_len (args_len1 _) ?_
 refine HJ (m:=callSpecial? (.ref d) (IU "__len__")) (IC (name:=IU "__len__") (dc.ty ho) F.slot_dict_len (Ii F.slot_dict_len (dc.ty ho) F.entry_dict_len ?_ (F.args_dict_len_1 _)))
 show wpAny _ _ (dictSize d >>= _) _ _ s;refine HJ (HJ (KA ho he (HK ?_)))
 refine HJ (wpAny_pendingCount_other hd (wpAny_ret_mkInt ?_))
 rw[Nat.add_zero,l1];refine HJ (Ij (HK ?_))
 refine HJ (KZ ?_)
 show wpAny _ _ (if((ks.length:Nat):Int)<0 then _ else _) _ _ _
 show wpAny _ _ (if((ks.length:Nat):Int)>=2 ^ 63 then _ else _) _ _ _
 rw[if_neg (by lia)]
 exact HJ (wpAny_mkInt (HK ⟨_,rfl,h⟩))
def BP (x:Qq D):Qq D:=match Az x with|some (ks,_)=>U (.int ks.length)|none=>B
nonrec theorem CZ (g:Bn X "len") (ha:DE X m a fa):DE X mm (.Call (.Name "len" p) [a] [] pos) (λδ=>BP (fa δ)):=⟨rfl,λ{M δ s d Q} I e k=>by
 unfold BP at e;split at e<;>cases e
 rename_i ks ds q0;let⟨d,bb,e1,e2⟩:=dM q0;refine jV g OA ha I e1 λv s1 M1 x1 I1 r=>?_
 let⟨c,o,us,vs,rfl,q,dc,rk,rs⟩:=r.dc e2;exact zg (I1.nsys q) (q.heap I1.heap) dc (k _ _ _ x1 I1.tok ⟨_,rfl⟩)⟩
def fq (x:Qq D):Qq D:=match Az x with|some (ks,_)=>U (.lst ks)|none=>B
nonrec theorem zR (g:Bn X "list") (ha:DE X Y a fa):DF X (.Call (.Name "list" p) [a] [] pos) (λδ=>fq (fa δ)):=⟨rfl,λ{M δ s d Q} I e k=>by
 unfold fq at e;split at e<;>cases e
 rename_i ks ds q0;let⟨d,bb,e1,e2⟩:=dM q0;refine cQ g (by rfl:bootBuiltins "list"=U (.type "list")) ha I e1 λv s1 M1 x1 I1 r=>?_
 let⟨c,o,us,vs,rfl,q,dc,rk,rs⟩:=r.dc e2;let⟨hz,hc,_,_,es,ep,he,_⟩:=id dc;let⟨l1,l2,l3,at'⟩:=dc.at he;refine kE I.ok.room.hd (I1.nsys q) (q.heap I1.heap) hc he (by lia) λh' tk acc c' hk hS hacc=>?_
 rw[show es.size=us.length by lia]at hacc
 let e:=iZ hacc λi v ⟨en,z1,z2⟩=>by have:=(at' i).2.1;rw[z1]at this;rw[<-this,z2];rfl
 subst e;exact k _ _ {s1 with heap:=h',toks:=tk} M1 x1 (I1.kp hk) (I1.fresh (HQ _)) hS ⟨us,⟨by lia,c',rfl⟩,rk⟩⟩
def oj:D->Qq (Key×D)
 |.tup [k,v]=>(match gG k with|some kk=>U (kk,v)|none=>B)
 |_=>B
def cH:Qw D->Qq (Qw (Key×D))
 |[]=>U []
 |d::ds=>match oj d,cH ds with|some p,U ps=>U (p::ps)|_,_=>B
def gS:Qw (Key×D)->Qw Key->Qw D->Qw Key×Qw D
 |[],ks,vs=>(ks,vs)
 |p::ps,ks,vs=>gS ps (aC p.1 ks) (bB p.1 p.2 ks vs)
def bv (x:Qq D):Qq D:=match x with|some (.lst ds)=>(match cH ds with|some ps=>if ds.length<lim then U (.dK (gS ps [] []).1 (gS ps [] []).2) else B|none=>B)|_=>B
nonrec theorem qV (h:oj d=U (k,v)):d=.tup [kD k,v]/\kOk Y (kD k)=V:=by
 unfold oj at h;split at h<;>try cases h
 split at h<;>cases h
 rename_i hk;let⟨rfl,h⟩:=bF hk;exact⟨rfl,h⟩
set_option tactic.hygienic true in
open PySem.W in
theorem tB {X:Cx}{δ:DEnv}{A:Ia}{d l it:HZ}{ol:LW}{ws:Qw HM}{dsl:Qw D}{M:Mp}{R':L9->HN->Prop}(hu:A.units+40<cLine) (hh:A.handled=B) (ql:Rd Y M l ol) (tl:LstO ol ws) (rl:Rs Y M dsl ws) (hne:it≠d) (fd:Free X M d) (fi:Free X M it):
  ∀(n i:Nat) (t:Tok) (s:HN) (o:LW) (ks:Qw Key) (ds:Qw D) (us vs:Qw HM) (ps:Qw (Key×D)),i+n=dsl.length->cH (dsl.drop i)=U ps->Inv X M δ s->s.heap.get? d=U o->DcO Y o (ks.map kD) us vs->Rs Y M (ks.map kD) us->Rs Y M ds vs->ks.length+n<lim->s.heap.IsListIter it l i->
   (∀s' o' us' vs',Inv X M δ s'->s'.heap.get? d=U o'->DcO Y o' ((gS ps ks ds).1.map kD) us' vs'->Rs Y M ((gS ps ks ds).1.map kD) us'->Rs Y M (gS ps ks ds).2 vs'->R' (.ok (.ret .none)) s')->
   codeAny (model P w) A (.builtin "dict.update.loop" ⟨[.ref d,.ref it,.int i t,.none],[]⟩) R' s:=by
 intro n
 induction n with
 |zero=>
  intro i t s o ks ds us vs ps hi hp I hd dc rk rs hl st hR;refine IW bJ ?_
  refine HJ (Nz hh st (tl.is I.heap ql) (by have:=rl.length;simp;lia) λh' eb=>?_)
  rw[MS (by lia)]at hp;cases hp
  refine HJ (HK (HK (hR _ _ _ _ (I.ch (ir eb) (λb hb=>by simp_all)) (eb _ _ (Ib hne) hd) dc rk rs)))
 |succ n ih=>
  intro i t s o ks ds us vs ps hi hp I hd dc rk rs hl st hR;refine IW bJ ?_
  let hip:i<dsl.length:=by lia
  rw[Jl hip]at hp;simp![cH]at hp;split at hp<;>cases hp
  rename_i pp ps' q1 q2;let⟨pk,pv⟩:=pp;let⟨ed,hk⟩:=qV q1;let⟨u,hu1,ru⟩:=rl.get (i:=i) (d:=dsl[i]) (by simp[hip])
  refine HJ (Nk st (tl.is I.heap ql) (x:=u) (by simpa using hu1) λh' st' sb=>?_)
  let I1:Inv X M δ {s with heap:=h'}:=I.ch (gT (t:=s.toks) sb) λb hb=>by simp_all
  rw[ed]at ru;let⟨b,to,tis,rfl,tq,tt,rr⟩:=ru;let⟨ku,vu,rfl,rk1,rv1⟩:=rr.is2;let⟨to,tg,tc,tn,td⟩:=tt.is I1.heap tq;refine HJ (Ij (HJ (KP ?_)))
  refine HJ (Kn (show JV {s with heap:=h'} (.ref b) "tuple" from⟨_,tg,tc⟩) ?_)
  refine HJ (HJ (ME tg ?_))
  rw[td];refine HK (HK ?_)
  let hlim:=aA (HQ lim);refine Ij (GV (s:={s with heap:=h'}) (show A.units+1+30<cLine by lia) I1.heap ((sb.2 d (Ib hne)).trans hd) dc rk hk rk1 (by simp;lia) λh2 tk o2 hs2 g2 dc2=>?_)
  refine HK ⟨Jo bL _,?_⟩
  let hlen:(aC pk ks).length<=ks.length+1:=by unfold aC;split<;>simp
  rw[dJ]at dc2;refine ih (i+1) 0 _ o2 (aC pk ks) (bB pk pv ks ds) _ _ ps' (by lia) q2 (I1.wr (s':={s with heap:=h2,toks:=tk}) [d] (λb hb=>by simp_all) λb o hb e=>(hs2.2 b (λz=>hb (by simp[z]))).trans e) g2 dc2 (by rw[<-dJ];exact vp rk rk1) (by rw[<-gw (β:=D)];exact sk rs rv1) (by lia) ?_ hR
  let⟨o,ho,hc,hd'⟩:=st';exact⟨o,(hs2.2 it hne).trans ho,hc,hd'⟩
def lG {M1:Mp}{s1:HN}{l:HZ}{ol:LW}{ws:Qw HM}{ds:Qw D}{ps:Qw (Key×D)}{Q:HM->HN->Prop}(I1:Inv X M1 δ s1) (ql:Rd Y M1 l ol) (tl:LstO ol ws) (rl:Rs Y M1 ds ws) (qp:cH ds=U ps) (hl:ds.length<lim) (k:PostF X M1 δ (.dK (gS ps [] []).1 (gS ps [] []).2) Q):WP X (call (.type "dict") [.ref l]) Q s1:=by
 let hh:=I1.ok.room.hd;let un:=I1.un;refine NJ (Q₁:=λobj s₁=>obj=.ref s1.heap.objs.size/\s₁={s1 with heap:=s1.heap.push {cls:=.type "dict",data:=.dict #[]}}) F.kt_called_dict (F.kt_typeCall_dict_1 _) F.entry_dict_init (kt_code_dict_new _ ⟨rfl,rfl⟩) ?_
 rintro obj s₁ ⟨rfl,rfl⟩
 let fd:=I1.fresh (HQ _);let I2:Inv X M1 δ {s1 with heap:=s1.heap.push {cls:=.type "dict",data:=.dict #[]}}:=I1.push (t:=s1.toks)
 let hT:JV {s1 with heap:=s1.heap.push {cls:=.type "dict",data:=.dict #[]}} (.ref s1.heap.objs.size) "dict":=⟨_,HO _ rfl,rfl⟩
 let⟨n,hol⟩:=tl.obj I2.heap ql;refine⟨hT,F.args_dict_init_2 _ _,?_⟩
 refine HJ (HJ (Kd hT (HK ?_)))
 refine HJ (Kn (show JV {s1 with heap:=s1.heap.push {cls:=.type "dict",data:=.dict #[]}} (.ref l) "list" from⟨_,hol,rfl⟩) ?_)
 refine HJ (xd hol rfl rfl rfl (by simp[hh]) λh2 tk2 kp2=>?_)
 let I3:Inv X M1 δ {s1 with heap:=h2,toks:=tk2}:=I2.kp kp2
 refine HJ (Ju (HJ (Lb (tl.is I3.heap ql) (HK ⟨Jo bL _,?_⟩))))
 let hd2:=kp2 _ _ (HO (h:=s1.heap) (o:={cls:=.type "dict",data:=.dict #[]}) rfl)
 refine tB (X:=X) (δ:=δ) (A:=X.A.in1) (show X.A.units+1+40<cLine by lia) (by simp[hh]) ql tl rl (JI (H6 hd2)) fd (I3.fresh (HQ _)) ds.length 0 0 _ _ [] [] [] [] ps (by lia) (by trivial) (I3.push (t:=tk2)) (HL _ hd2) rh rfl rfl (by simp_all) ⟨_,HO _ rfl,rfl,rfl⟩ λs' o' us' vs' I' g' dc' rk' rs'=>?_
 exact⟨rfl,k _ _ _ _ Ext.refl I' fd g' ⟨us',vs',dc',Ks.rs.mpr rk',rs'⟩⟩
nonrec theorem zm (g:Bn X "dict") (ha:DE X Y a fa):DF X (.Call (.Name "dict" p) [a] [] pos) (λδ=>bv (fa δ)):=⟨rfl,λ{M δ s d Q} I e k=>by
 unfold bv at e;split at e<;>try cases e
 split at e<;>try cases e
 split at e<;>cases e
 rename_i ds q0 _ ps qp hl;refine cQ g (by rfl:bootBuiltins "dict"=U (.type "dict")) ha I q0 λv s1 M1 x1 I1 r=>?_
 let⟨l,ol,ws,rfl,ql,tl,rl⟩:=r;exact lG I1 ql tl rl qp hl (PostF.to k x1)⟩
def EZ (i:Nat) (x:Qq D) (δ:DEnv):Qq Out:=match B5 (bu i δ) x with|some d=>U (.next (δ.set i (U (d,V))))|none=>B
def rU {Q:HM->HN->Prop}{c ce:HZ}{oe:LW}{ks ls:Qw Key}{ds es:Qw D}{us vs ue ve:Qw HM}{A:Ia}{E:HM->HN->Prop}(H:Hm M s.heap) (hS:(ce==sysModules)=Y) (hne:c≠ce) (ho:s.heap.get? c=U o) (he:s.heap.get? ce=U oe) (dc:DcO Y o (ks.map kD) us vs) (rk:Rs Y M (ks.map kD) us) (rs:Rs Y M ds vs) (de:DcO Y oe (ls.map kD) ue ve) (re:Rs m M (ls.map kD) ue) (rv:Rs Y M es ve) (hz:ks.length+ls.length<=lim)
  (k:∀h' o' us' vs',IM c s.heap h'->h'.get? c=U o'->DcO Y o' ((cp ls es ks ds).1.map kD) us' vs'->Rs Y M ((cp ls es ks ds).1.map kD) us'->Rs Y M (cp ls es ks ds).2 vs'->Q .none {s with heap:=h'}):wpAny (model P w) A (call (.builtin "dict.update") [.ref c,.ref ce]) Q E s:=by
 let⟨_,ep,e1⟩:=dc.dat;let⟨_,ep2,e2⟩:=de.dat;let l1:=dc.lens;let l2:=de.lens;let l3:=rs.length;let l4:=rv.length;simp![HT]at l1 l2;let hl:=aA hz;let⟨vs',g1,g2,g3,g4⟩:=yz (ks:=ks) (ls:=ls) (by lia) rv (by lia) rs
 refine call_meetsIn F.slot_dict_update (dc.ty ho) F.entry_dict_update (F.args_dict_update_2 _ _) (meets_dict_update cz c ce hne hS) ⟨_,_,(dc.dictAt rk e1 ho).dictOf,(de.dictAt re e2 he).dictOf,by simp;lia,λh' hd _ sb=>?_⟩
 rw[g1]at hd;let l5:=g3.length;let⟨o',us',ho',dc',rk'⟩:=FF (m:=Y) (M:=M) hd (by simp;lia)
 rw[LK (by simp;lia),LJ (by simp;lia)]at dc'
 rw[LK (by simp;lia)]at rk'
 exact k h' o' us' vs' sb ho' dc' rk' g3
nonrec theorem vC (h:Nm X i x) (hb:DE X Y b fb) (l:(apos.endLine==cpos.line)=V):DS X (.Expr (.Call (.Attribute (.Name x px) "update" apos) [b] [] cpos) pos) (λδ=>EZ i (fb δ) δ):=λ{M δ s o Q} I e k=>by
 unfold EZ at e;dsimp only at e;split at e<;>cases e
 rename_i q0;let⟨ks,vs,ls,us,e1,e2,hz,rfl⟩:=n5 q0;refine KR (yw Ll OE OC l h (aW hb bC) (by decide) I (aJ e1) (ds:=[_]) (by rw[e2];rfl) (λc=>lS rfl c) λc o ws s1 M1 x1 I1 q cc r=>?_) I.quiet rfl
 let⟨u,rfl,r1⟩:=r.is1;let⟨ce,oe,ue,ve,rfl,qe,de,re,rv⟩:=r1;let⟨uc,vc,dc,rk,rs⟩:=cc;let ho:=I1.heap _ _ _ q;let hne:c≠ce:=λz=>by subst z;rw[rdf]at qe;rw[q]at qe;cases qe
 refine rU I1.heap (I1.nsys qe) hne ho (qe.heap I1.heap) dc ((Ks.rs (m:=Y) (M:=M1)).mp rk) rs de ((Ks.rs (m:=Y) (M:=M1)).mp re) rv hz λh' o' us' vs' sb g' dc' rk' rs'=>?_
 let⟨I2,f2,p2⟩:=I1.chg (s':={s1 with heap:=h'}) (aJ e1) h.n q (λb ob z w=>(sb.2 b z).trans w) g' (xp dc') (d':=.dK _ _) ⟨us',vs',dc',Ks.rs.mpr rk',rs'⟩
 exact k _ _ (x1.sx.trans ⟨f2,λa o=>(p2 a o).mp,λa o=>(p2 a o).mpr⟩) I2
end
end L2
namespace L2
open PySem PySem.Spec PyProof.Rows Md
variable[Md]
section
variable{A:Ia}{E:HM->HN->Prop}{s:HN}
def j8 {R:L9->HN->Prop}(hh:A.handled=B) {v d S:HZ}{kvs:Qw (D×HM)}{ep c₀:Nat}(hv:s.heap.IsValuesView v d) (hm:s.heap.DictAt cz d kvs ep) (hn:kvs.length<=sizeLine) (res:HM)
  (hS:s.heap.get? S=U {cls:=.type "list",data:=.seq #[] c₀})
  (hR:∀h' tk acc' c',(∀b o,b≠S->s.heap.get? b=U o->h'.get? b=U o)->h'.get? S=U {cls:=.type "list",dict:=B,data:=.seq acc' c',slots:=#[]}->Pa (λi v=>(kvs.map (·.2))[i]?=U v) acc' kvs.length->R (.ok (.ret res)) {s with heap:=h',toks:=tk}):
  wpAny (model P w) A.in1 (LI (.ref S) (.ref v) res)
   (λfin s'=>match fin with|.done f=>R (.ok f) s'|.again c'=>c'.quiet=V/\codeAny (model P w) A c' R s') (λe s'=>R (.error e) s') s:=by
 let ty:=hv.typeIs;let⟨ov,hov,hcv,hdv⟩:=id hv;let⟨od,es,hod,hcd,hdd,_,hpp,_⟩:=id hm;let nSv:S≠v:=λe=>by lia
 let nSd:S≠d:=λe=>by lia
 let nSI:S≠s.heap.objs.size:=Il (H6 hS);let ndI:d≠s.heap.objs.size:=Il (H6 hod);let nSf:S∉[s.heap.objs.size,d]:=λhm=>by simp_all
 refine HJ (Kn ty ?_)
 simp![show J7 (.ref S) (.ref v)=Y by simp[J7,nSv],show(JW "dict_values"==JW "list")=Y by decide,show(JW "dict_values"==JW "tuple")=Y by decide,O1,Ig,if_false]
 refine HJ (wpAny_pyIter_values hv hm (HJ (Ij ?_)))
 generalize hI:({cls:=.type "dict_valueiterator",data:=.fields #[.ref d,.int 0 0,.int kvs.length 0,.int ep 0]}:LW)=io;let ty1:JV {s with heap:=s.heap.push io} (.ref v) "dict_values":=⟨_,HL _ hov,hcv⟩
 let hm1:(s.heap.push io).DictAt cz d kvs ep:=hm.push io;refine HJ (Kx ty1 F.slot_dict_values_len.lookup ?_)
 refine HJ (Kf ty1 (b:=V) (by rfl) ?_)
 refine HJ (Kn ty1 (HK ?_))
 let hS1:(s.heap.push io).get? S=U {cls:=.type "list",data:=.seq #[] c₀}:=HL _ hS
 refine HJ (Ju (HJ ?_))
 let hS2:=H7 (IK (·.push JG)) hS1 rfl
 refine HJ (JS hS1 rfl (JS (hz:=by seq_fits) hS2 rfl ?_))
 let hS3:=H7 (IK (·.pop)) hS2 rfl
 let oth:∀b o,b≠S->(s.heap.push io).get? b=U o->(((s.heap.push io).update S (IK (·.push JG))).update S (IK (·.pop))).get? b=U o:=
  λb o hb e=>(HX _ _ (Ib hb)).trans ((HX _ _ (Ib hb)).trans e)
 refine HK ⟨Jo NO _,NI (Walks.dictValues (knd:=cz) (A:=A.in1) (show A.in1.handled=B from hh) s.heap.objs.size d ndI kvs ep).toS hn _ nSf _ kvs.length 0 _ _ _ rfl (Im _) ⟨⟨_,oth _ _ (Ib nSI) (HO _ (by rw[<-hI];rfl)),by rw[<-hI],by rw[<-hI];rfl⟩,hm1.at' λo e=>oth _ _ (Ib nSd) e⟩ hS3 (O5 _) λs' acc' c' hm hS' hacc=>?_⟩
 rw[Moved.eq_with hm];refine hR s'.heap s'.toks acc' c' (λb ob hb e=>hm.heap b ob (λhmem=>?_) (oth b ob hb (HL _ e))) hS' ⟨hacc.1,λi v e=>?_⟩
 ·rcases qaa.mp hmem with e'|hmem
  ·exact hb e'
  ·rw[on.mp hmem]at e;exact absurd (H6 e) (J0 _)
 ·let⟨k,h⟩:=hacc.2 i v e
  simp_all
def nH {R:L9->HN->Prop}(hh:A.handled=B) {d:HZ}{o:LW}{es:Array Kk}{ep:Nat}(hd:(d==sysModules)=Y) (ho:s.heap.get? d=U o) (hc:o.ExactDict) (hdat:o.data=.dict es ep) (hn:es.size<=sizeLine)
  (hR:∀(h':Jr) (tk:Nat) (acc:Array HM) (c':Nat),(∀b o,s.heap.get? b=U o->h'.get? b=U o)->h'.get? s.heap.objs.size=U {cls:=.type "list",dict:=B,data:=.seq acc c',slots:=#[]}->Pa (λi v=>∃e,es[i]?=U e/\v=e.key) acc es.size->R (.ok (.ret (.ref s.heap.objs.size))) {s with heap:=h',toks:=tk}):
  codeAny (model P w) A (.builtin "proto.collect" ⟨[.ref d],[]⟩) R s:=by
 refine IW Nr ?_
 refine HJ (Ir ?_)
 refine HK ⟨Jo Ob _,IW Oe ?_⟩
 let g0:(s.heap.push {cls:=.type "list",data:=.seq ([]:Qw HM).toArray}).get? s.heap.objs.size=U {cls:=.type "list",data:=.seq #[]}:=HO _ rfl
 exact jr (s:={s with heap:=s.heap.push {cls:=.type "list",data:=.seq ([]:Qw HM).toArray}}) hh hd (HL _ ho) hc hdat hn _ g0 λh' tk acc c' hk hS hacc=>hR h' tk acc c' (λb ob e=>hk b ob (Il (H6 e)) (HL _ e)) hS hacc
def pI {Q:Qw HM->HN->Prop}(hh:A.handled=B) {d:HZ}{o:LW}{es:Array Kk}{ep:Nat}(hd:(d==sysModules)=Y) (ho:s.heap.get? d=U o) (hc:o.ExactDict) (hdat:o.data=.dict es ep) (hn:es.size<=sizeLine)
  (hQ:∀(h':Jr) (tk:Nat) (acc:Array HM),(∀b o,s.heap.get? b=U o->h'.get? b=U o)->s.heap.objs.size<=h'.objs.size->Pa (λi v=>∃e,es[i]?=U e/\v=e.key) acc es.size->Q acc.toList {s with heap:=h',toks:=tk}):wpAny (model P w) A (collect (.ref d)) Q E s:=by
 refine HJ (NH (nH hh hd ho hc hdat hn λh' tk acc c' kp hS hacc=>?_))
 exact HJ (ME hS (HK (hQ h' tk acc kp (Pi (H6 hS)) hacc)))
def lR {R:L9->HN->Prop}(hh:A.handled=B) {v d:HZ}{kvs:Qw (D×HM)}{ep:Nat}(hv:s.heap.IsValuesView v d) (hm:s.heap.DictAt cz d kvs ep) (hn:kvs.length<=sizeLine)
  (hR:∀(h':Jr) (tk:Nat) (c':Nat),(∀b o,s.heap.get? b=U o->h'.get? b=U o)->h'.get? s.heap.objs.size=U {cls:=.type "list",dict:=B,data:=.seq (kvs.map (·.2)).toArray c',slots:=#[]}->R (.ok (.ret (.ref s.heap.objs.size))) {s with heap:=h',toks:=tk}):
  codeAny (model P w) A (.builtin "proto.collect" ⟨[.ref v],[]⟩) R s:=by
 refine IW Nr ?_
 refine HJ (Ir ?_)
 refine HK ⟨Jo Ob _,IW Oe ?_⟩
 let g0:(s.heap.push {cls:=.type "list",data:=.seq ([]:Qw HM).toArray}).get? s.heap.objs.size=U {cls:=.type "list",data:=.seq #[]}:=HO _ rfl
 let⟨ov,hov,hvv⟩:=hv;refine j8 (s:={s with heap:=s.heap.push {cls:=.type "list",data:=.seq ([]:Qw HM).toArray}}) hh ⟨ov,HL _ hov,hvv⟩ (hm.push _) hn (.ref s.heap.objs.size) g0 λh' tk acc c' hk hS hacc=>?_
 let e:=iZ (us:=kvs.map (·.2)) (by simpa using hacc) λi v h=>h
 subst e;exact hR h' tk c' (λb ob e=>hk b ob (Il (H6 e)) (HL _ e)) hS
def or {Q:Qw HM->HN->Prop}(hh:A.handled=B) {v d:HZ}{kvs:Qw (D×HM)}{ep:Nat}(hv:s.heap.IsValuesView v d) (hm:s.heap.DictAt cz d kvs ep) (hn:kvs.length<=sizeLine)
  (hQ:∀(h':Jr) (tk:Nat),(∀b o,s.heap.get? b=U o->h'.get? b=U o)->Q (kvs.map (·.2)) {s with heap:=h',toks:=tk}):wpAny (model P w) A (collect (.ref v)) Q E s:=by
 refine HJ (NH (lR hh hv hm hn λh' tk c' kp hS=>?_))
 exact HJ (ME hS (HK (by simpa using hQ h' tk kp)))
def kF {Q:HM->HN->Prop}(hh:A.handled=B) {v d:HZ}{kvs:Qw (D×HM)}{ep:Nat}(hv:s.heap.IsValuesView v d) (hm:s.heap.DictAt cz d kvs ep) (hn:kvs.length<=sizeLine)
  (hQ:∀h' tk c',(∀b o,s.heap.get? b=U o->h'.get? b=U o)->h'.get? s.heap.objs.size=U {cls:=.type "list",dict:=B,data:=.seq (kvs.map (·.2)).toArray c',slots:=#[]}->Q (.ref s.heap.objs.size) {s with heap:=h',toks:=tk}):
  wpAny (model P w) A (call (.type "list") [.ref v]) Q E s:=by
 refine NJ (Q₁:=λobj s₁=>obj=.ref s.heap.objs.size/\s₁={s with heap:=s.heap.push {cls:=.type "list",data:=.seq #[]}}) F.called_list (F.typeCall_list_1 _) F.entry_list_init (code_list_new _ ⟨rfl,rfl⟩) λobj s₁ h₁=>?_
 let⟨rfl,rfl⟩:=h₁;let hS:(s.heap.push {cls:=.type "list",data:=.seq #[]}).get? s.heap.objs.size=U {cls:=.type "list",data:=.seq #[]}:=HO _ rfl
 refine⟨⟨_,hS,rfl⟩,F.args_list_init_2 _ _,?_⟩
 refine HJ ?_
 refine HJ (Jk hS rfl (HK ?_))
 let hS2:=H7 (IK (λ_=>(#[]:Array HM))) hS rfl
 let up:∀b ob,s.heap.get? b=U ob->((s.heap.push {cls:=.type "list",data:=.seq #[]}).update s.heap.objs.size (IK (λ_=>(#[]:Array HM)))).get? b=U ob:=λb ob e=>(HX _ _ (Ib (Il (H6 e)))).trans (HL _ e)
 let⟨ov,hov,hvv⟩:=hv;refine HJ (JS hS rfl (HJ (KZ ?_)))
 exact j8 (A:=A.in1) hh ⟨ov,up _ _ hov,hvv⟩ (hm.at' λo e=>up _ _ e) hn .none hS2 λh' tk acc' c' hk hS' hacc=>by
  let e:=iZ (us:=kvs.map (·.2)) (by simpa using hacc) λi v h=>h
  subst e;exact⟨rfl,hQ h' tk c' (λb ob e=>hk b ob (Il (H6 e)) (up b ob e)) hS'⟩
end
section
variable{X:Cx}{M:Mp}{δ:DEnv}{s:HN}{a b:Expr}{fa fb:DEnv->Qq D}{m m':Bool}{p p2 pos pos2 apos cpos:MR}
def jN (x:Qq (Qw D)):Qq D:=match x with|some ds=>U (.lst ds)|none=>B
def lD (h:jN x=U d):∃ds,x=U ds/\d=.lst ds:=by unfold jN at h;split at h<;>cases h;exact⟨_,rfl,rfl⟩
theorem yM (g:Bn X "list") (ha:DE X Y a fa) (l:(apos.endLine==cpos.line)=V):DF X (.Call (.Name "list" p) [.Call (.Attribute a "values" apos) [] [] cpos] [] pos) (λδ=>jN (eY (fa δ))):=⟨rfl,λ{M δ s d Q} I e k=>by
 let⟨ds,e1,rfl⟩:=lD e;refine IN (I.bltn g (by rfl:bootBuiltins "list"=U (.type "list")) (KF ?_ rfl rfl))
 refine Ie (ji ha l I e1 λv c o ks us vs es ep s1 M1 x1 I1 q dc he rk rs vw fv=>IX ?_)
 let l1:=dc.lens;let z:=dc.1;refine kF I.ok.room.hd vw (dc.dictAt rk he (q.heap I1.heap)) (by simp;lia) λh' tk c' kp hS=>?_
 rw[LJ (by lia)]at hS
 exact k _ _ {s1 with heap:=h',toks:=tk} _ x1 (I1.kp kp) (I1.fresh (HQ _)) hS ⟨vs,⟨by lia,c',rfl⟩,rs⟩⟩
theorem tU {c:KD}(g:Bn X "sorted") (ha:DE X Y a fa) (l:(apos.endLine==cpos.line)=V):DF X (.Call (.Name "sorted" p) [.Call (.Attribute a "values" apos) [] [] cpos] [] pos) (λδ=>dF c (jN (eY (fa δ)))):=⟨rfl,λ{M δ s d Q} I e k=>by
 let⟨ds,e1,h1,h2,rfl⟩:=gP e;let⟨ds',e2,h⟩:=lD e1;cases h;refine IN (I.bltn g fX (JZ ?_ rfl rfl))
 refine Ie (ji ha l I e2 λv c o ks us vs es ep s1 M1 x1 I1 q dc he rk rs vw fv=>IX ?_)
 let l1:=dc.lens;let z:=dc.1;refine Kp OV Os Ov (Oy _) ?_
 refine HJ (m:=checkCount "sorted" 1 1 _) (HK (HJ (or (A:=X.A.in1) I.ok.room.hd vw (dc.dictAt rk he (q.heap I1.heap)) (by simp;lia) λh' tk kp=>?_)))
 rw[LJ (by lia)]
 exact dk (I1.kp (s':={s1 with heap:=h',toks:=tk}) kp) rs (by lia) h1 h2 (PostF.to k x1)⟩
def rj (c:KD) (x:Qq D):Qq D:=dF c (fq x)
nonrec theorem tJ {c:KD}(g:Bn X "sorted") (ha:DE X Y a fa):DF X (.Call (.Name "sorted" p) [a] [] pos) (λδ=>rj c (fa δ)):=⟨rfl,λ{M δ s d Q} I e k=>by
 let⟨ds,e1,h1,h2,rfl⟩:=gP e;unfold fq at e1;split at e1<;>cases e1
 rename_i us0 q0;let⟨d,bb,e1,e2⟩:=dM q0;refine jV g fX ha I e1 λv s1 M1 x1 I1 r=>?_
 let⟨l,o,us,vs,rfl,q,dc,rk,rs⟩:=r.dc e2;let⟨hz,hc,_,_,es,ep,he,_⟩:=id dc;let⟨l1,l2,l3,at'⟩:=dc.at he;refine Kp OV Os Ov (Oy _) ?_
 refine HJ (m:=checkCount "sorted" 1 1 _) (HK (HJ (pI (A:=X.A.in1) I.ok.room.hd (I1.nsys q) (q.heap I1.heap) hc he (by lia) λh' tk acc kp _ hacc=>?_)))
 rw[show es.size=us.length by lia]at hacc
 let e:=iZ hacc λi v ⟨en,z1,z2⟩=>by have:=(at' i).2.1;rw[z1]at this;rw[<-this,z2];rfl
 subst e;exact dk (I1.kp (s':={s1 with heap:=h',toks:=tk}) kp) rk (by simp;lia) h1 h2 (PostF.to k x1)⟩
end
end L2
namespace L2
open PySem PySem.Spec PyProof.Rows PySem.W Md
variable[Md]
section
variable{X:Cx}{M M':Mp}{δ:DEnv}{s s':HN}{Q:HM->HN->Prop}{a b c:Expr}{es:Qw Expr}{fa fb fc:DEnv->Qq D}{fs:DEnv->Qq (Qw D)}{m:Bool}{pos pos' px p p1 p2 apos cpos:MR}{cn name:Ih}{C:HZ}{ns:Qw Ih}{i i1 i2 j:Nat}{y y1 y2:Ih}
nonrec theorem Fv (h:rd V i δ=U (.ob cn ks ds)):∃d0 b0,δ[i]?=U (U (d0,b0))/\((d0=.ob cn ks ds)\/∃j,b0=V/\d0=.loc (U cn) j/\δ[j]?=U (U (.ob cn ks ds,V))):=by
 let⟨d0,b0,b,e,e',hb⟩:=pX h;refine⟨d0,b0,e,?_⟩
 unfold res at e';cases b0 with
 |false=>cases e';exact .inl rfl
 |true=>
  dsimp only at e';split at e'<;>cases e'
  rename_i q;unfold Gm at q;split at q
  ·split at q<;>try cases q
   split at q<;>cases q
   rename_i c' j _ q1 q2
   rcases sV q2 with⟨_,z⟩|⟨c2,_,_,rfl,z⟩
   ·cases z
   ·cases z;exact .inr ⟨j,rfl,rfl,q1⟩
  ·cases q
  ·cases q;exact .inl rfl
def Inv.obAt (I:Inv X M δ s) (h:Nm X i y) (e:rd V i δ=U (.ob cn ks ds)) {E:HM->HN->Prop}(k:∀x ox ad o vs,M x=U (.f,ox)\/(∃r,M x=U (r,ox))->InsO cn ox ad->s.heap.get? x=U ox->s.heap.get? ad=U o->AtO o ks vs->Rs Y M ds vs->Q (.ref x) s):wpAny (model P w) X.A (eval (.Name y px) X.env) Q E s:=by
 let⟨d0,b0,e0,h0⟩:=Fv e;refine Kr (I.load h e0 λu va=>?_) h.d
 rcases h0 with rfl|⟨j,rfl,rfl,e1⟩
 ·cases b0 with
  |false=>
   let⟨x,ox,ad,o,vs,rfl,q,i,q2,ao,rs⟩:=va;exact k x ox ad o vs (.inl (rdf.mp q)) i (q.heap I.heap) (q2.heap I.heap) ao rs
  |true=>
   rcases va with⟨_,_,_,_,z⟩|⟨x,ox,ad,o,vs,rfl,q,i,q2,ao,rs⟩
   ·exact z.elim
   ·exact k x ox ad o vs (.inl q) i (I.heap _ _ _ q) (I.heap _ _ _ q2) ao rs
 ·rcases va with⟨_,_,_,_,z⟩|⟨ad,x,ox,h1,h2,rfl,h4,h5⟩
  ·exact z.elim
  ·let⟨o,q,ca⟩:=I.sto (j - X.N.length) ad _ h1 (by rw[show X.N.length+(j - X.N.length)=j by lia];exact e1)
   rcases ca with ca|⟨_,_,_,vs,z,ao,rs⟩
   ·exact ca.elim
   cases z;exact k x ox ad o vs (.inl h4) h5 (I.heap _ _ _ h4) (I.heap _ _ _ q) ao rs
theorem Ao (k:∃C,Cls cn C ns) (hn:name∈ns) (h:Nm X i y) (he:eval (.Attribute (.Name y px) name pos) X.env=(do
   let o <-eval (.Name y px) X.env
   standAt pos.atName
   let r <-holding [o] (getAttr o name V)
   letTemporaryGo (.Name y px) o r
   pure r)):DE X m (.Attribute (.Name y px) name pos) (λδ=>bP cn name (rd V i δ)):=⟨rfl,λ{M δ s d Q} I e kk=>by
 let⟨C,k⟩:=k;let⟨ks,ds,e1,e2⟩:=tE e;refine Attribute_any_ (I.obAt h e1 λx ox ad o vs _ i hx ho ao rs=>?_) he
 obtain rfl:=i.is k;let⟨_,_,en,n,rfl,at_⟩:=ao;let⟨v,h1,h2⟩:=yX rs d e2;let hg:lookIn name (dictOf en n)=U (U v):=by rw[lookIn_dict,at_.get name,h1]
 exact get_value I.kIn (C:=C) (ox:=instObj C ad) (od:=U (dictOf en n)) ⟨hx,rfl,rfl,ho⟩ k.ga (findObj_own k.hd (k.no _ hn) rfl hg) h2.handed (kk _ _ _ Ext.refl I.tok h2.weak)⟩
def Inv.frzS (I:Inv X M δ s) (h:Nm X i y) (e:δ[i]?=U (U (.loc (U cn) j,V))) (e2:δ[j]?=U (U (.ob cn ks ds,V))):∃M',Sx M M'/\Inv X M' ((δ.set i (U (.ob cn ks ds,Y))).set j B) s:=by
 let⟨mL,hn,hl⟩:=id I.loc;let⟨u,l,v⟩:=hl i y _ V h.n e h.v;obtain⟨ad,x,ox,h1,h2,rfl,h4,h5⟩:∃a x ox,X.S[j - X.N.length]?=U a/\X.N.length<=j/\u=.ref x/\M x=U (.f,ox)/\InsO cn ox a:=by
  rcases v with⟨_,_,_,_,z⟩|v
  ·exact z.elim
  ·exact v
 let hj:X.N.length+(j - X.N.length)=j:=by lia
 let⟨o,q,ca⟩:=I.sto (j - X.N.length) ad _ h1 (by rw[hj];exact e2)
 rcases ca with ca|⟨_,_,_,vs,z,ao,rs⟩
 ·exact ca.elim
 cases z;let hi:i<X.N.length:=(List.getElem?_eq_some_iff.mp h.n).1
 let fwd:∀{b k ob},M b=U (k,ob)->k≠.s (j - X.N.length)->upd M ad (U (.f,o)) b=U (k,ob):=λ{b k ob} h w=>by rw[ai (λz=>by lia)];exact h
 let bwd:∀{b k ob},upd M ad (U (.f,o)) b=U (k,ob)->(b=ad/\k=.f/\ob=o)\/M b=U (k,ob):=λ{b k ob} h=>by
  by_cases z:b=ad
  ·simp_all [ah]
  ·rw[ai z]at h;exact .inr h
 let hs:Sub Y M Y (upd M ad (U (.f,o))):=λb ob r=>rdf.mpr (fwd (rdf.mp r) λz=>nomatch z)
 refine⟨upd M ad (U (.f,o)),⟨hs,λb ob z=>fwd z λw=>(nomatch w),λb ob z=>(bwd z).elim (λw=>nomatch w.2.1) id⟩,I.mp hs (λb k ob z=>(bwd z).elim (λw=>by rw[w.1,w.2.2];exact I.heap _ _ _ q) (I.heap _ _ _)) (λ_ _ _ _ z=>z) (λb ob z _=>fwd z λw=>(nomatch w)) (λb z _=>?_) (λb k ob z w=>(bwd z).elim (λy=>by rw[y.2.1]at w;cases w) λy=>I.own _ _ _ y w) (λb c k ob oc w z z'=>?_) (λk ob z=>(bwd z).elim (λy=>by have:=I.sys _ _ (by rw[y.1];exact q);cases this) (I.sys _ _)) (by simp) (λi' y' d' b z1 z2 z3=>?_) (λp b d' z1 z2=>?_) λb hb=>⟨λk ob z=>⟨ob,I.heap _ _ _ z⟩,λk ob z w=>(bwd z).elim (λy=>by rw[y.2.1]at w;cases w) λy=>.inl ⟨ob,y⟩⟩⟩
 ·rw[ai (λw=>by lia)];exact z
 ·rcases bwd z with⟨_,y,_⟩|z1
  ·rw[y]at w;cases w
  rcases bwd z' with⟨_,y,_⟩|z2
  ·rw[y]at w;cases w
  exact I.uni _ _ _ _ _ w z1 z2
 ·let hi':=(List.getElem?_eq_some_iff.mp z1).1
  rw[H0 (by lia)]at z3
  by_cases w:i'=i
  ·subst w
   rw[IE (List.getElem?_eq_some_iff.mp e).1]at z3
   cases z3;refine⟨_,_,e,λu _ va=>?_⟩
   rcases va with⟨_,_,_,_,z⟩|⟨ad',x',ox',k1,_,rfl,k4,k5⟩
   ·exact z.elim
   rw[h1]at k1;cases k1;exact⟨x',ox',ad,o,vs,rfl,hs _ _ (rdf.mpr k4),k5,rdf.mpr ah,ao,rs.to hs⟩
  ·rw[H0 (λz=>w z.symm)]at z3
   exact⟨d',b,z3,λu _ v=>v.to hs λc k ob hk z=>fwd z (by lia)⟩
 ·by_cases w:p=j - X.N.length
  ·subst w;rw[hj,LC]at z2;split at z2<;>simp_all
  ·rw[H0 (by lia),H0 (by lia)]at z2
   exact .inl ⟨z2,λob y=>fwd y λh=>w (by injection h)⟩
def Ar (i:Nat) (δ:DEnv):DEnv:=match δ[i]? with
 |some (U (.loc (U c) j,V))=>(match δ[j]? with
  |some (U (.ob c' ks ds,V))=>if c'=c then(δ.set i (U (.ob c ks ds,Y))).set j B else δ
  |_=>δ)
 |_=>δ
nonrec theorem Ay {rest:Qw Jp}{g:DEnv->Qq Out}(i:Nat) (h:∃x,Nm X i x) (hs:DSs X rest g):DSs X rest (λδ=>g (Ar i δ)):=λ{M δ s o Q} I e k=>by
 let⟨y,h⟩:=h;dsimp only at e;unfold Ar at e;split at e
 ·split at e
  ·split at e
   ·rename_i c j e1 _ c' ks ds e2 hc
    subst hc;let⟨M',x,I'⟩:=I.frzS h e1 e2;exact hs I' e (k.to x)
   ·exact hs I e k
  ·exact hs I e k
 ·exact hs I e k
def kW (i1 i2:Nat) (f:Qw D->Qw D->Qq (D×Bool×DEnv)) (δ:DEnv):Qq (D×DEnv):=match δ[i1]?,δ[i2]? with
 |some (U (.loc (U c1) j1,V)),U (U (.loc (U c2) j2,V))=>(match δ[j1]?,δ[j2]? with
  |some (U (d1,V)),U (U (d2,V))=>if j1≠j2 then(match f [.loc (U c1) 0,.loc (U c2) 1] [d1,d2]with
   |some (r,Y,[U (e1,V),U (e2,V)])=>U (r,(δ.set j1 (U (e1,V))).set j2 (U (e2,V)))
   |_=>B) else B
  |_,_=>B)
 |_,_=>B
def Inv.locAt (I:Inv X M δ s) (h:Nm X i y) (e:δ[i]?=U (U (.loc (U cn) j,V))) {E:HM->HN->Prop}(k:∀ad x ox,X.S[j - X.N.length]?=U ad->X.N.length<=j->M x=U (.f,ox)->InsO cn ox ad->Q (.ref x) s):wpAny (model P w) X.A (eval (.Name y px) X.env) Q E s:=by
 refine Kr (I.load h e λu va=>?_) h.d
 rcases va with⟨_,_,_,_,z⟩|⟨ad,x,ox,h1,h2,rfl,h4,h5⟩
 ·exact z.elim
 ·exact k ad x ox h1 h2 h4 h5
nonrec theorem vD {k:Nat}{f:Qw D->Qw D->Qq (D×Bool×DEnv)}{x:Ih}(F:FnW k x f) (hr:Room k X.A) (g:Gb X x) (h1:Nm X i1 y1) (h2:Nm X i2 y2):DX X (.Call (.Name x p) [.Name y1 p1,.Name y2 p2] [] pos) (kW i1 i2 f):=⟨rfl,λ{M δ s d δ' Q} I e kk=>by
 unfold kW at e;split at e<;>try cases e
 split at e<;>try cases e
 split at e<;>try cases e
 split at e<;>cases e
 rename_i c1 j1 c2 j2 q1 q2 _ _ d1 d2 q3 q4 hj _ e1 e2 q5;let⟨q,f1,f2,FA⟩:=F.ex;refine IN (JY I.ok.kind g.g (KB (by rw[I.ok.glob];exact I.ok.mod.glob.keeps I.bk) f1 ?_) g.d)
 refine Lj (h₀:=base) I.ok.mod.kin f2 (e:=.Name y1 p1) (rest:=[.Name y2 p2]) (Ie (I.locAt h1 q1 λa1 x1 ox1 s1 n1 m1 i1=>?_)) rfl rfl
 refine Ie (I.locAt h2 q2 λa2 x2 ox2 s2 n2 m2 i2=>IX ⟨I.kIn,?_⟩)
 let g1:X.N.length+(j1 - X.N.length)=j1:=by lia
 let g2:X.N.length+(j2 - X.N.length)=j2:=by lia
 let⟨o1,w1,w2,w3,w4,w5,I1,sb1⟩:=I.lendS (p:=j1 - X.N.length) (by rw[g1];exact q3) s1
 let e4:(δ.set (X.N.length+(j1 - X.N.length)) B)[X.N.length+(j2 - X.N.length)]?=U (U (d2,V)):=by rw[H0 (by lia),g2];exact q4
 let⟨o2,v1,v2,v3,v4,v5,I2,sb2⟩:=I1.lendS e4 s2;let ne:a1≠a2:=λz=>by simp_all [ah]
 let sb:Sub Y M Y (upd (upd M a1 B) a2 B):=λb o z=>sb2 _ _ (sb1 _ _ z)
 refine n9 (as:=[a1,a2]) (σ:=[d1,d2]) FA hr I2 ⟨λa ha=>?_,by simp[ne],rfl,λq a d z1 z2=>?_⟩ (ds:=[.loc (U c1) 0,.loc (U c2) 1]) ⟨_,_,rfl,⟨a1,x1,ox1,rfl,rfl,rdf.mp (sb _ _ (rdf.mpr m1)),i1⟩,_,_,rfl,⟨a2,x2,ox2,rfl,rfl,rdf.mp (sb _ _ (rdf.mpr m2)),i2⟩,rfl⟩ q5 λv s' M' xe I3 hb hn _=>?_
 ·simp![ID,Je,or_false]at ha
  rcases ha with rfl|rfl
  ·exact⟨by rw[ai ne];exact ah,w5.l,w5.c,w5.t,w5.s⟩
  ·exact v5
 ·match q,z1,z2 with
  |0,z1,z2=>cases z1;cases z2;exact⟨o1,w2,w3,w4.to sb⟩
  |1,z1,z2=>cases z1;cases z2;exact⟨o2,v2,v3,v4.to sb2⟩
  |n+2,z1,z2=>simp at z1
 ·let⟨b1,o1',b2,b3,b4⟩:=hb 0 a1 e1 rfl rfl
  let⟨d1',o2',d2',d3,d4⟩:=hb 1 a2 e2 rfl rfl;let no:∀{p' b ob},M' b=U (.s p',ob)->M b=U (.s p',ob)/\b≠a1/\b≠a2:=λ{p' b ob} z=>by
   rcases xe b with y|⟨_,_,y⟩
   ·rw[y]at z
    by_cases z2:b=a2
    ·simp_all [ah]
    rw[ai z2]at z
    by_cases z1:b=a1
    ·simp_all [ah]
    rw[ai z1]at z;exact⟨z,z1,z2⟩
   ·rw[y]at z;cases z
  let m2':M a2=U (.s (j2 - X.N.length),o2):=by rw[ai (Ib ne)]at v1;exact v1
  let⟨I4,sb4⟩:=I3.regainS s1 b1 b2 b3 b4 λb ob z=>(no z).2.1 (I.uni _ _ _ _ _ rfl (no z).1 w1)
  let⟨I5,sb5⟩:=I4.regainS (d:=e2) (o:=o2') s2 ⟨by rw[ai (Ib ne)];exact d1'.m,d1'.l,d1'.c,d1'.t,d1'.s⟩ d2' d3 (d4.to sb4) λb ob z=>by
   by_cases w:b=a1
   ·simp_all [ah]
   ·rw[ai w]at z;exact(no z).2.2 (I.uni _ _ _ _ _ rfl (no z).1 m2')
  let ed:(((δ.set (X.N.length+(j1 - X.N.length)) B).set (X.N.length+(j2 - X.N.length)) B).set (X.N.length+(j1 - X.N.length)) (U (e1,V))).set (X.N.length+(j2 - X.N.length)) (U (e2,V))=(δ.set j1 (U (e1,V))).set j2 (U (e2,V)):=by
   rw[g1,g2,qaw _ _ (Ib hj),Mg,Mg]
  rw[ed]at I5;refine kk v s' _ ⟨λb o z=>sb5 _ _ (sb4 _ _ (xe.sub _ _ (sb _ _ z))),λb o z=>?_,λb o z=>?_⟩ I5 ((hn rfl).to λb o z=>sb5 _ _ (sb4 _ _ z))
  ·let k1:b≠a1:=λy=>by lia
   let k2:b≠a2:=λy=>by lia
   rw[ai k2,ai k1]
   rcases xe b with y|⟨y,_⟩
   ·rw[y,ai k2,ai k1];exact z
   ·rw[ai k2,ai k1,z]at y;cases y
  ·by_cases k2:b=a2
   ·simp_all [ah]
   rw[ai k2]at z
   by_cases k1:b=a1
   ·simp_all [ah]
   rw[ai k1]at z
   rcases xe b with y|⟨_,_,y⟩
   ·rw[y,ai k2,ai k1]at z;exact z
   lia⟩
def tyX (x:Qq (D×DEnv)):Qq (Bool×DEnv):=match x with|some (.bl b,δ)=>U (b,δ)|_=>B
def EB (x:Qq (Bool×DEnv)):Qq (Bool×DEnv):=match x with|some (b,δ)=>U (!b,δ)|_=>B
nonrec theorem Bv {ga:DEnv->Qq (D×DEnv)}(h:plT a=V) (ha:DX X a ga):DTX X a (λδ=>tyX (ga δ)):=λ{M δ s c δ' Q} I e k=>by
 unfold tyX at e;dsimp only at e;split at e<;>cases e
 rename_i q;exact isTrue_plain (ha.ev I q λv s1 M1 x1 I1 r1=>by cases r1;exact Jh (k _ _ x1 I1)) (qL h)
nonrec theorem Cp {ga:DEnv->Qq (Bool×DEnv)}(ha:DTX X a ga):DTX X (.UnaryOp .Not a pos) (λδ=>EB (ga δ)):=λ{M δ s c δ' Q} I e k=>by
 unfold EB at e;dsimp only at e;split at e<;>cases e
 rename_i q;exact isTrue_not (ha I q k)
def lw (f:Qw D->Qw D->Qq (D×Bool×DEnv)) (x y:Qq D):Qq D:=match x,y with
 |some (.ob c1 k1 v1),U (.ob c2 k2 v2)=>(match f [.loc (U c1) 0,.loc (U c2) 1] [.ob c1 k1 v1,.ob c2 k2 v2]with|some (r,_,_)=>U r|_=>B)
 |_,_=>B
nonrec theorem uO {k:Nat}{f:Qw D->Qw D->Qq (D×Bool×DEnv)}{x:Ih}(F:FnW k x f) (hr:Room k X.A) (g:Gb X x) (ha:DNw X a fa) (hb:DNw X b fb):DE X m (.Call (.Name x p) [a,b] [] pos) (λδ=>lw f (fa δ) (fb δ)):=⟨rfl,λ{M δ s d Q} I e kk=>by
 unfold lw at e;split at e<;>try cases e
 split at e<;>cases e
 rename_i c1 k1 t1 c2 k2 t2 q1 q2 _ fr σ' q3;let⟨q,f1,f2,FA⟩:=F.ex;refine IN (JY I.ok.kind g.g (KB (by rw[I.ok.glob];exact I.ok.mod.glob.keeps I.bk) f1 ?_) g.d)
 refine Lj (h₀:=base) I.ok.mod.kin f2 (e:=a) (rest:=[b]) (by
  rw[aB ha.pl,aB hb.pl];refine Ie (ha.ev I q1 λv1 s1 M1 x1 I1 F1=>Ie (hb.ev I1.pin q2 λv2 s2 M2 x2 I2 F2=>IX ⟨I2.kIn,?_⟩))
  let⟨J,sx,sb,nn,_,kp⟩:=I1.unp I2 x2.sx;let xu:=x2.unp;let⟨c1',ks1,ds1,x1',ox1,a1,o1,vs1,z1,rfl,z2,z3,z4,z5,z6,z7,z8⟩:=F1;cases z1;let⟨c2',ks2,ds2,x2',ox2,a2,o2,vs2,y1,rfl,y2,y3,y4,y5,y6,y7,y8⟩:=F2;cases y1;let⟨g1,g2⟩:=kp a1 o1 z5 z6;let fa2:Free X (unp X M1 s1.heap M2) a2:=⟨nn _ y5.m,y5.l,y5.c,y5.t,y5.s,y5.n⟩;let ne:a1≠a2:=λz=>by
   subst z;let h:pin X M1 s1.heap a1=U (.p,o1):=by unfold pin;rw[if_pos z5,z6];rfl
   rcases x2 a1 with y|⟨y,_⟩
   ·rw[h,y5.m]at y;cases y
   ·rw[h]at y;cases y
  let m1:unp X M1 s1.heap M2 x1'=U (.f,ox1):=rdf.mp (xu.sub _ _ (rdf.mpr (z3 rfl)));let m2:unp X M1 s1.heap M2 x2'=U (.f,ox2):=rdf.mp (sb _ _ (rdf.mpr (y3 rfl)));refine n9 (as:=[a1,a2]) (σ:=[.ob c1 k1 t1,.ob c2 k2 t2]) FA hr J ⟨λa ha=>?_,by simp[ne],rfl,λq a d w1 w2=>?_⟩ (ds:=[.loc (U c1) 0,.loc (U c2) 1]) ⟨_,_,rfl,⟨a1,x1',ox1,rfl,rfl,m1,z4⟩,_,_,rfl,⟨a2,x2',ox2,rfl,rfl,m2,y4⟩,rfl⟩ q3 λv s' M' xe I3 _ hn hf=>?_
  ·simp![ID,Je,or_false]at ha
   rcases ha with rfl|rfl
   ·exact g2.fre
   ·exact fa2.fre
  ·let ow:∀{o ks vs},AtO o ks vs->Ow o:=λh=>by let⟨_,_,es,n,rfl,_⟩:=h;exact⟨by simp,λ_ z=>nomatch z⟩
   match q,w1,w2 with
   |0,w1,w2=>cases w1;cases w2;exact⟨o1,g1,ow z7,.inr ⟨_,_,_,_,rfl,z7,z8.to xu.sub⟩⟩
   |1,w1,w2=>cases w1;cases w2;exact⟨o2,y6,ow y7,.inr ⟨_,_,_,_,rfl,y7,y8.to sb⟩⟩
   |n+2,w1,w2=>simp at w1
  ·let xx:=(x1.trans xu).trans xe
   cases fr with
   |false=>exact kk _ _ _ xx I3 (hn rfl).weak
   |true=>
    rcases hf rfl with⟨c,o,rfl,f,z,cc⟩|F
    ·exact kk _ _ _ (xx.trans (bQ f.m)) (I3.put f z) (R.weak (cc.rep (br f.m) ⟨.f,ah,rfl⟩))
    ·let⟨M2,x2,I2,r⟩:=F.put (m:=m) I3
     exact kk _ _ _ (xx.trans x2) I2 r) (aB ha.pl) (dm (by simp[hb.pl]))⟩
end
end L2
namespace L2
open PySem PySem.Spec PyProof.Rows Md
section
open PySem.SeqAt
open PySem.AutoSeq1 (wpAny_loadPart')
open PySem.MeetsSeq PySem.MeetsSeq2 PySem.MeetsSeq3
def ma (l:HZ) (items:Array HM) (n:Nat) (dd:Qq HZ) (sl:Array (Qq HM)) (x:HM) (e:HM->Bool) (j:Nat) (hj:j<items.size) (hit:e items[j]=V) (hno:∀m (hm:m<items.size),m<j->e items[m]=Y):
  Meets (Lo.«tuple.index» ⟨[.ref l,x],[]⟩)
   (λA R s=>s.heap.get? l=U {cls:=.type "tuple",dict:=dd,data:=.seq items n,slots:=sl}/\(∀y,y∈items->EqAt A.in1 s y x (e y))/\R (.ok (.ret (.int j s.toks))) {s with toks:=s.toks+1}):=
 .of_wp λprog w A R s h=>by
  let⟨hp,g,d,tk,os⟩:=s;let⟨hl,he,h⟩:=h
  wp_walk using Mr hl
  show wpAny _ _ (forIn (Std.Legacy.Range.mk 0 (min items.size items.size) 1 (by decide)) ((B:Qq PySem.Fin),()) (λ(i:Nat) _=>match items[i]? with
   |some y=>do
    let r <-eqBool y x
    if r=V then do
     let v <-retInt i
     pure (NY (U v,()))
    else pure (Jm (B,()))
   |_=>pure (Jm (B,())))) _ _ _
  rw[Std.Legacy.Range.forIn_eq_forIn_range'];refine KQ _ (λrest b s'=>b.1=B/\s'=⟨hp,g,d,tk,os⟩/\∃i,rest=List.range' i (items.size - i)/\i<=j) _ ?_ ?_ _ _ ⟨rfl,rfl,0,by simp,Im _⟩
  ·rintro i rest b s' ⟨_,rfl,i',e1,e2⟩
   let hi:i'<items.size:=by lia
   rw[show items.size - i'=items.size - (i'+1)+1 by lia,List.range'_succ]at e1
   injection e1 with e3 e4
   subst e3 e4;rw[Jd hi]
   refine HJ (he _ (Array.getElem_mem hi) prog w _ _ ?_)
   by_cases hij:i=j
   ·subst hij
    wp_walk
    exact⟨_,rfl,h⟩
   ·rw[hno i hi (by lia)]
    exact HK ⟨rfl,rfl,i+1,rfl,by lia⟩
  ·rintro b s' ⟨_,rfl,i,e1,e2⟩
   rw[show items.size - i=items.size - (i+1)+1 by lia,List.range'_succ]at e1
   cases e1
end
variable[Md]
section
variable{X:Cx}{M M':Mp}{δ:DEnv}{s s':HN}{a b c:Expr}{es:Qw Expr}{fa fb fc:DEnv->Qq D}{fs:DEnv->Qq (Qw D)}{m m' mm:Bool}{pos pos' pos2 px py pz p p1 p2 apos cpos:MR}{i ix iy j:Nat}{x y z:Ih}
def A8 {A:Ia}{ds:Qw D}{vs:Qw HM}{d:D}{u:HM}(hu:A.units+64<cLine) (H:Hm M s.heap) (o2:ds.all (okD 16)=V) (o1:okD 16 d=V) (rs:Rs m M ds vs) (r3:R m' M d u):∃g:HM->Bool,(∀y,y∈vs.toArray->MM A.in1 s y u (g y))/\∀i (h:i<vs.length) (h':i<ds.length),g vs[i]=decide (ds[i]=d):=by
 classical
 refine⟨λu=>decide (∃e,okD 16 e=V/\R m M e u/\e=d),λz hz=>?_,λi h h'=>?_⟩
 ·let⟨d',h1,h2⟩:=rs.mem (show z∈vs by simp_all)
  let o':=(qac.mp o2) d' h1;dsimp only;rw[show decide (∃e,okD 16 e=V/\R m M e z/\e=d)=decide (d'=d) from decide_eq_decide.mpr ⟨λ⟨e',o3,h',w⟩=>by rw[<-w];exact R.inj o' o3 h2 h',λw=>⟨d',o',h2,w⟩⟩]
  exact(Cg H 16 A.in1 o' o1 (by show A.units+1+16+1<cLine;lia) h2 r3).2.1
 ·let⟨v,h1,h2⟩:=rs.get (i:=i) (d:=ds[i]) (by simp)
  let h3:vs[i]=v:=by simpa[h]using h1
  let o':=(qac.mp o2) _ (JR h');rw[h3];exact decide_eq_decide.mpr ⟨λ⟨e',o3,h',w⟩=>by rw[<-w];exact R.inj o' o3 h2 h',λw=>⟨_,o',h2,w⟩⟩
def wN:Qq D->Qq D->Qq D:=b2 λx d=>match x with
 |.tup ds=>if okD 16 d=V/\ds.all (okD 16)=V/\ds.idxOf d<ds.length then U (.int (ds.idxOf d)) else B
 |_=>B
def Ew {v:HM}(H:Hm M s.heap) (r:R m M (.tup ds) v):s.TypeIs v "tuple"/\∀a,v=.ref a->∃ob,s.heap.get? a=U ob/\ob.dict=B:=by
 let⟨c,o,vs,rfl,q,t,rs⟩:=r;let h:=q.heap H;exact⟨⟨o,h,t.2.1⟩,λa e=>by cases e;exact⟨o,h,t.1.2⟩⟩
nonrec theorem xA (ha:DE X m a fa) (hb:DE X m' b fb) (l:(apos.endLine==cpos.line)=V):DE X mm (.Call (.Attribute a "index" apos) [b] [] cpos) (λδ=>wN (fa δ) (fb δ)):=⟨rfl,λI e k=>by
 let⟨x,y,e1,e2,e3⟩:=jO e;split at e3<;>try cases e3
 split at e3<;>cases e3
 rename_i ds hc;let⟨o1,o2,hj⟩:=hc;refine sA PySem.F.plainAttrs_tuple PySem.F.slot_tuple_index PySem.F.type_tuple_index l ha (aW hb bC) (by decide) I e1 (ds:=[_]) (by rw[e2];rfl) Ew λv us s1 M1 x1 I1 r1 r2=>?_
 let⟨u,rfl,r3⟩:=r2.is1;let⟨c,o,vs,rfl,q,t,rs⟩:=r1;let⟨dd,n,sl,ho⟩:=t.obj I1.heap q;let hl:=rs.length;let⟨g,g1,g2⟩:=A8 I1.un I1.heap o2 o1 rs r3;refine K2 F.slot_tuple_index ⟨_,ho,rfl⟩ F.entry_tuple_index (F.args_tuple_index_2 _ _) (ma c vs.toArray n dd sl u g (ds.idxOf y) (by simp;lia) ?_ ?_) ⟨ho,g1,k _ _ _ x1 I1.tok ⟨_,rfl⟩⟩
 ·rw[Ps,g2 _ (by lia) hj];simp
 ·intro i hi hlt
  rw[Ps,g2 i (by simpa using hi) (by lia)]
  simpa using List.not_of_lt_findIdx (p:=λz=>z==y) (xs:=ds) (i:=i) hlt⟩
def FN:Qq D->Qq D->Qq D:=b2 λx d=>match x with
 |.lst ds=>if okD 16 d=V/\ds.all (okD 16)=V then U (.int (ds.count d:Nat)) else B
 |_=>B
theorem k8 {d:D}{g:HM->Bool}:∀{ds:Qw D}{vs:Qw HM},ds.length=vs.length->(∀i (h:i<vs.length) (h':i<ds.length),g vs[i]=decide (ds[i]=d))->vs.countP g=ds.count d
 |[],[],_,_=>rfl
 |x::ds,v::vs,hl,h=>by
  let h0:=h 0 (by simp) (by simp)
  simp![List.getElem_cons_zero]at h0;let ih:=k8 (d:=d) (g:=g) (ds:=ds) (vs:=vs) (by simpa using hl) λi h1 h2=>h (i+1) (by simpa using h1) (by simpa using h2)
  rw[List.countP_cons,List.count_cons,ih,h0];simp[beq_iff_eq]
nonrec theorem zw (ha:DE X m a fa) (hb:DE X m' b fb) (l:(apos.endLine==cpos.line)=V):DE X mm (.Call (.Attribute a "count" apos) [b] [] cpos) (λδ=>FN (fa δ) (fb δ)):=⟨rfl,λI e k=>by
 let⟨x,y,e1,e2,e3⟩:=jO e;split at e3<;>try cases e3
 split at e3<;>cases e3
 rename_i ds hc;let⟨o1,o2⟩:=hc;refine sA Ke PySem.F.slot_list_count PySem.F.type_list_count l ha (aW hb bC) (by decide) I e1 (ds:=[_]) (by rw[e2];rfl) E6 λv us s1 M1 x1 I1 r1 r2=>?_
 let⟨u,rfl,r3⟩:=r2.is1;let⟨c,o,vs,rfl,q,t,rs⟩:=r1;let⟨n,ho⟩:=t.obj I1.heap q;let⟨g,g1,g2⟩:=A8 I1.un I1.heap o2 o1 rs r3;refine K2 F.slot_list_count ⟨_,ho,rfl⟩ F.entry_list_count (F.args_list_count_2 _ _) (SeqAt.list_countAt c vs.toArray n B #[] u g) ⟨ho,g1,?_⟩
 rw[show vs.toArray.toList=vs from rfl,k8 (ds:=ds) rs.length g2]
 exact k _ _ _ x1 I1.tok ⟨_,rfl⟩⟩
def BE (i:Nat) (x:Qq D) (δ:DEnv):Qq Out:=AV i x δ
nonrec theorem tw (h:Nm X i x) (nd:X.N.Nodup) (ha:DE X Y a fa) (l:(apos.endLine==cpos.line)=V):DS X (.Expr (.Call (.Attribute (.Name x px) "extend" apos) [a] [] cpos) pos) (λδ=>BE i (fa δ) δ):=λ{M δ s o Q} I e k=>by
 unfold BE AV at e;dsimp only at e;split at e<;>try cases e
 split at e<;>cases e
 rename_i ds es e1 e2 hl;refine KR (yw Ke OD OB l h (aW (m:=Y) ha bC) (by decide) I (aJ e1) (ds:=[.lst es]) (by rw[e2];rfl) jg λa o us s1 M1 x1 I1 q c r=>?_) I.quiet rfl
 let⟨u,rfl,r1⟩:=r.is1;let⟨c',o',vs',rfl,q',t',rs'⟩:=r1;let⟨vs,⟨z,n,rfl⟩,rs⟩:=c;let hq:=I1.heap _ _ _ q;let⟨n',hq'⟩:=t'.obj I1.heap q';let hl1:=rs.length;let hl2:=rs'.length;have:=aA hl;let⟨M2,I2,x2⟩:=I1.lset (f:=λa=>a++vs'.toArray) (us:=vs++vs') (t:=s1.toks) h nd (aJ e1) q (by simp) (rs.append rs') (by simpa using hl)
 refine K2 F.slot_list_extend ⟨_,hq,rfl⟩ F.entry_list_extend (F.args_list_extend_2 _ _) (Ny a vs.toArray n c' vs'.toArray n' ?_ (by assumption) (by simp;lia)) ⟨hq,hq',k _ _ (x1.sx.trans x2) I2⟩
 rw[show NS (vs.toArray.size+vs'.toArray.size)=Y from decide_eq_false (by simp;lia),Bool.and_false];lia
def DC (i:Nat) (δ:DEnv):Qq (D×DEnv):=match bu i δ with
 |some (.lst ds)=>(match ds[ds.length - 1]? with|some d=>if ds.length<=lim then U (d,δ.set i (U (.lst (ds.dropLast),V))) else B|none=>B)
 |_=>B
def Rs.dropLast:∀{ds vs},Rs m M ds vs->Rs m M ds.dropLast vs.dropLast:=λ{ds vs} r=>by
 have:=r.length;rw[Pn,Pn,this];exact r.take _
nonrec theorem ET (h:Nm X i x) (nd:X.N.Nodup) (l:(apos.endLine==cpos.line)=V):DX X (.Call (.Attribute (.Name x px) "pop" apos) [] [] cpos) (DC i):=⟨rfl,λ{M δ s d δ' Q} I e k=>by
 unfold DC at e;split at e<;>try cases e
 split at e<;>try cases e
 split at e<;>cases e
 rename_i ds q0 _ hl qd;let h1:=aJ q0;refine Nc (fM rfl) l (Kr (I.load h h1 λv r=>?_) h.d)
 let⟨c,o,rfl,q,vs,⟨z,n,rfl⟩,rs⟩:=r.own rfl;let hq:=I.heap _ _ _ q;let⟨v,hv,rv⟩:=rs.get qd;let hlen:=rs.length;refine⟨"list","list.pop",F.plainAttrs_list,F.slot_list_pop,F.type_list_pop,⟨_,hq,rfl⟩,λb e=>by cases e;exact⟨_,hq,rfl⟩,JX rfl (Np ?_)⟩
 let⟨M2,I2,x2⟩:=I.lset (f:=λxs=>xs.eraseIdxIfInBounds (vs.toArray.size - 1)) (us:=vs.dropLast) (t:=s.toks) h nd h1 q (by
  simp) rs.dropLast (by rw[List.length_dropLast];lia)
 exact K2 F.slot_list_pop ⟨_,hq,rfl⟩ F.entry_list_pop (F.args_list_pop_1 _) (MeetsSeq.list_pop_last c vs.toArray n v (by simpa[hlen]using hv) (by trivial)) ⟨hq,k _ _ _ x2 I2 (rv.to x2.f)⟩⟩
end
end L2
namespace L2
open PySem PySem.Spec PyProof.Rows Md
variable[Md]
section
variable{X:Cx}{M M':Mp}{δ:DEnv}{s s':HN}{a b c:Expr}{es:Qw Expr}{fa fb fc:DEnv->Qq D}{m m' mm:Bool}{pos pos' pos2 px py pz p p1 p2 apos cpos ap2 cp2:MR}{i ix iy j:Nat}{x y z:Ih}{ks:Qw Key}{ds:Qw D}
theorem Iq.get {M:Mp}{i:Nat}:∀{ds:Qw D}{as:Qw HZ}{j:Nat}{d:D},Iq M i ds as->ds[j]?=U d->∃a o,as[j]?=U a/\M a=U (.q i,o)/\C M d o
 |[],_,j,d,_,e=>by simp at e
 |d::ds,_,0,d',⟨a,r,o,rfl,h1,h2,h3⟩,e=>by simp at e;subst e;exact⟨a,o,rfl,h1,h2⟩
 |d::ds,_,j+1,d',⟨a,r,o,rfl,h1,h2,h3⟩,e=>by simpa using Iq.get (j:=j) h3 (by trivial)
theorem Iq.len {M:Mp}{i:Nat}:∀{ds:Qw D}{as:Qw HZ},Iq M i ds as->ds.length=as.length
 |[],_,h=>by rw[h];rfl
 |d::ds,_,⟨a,r,o,rfl,h1,h2,h3⟩=>by simp[h3.len]
theorem Iq.mem {M:Mp}{i:Nat}:∀{ds:Qw D}{as:Qw HZ}{a:HZ},Iq M i ds as->a∈as->∃o,M a=U (.q i,o)
 |[],_,a,h,z=>by rw[h]at z;cases z
 |d::ds,_,a,⟨a',r,o,rfl,h1,h2,h3⟩,z=>by
  rcases qaa.mp z with rfl|z
  ·exact⟨o,h1⟩
  ·exact h3.mem z
theorem Iq.to' {M M':Mp}{i:Nat}(hs:Sub Y M Y M'):∀{ds:Qw D}{as:Qw HZ},Iq M i ds as->(∀c∈as,∀ob,M c=U (.q i,ob)->M' c=U (.q i,ob))->Iq M' i ds as
 |[],_,h,_=>h
 |d::ds,_,⟨b,r,o,rfl,h1,h2,h3⟩,k=>⟨b,r,o,rfl,k b (by simp) _ h1,h2.to hs,Iq.to' hs h3 λc hc=>k c (by simp[hc])⟩
theorem Iq.set {M:Mp}{i:Nat}{a:HZ}{o':LW}{d':D}(hs:Sub Y M Y (upd M a (U (.q i,o')))) (hc:C (upd M a (U (.q i,o'))) d' o'):∀{ds:Qw D}{as:Qw HZ}{j:Nat},Iq M i ds as->as.Nodup->as[j]?=U a->Iq (upd M a (U (.q i,o'))) i (ds.set j d') as
 |[],_,j,h,_,e=>by assumption
 |d::ds,_,0,⟨b,r,o,rfl,h1,h2,h3⟩,nd,e=>by
  simp at e;subst e;let nd:=qae.mp nd;exact⟨b,r,o',rfl,ah,hc,Iq.to' hs h3 λc hc ob z=>by rw[ai (λw=>nd.1 (by rw[<-w];exact hc))];exact z⟩
 |d::ds,_,j+1,⟨b,r,o,rfl,h1,h2,h3⟩,nd,e=>by
  let nd:=qae.mp nd;exact⟨b,r,o,rfl,by rw[ai (λw=>nd.1 (by rw[w];exact HR e))];exact h1,h2.to hs,Iq.set hs hc h3 nd.2 e⟩
def Va.dl (v:Va M S n i (.dL ks ds) u V):∃l o us as,u=.ref l/\M l=U (.o i,o)/\DcO Y o (ks.map kD) us (as.map Kq)/\Ks ks us/\as.Nodup/\Iq M i ds as:=by
 rcases v with⟨_,_,_,_,z⟩|v
 ·exact z.elim
 ·exact v
def DcO.inj {bb b2:Bool}{o:LW}{ks ls:Qw D}{us ws vs ts:Qw HM}(h:DcO bb o ks us vs) (h':DcO b2 o ls ws ts):vs=ts:=by
 let⟨_,_,_,_,es,ep,e,_,_,e1⟩:=h;let⟨_,_,_,_,es',ep',e',_,_,e2⟩:=h'
 lia
theorem fN:∀{as bs:Qw HZ},as.map Kq=bs.map Kq->as=bs
 |[],[],_=>rfl
 |[],b::bs,h=>by cases h
 |a::as,[],h=>by cases h
 |a::as,b::bs,h=>by injection h with h1 h2;injection h1 with h1;rw[h1,fN h2]
def Inv.qapp {l a:HZ}{o:LW}{us:Qw HM}{as:Qw HZ}{l0:Qw D}{d:D}{u:HM}{t:Nat}(I:Inv X M δ s) (hN:X.N[i]?=U x) (nd:X.N.Nodup) (e:δ[i]?=U (U (.dL ks ds,V))) (ql:M l=U (.o i,o)) (dc:DcO Y o (ks.map kD) us (as.map Kq)) (iq:Iq M i ds as) (hnd:as.Nodup) (ha:as[j]?=U a) (hd:ds[j]?=U (.lst l0)) (r:R Y M d u) (hz:l0.length<lim):
  ∃n vs,s.heap.get? a=U {cls:=.type "list",data:=.seq vs n}/\vs.size<sizeLine/\∃M',Inv X M' (δ.set i (U (.dL ks (ds.set j (.lst (l0++[d]))),V))) {s with heap:=s.heap.update a (IK λxs=>xs.push u),toks:=t}/\Sx M M':=by
 let⟨a',oa,w1,qa,vs,⟨hv,n,rfl⟩,rs⟩:=iq.get hd;rw[ha]at w1;cases w1;let g:=I.heap _ _ _ qa;let hl:=rs.length;let hlim:=aA (HQ lim);refine⟨n,vs.toArray,g,by simp;lia,?_⟩
 let g':=Ms g λxs=>xs.push u
 rw[show vs.toArray.push u=(vs++[u]).toArray by simp]at g'
 obtain⟨n',g'⟩:∃n',(s.heap.update a (IK λxs=>xs.push u)).get? a=U {cls:=.type "list",data:=.seq (vs++[u]).toArray n'}:=⟨_,g'⟩
 let hi:i<X.N.length:=(List.getElem?_eq_some_iff.mp hN).1
 let hs:Sub Y M Y (upd M a (U (.q i,{cls:=.type "list",data:=.seq (vs++[u]).toArray n'}))):=λb ob q=>by
  rw[rdf]at q⊢;rw[ai (λw=>by lia)];exact q
 let⟨I2,f2,p2⟩:=I.chg1 (κ:=.q i) (s':={s with heap:=s.heap.update a (IK λxs=>xs.push u),toks:=t}) (δ':=δ.set i (U (.dL ks (ds.set j (.lst (l0++[d]))),V))) rfl qa (λb ob z w=>(HX s.heap _ (Ib z)).trans w) g' xQ (by simp)
  (λq y d' b z1 z2 z3=>by
   by_cases w:q=i
   ·subst w
    rw[IE (List.getElem?_eq_some_iff.mp e).1]at z3
    cases z3;refine .inr ⟨_,_,e,λv va=>.inr ?_⟩
    let⟨l',o',us',as',rfl,y1,y2,y3,y4,y5⟩:=va.dl;obtain rfl:=I.uni _ _ _ _ _ rfl y1 ql;rw[y1]at ql;cases ql;obtain rfl:=fN (y2.inj dc);let ne:l'≠a:=λw=>by lia
    exact⟨l',o,us',as',rfl,by rw[ai ne];exact y1,y2,y3,y4,Iq.set (d':=.lst (l0++[d])) hs ⟨vs++[u],⟨by simp;lia,_,rfl⟩,(rs.append (.one r)).to hs⟩ y5 y4 ha⟩
   ·rw[H0 (Ib w)]at z3
    exact .inl ⟨λz=>(nomatch z),λz=>w (by injection z with z;exact z.symm),z3⟩)
  (λp d' z=>.inl ⟨λz=>(nomatch z),by rw[H0 (by lia)]at z;exact z⟩)
 exact⟨_,I2,f2,λa o=>(p2 a o).mp,λa o=>(p2 a o).mpr⟩
nonrec theorem mH {κ β:Type}[DecidableEq κ] {k:κ}:∀{ks:Qw κ}{xs:Qw β}{d:β},aP k ks xs=U d->∃j:Nat,ks[j]?=U k/\xs[j]?=U d
 |[],_,_,h=>by trivial
 |_::_,[],_,h=>by cases h
 |y::ks,d'::xs,d,h=>by
  unfold aP at h;split at h
  ·rename_i e;cases h;exact⟨0,by simp[e],rfl⟩
  ·let⟨j,h1,h2⟩:=mH h;exact⟨j+1,by simpa using h1,by simpa using h2⟩
def ky (i:Nat) (k v:Qq D) (δ:DEnv):Qq Out:=match δ[i]?,k,v with
 |some (U (.dL ks ds,V)),U k,U d=>(match gG k with
  |some kk=>(match aP kk ks ds with
   |some (.lst l0)=>if l0.length<lim then U (.next (δ.set i (U (.dL ks (bB kk (.lst (l0++[d])) ks ds),V)))) else B
   |_=>B)
  |none=>B)
 |_,_,_=>B
def Zl (i:Nat) (ks:Qw Key) (ds:Qw D) (j:Nat) (M:Mp) (v:HM):Prop:=∃a l o us as,v=.ref a/\M l=U (.o i,o)/\DcO Y o (ks.map kD) us (as.map Kq)/\as.Nodup/\Iq M i ds as/\as[j]?=U a
def Ext.old {a:HZ}{z:Rl×LW}(x:Ext M M') (e:M a=U z):M' a=U z:=(x a).elim (λw=>w.trans e) λw=>by rw[w.1]at e;cases e
def Zl.up (x:Ext M M') (h:Zl i ks ds j M v):Zl i ks ds j M' v:=by
 let⟨a,l,o,us,as,h1,h2,h3,h4,h5,h6⟩:=h;exact⟨a,l,o,us,as,h1,x.old h2,h3,h4,h5.to x.sub λ_ _ e=>x.old e,h6⟩
def Zl.ty {l0:Qw D}{v:HM}(hd:ds[j]?=U (.lst l0)) (H:Hm M s.heap) (h:Zl i ks ds j M v):s.TypeIs v "list"/\∀a,v=.ref a->∃ob,s.heap.get? a=U ob/\ob.dict=B:=by
 let⟨a,l,o,us,as,rfl,h2,h3,h4,h5,h6⟩:=h;let⟨a',oa,w1,qa,vs,⟨hv,n,rfl⟩,rs⟩:=h5.get hd;rw[h6]at w1;cases w1;let g:=H _ _ _ qa;exact⟨⟨_,g,rfl⟩,λb e=>by cases e;exact⟨_,g,rfl⟩⟩
def Af {kk:Key}{ks:Qw Key}{ds:Qw D}{d:D}{j:Nat}(nd:(ks.map kD).Nodup) (h:ks[j]?=U kk) (hl:ks.length=ds.length):bB kk d ks ds=ds.set j d:=by
 rw[<-gw];let h':(ks.map kD)[j]?=U (kD kk):=by rw[H8,h];rfl
 unfold bB;rw[if_pos (HR h')];exact mn nd h' (by simpa using hl)
def Inv.qappG {l0:Qw D}{d:D}{u v:HM}{kk:Key}{Q:HM->HN->Prop}(I:Inv X M δ s) (hN:X.N[i]?=U x) (nd:X.N.Nodup) (e:δ[i]?=U (U (.dL ks ds,V))) (Z:Zl i ks ds j M v) (hk:ks[j]?=U kk) (hd:ds[j]?=U (.lst l0)) (hl:ks.length=ds.length) (r:R Y M d u) (hz:l0.length<lim)
  (k:∀s' M',Sx M M'->Inv X M' (δ.set i (U (.dL ks (bB kk (.lst (l0++[d])) ks ds),V))) s'->Q .none s'):WP X (call (.builtin "list.append") [v,u]) Q s:=by
 let⟨a,l,o,us,as,rfl,h2,h3,h4,h5,h6⟩:=Z;let⟨n,vs,g,hv,M',I',x'⟩:=I.qapp (t:=s.toks) hN nd e h2 h3 h5 h4 h6 hd r hz;rw[<-Af h3.2.2.1 hk hl]at I';exact K2 KV ⟨_,g,rfl⟩ Lm (Lh _ _) (Ly a vs n u (by lia)) ⟨g,k _ _ x' I'⟩
nonrec theorem Ac (h:Nm X i x) (nd:X.N.Nodup) (hb:DE X m b fb) (ha:DE X Y a fa) (l:(apos.endLine==cpos.line)=V):DS X (.Expr (.Call (.Attribute (.Subscript (.Name x px) b p1) "append" apos) [a] [] cpos) pos) (λδ=>ky i (fb δ) (fa δ) δ):=λ{M δ s o Q} I e k=>by
 unfold ky at e;dsimp only at e;split at e<;>try cases e
 split at e<;>try cases e
 split at e<;>try cases e
 split at e<;>cases e
 rename_i ks ds kd d e0 e1 e2 _ kk hk _ l0 hl hz;let⟨rfl,hok⟩:=bF hk;let⟨j,g1,g2⟩:=mH hl;refine KR (sQ (M:=M) (a:=.Subscript (.Name x px) b p1) (Z:=Zl i ks ds j) Ke KV Mu l rfl (aW ha bC) (by decide) (ds:=[d]) (by rw[e2];rfl) (λ{Q'} kk=>?_) (λH z=>z.ty g2 H) (λx z=>z.up x) λv vs s1 M1 x1 I1 z r=>?_) I.quiet rfl
 ·refine No (Kr (I.load h e0 λv va=>hb.ev I e1 λu s2 M2 x2 I2 r2=>?_) h.d)
  let⟨l,o,us,as,rfl,y1,y2,y3,y4,y5⟩:=va.dl;let ho:=I2.heap _ _ _ (x2.old y1);let un:=I2.un;refine Pe (y2.ty ho) slot_dict_getitem.lookup ?_ (oE hb.pl)
  unfold getItem
  try with_reducible refine Ij ?_
  refine HJ (MP (y2.ty ho) (by decide) ?_)
  refine HJ (IC (name:=IU "__getitem__") (y2.ty ho) Ld (Ii Ld (y2.ty ho) N6 ?_ (Oz _ _)))
  show wpAny _ _ (dictGet l u >>= _) _ _ _;refine HJ (Ee (show X.A.units+1+30<cLine by lia) I2.heap ho y2 ((Ks.rs (m:=Y) (M:=M2)).mp y3) hok r2 λtk=>?_)
  let⟨a',oa,w1,qa,_⟩:=y5.get g2;rw[gx y2.2.2.1 (show(ks.map kD)[j]?=U (kD _) by rw[H8,g1];rfl),H8,w1]
  exact HK ⟨_,rfl,HK (kk _ _ _ x2 I2.tok ⟨a',l,o,us,as,rfl,x2.old y1,y2,y4,y5.to x2.sub λ_ _ e=>x2.old e,w1⟩)⟩
 ·let⟨u,rfl,r1⟩:=r.is1
  let hlen:ks.length=ds.length:=by
   let⟨_,_,_,_,as,_,_,y2,_,y5,_⟩:=id z;have:=y2.lens;simp at this;rw[this,y5.len]
  exact I1.qappG h.n nd e0 z g1 g2 hlen r1 hz λs' M' x' I'=>k _ _ (x1.sx.trans x') I'
def Inv.putQ {ad:HZ}{o:LW}(I:Inv X M δ s) (f:Free X M ad) (e:s.heap.get? ad=U o) (ho:Ow o) (i:Nat):Inv X (upd M ad (U (.q i,o))) δ s/\Sx M (upd M ad (U (.q i,o))):=by
 let na:∀{b k ob},M b=U (k,ob)->b≠ad:=λh z=>by simp_all [f.m]
 let fwd:∀{b k ob},M b=U (k,ob)->upd M ad (U (.q i,o)) b=U (k,ob):=λh=>by rw[ai (na h)];exact h
 let kn:∀{b k ob},upd M ad (U (.q i,o)) b=U (k,ob)->(b=ad/\k=.q i/\ob=o)\/M b=U (k,ob):=λ{b k ob} h=>by
  by_cases z:b=ad
  ·simp_all [ah]
  ·rw[ai z]at h;exact .inr h
 let hs:Sub Y M Y (upd M ad (U (.q i,o))):=λb ob r=>rdf.mpr (fwd (rdf.mp r))
 refine⟨I.mp hs (λb k ob z=>(kn z).elim (λw=>by rw[w.1,w.2.2];exact e) (I.heap _ _ _)) (λ_ _ _ _ z=>z) (λb ob z _=>fwd z) (λb z w=>?_) (λb k ob z w=>(kn z).elim (λy=>by rw[y.2.2];exact ho) λy=>I.own _ _ _ y w) (λb c k ob oc w z z'=>?_) (λk ob z=>(kn z).elim (λy=>absurd y.1.symm f.s) (I.sys _ _)) rfl (λj y' e1 b e2 e3 e4=>⟨e1,b,e4,λu _ v=>v.to hs λc k ob _ z=>fwd z⟩) (λq b d' h z=>.inl ⟨z,λob w=>fwd w⟩) λb hb=>⟨λk ob z=>⟨ob,I.heap _ _ _ z⟩,λk ob z _=>(kn z).elim (λy=>absurd (by rw[<-y.1];exact hb) f.n) λy=>.inl ⟨ob,y⟩⟩,hs,λb ob z=>fwd z,λb ob z=>(kn z).elim (λy=>nomatch y.2.1) id⟩
 ·rw[ai (λy=>w (by rw[y];exact f.fre))];exact z
 ·rcases kn z with⟨_,z2,_⟩|z1
  ·rw[z2]at w;cases w
  rcases kn z' with⟨_,y2,_⟩|y1
  ·rw[y2]at w;cases w
  exact I.uni _ _ _ _ _ w z1 y1
def Gl (i:Nat) (x:Qq D) (δ:DEnv):Qq Out:=match x with|some (.dK [] [])=>if i<δ.length then U (.next (δ.set i (U (.dL [] [],V)))) else B|_=>B
nonrec theorem Cf (hx:Lc X i x) (ha:DF X a fa) (hs:swapsWith a (U (.Name x pos')) pos.line X.env=pure Y):DS X (.Assign [.Name x pos'] a pos) (λδ=>Gl i (fa δ) δ):=λ{M δ s o Q} I e k=>by
 unfold Gl at e;dsimp only at e;split at e<;>try cases e
 split at e<;>cases e
 rename_i q hi;refine LR (ha.ev I q λad ob s1 M1 x1 I1 f g c=>?_) hs
 let ho:Ow ob:=c.ow;let⟨us,vs,dc,rk,rs⟩:=c;obtain rfl:us=[]:=rk;obtain rfl:vs=[]:=rs;exact I1.setOwn1 (as:=[ad]) (N:=upd (dis i M1) ad (U (.o i,ob))) hx (λb hb=>by simp_all) (λb hb=>ai λz=>hb (by simp[z])) (λb hb=>by rw[on.mp hb];exact⟨_,ob,ah,g,ho,.inl rfl⟩) (λb hb c hc _ _ _ _=>by simp_all) (d:=.dL [] []) (.inr ⟨ad,ob,[],[],rfl,ah,dc,rfl,Jf,rfl⟩) λs' c h1 h2 h3 _ _ _=>k _ _ (x1.sx.trans ⟨h2,λb o=>(h3 b o).mp,λb o=>(h3 b o).mpr⟩) h1
theorem Iq.append {M:Mp}{i:Nat}:∀{ds es:Qw D}{as bs:Qw HZ},Iq M i ds as->Iq M i es bs->Iq M i (ds++es) (as++bs)
 |[],_,_,_,rfl,t=>t
 |d::ds,_,_,_,⟨a,r,o,rfl,h1,h2,h3⟩,t=>⟨a,r++_,o,rfl,h1,h2,h3.append t⟩
def Ks.append:∀{ks ls:Qw Key}{us vs:Qw HM},Ks ks us->Ks ls vs->Ks (ks++ls) (us++vs):=λh g=>by
 rw[Ks.rs (m:=Y) (M:=λ_=>B)]at h g⊢;rw[Ip];exact h.append g
def wP (i:Nat) (k:Qq D) (fa:DEnv->Qq D) (δ:DEnv):Qq Out:=match δ[i]?,k with
 |some (U (.dL ks ds,V)),U k=>(match gG k with
  |some kk=>if ks.length<lim then(if(aP kk ks ds).isSome=V then ky i (U k) (fa δ) δ else ky i (U k) (fa (δ.set i (U (.dL (ks++[kk]) (ds++[.lst []]),V)))) (δ.set i (U (.dL (ks++[kk]) (ds++[.lst []]),V)))) else B
  |none=>B)
 |_,_=>B
nonrec theorem ut {k v:Qq D}{o:Out}(h:ky i k v δ=U o):∃(ks:Qw Key) (ds:Qw D) (kk:Key) (d:D) (l0:Qw D) (j:Nat),δ[i]?=U (U (.dL ks ds,V))/\k=U (kD kk)/\v=U d/\ks[j]?=U kk/\ds[j]?=U (.lst l0)/\l0.length<lim/\aP kk ks ds=U (.lst l0)/\o=.next (δ.set i (U (.dL ks (bB kk (.lst (l0++[d])) ks ds),V))):=by
 unfold ky at h;split at h<;>try cases h
 split at h<;>try cases h
 split at h<;>try cases h
 split at h<;>cases h
 rename_i ks ds kd d e0 _ kk hk _ l0 hl hz;let⟨rfl,_⟩:=bF hk;let⟨j,g1,g2⟩:=mH hl;exact⟨ks,ds,kk,d,l0,j,e0,rfl,rfl,g1,g2,hz,hl,rfl⟩
def xk {ks:Qw Key}(nd:(ks.map kD).Nodup) {i j:Nat}{k:Key}(h1:ks[i]?=U k) (h2:ks[j]?=U k):i=j:=by
 let h3:(ks.map kD)[i]?=U (kD k):=by rw[H8,h1];rfl
 let h4:(ks.map kD)[j]?=U (kD k):=by rw[H8,h2];rfl
 exact(List.getElem?_inj (List.getElem?_eq_some_iff.mp h3).1 nd).mp (by rw[h3,h4])
nonrec theorem yT (h:Nm X i x) (nd:X.N.Nodup) (hb:DE X Y b fb) (ha:DE X Y a fa) (l:(apos.endLine==cpos.line)=V) (l2:(ap2.endLine==cp2.line)=V):DS X (.Expr (.Call (.Attribute (.Call (.Attribute (.Name x px) "setdefault" ap2) [b,.List [] p2] [] cp2) "append" apos) [a] [] cpos) pos) (λδ=>wP i (fb δ) fa δ):=λ{M δ s o Q} I e k=>by
 unfold wP at e;dsimp only at e;split at e<;>try cases e
 split at e<;>try cases e
 split at e<;>try cases e
 rename_i ks ds kd e0 e1 _ kk hk hlim;let⟨rfl,hok⟩:=bF hk;refine KR (LO (fM rfl) (by rw[o9 (es:=[a]) (by simp[ha.pl])];rfl) l rfl ?_) I.quiet rfl
 let put:∀{δ1 ks1 ds1 j M1 s1 v} (I1:Inv X M1 δ1 s1) (x1:Sx M M1) (Z:Zl i ks1 ds1 j M1 v) (h1:δ1[i]?=U (U (.dL ks1 ds1,V))) (hj:ks1[j]?=U kk) (nk:(ks1.map kD).Nodup) (hlen:ks1.length=ds1.length) (e2:ky i (U (kD kk)) (fa δ1) δ1=U o),
   MethodOn P w X.A "append" cpos v (backTo cpos (starEach [a] X.env)) (λ_ s'=>Q .next s') (λ_ _=>False) s1:=λ{δ1 ks1 ds1 j M1 s1 v} I1 x1 Z h1 hj nk hlen e2=>by
  let⟨ks2,ds2,kk2,d,l0,j2,w1,w2,w3,w4,w5,w6,w7,rfl⟩:=ut e2;rw[h1]at w1;cases w1;obtain rfl:=oW (JT w2);obtain rfl:=xk nk hj w4;let⟨t1,t2⟩:=Z.ty w5 I1.heap;refine⟨"list","list.append",Ke,KV,Mu,t1,t2,?_⟩
  let hA:=(aW ha bC).ev (Q:=λus s'=>WP X (call (.builtin "list.append") (v::us)) (λ_ s'=>Q .next s') s') I1 (ds:=[d]) (by rw[w3];rfl) (λvs s2 M2 x2 I2 r2=>by
   let⟨u,rfl,r3⟩:=r2.is1;exact I2.qappG h.n nd h1 (Z.up x2) hj w5 hlen r3 w6 λs' M' x' I'=>k _ _ (x1.trans (x2.sx.trans x')) I') cpos
  rw[aB ha.pl]at hA⊢;exact JX rfl (LX hA)
 refine LO (fM rfl) (by rw[o9 (es:=[b,.List [] p2]) (by simp[hb.pl];rfl)];rfl) l2 rfl (Kr (I.load h e0 λv va=>?_) h.d)
 let⟨ld,od,us,as,rfl,y1,y2,y3,y4,y5⟩:=va.dl;let hlen:ks.length=ds.length:=by have:=y2.lens;simp at this;rw[this,y5.len]
 let hod:=I.heap _ _ _ y1;refine⟨"dict","dict.setdefault",Ll,PySem.F.slot_dict_setdefault,PySem.F.type_dict_setdefault,y2.ty hod,λb e=>by cases e;exact⟨_,hod,y2.2.1.2.1⟩,?_⟩
 rw[aB hb.pl,aB (show plE (.List [] p2)=V from rfl)]
 refine JX rfl (LX (Ie (hb.ev I e1 λu s1 M1 x1 I1 r1=>Ie ((wU (pos:=p2) bC).ev I1 (d:=.lst []) rfl λa0 o0 s2 M2 x2 I2 f0 g0 c0=>IX ?_))))
 let y1':=x2.old (x1.old y1);let y5':=(y5.to x1.sub λ_ _ e=>x1.old e).to x2.sub λ_ _ e=>x2.old e
 let ho:=I2.heap _ _ _ y1';let un:=I2.un;let hS:(ld==sysModules)=Y:=by rw[beq_eq_false_iff_ne];rintro rfl;exact nomatch I2.sys _ _ y1'
 let hl:=aA (HQ lim);refine Ii F.slot_dict_setdefault (y2.ty ho) F.entry_dict_setdefault ?_ (F.args_dict_setdefault_3 _ _ _)
 refine HJ (HJ (Kd (y2.ty ho) (HK ?_)))
 change wpAny _ _ (if(ld==sysModules)=V then _ else(dictSetDefault ld u (.ref a0) >>= _)) _ _ _
 rw[if_neg (by rw[hS];exact JM)]
 refine HJ (Hx (show X.A.units+1+30<cLine by lia) I2.heap ho y2 ((Ks.rs (m:=Y) (M:=M2)).mp y3) hok (r1.up x2) (λ_=>by simp;lia) (λv tk z=>HK ⟨_,rfl,?_⟩) λh' tk o' z sb g dc=>HK ⟨_,rfl,?_⟩)
 ·let⟨j,z1,z2⟩:=mH z
  rw[H8]at z1 z2
  let⟨kk',z3,z4⟩:=Option.map_eq_some_iff.mp z1;let⟨aj,z5,rfl⟩:=Option.map_eq_some_iff.mp z2;obtain rfl:=oW z4;let hj:j<ds.length:=by have:=(List.getElem?_eq_some_iff.mp z3).1;lia
  rw[if_pos (by rw[<-gk,gx y2.2.2.1 (show(ks.map kD)[j]?=U (kD _) by rw[H8,z3];rfl)];simp[hj])]at e
  exact put (I2.tok (t:=tk)) (x1.trans x2).sx ⟨aj,ld,od,us,as,rfl,y1',y2,y4,y5',z5⟩ e0 z3 y2.2.2.1 hlen e
 ·let hn:aP kk ks ds=B:=by rw[<-gk,gX z]
  rw[if_neg (by rw[hn];simp)]at e
  let ne0:a0≠ld:=λw=>by subst w;rw[f0.m]at y1';cases y1'
  let ho0:Ow o0:=c0.ow;let⟨I3,x3⟩:=I2.putQ f0 g0 ho0 i;let q0:upd M2 a0 (U (.q i,o0)) ld=U (.o i,od):=by rw[ai (Ib ne0)];exact y1'
  let na:a0∉as:=λw=>by let⟨_,w⟩:=y5'.mem w;rw[f0.m]at w;cases w
  let hi:i<X.N.length:=(List.getElem?_eq_some_iff.mp h.n).1
  let k1:aC (kD kk) (ks.map kD)=(ks++[kk]).map kD:=by unfold aC;rw[if_neg z];simp
  let k2:AA (kD kk) u (ks.map kD) us=us++[u]:=by unfold AA;rw[if_neg z]
  let k3:bB (kD kk) (Kq a0) (ks.map kD) (as.map Kq)=(as++[a0]).map Kq:=by unfold bB;rw[if_neg z];simp
  rw[k1,k2,k3]at dc;let y3':Ks (ks++[kk]) (us++[u]):=(Ks.rs (m:=Y) (M:=M1)).mpr (by rw[Ip];exact(((Ks.rs (m:=Y) (M:=M1)).mp y3)).append (.one r1))
  let⟨I4,f4,p4⟩:=I3.chg1 (κ:=.o i) (s':={s2 with heap:=h',toks:=tk}) (δ':=δ.set i (U (.dL (ks++[kk]) (ds++[.lst []]),V))) rfl q0 (λb ob z w=>(sb.2 b z).trans w) g (xp dc) (by simp)
   (λq y d' b z1 z2 z3=>by
    by_cases w:q=i
    ·subst w
     rw[IE (List.getElem?_eq_some_iff.mp e0).1]at z3
     cases z3;refine .inr ⟨_,_,e0,λv va=>.inr ?_⟩
     let⟨l',o2,us',as',rfl,t1,t2,t3,t4,t5⟩:=va.dl;obtain rfl:=I3.uni _ _ _ _ _ rfl t1 q0;rw[t1]at q0;cases q0;obtain rfl:=fN (t2.inj y2);let hs4:Sub Y (upd M2 a0 (U (.q q,o0))) Y (upd (upd M2 a0 (U (.q q,o0))) l' (U (.o q,o'))):=λb ob qq=>by
      rw[rdf]at qq⊢;rw[ai (λw=>by lia)];exact qq
     exact⟨l',o',us++[u],as'++[a0],rfl,ah,dc,y3',by rw[IS];exact⟨t4,by simp,λa ha b hb=>by rw[on.mp hb];exact λw=>na (by rw[<-w];exact ha)⟩,
      (t5.to hs4 λb ob w=>by rw[ai (λy=>by lia)];exact w).append ⟨a0,[],o0,rfl,by rw[ai ne0];exact ah,(c0.to (λb ob w=>hs4 _ _ (x3.f _ _ w))),rfl⟩⟩
    ·rw[H0 (Ib w)]at z3
     exact .inl ⟨λz=>w (by injection z with z;exact z.symm),λz=>(nomatch z),z3⟩)
   (λp d' z=>.inl ⟨λz=>(nomatch z),by rw[H0 (by lia)]at z;exact z⟩)
  let x4:Sx M2 (upd (upd M2 a0 (U (.q i,o0))) ld (U (.o i,o'))):=x3.trans ⟨f4,λa o=>(p4 a o).mp,λa o=>(p4 a o).mpr⟩
  let y5'':Iq (upd (upd M2 a0 (U (.q i,o0))) ld (U (.o i,o'))) i (ds++[.lst []]) (as++[a0]):=by
   refine(y5'.to x4.f λb ob w=>?_).append ⟨a0,[],o0,rfl,by rw[ai ne0];exact ah,c0.to x4.f,rfl⟩
   rw[ai (λy=>by lia),ai (λy=>by simp_all [f0.m])];exact w
  exact put (j:=ks.length) I4 ((x1.trans x2).sx.trans x4) ⟨a0,ld,o',us++[u],as++[a0],rfl,ah,dc,by rw[IS];exact⟨y4,by simp,λa ha b hb=>by rw[on.mp hb];exact λw=>na (by rw[<-w];exact ha)⟩,y5'',by rw[hlen,y5.len];simp⟩ (IE (List.getElem?_eq_some_iff.mp e0).1) (by simp) dc.2.2.1 (by simp[hlen]) e
end
end L2
namespace L2
open PySem PySem.Spec PyProof.Rows Md
variable[Md]
section
variable{X:Cx}{M M':Mp}{δ:DEnv}{s:HN}{a b c:Expr}{fa fb fc:DEnv->Qq D}{m m' mm bb:Bool}{p px pos pos' apos cpos p1 p2:MR}{ga gb:DEnv->Qq (D×DEnv)}
def DD (fa:DEnv->Qq D) (gb:DEnv->Qq (D×DEnv)) (δ:DEnv):Qq (D×DEnv):=match gb δ with
 |some (k,δ')=>(match cM (fa δ) (U k)with|some d=>U (d,δ')|none=>B)
 |none=>B
nonrec theorem Ea (ha:DE X Y a fa) (hb:DX X b gb):DX X (.Subscript a b pos) (DD fa gb):=⟨rfl,λ{M δ s d δ' Q} I e k=>by
 unfold DD at e;split at e<;>try cases e
 split at e<;>cases e
 rename_i k0 _ q0 qb;unfold cM at q0;split at q0<;>cases q0
 rename_i q;let⟨d1,k1,b1,ks,ds,e1,e2,e3,e4,e5⟩:=eU q;cases e2;refine No (ha.ev I e1 λv s1 M1 x1 I1 r1=>hb.ev I1 qb λu s2 M2 x2 I2 r2=>?_)
 let⟨l,o,us,vs,rfl,q,c,rk,rs⟩:=(r1.to x2.f).dc e3;let ho:=q.heap I2.heap;let un:=I2.un;let⟨v,g1,g2⟩:=(j6 rs).2 _ e5.symm;refine Pe (c.ty ho) slot_dict_getitem.lookup ?_ (oE hb.pl)
 unfold getItem
 try with_reducible refine Ij ?_
 refine HJ (MP (c.ty ho) (by decide) ?_)
 refine HJ (IC (name:=IU "__getitem__") (c.ty ho) Ld (Ii Ld (c.ty ho) N6 ?_ (Oz _ _)))
 show wpAny _ _ (dictGet l u >>= _) _ _ _;refine HJ (Ee (show X.A.units+1+30<cLine by lia) I2.heap ho c rk e4 r2 λtk=>?_)
 rw[g1];exact HK ⟨v,rfl,HK (k _ _ _ (x1.sx.trans x2) I2.tok g2)⟩⟩
def FP (i:Nat) (x:Qq (D×DEnv)):Qq Out:=match x with|some (d,δ)=>if i<δ.length then U (.next (δ.set i (U (d,Y)))) else B|none=>B
nonrec theorem C4 (hx:Lc X i x) (ha:DX X a ga) (hs:swapsWith a (U (.Name x pos')) pos.line X.env=pure Y):DS X (.Assign [.Name x pos'] a pos) (λδ=>FP i (ga δ)):=λ{M δ s o Q} I e k=>by
 unfold FP at e;dsimp only at e;split at e<;>try cases e
 split at e<;>cases e
 rename_i d δ' q hi;refine LR (ha.ev I q λv s1 M1 x1 I1 r=>?_) hs
 exact I1.store hx (b:=Y) r λs' _ I' _ _=>k s' M1 x1 I'
structure DXi (X:Cx) (i:Nat) (e:Expr) (f:DEnv->Qq (D×DEnv)):Prop where
 pl:plE e=V
 ev:∀{M δ s d δ'} {Q:HM->HN->Prop},Inv X M δ s->f δ=U (d,δ')->(∀v s' M',Sx M M'->Inv X M' δ' s'->R Y M' d v->δ'[i]?=δ[i]?->(∀a o,M a=U (.o i,o)->M' a=U (.o i,o))->Q v s')->WP X (eval e X.env) Q s
def GT (i:Nat) (ga:DEnv->Qq (D×DEnv)) (δ:DEnv):Qq Out:=match bu i δ,ga δ with
 |some (.lst ds),U (d,δ')=>if ds.length<lim then U (.next (δ'.set i (U (.lst (ds++[d]),V)))) else B
 |_,_=>B
nonrec theorem B4 (h:Nm X i x) (nd:X.N.Nodup) (ha:DXi X i a ga) (l:(apos.endLine==cpos.line)=V):DS X (.Expr (.Call (.Attribute (.Name x px) "append" apos) [a] [] cpos) pos) (λδ=>GT i ga δ):=λ{M δ s o Q} I e k=>by
 unfold GT at e;dsimp only at e;split at e<;>try cases e
 split at e<;>cases e
 rename_i ds d δ' q0 qa hl;let h1:=aJ q0;refine KR (LO (fM rfl) (by rw[o9 (es:=[a]) (by simp[ha.pl])];rfl) l rfl (Kr (I.load h h1 λv r=>?_) h.d)) I.quiet rfl
 let⟨c,o,rfl,q,cc⟩:=r.own rfl;let hq:=I.heap _ _ _ q;refine⟨"list","list.append",F.plainAttrs_list,KV,F.type_list_append,⟨_,hq,(jg cc).1⟩,λb e=>by cases e;exact⟨_,hq,(jg cc).2⟩,?_⟩
 rw[aB ha.pl];refine JX rfl (LX (Ie (ha.ev I qa λu s1 M1 x1 I1 r1 ei ko=>IX ?_)))
 let q1:=ko _ _ q;let⟨vs,⟨z,n,rfl⟩,rs⟩:=cc.to x1.f;let hq1:=I1.heap _ _ _ q1;let hl1:=rs.length;let hl3:lim=1000000:=rfl;let⟨M2,I2,x2⟩:=I1.lset (f:=λa=>a.push u) (us:=vs++[u]) (t:=s1.toks) h nd (ei.trans h1) q1 (by simp) (rs.append (.one r1)) (by simp;lia)
 exact K2 KV ⟨_,hq1,rfl⟩ Lm (Lh _ _) (Ly c vs.toArray n u (by simp;lia)) ⟨hq1,k _ _ (x1.trans x2) I2⟩
def wE (j:Nat) (fa fb fc:DEnv->Qq D) (f:Qw D->Qw D->Qq (D×Bool×DEnv)) (δ:DEnv):Qq (D×DEnv):=match fa δ,fb δ,fc δ,bu j δ with
 |some d1,U d2,U d3,U d=>(match f [d1,d2,d3,.loc B 0] [d]with
  |some (r,_,[U (e,V)])=>if nx e=V/\nx r=V then U (r,δ.set j (U (e,V))) else B
  |_=>B)
 |_,_,_,_=>B
def F5 {M:Mp}(h:Ca M d o) (hd:nx d=V):C M d o:=by
 rcases h with h|⟨_,_,_,_,rfl,_⟩
 ·exact h
 ·cases hd
def Av.of (r:R Y M d u):Av M as u d:=by
 cases d with
 |loc c p=>trivial
 |_=>exact r
nonrec theorem xL {k i:Nat}{f:Qw D->Qw D->Qq (D×Bool×DEnv)}{x:Ih}(F:FnW k x f) (hr:Room k X.A) (g:Gb X x) (hy:Nm X j y) (hij:i≠j) (ha:DE X Y a fa) (hb:DE X Y b fb) (hc:DE X Y c fc):DXi X i (.Call (.Name x p) [a,b,c,.Name y px] [] pos) (wE j fa fb fc f):=⟨rfl,λ{M δ s d δ' Q} I e kk=>by
 unfold wE at e;split at e<;>try cases e
 split at e<;>try cases e
 split at e<;>cases e
 rename_i d1 d2 d3 d0 e1 e2 e3 q0 _ fr ed _ _;let e4:f [d1,d2,d3,D.loc B 0] [d0]=U (d,fr,[U (ed,V)]):=by assumption
 let hn:nx ed=V/\nx d=V:=by assumption
 let⟨hn,hnr⟩:=hn;let w1:=aJ q0;let hn0:=sv q0;let⟨q,f1,f2,FA⟩:=F.ex;refine IN (JY I.ok.kind g.g (KB (by rw[I.ok.glob];exact I.ok.mod.glob.keeps I.bk) f1 ?_) g.d)
 refine Lj (h₀:=base) I.ok.mod.kin f2 (e:=a) (rest:=[b,c,.Name y px]) (by
  rw[aB ha.pl,aB hb.pl,aB hc.pl,aB (show plE (.Name y px)=V from rfl)]
  refine Ie (ha.ev I e1 λv1 s1 M1 x1 I1 r1=>Ie (hb.ev I1 e2 λv2 s2 M2 x2 I2 r2=>Ie (hc.ev I2 e3 λv3 s3 M3 x3 I3 r3=>Ie (Kr (I3.load hy w1 λv r=>?_) hy.d))))
  let⟨a0,o0,rfl,m0,cc⟩:=r.own hn0;refine IX ⟨I3.kIn,?_⟩
  let⟨x',a',o',m1,h1,ca,c1,_,fre,J⟩:=I3.lend w1 hy.n hy.v (.inl hn0);let ea:a'=a0:=I3.uni _ _ _ _ _ rfl m1 m0;let ex:x'=a0:=(c1 hn0).trans ea;subst ea;subst ex;rw[m1]at m0;let sb:Sub Y M3 Y (upd M3 x' B):=λb o z=>by
   rw[rdf]at z⊢;rw[ai (λw=>by lia)];exact z
  let ns:x'∉X.S:=λz=>by let⟨p',h⟩:=(I3.sx _ z).2 _ _ m1 rfl;cases h
  refine Nn (kS (as:=[x']) (σ:=[d0]) FA hr J ⟨λa ha=>by simp_all,by simp,rfl,λq a d z1 z2=>?_⟩ (ds:=[d1,d2,d3,.loc B 0]) ⟨_,_,rfl,Av.of (((r1.up x2).up x3).to sb),_,_,rfl,Av.of ((r2.up x3).to sb),_,_,rfl,Av.of (r3.to sb),_,_,rfl,⟨x',rfl,rfl⟩,rfl⟩ e4 λv s' M' xe I4 hb hn1 hf=>?_)
  ·rw[O4]at z1 z2
   split at z1<;>cases z1
   rename_i z;subst z;cases z2;exact⟨_,h1,I3.own _ _ _ m1 rfl,ca.to sb⟩
  ·let⟨b1,o1',b2,b3,b4⟩:=hb 0 x' ed rfl rfl
   let up:∀{b k ob},M' b=U (k,ob)->k≠.f->M3 b=U (k,ob)/\b≠x':=λ{b k ob} z w=>by
    rcases xe b with y|⟨_,_,y⟩
    ·rw[y]at z
     by_cases z2:b=x'
     ·simp_all [ah]
     ·rw[ai z2]at z;exact⟨z,z2⟩
    lia
   let dn:∀{b k ob},M3 b=U (k,ob)->b≠x'->M' b=U (k,ob):=λ{b k ob} z w=>by
    rcases xe b with y|⟨y,_⟩
    ·rw[y,ai w];exact z
    ·rw[ai w,z]at y;cases y
   let⟨I5,sb5⟩:=I4.regain (by rw[IE (List.getElem?_eq_some_iff.mp w1).1]) hy.n b1 ns b2 b3 (λb ob z=>(up z (λz=>nomatch z)).2 (I3.uni _ _ _ _ _ rfl (up z (λz=>nomatch z)).1 m1)) b4 (.inl ⟨hn,rfl⟩)
   rw[Mg]at I5;let x13:=(x1.trans x2).trans x3;let sx:Sx M3 (upd M' x' (U (.o j,o1'))):=⟨λb o z=>sb5 _ _ (xe.sub _ _ (sb _ _ z)),λb o z=>?_,λb o z=>?_⟩
   ·let ei:∀(δ:DEnv),(δ.set j (U (ed,V)))[i]?=δ[i]?:=λδ=>H0 (Ib hij)
    let ko:∀a o,M a=U (.o i,o)->upd M' x' (U (.o j,o1')) a=U (.o i,o):=λa o z=>by
     let z3:=x13.old z;let na:a≠x':=λw=>by lia
     rw[ai na];exact dn z3 na
    cases fr with
    |false=>exact kk v s' _ (x13.sx.trans sx) I5 ((hn1 rfl).to sb5) (ei δ) ko
    |true=>
     rcases hf rfl with⟨⟨c0,oc,rfl,fc,z,cc⟩,nc⟩|⟨c0,ks,ds,y,oy,a,oc,vs,rfl,rfl,e3,_,e4,fc,z,e6,e7⟩
     ·let nc':c0≠x':=λw=>nc x' (by simp) (by rw[w])
      let fc':Free X (upd M' x' (U (.o j,o1'))) c0:=⟨by rw[ai nc'];exact fc.m,fc.l,fc.c,fc.t,fc.s,fc.n⟩
      exact kk _ s' _ ((x13.sx.trans sx).trans (bQ fc'.m).sx) (I5.put fc' z) ((cc.to sb5).rep (br fc'.m) ⟨.f,ah,rfl⟩) (ei δ) λa o z=>by
       have:=ko a o z;rw[ai (λw=>by simp_all [fc'.m])];exact this
     ·cases hnr
   ·let w:b≠x':=λy=>by lia
    rw[ai w];exact dn z w
   ·by_cases w:b=x'
    ·simp_all [ah]
    rw[ai w]at z
    rcases xe b with y|⟨_,_,y⟩
    ·rw[y,ai w]at z;exact z
    ·lia) (aB ha.pl) (dm (by simp[hb.pl,hc.pl];rfl))⟩
end
end L2
namespace L2
open PySem PySem.Spec PyProof.Rows PySem.W Md
variable[Md]
abbrev DJ (qual:Ih) (scope:Kg) (cl:Qw (Ih×HZ)) (L f:HZ) (cd:HM):Env:={scope:=scope,locals:=L,globals:=mainGlobals,cells:=cl,qual:=qual++IU ".<locals>.",func:=U f,code:=cd,frame:=U L,builtins:=builtinsNs}
abbrev cxL (N:Qw Ih) (qual:Ih) (scope:Kg) (cl:Qw (Ih×HZ)) (f:HZ) (cd:HM) (A:Ia) (L:HZ):Cx:={A:=A,N:=N,env:=DJ qual scope cl L f cd,fn:=Y}
theorem lI {scope:Kg}{env:Env}{x:Ih}:∀{names:Qw (Ih×Kt)}{k:Kt},names.lookup x=U k->k≠.cell->
  (names.map λ(n,k)=>if(k==Le&&env.scope.kind==.function&&env.kindOf n==U .cell) then(n,Nf) else(n,k)).lookup x=U k\/k=.free/\(names.map λ(n,k)=>if(k==Le&&env.scope.kind==.function&&env.kindOf n==U .cell) then(n,Nf) else(n,k)).lookup x=U .cell
 |[],_,h,_=>by simp at h
 |(n,k')::r,k,h,hk=>by
  let ih:=@lI scope env x r k
  grind
section
variable{X:Cx}{M:Mp}{δ:DEnv}{s s':HN}{scope:Kg}{bs:Qw Bool}{bo:Bool}{fp:Qw HZ}
def BZ {m:Ih->Qq HM}{C f:HZ}{qual:Ih}{cd:HM}{A:Ia}(S:CompScope X scope bs) (I:Inv X M δ s) (hf:∀b∈fp,Free X M b) (hC:s.heap.objs.size<=C) (hns:s'.heap.Ns C m) (hk:∀b o,s.heap.get? b=U o->s'.heap.get? b=U o) (hg:s'.os=s.os/\s'.gens=s.gens)
  (hr:Room 0 A):
  Inv (cxL X.N qual scope (aF X.env scope.names []) f cd A C) (cal bo V M s.heap fp) (cx bo bs δ) s':=by
 let J:=mM (bo:=bo) (bs:=bs) (fp:=fp) (m:=m) (C:=C) S I hf hC hns hk hg;let vis:∀{x k},scope.names.lookup x=U k->(relabel scope X.env).names.lookup x=U k\/k=.free/\(relabel scope X.env).names.lookup x=U .cell:=λ{x k} h=>lI (scope:=scope) (env:=X.env) h (λz=>S.cell _ (Jc h) z)
 refine⟨⟨I.ok.mod,S.kind,rfl,rfl,J.ok.inj,λx hx=>?_,hr⟩,J.og,J.heap,J.base,?_,J.free,J.cell,J.tabs,J.own,J.uni,J.len,J.sto,J.sys,J.sx⟩
 ·refine J.ok.has x ?_
  rcases hx with h|h
  ·exact absurd rfl (S.cell _ (Jc h))
  ·rcases vis h with h|⟨_,h⟩
   ·exact .inr h
   ·exact .inl h
 ·let⟨m',h1,h2⟩:=J.loc
  refine⟨m',h1,λi x d b e1 e2 e3=>?_⟩
  let cf:∀{u},scope.names.lookup x=U .free->zj (compEnvC scope (aF X.env scope.names []) C X.env) s'.heap m' x u->zj (DJ qual scope (aF X.env scope.names []) C f cd) s'.heap m' x u:=λ{u} h l=>by
   rcases l with⟨l1,l2⟩|⟨l1,l2⟩
   ·rcases vis h with w|⟨_,w⟩
    ·rw[show(compEnvC scope (aF X.env scope.names []) C X.env).kindOf x=_ from w]at l1;cases l1
    ·rw[show(compEnvC scope (aF X.env scope.names []) C X.env).kindOf x=_ from w]at l1;cases l1
   ·exact .inr ⟨.inr h,l2⟩
  rcases e3 with h|h|h
  ·rcases vis h with w|⟨w,_⟩
   ·let⟨u,l,va⟩:=h2 i x d b e1 e2 (.inl w)
    refine⟨u,?_,va⟩
    rcases l with⟨l1,l2⟩|⟨l1,l2⟩
    ·exact .inl ⟨h,l2⟩
    ·rw[show(compEnvC scope (aF X.env scope.names []) C X.env).kindOf x=_ from w]at l1;rcases l1 with l1|l1<;>cases l1
   ·cases w
  ·exact absurd rfl (S.cell _ (Jc h))
  ·let⟨u,l,va⟩:=h2 i x d b e1 e2 (by rcases vis h with w|⟨_,w⟩;exact .inr (.inr w);exact .inr (.inl w))
   exact⟨u,cf h l,va⟩
def Hf (M:Mp) (s:HN) (f c':HZ) (lq:Ih) (params:Ni) (body:Expr) (scope:Kg) (cl:Qw (Ih×HZ)) (pm ctv:HM):Prop:=s.heap.get? f=U (PySem.W.kla_obj "<lambda>" lq params body scope cl pm c' ctv)/\∃oc vs t,M c'=U (.f,oc)/\oc.data=.fields vs/\vs[1]?=U (.str lq t)
theorem vk {E:HM->HN->Prop}{c P:HZ}{lq:Ih}{params:Ni}{body:Expr}{pos:MR}{Q:HM->HN->Prop}(S:CompScope X scope bs) (I:Inv X M δ s) (hP:(P,lq)∈tb) (hTu:∀q∈tb,q.1=P->q=(P,lq)) (hq:X.env.qual++"<lambda>"=lq)
  (hC:N8 base c P) (hcd:X.env.code=.ref c) (hdef:defaultsOf params X.env=([],[]))
  (h:∀f c' pm ctv s' M',Ext M M'->Inv X M' δ s'->Free X M' f->Hf M' s' f c' lq params body scope (aF X.env scope.names []) pm ctv->Q (.ref f) s'):wpAny (model Md.P w) X.A (eval (.Lambda params body scope pos) X.env) Q E s:=by
 let hcl:=bx (S.has I);refine PySem.W.kla_eval hdef ?_
 rw[hq];let⟨mP,ps,hps,tr,rc⟩:=I.tabs _ hP;let hg:=I.ok.mod.glob.keeps I.bk;let hgP:mainGlobals≠P:=λz=>by
  let⟨o,es,ep,e,d,_⟩:=hg;lia
 let⟨bm,ob,b1,b2,b3,b4,b5,b6⟩:=I.ok.mod.bmain;let b3':=I.bk _ _ b3;let hbP:bm≠P:=λz=>by lia
 let hbG:bm≠mainGlobals:=λz=>by
  let⟨o,es,ep,e,d,_⟩:=hg;lia
 cases hf:codeAmong pos ps.toList with
 |none=>
  refine PySem.W.kla_makeFunction (mg:=mg) hcl I.ok.glob hg hcd (hC.keeps I.bk) hps tr hf hgP ⟨bm,ob,b1,b2,hbG,hbP,b3',b4,b5,b6⟩ λc' ctv h' tk hx hge hlt hrec htb=>?_
  let⟨c2,oc,vs,t,z,hoc,hd,hv⟩:=hrec;cases z;let I1:=I.grow (t':=tk) hP hTu hps hx hge hoc hd hv htb;let f1:=I1.fresh (HQ _);exact h _ c' _ ctv _ _ (bQ (I.fresh hge).m) (I1.push (t:=tk)) f1 ⟨HO _ rfl,oc,vs,t,ah,hd,hv⟩
 |some cv=>
  let⟨c',oc,vs,t,rfl,o1,o2,o3⟩:=rc pos cv hf;refine PySem.W.kla_makeFunctionHit (mg:=mg) hcl I.ok.glob hg hcd (hC.keeps I.bk) hps tr hf ⟨bm,ob,b1,b2,hbG,hbP,b3',b4,b5,b6⟩ λctv h' tk hk hsz=>?_
  let I1:Inv X M δ {s with heap:=h',toks:=tk}:=I.kp hk
  exact h _ c' _ ctv _ _ Ext.refl (I1.push (t:=tk)) (I1.fresh (HQ _)) ⟨HO _ rfl,oc,vs,t,o1,o2,o3⟩
theorem ik {cl:Qw (Ih×HZ)}:∀{names:Qw (Ih×Kt)},(∀y∈names,y.2≠.cell)->
  (forIn names cl (λ(x:Ih×Kt) (cells:Qw (Ih×HZ))=>(match x with
   |(name,kind)=>if(kind==.cell)=V then(do let c <-alloc {cls:=.type "cell",data:=.cell B};pure (Jm ((name,c)::cells))) else pure (Jm cells):N1 (ForInStep (Qw (Ih×HZ))))))=pure cl
 |[],_=>rfl
 |(n,k)::r,h=>by
  rw[Om];have:(k==Nf)=Y:=beq_eq_false_iff_ne.mpr (h (n,k) Ik);simp![this,Ig,if_false,OL];exact ik λy hy=>h y (Ic _ hy)
def CP {Mo:Model}{A:Ia}{E:HM->HN->Prop}{cl:Qw (Ih×HZ)}{x qual:Ih}{f:HZ}{cd u:HM}{Q:Env->HN->Prop}(hn:∀y∈scope.names,y.2≠.cell)
  (h:wpAny Mo A (storeName (DJ qual scope cl s.heap.objs.size f cd) x u) (λ_ s'=>Q (DJ qual scope cl s.heap.objs.size f cd) s') E {s with heap:=s.heap.push {cls:=.type "frame",data:=.dict #[]}}):
  wpAny Mo A (newFunctionEnv scope mainGlobals cl [(x,u)] (qual++IU ".<locals>.") (U f) cd B builtinsNs) Q E s:=by
 refine HJ (wpAny_alloc ?_)
 refine HJ ?_
 rw[ik hn];refine HK ?_
 simp![Om,List.forIn_nil,bind_assoc,OL];exact HJ (Jv h (λ_ _ z=>HK z) λ_ _ z=>z)
def Inv.at {X:Cx}(I:Inv X M δ s) {A:Ia}(hr:Room 0 A):Inv {X with A:=A} M δ s:=⟨⟨I.ok.mod,I.ok.kind,I.ok.glob,I.ok.blt,I.ok.inj,I.ok.has,hr⟩,I.og,I.heap,I.base,I.loc,I.free,I.cell,I.tabs,I.own,I.uni,I.len,I.sto,I.sys,I.sx⟩
def wk {A:Ia}{E:HM->HN->Prop}{k i:Nat}{f c':HZ}{lq x:Ih}{params:Ni}{body:Expr}{pm ctv:HM}{d y:D}{u:HM}{Q:HM->HN->Prop}{fb:DEnv->Qq D}(S:CompScope X scope bs) (I:Inv X M δ s) (hr:Room (k+2) A) (L:Hf M s f c' lq params body scope (aF X.env scope.names []) pm ctv) (hco:scope.isCoroutine=Y) (hge:scope.isGenerator=Y)
  (hx:X.N[i]?=U x) (nd:X.N.Nodup) (hxl:scope.names.lookup x=U .local)
  (hb:BindsTo s (PySem.W.kla_fn "<lambda>" lq params body scope (aF X.env scope.names []) pm (.ref c') ctv) ⟨[u],[]⟩ [(x,u)]) (r:R Y M d u)
  (hbody:∀(cl:Qw (Ih×HZ)) (f c':HZ) (A:Ia) (L:HZ),Room k A->DE (cxL X.N lq scope cl f (.ref c') A L) Y body fb) (e:ae (af i d (cx Y bs δ)) fb=U y)
  (h:∀v s' M',Ext M M'->Inv X M' δ s'->R Y M' y v->(∀a o,Free X M a->s.heap.get? a=U o->s'.heap.get? a=U o/\Free X M' a)->Q v s'):wpAny (model P w) A (call (.ref f) [u]) Q E s:=by
 let⟨hf,oc,vs,t,e1,e2,e3⟩:=L;let⟨δ1,w1,w2⟩:=ag e;obtain rfl:=cq w1;refine Nn (PySem.W.kla_callFunE (by have:=hr.dp;lia) hf rfl hco hge rfl ⟨c',oc,vs,t,rfl,I.heap _ _ _ e1,e2,e3⟩ (hb _ _ _ _ ?_))
 refine CP S.cell ?_
 let kp:∀b o,s.heap.get? b=U o->(s.heap.push {cls:=.type "frame",data:=.dict #[]}).get? b=U o:=λb o e=>HL _ e
 let I0:=BZ (bo:=Y) (fp:=[]) (m:=λ_=>B) (C:=s.heap.objs.size) (f:=f) (qual:=lq) (cd:=.ref c') (A:=A.in1) (s':={s with heap:=s.heap.push {cls:=.type "frame",data:=.dict #[]}}) S I (λ_ z=>nomatch z) (HQ _) ⟨_,#[],_,HO _ rfl,rfl,λe h=>by simp at h,λ_=>rfl⟩ kp ⟨rfl,rfl⟩ (hr.in1.mono (Im _))
 refine Jv (I0.store (i:=i) (x:=x) (d:=d) (b:=Y) (Q:=λ_ s'=>s'.heap.NoLimit/\codeAny (model P w) A (Code.expr body (DJ lq scope (aF X.env scope.names []) s.heap.objs.size f (.ref c'))) (λr s'=>match r with|.ok (.ret v)=>Q v s'|.ok _=>False|.error e=>E e s') s') ⟨hx,nd,.inl hxl⟩ (r.to j9) λs1 c I1 _ _=>?_) (λ_ _ z=>z) λ_ _ z=>z.elim
 refine⟨I.ok.mod.nolimit.keeps I1.bk,PySem.W.kla_codeExpr ?_⟩
 let hr1:Room (k+1) (A.deeper (DJ lq scope (aF X.env scope.names []) s.heap.objs.size f (.ref c'))):=hr.deeper _;let J:=I1.at (hr1.mono (Im _));refine Jv ((hbody (aF X.env scope.names []) f c' _ _ (hr1.mono (Kl _))).ev J (d:=y) w2 (λv s' M1 x2 J1 r1=>?_:Post _ _ _ _ _ (λu s'=>Q u s'))) (λu s' hz=>hz) λ_ _ z=>z.elim
 let⟨I2,sb⟩:=I.ret (m:=Y) (ko:=V) (ex:=[]) J1.lft (λ_ z=>nomatch z) (λ_ z=>nomatch z) x2.sx (λa k o w z=>x2.old z)
 refine h v s' _ i8 I2 (r1.to sb) λa o fa ha=>?_
 let ca:cal Y V M s.heap [] a=U (.p,o):=by
  unfold cal;rw[fa.m];dsimp only;rw[if_neg (by rintro(z|⟨q,z1,z2⟩);cases z;exact fa.t q z1 z2),ha];rfl
 exact⟨J1.heap _ _ _ (x2.sx.p _ _ ca),by unfold bak;simp[fa.m,ha],fa.l,fa.c,fa.t,fa.s,fa.n⟩
end
end L2
namespace L2
open PySem PySem.Spec PyProof.Rows PySem.W Md
def ltB (x y:Bool×Int):Bool:=if x.1=y.1 then decide (x.2<y.2) else(!x.1&&y.1)
def jc (fk:D->Qq D):Qw D->Qq (Qw (Bool×Int))
 |[]=>U []
 |d::ds=>match fk d,jc fk ds with|some (.tup [.bl b,.int i]),U l=>U ((b,i)::l)|_,_=>B
nonrec theorem nE {fk:D->Qq D}:∀{ds:Qw D}{ks},jc fk ds=U ks->ds.length=ks.length
 |[],ks,h=>by simp![jc,KJ]at h;subst h;rfl
 |d::ds,ks,h=>by
  simp![jc]at h;split at h
  ·rename_i b i l q1 q2
   obtain rfl:=JT h;simp[nE q2]
  ·contradiction
nonrec theorem oh {fk:D->Qq D}:∀{ds:Qw D}{ks} {i:Nat}{d:D}{k:Bool×Int},jc fk ds=U ks->ds[i]?=U d->ks[i]?=U k->fk d=U (.tup [.bl k.1,.int k.2])
 |[],ks,i,d,k,h,hd,hk=>by simp at hd
 |d'::ds,ks,i,d,k,h,hd,hk=>by
  simp![jc]at h;split at h
  ·rename_i b' i' l q1 q2
   obtain rfl:=JT h;cases i with
   |zero=>simp_all;subst hk;exact⟨rfl,rfl⟩
   |succ i=>simp at hd hk;exact oh q2 hd hk
  ·contradiction
abbrev btB (ks:Qw (Bool×Int)) (i j:Nat):Bool:=ltB (ks.getD i (Y,0)) (ks.getD j (Y,0))
def xE (x:Qq D) (fk:D->Qq D):Qq D:=match x with
 |some (.lst ds)=>(match jc fk ds with|some ks=>if 0<ds.length then ds[argBest (btB ks) (ds.length - 1)]? else B|none=>B)
 |_=>B
variable[Md]
section
variable{X:Cx}{M:Mp}{δ:DEnv}{s:HN}{A:Ia}
def G3 {b b':Bool}{n n':Int}{u v:HM}(H:Hm M s.heap) (hA:A.units+3<cLine) (r:R m M (.tup [.bl b,.int n]) u) (r':R m' M (.tup [.bl b',.int n']) v):LtAt A s u v (ltB (b,n) (b',n')):=by
 let⟨a,o,us,rfl,q1,t1,x,xs,rfl,rfl,y,ys,rfl,⟨t,rfl⟩,rfl⟩:=r;let⟨c,o',vs,rfl,q2,t2,x',xs',rfl,rfl,y',ys',rfl,⟨t',rfl⟩,rfl⟩:=r';refine LtAt.tuples (t1.is H q1) (t2.is H q2) (by lia) ?_
 unfold ltB;dsimp only;let e1:=SeqAt.EqAt.bool_bool (A:=A.in1) (s:=s) b b'
 by_cases h:b=b'
 ·rw[if_pos h]
  rw[show(b==b')=V by simp[h]]at e1
  let e2:=MY (A:=A.in1) (s:=s) n t n' t';refine .eq e1 ?_
  by_cases g:n=n'
  ·rw[show(n==n')=V by simp[g]]at e2
   subst g;rw[decide_eq_false (by lia)]
   exact .eq e2 .none
  ·rw[show(n==n')=Y by simp[g]]at e2
   exact .ne e2 λprog w E Q hq=>(lt_int hq:wpAny (model prog w) A.in1 (compareOp .Lt (.int n t) (.int n' t')) Q E s)
 ·rw[if_neg h]
  rw[show(b==b')=Y by simp[h]]at e1
  refine .ne e1 λprog w E Q hq=>(lt_bool (by cases b<;>cases b'<;>first|exact absurd rfl h|exact hq):wpAny (model prog w) A.in1 (compareOp .Lt (.bool b) (.bool b')) Q E s)
section
variable{R':L9->HN->Prop}{I l f S:HZ}{ds:Qw D}{vs:Qw HM}{ks:Qw (Bool×Int)}
structure Mk (X:Cx) (δ:DEnv) (M0:Mp) (I S f l:HZ) (vs:Qw HM) (fo:LW) (j:Nat) (M:Mp) (s:HN):Prop where
 ext:Ext M0 M
 inv:Inv X M δ s
 fi:Free X M I
 fs:Free X M S
 ff:Free X M f
 it:s.heap.IsListIter I l j
 ls:s.heap.IsList l vs.toArray
 fo:s.heap.get? f=U fo
def wx {Q:Qq HM->HN->Prop}{M0 M:Mp}{fo:LW}{j:Nat}{v:HM}(h:Mk X δ M0 I S f l vs fo j M s) (hh:A.handled=B) (hl:l≠I) (hfI:f≠I) (hv:vs[j]?=U v)
  (k:∀h' tk,Mk X δ M0 I S f l vs fo (j+1) M {s with heap:=h',toks:=tk}->(∀b o,b≠I->s.heap.get? b=U o->h'.get? b=U o)->Q (U v) {s with heap:=h',toks:=tk}):wpAny (model P w) A (pyNext (.ref I)) Q (λ_ _=>False) s:=by
 let W:=Walks.list (prog:=P) (w:=w) (A:=A) hh I l hl vs.toArray;let hlt:=(List.getElem?_eq_some_iff.mp hv).1
 refine W.item j s _ _ (by trivial) ⟨h.it,h.ls⟩ λv' h' tk' hP hst' hk'=>?_
 let e:v'=v:=by
   have:vs[j]?=U v':=by simpa using hP
   rw[hv]at this;cases this;rfl
 subst e;let kp:∀b o,b≠I->s.heap.get? b=U o->h'.get? b=U o:=λb o hb e=>hk' b o (by simpa using hb) e
 exact k h' tk' ⟨h.ext,h.inv.wr [I] (λb hb=>by rw[on.mp hb];exact h.fi) λb o hb e=>kp b o (by simpa using hb) e,h.fi,h.fs,h.ff,hst'.1,hst'.2,kp _ _ hfI h.fo⟩ kp
abbrev kD2 (k:Bool×Int):D:=.tup [.bl k.1,.int k.2]
def Mk.wrS {M0 M:Mp}{fo:LW}{j:Nat}{h':Jr}{tk:Nat}(h:Mk X δ M0 I S f l vs fo j M s) (hIS:S≠I) (hfS:f≠S) (hlS:l≠S) (k:∀b o,b≠S->s.heap.get? b=U o->h'.get? b=U o):Mk X δ M0 I S f l vs fo j M {s with heap:=h',toks:=tk}:=by
 refine⟨h.ext,h.inv.wr [S] (λb hb=>by rw[on.mp hb];exact h.fs) λb o hb e=>k b o (by simpa using hb) e,h.fi,h.fs,h.ff,?_,?_,k _ _ hfS h.fo⟩
 ·let⟨o,e,z⟩:=h.it;exact⟨o,k _ _ (Ib hIS) e,z⟩
 ·let⟨o,e,z⟩:=h.ls;exact⟨o,k _ _ hlS e,z⟩
theorem wH {M0:Mp}{fo ol:LW}(hh:A.handled=B) (hu:A.units+4<cLine) (hlI:l≠I) (hfI:f≠I) (hIS:S≠I) (hfS:f≠S) (hlS:l≠S) (ql:Rd Y M0 l ol) (tl:LstO ol vs) (hks:vs.length=ks.length)
  (hkey:∀(j:Nat) v M s,vs[j]?=U v->Mk X δ M0 I S f l vs fo (j+1) M s->wpAny (model P w) A.in1 (call (.ref f) [v]) (λu s'=>∃M',Ext M M'/\Inv X M' δ s'/\R Y M' (kD2 (ks.getD j (Y,0))) u/\∀a o,Free X M a->s.heap.get? a=U o->s'.heap.get? a=U o/\Free X M' a) (λ_ _=>False) s)
  (hR:∀v s M,Ext M0 M->Inv X M δ s->vs[argBest (btB ks) (vs.length - 1)]?=U v->R' (.ok (.ret v)) s):
  ∀(r j:Nat) (s:HN) (M:Mp) (vb kb:HM) (c:Nat),Mk X δ M0 I S f l vs fo (j+1) M s->vs.length - (j+1)=r->j+1<=vs.length->vs[argBest (btB ks) j]?=U vb->R Y M (kD2 (ks.getD (argBest (btB ks) j) (Y,0))) kb->
   s.heap.get? S=U {cls:=.type "list",dict:=B,data:=.seq #[vb,kb] c,slots:=#[]}->
   codeAny (model P w) A (.builtin "min.loop" ⟨[.ref I,.ref f,.ref S],[]⟩) R' s:=by
 let hname:(toString "min"++toString ".loop":String)="min.loop":=by decide
 intro r
 induction r with
 |zero=>
  intro j s M vb kb c h hr hj hvb hkb hS;let hin:j+1=vs.length:=by lia
  let W:=Walks.list (prog:=P) (w:=w) (A:=A.in1) hh I l hlI vs.toArray;refine IW MH ?_
  refine HJ (Jk hS rfl ?_)
  refine HJ (KP (W.done _ _ _ (by rw[IR,<-hin];exact⟨h.it,h.ls⟩) λh' tk' hk'=>?_))
  let hS':=hk' S _ (by simpa using hIS) hS
  refine HJ ?_
  refine JS hS' rfl (HJ (KZ (HK ?_)))
  refine hR vb _ M h.ext (h.inv.wr [I,S] (λb hb=>?_) λb o hb e=>?_) (by rw[<-hin];exact hvb)
  ·simp![ID,Je,or_false]at hb
   rcases hb with rfl|rfl
   ·exact h.fi
   ·exact h.fs
  ·simp![ID,Je,or_false,not_or]at hb
   exact(HX _ _ (Ib hb.2)).trans (hk' b o (by simpa using hb.1) e)
 |succ r ih=>
  intro j s M vb kb c h hr hj hvb hkb hS;let hlt:j+1<vs.length:=by lia
  obtain⟨v,hv⟩:∃v,vs[j+1]?=U v:=⟨vs[j+1],by simp[hlt]⟩
  refine IW MH ?_
  refine HJ (Jk hS rfl ?_)
  refine HJ (KP (Jv (wx (Q:=λo s'=>o=U v/\Mk X δ M0 I S f l vs fo (j+2) M s'/\s'.heap.get? S=U {cls:=.type "list",dict:=B,data:=.seq #[vb,kb] c,slots:=#[]}) h hh hlI hfI hv λh' tk h2 k2=>⟨rfl,h2,k2 _ _ hIS hS⟩) (λo s1 hz=>?_) λ_ _ z=>z.elim))
  let⟨rfl,h2,hS2⟩:=hz;refine HJ (KP (Ij (Jv (hkey (j+1) v M s1 hv h2) (λu s2 hz=>?_) λ_ _ z=>z.elim)))
  let⟨M2,x2,I2,r2,fr⟩:=hz;let h3:Mk X δ M0 I S f l vs fo (j+2) M2 s2:=by
   let⟨oI,e1,z1⟩:=h2.it;exact⟨h2.ext.trans x2,I2,(fr _ _ h2.fi e1).2,(fr _ _ h2.fs hS2).2,(fr _ _ h2.ff h2.fo).2,⟨oI,(fr _ _ h2.fi e1).1,z1⟩,tl.is I2.heap ((h2.ext.trans x2).sub _ _ ql),(fr _ _ h2.ff h2.fo).1⟩
  let hS3:=(fr _ _ h2.fs hS2).1;let lt:=G3 (A:=A.in1) (s:=s2) I2.heap (by show A.units+1+3<_;lia) r2 (hkb.up x2)
  refine HJ (KP (Ij (HJ (lt _ _ _ _ ?_))))
  refine HJ (Ij (Jh ?_))
  refine HJ (KZ (HK ?_))
  cases hb:ltB ((ks.getD (j+1) (Y,0)).1,(ks.getD (j+1) (Y,0)).2) ((ks.getD (argBest (btB ks) j) (Y,0)).1,(ks.getD (argBest (btB ks) j) (Y,0)).2)with
  |true=>
   let e:argBest (btB ks) (j+1)=j+1:=by simp![argBest];exact if_pos hb
   refine HJ ?_
   refine JS hS3 rfl (HJ (KZ ?_))
   exact HK ⟨Jo Lu _,ih (j+1) _ M2 v u _ (h3.wrS hIS hfS hlS λb o hb e=>(HX _ _ (Ib hb)).trans e) (by lia) hlt (by rw[e];exact hv) (by rw[e];exact r2) (H7 _ hS3 rfl)⟩
  |false=>
   let e:argBest (btB ks) (j+1)=argBest (btB ks) j:=by simp![argBest];exact if_neg (by rw[show btB ks (j+1) (argBest (btB ks) j)=Y from hb];exact JM)
   refine HJ (KZ ?_)
   exact HK ⟨Jo Lu _,ih (j+1) _ M2 vb kb c h3 (by lia) hlt (by rw[e];exact hvb) (by rw[e];exact hkb.up x2) hS3⟩
end
def uF {M0:Mp}{fo ol:LW}(hh:A.handled=B) (hu:A.units+4<cLine) (hlI:l≠I) (hfI:f≠I) (hIS:S≠I) (hfS:f≠S) (hlS:l≠S) (ql:Rd Y M0 l ol) (tl:LstO ol vs) (hks:vs.length=ks.length) (hn:0<vs.length)
  (hkey:∀(j:Nat) v M s,vs[j]?=U v->Mk X δ M0 I S f l vs fo (j+1) M s->wpAny (model P w) A.in1 (call (.ref f) [v]) (λu s'=>∃M',Ext M M'/\Inv X M' δ s'/\R Y M' (kD2 (ks.getD j (Y,0))) u/\∀a o,Free X M a->s.heap.get? a=U o->s'.heap.get? a=U o/\Free X M' a) (λ_ _=>False) s)
  (hR:∀v s M,Ext M0 M->Inv X M δ s->vs[argBest (btB ks) (vs.length - 1)]?=U v->R' (.ok (.ret v)) s)
  {s:HN}{c:Nat}{M:Mp}(h:Mk X δ M0 I S f l vs fo 0 M s) (hS:s.heap.get? S=U {cls:=.type "list",dict:=B,data:=.seq #[] c,slots:=#[]}):
   codeAny (model P w) A (.builtin "min.loop" ⟨[.ref I,.ref f,.ref S],[]⟩) R' s:=by
 let hname:(toString "min"++toString ".loop":String)="min.loop":=by decide
 obtain⟨v,hv⟩:∃v,vs[0]?=U v:=⟨vs[0],by simp[hn]⟩
 refine IW MH ?_
 refine HJ (Jk hS rfl ?_)
 refine HJ (KP (Jv (wx (Q:=λo s'=>o=U v/\Mk X δ M0 I S f l vs fo 1 M s'/\s'.heap.get? S=U {cls:=.type "list",dict:=B,data:=.seq #[] c,slots:=#[]}) h hh hlI hfI hv λh' tk h2 k2=>⟨rfl,h2,k2 _ _ hIS hS⟩) (λo s1 hz=>?_) λ_ _ z=>z.elim))
 let⟨rfl,h2,hS2⟩:=hz;refine HJ (KP (Ij (Jv (hkey 0 v M s1 hv h2) (λu s2 hz=>?_) λ_ _ z=>z.elim)))
 let⟨M2,x2,I2,r2,fr⟩:=hz;let h3:Mk X δ M0 I S f l vs fo 1 M2 s2:=by
  let⟨oI,e1,z1⟩:=h2.it;exact⟨h2.ext.trans x2,I2,(fr _ _ h2.fi e1).2,(fr _ _ h2.fs hS2).2,(fr _ _ h2.ff h2.fo).2,⟨oI,(fr _ _ h2.fi e1).1,z1⟩,tl.is I2.heap ((h2.ext.trans x2).sub _ _ ql),(fr _ _ h2.ff h2.fo).1⟩
 let hS3:=(fr _ _ h2.fs hS2).1;refine HJ ?_
 refine JS hS3 rfl ?_
 exact HK ⟨Jo Lu _,wH hh hu hlI hfI hIS hfS hlS ql tl hks hkey hR _ 0 _ M2 v u _ (h3.wrS hIS hfS hlS λb o hb e=>(HX _ _ (Ib hb)).trans e) rfl hn hv r2 (H7 _ hS3 rfl)⟩
end
section
variable{X:Cx}{M:Mp}{δ:DEnv}{s:HN}{a lbody:Expr}{fa fb:DEnv->Qq D}{params:Ni}{lscope:Kg}{lpos kp pos p:MR}{c P:HZ}{lq x:Ih}{k i:Nat}{bs:Qw Bool}
def F3 (i:Nat) (bs:Qw Bool) (fb:DEnv->Qq D) (δ:DEnv) (d:D):Qq D:=ae (af i d (cx Y bs δ)) fb
nonrec theorem vR (hr:Room (k+4) X.A) (g:Bn X "min") (hP:(P,lq)∈tb) (hTu:∀q∈tb,q.1=P->q=(P,lq)) (hq:X.env.qual++"<lambda>"=lq) (hC:N8 base c P) (hcd:X.env.code=.ref c) (hdef:defaultsOf params X.env=([],[]))
  (S:CompScope X lscope bs) (hco:lscope.isCoroutine=Y) (hge:lscope.isGenerator=Y) (hx:X.N[i]?=U x) (nd:X.N.Nodup) (hxl:lscope.names.lookup x=U .local)
  (hbind:∀(s:HN) (u pm ctv:HM) (c':HZ) (cl:Qw (Ih×HZ)),BindsTo s (PySem.W.kla_fn "<lambda>" lq params lbody lscope cl pm (.ref c') ctv) ⟨[u],[]⟩ [(x,u)])
  (hb:∀(cl:Qw (Ih×HZ)) (f c':HZ) (A:Ia) (L:HZ),Room k A->DE (cxL X.N lq lscope cl f (.ref c') A L) Y lbody fb) (ha:DE X Y a fa):
  DE X Y (.Call (.Name "min" p) [a] [⟨U "key",.Lambda params lbody lscope lpos,kp⟩] pos) (λδ=>xE (fa δ) (F3 i bs fb δ)):=⟨rfl,λ{M δ s d Q} I e kk=>by
 unfold xE at e;split at e<;>try cases e
 split at e<;>try cases e
 split at e<;>try cases e
 rename_i ds hfa _ ks hkey hn;refine IN (I.bltn g Fc (callWith_kw ((aW ha bC).ev I (ds:=[.lst ds]) (by rw[hfa];rfl) (λvs s1 M1 x1 I1 r=>?_) pos) ?_ ?_ rfl rfl))
 ·let⟨v,rfl,r1⟩:=r.is1
  refine HJ (HJ (vk S I1 hP hTu hq hC hcd hdef λf c' pm ctv s2 M2 x2 I2 ff L=>HJ (NZ (HK ?_))))
  refine HJ (Ij (HK (HK ?_)))
  let⟨l,o,vs,rfl,q,t,rs⟩:=r1.up x2;let hname:(toString "min"++toString ".loop":String)="min.loop":=by decide
  let pl:=t.is I2.heap q;let hlen:=rs.length;let un:=I2.un;let hlt:=H6 (q.heap I2.heap);refine kmk_tree PySem.F.kind_min PySem.F.plain_min PySem.F.entry_min (kmk_min_key _ _) ?_
  refine HJ (Ml (show Builtin.Builtins.bindParams "min" ["key","default"] 0 ⟨[],[(IU "key",.ref f)]⟩=pure [U (.ref f),B] from rfl) ?_)
  refine HJ (HK (HJ (Lb pl (HJ (Ir ?_)))))
  let hfl:=H6 L.1;let⟨Lf,oc,ws,tk,w1,w2,w3⟩:=L;let szp:(s2.heap.push {cls:=.type "list_iterator",data:=.fields #[.ref l,.int 0 0]}).objs.size=s2.heap.objs.size+1:=IP ..;let kl:=nE hkey;let neq:∀{b:HZ},b<s2.heap.objs.size->b≠(s2.heap.push {cls:=.type "list_iterator",data:=.fields #[.ref l,.int 0 0]}).objs.size:=λ{b} hb z=>by rw[z,szp]at hb;exact J0 _ (Nat.lt_of_succ_lt hb)
  refine HK ⟨Jo Lu _,uF (M0:=M2) (M:=M2) (δ:=δ) (fo:=PySem.W.kla_obj "<lambda>" lq params lbody lscope (aF X.env lscope.names []) pm c' ctv) (I:=s2.heap.objs.size) (f:=f) (l:=l) (ks:=ks) I.ok.room.hd (by lia) (Il hlt) (Il hfl) (λz=>by rw[szp]at z;exact absurd z (Nat.succ_ne_self _)) (neq hfl) (neq hlt) q t (by lia) (by lia) (λj v M3 s3 hv hm=>?_) (λv s3 M3 x3 I3 hv=>?_) ⟨Ext.refl,?_,I2.fresh (HQ _),I2.fresh (by rw[szp];exact Kl _),ff,?_,?_,?_⟩ (HO _ rfl)⟩
  ·let hj:j<ds.length:=by have:=(List.getElem?_eq_some_iff.mp hv).1;lia
   let⟨v',h1,h2⟩:=rs.get (i:=j) (d:=ds[j]) (by simp[hj])
   rw[hv]at h1;cases h1;let hk2:ks[j]?=U (ks.getD j (Y,0)):=by rw[J3,JE (by lia)];rfl
   exact wk (i:=i) (fb:=fb) S hm.inv (hr.in1.mono (by lia)) ⟨hm.fo,oc,ws,tk,hm.ext.old w1,w2,w3⟩ hco hge hx nd hxl (hbind _ _ _ _ _ _) (h2.up hm.ext) hb (oh hkey (by simp[hj]) hk2) λu s4 M4 x4 I4 r4 fr=>⟨M4,x4,I4,r4,fr⟩
  ·let⟨v',h1,h2⟩:=rs.get e
   rw[hlen]at h1;rw[hv]at h1;cases h1;exact kk _ _ _ ((x1.trans x2).trans x3) I3 (h2.up x3)
  ·exact I2.kp λb o e=>HL _ (HL _ e)
  ·exact⟨_,HL _ (HO _ rfl),rfl,rfl⟩
  ·exact(pl.push _).push _
  ·exact HL _ (HL _ Lf)
 ·rw[aB ha.pl];rfl
 ·rw[aB ha.pl];rfl⟩
end
end L2
namespace L2
open PySem PySem.Spec PyProof.Rows Md
variable[Md]
def IsE (h:Jr) (b:HZ):Prop:=∃n,h.get? b=U {cls:=.type "list",data:=.seq #[] n}
def Dy (ls:Qw D) (as:Qw HZ):Qw D:=LA (λd a=>.tup [d,.ptr a]) ls as
section
variable{Py:Cx}{M:Mp}{δ:DEnv}{s:HN}{e1:Expr}{f1:DEnv->Qq D}{x1:Nat}{p3 p4:MR}{d:D}{Q:HM->HN->Prop}
def Cj (h:DE Py Y e1 f1) (I:Inv Py M δ s) (e:f1 δ=U d) (k:∀v a s' M',Ext M M'->Inv Py M' δ s'->Free Py M' a->IsE s'.heap a->R Y M' (.tup [d,.ptr a]) v->Q v s'):WP Py (eval (.Tuple [e1,.List [] p3] x1 p4) Py.env) Q s:=by
 refine wpAny_Tuple_spliced ?_
 rw[aB h.pl,aB (show plE (.List [] p3)=V from rfl)]
 refine Ie (h.ev I e λv1 s1 M1 x1 I1 r1=>Ie ((wU (pos:=p3) bC).ev I1 (d:=.lst []) rfl λa o s2 M2 x2 I2 f2 g2 c2=>IX ⟨by show 2<=sizeLine;decide +kernel,?_⟩))
 let⟨_,⟨_,n,rfl⟩,rfl⟩:=c2;refine(I2.pin.newT (ds:=[d,.ptr a]) (vs:=[v1,.ref a]) ⟨_,_,rfl,((r1.up x2).to dH),_,_,rfl,rfl,rfl⟩ (by show 2<=lim;decide +kernel) λv s3 M3 x3 I3 r3=>?_)
 let⟨J,sx,sb,nn,_,kp⟩:=I2.unp I3 x3.sx;let⟨g1,g2'⟩:=kp a _ f2 g2;exact k v a _ _ ((x1.trans x2).trans x3.unp) J g2' ⟨n,g1⟩ (r3.to sb)
end
section
variable{X:Cx}{M M' M1:Mp}{δ:DEnv}{s s':HN}{scope:Kg}{bs:Qw Bool}{bm:Bool}{fp:Qw HZ}{e1 tg iter:Expr}{pos p3 p4:MR}{x1:Nat}{fi:DEnv->Qq (Qw D)}{τ:D->DEnv->Qq DEnv}{fe:DEnv->Qq D}
nonrec theorem yv {RR:HM->HZ->L9->HN->Prop}{it:HZ}{tn:Nat->Jr->Prop}(hτ:yl τ) (S:CompScope X scope bs) (hg:∀cl C,DG (cxC X scope cl C) tg τ) (he:∀cl C,DE (cxC X scope cl C) Y e1 fe)
  (I:Inv X M δ s) (T:Turn2 X.A tg bm Y M ds fp it tn) (t0:tn 0 s.heap) (hf:∀b∈fp,Free X M b) (e2:bA Y bs τ (λ_=>U V) fe δ ds=U ls)
  (k:∀acc C m s' M' vs as,Ext M M'->Inv X M' δ s'->Free X M' acc->Free X M' C->s'.heap.Ns C m->acc≠C->(∃n,s'.heap.get? acc=U {cls:=.type "list",data:=.seq vs.toArray n})->vs.length<=lim->Rs Y M' (Dy ls as) vs->ls.length=as.length->(∀b∈as,Free X M' b/\IsE s'.heap b)->as.Nodup->acc∉as->C∉as->RR (.ref acc) C (.ok .next) s'):
  WP X (newList []) (λacc s₃=>WP X (newFunctionEnv scope X.env.globals (aF X.env scope.names []) [] X.env.qual B .none (U X.env)) (λcenv s₄=>
   codeAny (model P w) X.A (.compStart (.ListComp (.Tuple [e1,.List [] p3] x1 p4) [⟨tg,iter,[],0⟩] scope pos) 0 (.ref it) acc {cenv with scope:=relabel scope X.env}) (RR acc cenv.locals) s₄) s₃) s:=by
 unfold bA at e2;split at e2<;>try cases e2
 refine Ir ?_
 let hz:({s with heap:=s.heap.push {cls:=.type "list",dict:=B,data:=.seq ([]:Qw HM).toArray}}:HN).heap.objs.size=s.heap.objs.size+1:=IP ..
 refine wpAny_newFunctionEnv S.cell (λy hy=>by simp at hy) (λh₁ hns₁ hsb₁=>?_) S.kind
 rw[hz]at hns₁ hsb₁⊢;let keep:∀b o,(s.heap.push {cls:=.type "list",dict:=B,data:=.seq ([]:Qw HM).toArray}).get? b=U o->h₁.get? b=U o:=λb o e=>(hsb₁.2 b (by have:=H6 e;rw[IP]at this;exact Il this)).trans (HL _ e)
 let hex:=T.ex t0;generalize hs5:({s with heap:=h₁,toks:=s.toks+([]:Qw (Ih×HM)).length}:HN)=s5
 let h5:s5.heap=h₁:=by rw[<-hs5]
 let kp5:∀b o,s.heap.get? b=U o->s5.heap.get? b=U o:=λb o e=>by rw[h5];exact keep b o (HL _ e)
 let I5:=mM (bo:=Y) (s':=s5) S I hf (Kl _) (by rw[h5];exact hns₁) kp5 (by rw[<-hs5];exact⟨rfl,rfl⟩)
 let hacc:s5.heap.get? s.heap.objs.size=U {cls:=.type "list",data:=.seq ([]:Qw HM).toArray}:=by rw[h5];exact keep _ _ (HO _ rfl)
 let fa:Free X M s.heap.objs.size:=I.fresh (HQ _);let lt:∀b∈fp,b<s.heap.objs.size:=λb hb=>by let⟨o,e⟩:=hex b hb;exact H6 e
 let cons:=cU X.env scope.names [] (S.has I) (λx c e=>by simp at e)
 let frC:∀{b},cal Y V M s.heap fp b=B->Free X M b->b≠s.heap.objs.size+1->Free (cxC X scope (aF X.env scope.names []) (s.heap.objs.size+1)) (cal Y V M s.heap fp) b:=λ{b} z f ne=>⟨z,ne,λx e=>f.c x (cons x _ e),f.t,f.s,λh=>nomatch h⟩
 let cn:cal Y V M s.heap fp s.heap.objs.size=B:=by
  unfold cal;rw[fa.m];dsimp only;split;rfl;rw[La (HQ _)];rfl
 let f0:∀b∈s.heap.objs.size::fp,Free (cxC X scope (aF X.env scope.names []) (s.heap.objs.size+1)) (cal Y V M s.heap fp) b:=λb hb=>by
  rcases qaa.mp hb with rfl|hb
  ·exact frC cn fa (Il (IY _))
  ·exact frC (by unfold cal;rw[(hf b hb).m];exact if_pos (.inl hb)) (hf b hb) (Il (LG (lt b hb)))
 let nfp:∀{b},(∀o,s.heap.get? b≠U o)->b∉fp:=λh z=>by let⟨o,e⟩:=hex _ z;exact h o e
 let loop:codeAny (model P w) X.A (.compLoop (.ListComp (.Tuple [e1,.List [] p3] x1 p4) [⟨tg,iter,[],0⟩] scope pos) 0 (.ref it) (.ref s.heap.objs.size) (compEnvC scope (aF X.env scope.names []) (s.heap.objs.size+1) X.env)) (RR (.ref s.heap.objs.size) (s.heap.objs.size+1)) s5:=by
  refine jj (λn s'=>∃i δ' M' vs l1 l2 e as,n=ds.length - i/\i<=ds.length/\vs.length<=i/\Ext (cal Y V M s.heap fp) M'/\Inv (cxC X scope (aF X.env scope.names []) (s.heap.objs.size+1)) M' δ' s'/\tn i s'.heap/\(∀b∈s.heap.objs.size::fp,Free (cxC X scope (aF X.env scope.names []) (s.heap.objs.size+1)) M' b)/\
   (∀d,τ d δ'=τ d (cx Y bs δ))/\s'.heap.get? s.heap.objs.size=U {cls:=.type "list",data:=.seq vs.toArray e}/\Rs Y M' (Dy l1 as) vs/\(l1.length=as.length/\as.Nodup/\∀b∈as,(b≠s.heap.objs.size/\∀o,s.heap.get? b≠U o)/\Free (cxC X scope (aF X.env scope.names []) (s.heap.objs.size+1)) M' b/\IsE s'.heap b)/\ls=l1++l2/\bD (cw τ (λ_=>U V) fe (cx Y bs δ)) (ds.drop i)=U l2) ?_ ds.length
   ⟨0,_,_,[],[],ls,_,[],rfl,Im _,HQ _,Ext.refl,I5,T.keep t0 λb _ o e=>kp5 b o e,f0,λ_=>rfl,hacc,rfl,⟨rfl,Jf,λ_ z=>nomatch z⟩,rfl,e2⟩
  rintro n s6 ⟨i,δ6,M6,vs,l1,l2,ep,as,rfl,hi,hvs,x6,I6,t6,f6,hd6,ha6,rs6,⟨hla,nda,fas⟩,hls,ec⟩
  let sb6:Sub Y M Y M6:=λa o q=>x6.sub _ _ (j9 a o q)
  let rd6:∀a o,Rd bm M a o->s6.heap.get? a=U o:=λa o ⟨k,q,_⟩=>by
   obtain⟨k',w⟩:∃k',cal Y V M s.heap fp a=U (k',o):=by unfold cal;rw[q];exact⟨_,rfl⟩
   rcases x6 a with z|z
   ·exact I6.heap _ _ _ (z.trans w)
   ·rw[z.1]at w;cases w
  let f6':∀b∈fp,Free (cxC X scope (aF X.env scope.names []) (s.heap.objs.size+1)) M6 b:=λb hb=>f6 b (.tail _ hb)
  by_cases hlt:i<ds.length
  ·rw[Jl hlt]at ec
   simp![bD]at ec;refine thn (T.item t6 rd6 (d:=ds[i]) (by simp[hlt])) λr s7 hz=>?_
   let⟨u,rfl,h7⟩:=hz;refine thn h7 λ_ s8 hz=>?_
   let⟨c8,t8,g8⟩:=hz;let ne:s.heap.objs.size∉fp:=λz=>absurd (lt _ z) (J0 _)
   let⟨M8,x8,I8,r8,f8'⟩:=I6.got sb6 g8 c8 f6';let ha8:=c8.2 _ _ ne ha6;let f8:∀b∈s.heap.objs.size::fp,Free (cxC X scope (aF X.env scope.names []) (s.heap.objs.size+1)) M8 b:=λb hb=>by
    rcases qaa.mp hb with rfl|z
    ·exact f8' _ _ (f6 _ hb) ha6
    ·let⟨o,e⟩:=T.ex t6 b z;exact f8' b o (f6 _ hb) e
   let fin:∀{δ9 M9 s9},Ext (pin (cxC X scope (aF X.env scope.names []) (s.heap.objs.size+1)) M8 s8.heap) M9->Inv (cxC X scope (aF X.env scope.names []) (s.heap.objs.size+1)) M9 δ9 s9->∃M7,Ext M8 M7/\Inv (cxC X scope (aF X.env scope.names []) (s.heap.objs.size+1)) M7 δ9 s9/\tn (i+1) s9.heap/\(∀b∈s.heap.objs.size::fp,Free (cxC X scope (aF X.env scope.names []) (s.heap.objs.size+1)) M7 b)/\
     s9.heap.get? s.heap.objs.size=U {cls:=.type "list",data:=.seq vs.toArray ep}/\Sub Y M9 Y M7/\(∀b o,Free (cxC X scope (aF X.env scope.names []) (s.heap.objs.size+1)) M8 b->s8.heap.get? b=U o->s9.heap.get? b=U o/\Free (cxC X scope (aF X.env scope.names []) (s.heap.objs.size+1)) M7 b)/\(∀a,M9 a=B->M7 a=B):=λy J=>by
    let⟨h1,h2,h3,h4,h5,h6⟩:=I8.unp J y.sx;exact⟨_,y.unp,h1,T.keep t8 λb hb o e=>(h6 b o (f8 b (.tail _ hb)) e).1,λb hb=>by
     rcases qaa.mp hb with rfl|z
     ·exact(h6 _ _ (f8 _ hb) ha8).2
     ·let⟨o,e⟩:=T.ex t8 b z;exact(h6 b o (f8 b hb) e).2,(h6 _ _ (f8 _ (.head _)) ha8).1,h3,h6,h4⟩
   cases q:cw τ (λ_=>U V) fe (cx Y bs δ) ds[i]with
   |none=>rw[q]at ec;cases ec
   |some oy=>
    rw[q]at ec;let⟨δ1,q1,q2⟩:=ag q;let q1':τ ds[i] δ6=U δ1:=by rw[hd6];exact q1
    let hd1:∀d,τ d δ1=τ d (cx Y bs δ):=λd=>by rw[hτ _ d _ _ q1',hd6 d]
    refine hg _ _ I8.pin (r8.to dH) q1' λs9 I9=>?_
    dsimp only at q2;split at q2<;>cases q2
    rename_i y qe;dsimp only at ec;split at ec<;>cases ec
    rename_i l3 qc;refine vU (X:=cxC X scope (aF X.env scope.names []) (s.heap.objs.size+1)) I9 rfl λs10 M10 x10 I10=>?_
    refine Cj (he _ _) I10 qe λv a s11 M11 x11 I11 fa11 ⟨na,ea11⟩ r11=>?_
    let xx:=x10.trans x11;let new8:∀o,s8.heap.get? a≠U o:=λo w=>by
     cases q8:M8 a with
     |some z=>have:=xx.old (kY q8);simp_all [fa11.m]
     |none=>
      let fr:Free (cxC X scope (aF X.env scope.names []) (s.heap.objs.size+1)) M8 a:=⟨q8,fa11.l,fa11.c,fa11.t,fa11.s,fa11.n⟩;have:pin (cxC X scope (aF X.env scope.names []) (s.heap.objs.size+1)) M8 s8.heap a=U (.p,o):=by unfold pin;rw[if_pos fr,w];rfl
      have:=xx.old this;simp_all [fa11.m]
    let new0:∀o,s.heap.get? a≠U o:=λo w=>by
     have:∃z,cal Y V M s.heap fp a=U z:=by
      unfold cal;cases q:M a with
      |some y=>exact⟨_,rfl⟩
      |none=>
       rw[if_neg,w];exact⟨_,rfl⟩
       rintro(y|⟨q,z1,z2⟩)
       ·let⟨o,e⟩:=T.ex t8 a y;exact new8 _ e
       ·exact fa11.t q z1 z2
     let⟨z,hz⟩:=this;have:=xx.old (kY (x8.old (x6.old hz)))
     simp_all [fa11.m]
    let⟨M7,y1,J,t7,f7,ha7,sb,kp7,nn7⟩:=fin (x10.trans x11) I11;let hl:lim<sizeLine:=by decide +kernel
    let g:=Ms ha7 (λa=>a.push v)
    refine K2 KV ⟨_,ha7,rfl⟩ Lm (Lh _ _) (Ly s.heap.objs.size vs.toArray ep v (by simp;lia)) ⟨ha7,ds.length - (i+1),by lia,i+1,δ1,M7,vs++[v],l1++[y],l3,_,as++[a],rfl,hlt,by simp;lia,(x6.trans x8).trans y1,J.wr (s':={s11 with heap:=s11.heap.update s.heap.objs.size (IK λa=>a.push v)}) [s.heap.objs.size] (λb hb=>f7 b (by simp_all)) (λb o hb e=>(HX _ _ (λz=>hb (by simp[z]))).trans e),T.keep t7 λb hb o e=>(HX _ _ (λz=>ne (by rw[z];exact hb))).trans e,f7,hd1,by simpa using g,?_,⟨by simp[hla],?_,?_⟩,by simp[hls],qc⟩
    ·rw[Dy,List.zipWith_append (h:=hla)]
     exact((rs6.up x8).up y1).append (.one (r11.to sb))
    ·rw[IS]
     refine⟨nda,by simp,λb hb c hc z=>?_⟩
     rw[on.mp hc]at z;subst z;let⟨⟨_,z2⟩,_,n,z3⟩:=fas b hb;exact new8 _ (c8.2 _ _ (nfp z2) z3)
    ·intro b hb
     rcases qab.mp hb with hb|hb
     ·let⟨⟨z1,z2⟩,z4,n,z3⟩:=fas b hb
      let w:=c8.2 _ _ (nfp z2) z3;let⟨w1,w2⟩:=kp7 b _ (f8' _ _ z4 z3) w;exact⟨⟨z1,z2⟩,w2,n,(HX _ _ (Ib z1)).trans w1⟩
     ·rw[on.mp hb]
      let z1:a≠s.heap.objs.size:=λz=>new8 _ (by rw[z];exact ha8)
      exact⟨⟨z1,new0⟩,⟨nn7 _ fa11.m,fa11.l,fa11.c,fa11.t,fa11.s,fa11.n⟩,na,(HX _ _ (Ib z1)).trans ea11⟩
  ·obtain rfl:i=ds.length:=by lia
   rw[N4]at ec;cases ec;rw[Ka]at hls;subst hls;refine thn (T.done t6 rd6) λr s7 hz=>?_
   let⟨rfl,c7⟩:=hz;let J:=I6.ch c7 f6';let⟨I7,sb⟩:=I.ret (m:=Y) J.lft (λb hb=>(hf b hb).fre) (λb hb h=>absurd h (hf b hb).n) x6.sx (λa k o _ z=>(x6 a).elim (λw=>w.trans z) λw=>by rw[w.1]at z;cases z)
   let fr:∀c,s.heap.objs.size<=c->M6 c=B->Free X (bak M s.heap fp M6) c:=λc h z=>by
    let f:=I.fresh h;exact⟨by unfold bak;rw[f.m];dsimp only;rw[if_neg (by simp[La h]),z],f.l,f.c,f.t,f.s,f.n⟩
   let⟨m',hn,_⟩:=J.loc;let frb:∀b∈as,Free X (bak M s.heap fp M6) b/\IsE s7.heap b:=λb hb=>by
    let⟨⟨z1,z2⟩,z4,n,z3⟩:=fas b hb;let⟨m0,⟨ol,_,_,hol,_⟩,_⟩:=I.loc;refine⟨⟨?_,λz=>z2 _ (z▸hol),λy e=>?_,z4.t,z4.s,λh=>?_⟩,n,c7.2 _ _ (nfp z2) z3⟩
    ·let mb:M b=B:=by
      cases q:M b with
      |none=>rfl
      |some y=>let⟨k,o⟩:=y;exact absurd (I.heap _ _ _ q) (z2 o)
     unfold bak;simp[mb,z4.m]
    ·let⟨⟨v,o,e1,_⟩,_⟩:=I.cell y b e;exact z2 _ e1
    ·let⟨⟨o,e⟩,_⟩:=I.sx b h;exact z2 _ e
   exact k _ _ m' s7 _ vs as i8 I7 (fr _ (HQ _) (f6 _ (.head _)).m) (fr _ (Kl _) J.free) hn (Il (IY _)) ⟨ep,c7.2 _ _ (λz=>absurd (lt _ z) (J0 _)) ha6⟩ (by lia) (rs6.to sb) hla frb nda (λz=>(fas _ z).1.1 rfl) (λz=>(fas _ z).2.1.l rfl)
 exact codeAny_compStart_list loop (T.self (T.keep t0 λb _ o e=>kp5 b o e) loop)
end
end L2
namespace L2
open PySem PySem.Spec PyProof.Rows Md
def tA:Qw D->Qq (Qw Key)
 |[]=>U []
 |d::ds=>match gG d,tA ds with|some k,U ks=>U (k::ks)|_,_=>B
nonrec theorem jx:∀{ls:Qw D}{as:Qw HZ}{ks:Qw Key},tA ls=U ks->ls.length=as.length->cH (Dy ls as)=U (ks.zip (as.map D.ptr))/\ks.length=ls.length
 |[],[],ks,h,_=>by cases h;exact⟨rfl,rfl⟩
 |d::ls,a::as,ks,h,hl=>by
  unfold tA at h;split at h<;>cases h
  rename_i k ks' h1 h2;let⟨g1,g2⟩:=jx (as:=as) h2 (L0 hl);refine⟨?_,by simp[g2]⟩
  show cH (.tup [d,.ptr a]::Dy ls as)=_;unfold cH;rw[g1];unfold oj;dsimp only;rw[h1];rfl
theorem jR:∀{ks:Qw Key}{vs:Qw D}{ls:Qw Key}{us:Qw D},ks.length=vs.length->(ls++ks).Nodup->gS (ks.zip vs) ls us=(ls++ks,us++vs)
 |[],vs,ls,us,h,nd=>by
  have:vs=[]:=qal.mp h.symm;subst this;simp[gS]
 |k::ks,[],ls,us,h,nd=>by cases h
 |k::ks,v::vs,ls,us,h,nd=>by
  let hk:k∉ls:=λz=>by
   rw[IS]at nd;exact nd.2.2 k z k (by simp) rfl
  show gS (ks.zip vs) (aC k ls) (bB k v ls us)=_;unfold aC bB;rw[if_neg hk,if_neg hk,jR (L0 h) (by simpa using nd)]
  simp
def uX (i:Nat) (x:Qq (Qw D)) (δ:DEnv):Qq Out:=match x with
 |some ls=>(match tA ls with|some ks=>if ks.Nodup/\i<δ.length/\ls.length<lim then U (.next (δ.set i (U (.dL ks (ks.map λ_=>.lst []),V)))) else B|none=>B)
 |none=>B
variable[Md]
theorem Iq.nil {M:Mp}{i:Nat}:∀{as:Qw HZ}{ks:Qw Key},ks.length=as.length->(∀b∈as,∃n,M b=U (.q i,{cls:=.type "list",data:=.seq #[] n}))->Iq M i (ks.map λ_=>.lst []) as
 |[],[],_,_=>rfl
 |a::as,k::ks,hl,h=>by
  let⟨n,e⟩:=h a (by simp)
  exact⟨a,as,_,rfl,e,⟨[],⟨Im _,n,rfl⟩,rfl⟩,Iq.nil (L0 hl) λb hb=>h b (by simp[hb])⟩
theorem AZ {M:Mp}:∀{as:Qw HZ}{vs:Qw HM},Rs Y M (as.map D.ptr) vs->vs=as.map Kq
 |[],_,h=>h
 |a::as,_,⟨v,r,e,h1,h2⟩=>by subst e;rw[AZ h2,show v=.ref a from h1];rfl
def EH (i:Nat) (d0:HZ) (o5:LW) (as:Qw HZ) (h:Jr) (Px:Mp):Mp:=λb=>if b=d0 then U (.o i,o5) else if b∈as then(h.get? b).map λo=>(.q i,o) else dis i Px b
def A7:EH i d0 o5 as h Px d0=U (.o i,o5):=if_pos rfl
def AS (hb:b∈as) (n0:d0∉as) (e:h.get? b=U o):EH i d0 o5 as h Px b=U (.q i,o):=by
 unfold EH;rw[if_neg (λz:b=d0=>n0 (z▸hb)),if_pos hb,e];rfl
def Fl (hb:b∉d0::as):EH i d0 o5 as h Px b=dis i Px b:=by
 rw[ID,not_or]at hb;exact(if_neg hb.1).trans (if_neg hb.2)
section
variable{X:Cx}{e1 tg iter:Expr}{p p3 p4 pos pos' spos:MR}{x1 i:Nat}{x:Ih}{fi:DEnv->Qq (Qw D)}{τ:D->DEnv->Qq DEnv}{fe:DEnv->Qq D}{scope:Kg}{bs:Qw Bool}{bm:Bool}
nonrec theorem Ak (hx:Lc X i x) (g:Bn X "dict") (hτ:yl τ) (hi:DI2 X bm Y tg iter fi) (S:CompScope X scope bs) (hg:∀cl C,DG (cxC X scope cl C) tg τ) (he:∀cl C,DE (cxC X scope cl C) Y e1 fe)
  (hs:swapsWith (.Call (.Name "dict" p) [.ListComp (.Tuple [e1,.List [] p3] x1 p4) [⟨tg,iter,[],0⟩] scope pos] [] spos) (U (.Name x pos')) cpos.line X.env=pure Y):
  DS X (.Assign [.Name x pos'] (.Call (.Name "dict" p) [.ListComp (.Tuple [e1,.List [] p3] x1 p4) [⟨tg,iter,[],0⟩] scope pos] [] spos) cpos) (λδ=>uX i (ae (fi δ) (bA Y bs τ (λ_=>U V) fe δ)) δ):=λ{M δ s o Q} I e k=>by
 unfold uX at e;dsimp only at e;split at e<;>try cases e
 split at e<;>try cases e
 split at e<;>cases e
 rename_i ls q0 _ ks hk hc;let⟨nd,hi2,hl⟩:=hc;let⟨ds,f1,f2⟩:=ag q0;refine LR ?_ hs
 refine IN (I.bltn g (by rfl:bootBuiltins "dict"=U (.type "dict")) (KF ?_ (aB rfl) (dm (es:=[]) rfl)))
 refine Ie ?_
 show WP X (eval (.ListComp (.Tuple [e1,.List [] p3] x1 p4) [⟨tg,iter,[],0⟩] scope pos) X.env) _ s;refine(Lw (use:=B) rfl (λx=>i9 hi.pl) (bx (S.has I)) S.kind S.loc (hi.ev I f1 λit fp tn s1 M1 x1 I1 T t0 ff=>?_))
 refine yv (RR:=λacc C=>compPost (model P w) X.A (λ_ _=>False) B _ acc C) hτ S hg he I1 T t0 ff f2 ?_
 intro acc C m s' M' vs as x2 I2 fa fC hn ne ⟨n,ha⟩ hlv rs hla fas nda na nC;refine⟨m,hn,λh' hs'=>IX ?_⟩
 let I3:Inv X M' δ {s' with heap:=h'}:=I2.wr (s':={s' with heap:=h'}) [C] (λb hb=>by simp_all) λb o hb e=>(hs'.2 b λz=>hb (by simp[z])).trans e
 let ha':=(hs'.2 acc ne).trans ha;let I4:=I3.put (k:=.f) fa ha';let hl':vs.length<=sizeLine:=aA hlv;let⟨g1,g2⟩:=jx hk hla;let zl:(Dy ls as).length=ls.length:=by unfold Dy;simp[hla]
 let fa4:∀b∈as,Free X (upd M' acc (U (.f,{cls:=.type "list",data:=.seq vs.toArray n}))) b/\IsE h' b:=λb hb=>by
  let⟨f,n',e⟩:=fas b hb;let nb:b≠acc:=λz=>na (z▸hb)
  exact⟨⟨by rw[ai nb];exact f.m,f.l,f.c,f.t,f.s,f.n⟩,n',(hs'.2 b λz=>nC (z▸hb)).trans e⟩
 refine lG I4.pin (l:=acc) (ol:={cls:=.type "list",data:=.seq vs.toArray n}) (ws:=vs) (dH _ _ ⟨.f,ah,rfl⟩) ⟨hl',n,rfl⟩ ((rs.to (br fa.m)).to dH) g1 (by rw[zl];exact hl) λd0 o5 s5 M5 x5 J f0 h0 c0=>?_
 rw[jR (ls:=[]) (us:=[]) (by simp[g2,hla]) (by trivial)]at c0
 let⟨J5,sx,sb,nn,_,kp⟩:=I4.unp J x5.sx;let f0':Free X (unp X (upd M' acc (U (.f,{cls:=.type "list",data:=.seq vs.toArray n}))) h' M5) d0:=⟨nn _ f0.m,f0.l,f0.c,f0.t,f0.s,f0.n⟩;let nd0:d0∉as:=λz=>by
  let⟨f,n',e⟩:=fa4 d0 z;have:=x5.old (show pin X (upd M' acc (U (.f,{cls:=.type "list",data:=.seq vs.toArray n}))) h' d0=U (.p,_) by unfold pin;rw[if_pos f,e];rfl)
  rw[f0.m]at this;cases this
 let hE:∀b∈as,∃n,s5.heap.get? b=U {cls:=.type "list",data:=.seq #[] n}:=λb hb=>by
  let⟨f,n',e⟩:=fa4 b hb;exact⟨n',(kp b _ f e).1⟩
 let⟨us,ws,dc,rk,rw'⟩:=c0;obtain rfl:=AZ rw';let ow0:Ow o5:=xp dc;let hq:∀b∈as,∃n',EH i d0 o5 as s5.heap (unp X (upd M' acc (U (.f,{cls:=.type "list",data:=.seq vs.toArray n}))) h' M5) b=U (Rl.q i,{cls:=.type "list",data:=.seq #[] n'}):=λb hb=>by
  let⟨n',e⟩:=hE b hb;exact⟨n',AS hb nd0 e⟩
 refine J5.setOwn1 (as:=d0::as) hx (λb hb=>?_) (λb=>Fl) (λb hb=>?_) (λb hb c hc o o' w w'=>?_) (d:=.dL ks (ks.map λ_=>.lst [])) (.inr ⟨d0,o5,us,as,rfl,A7,dc,rk,nda,Iq.nil (by lia) hq⟩) λs' c h1 h2 h3 _ _ _=>k _ _ ?_ h1
 ·rcases qaa.mp hb with rfl|hb
  ·exact f0'
  ·let⟨f,n',e⟩:=fa4 b hb;exact(kp b _ f e).2
 ·rcases qaa.mp hb with rfl|hb
  ·exact⟨.o i,o5,A7,h0,ow0,.inl rfl⟩
  ·let⟨n2,e2⟩:=hE b hb
   exact⟨.q i,_,AS hb nd0 e2,e2,xQ,.inr rfl⟩
 ·grind
 ·exact(((x1.trans x2).trans (bQ fa.m)).sx.trans sx).trans ⟨h2,λb o=>(h3 b o).mp,λb o=>(h3 b o).mpr⟩
end
end L2
namespace L2
open PySem PySem.Spec PyProof.Rows Md
variable[Md]
section
variable{X:Cx}{b:Expr}{fb:DEnv->Qq D}{i:Nat}{x:Ih}{px pos apos cpos:MR}
def FV (i:Nat) (x:Qq D) (δ:DEnv):Qq Out:=match δ[i]? with
 |some (U (.loc B j,V))=>(match δ[j]? with
  |some (U (.dK ks vs,V))=>(match B5 (U (.dK ks vs)) x with|some d=>U (.next (δ.set j (U (d,V))))|none=>B)
  |_=>B)
 |_=>B
nonrec theorem Cy (h:Nm X i x) (hb:DE X Y b fb) (l:(apos.endLine==cpos.line)=V):DS X (.Expr (.Call (.Attribute (.Name x px) "update" apos) [b] [] cpos) pos) (λδ=>FV i (fb δ) δ):=λ{M δ s o Q} I e k=>by
 unfold FV at e;dsimp only at e;split at e<;>try cases e
 split at e<;>try cases e
 split at e<;>cases e
 rename_i j e1 _ ks0 vs0 e2 _ _ q0;let⟨ks,vs,ls,us,z0,e3,hz,rfl⟩:=n5 q0;cases z0;refine KR (sQ (M:=M) (Z:=λM v=>∃a o,v=.ref a/\X.S[j - X.N.length]?=U a/\X.N.length<=j/\M a=U (.s (j - X.N.length),o)/\C M (.dK ks0 vs0) o) Ll OE OC l rfl (aW hb bC) (by decide) (ds:=[_]) (by rw[e3];rfl) (λkk=>Kr (I.load h e1 λv va=>?_) h.d) (λH z=>?_) (λx z=>?_) λv ws s1 M1 x1 I1 z r=>?_) I.quiet rfl
 ·rcases va with⟨_,_,_,_,z⟩|⟨a,h1,h2,rfl⟩
  ·exact z.elim
  let⟨o,q,ca⟩:=I.sto (j - X.N.length) a _ h1 (by rw[Mf h2];exact e2)
  exact kk _ _ _ Ext.refl I ⟨a,o,rfl,h1,h2,q,F5 ca rfl⟩
 ·let⟨a,o,rfl,_,_,q,c⟩:=z
  exact⟨⟨o,H _ _ _ q,(lS rfl c).1⟩,λb e=>by cases e;exact⟨o,H _ _ _ q,(lS rfl c).2⟩⟩
 ·let⟨a,o,e,h1,h2,q,c⟩:=z
  exact⟨a,o,e,h1,h2,x.old q,c.to x.sub⟩
 let⟨a,o,rfl,h1,h2,q,cc⟩:=z;let⟨u,rfl,r1⟩:=r.is1;let⟨ce,oe,ue,ve,rfl,qe,de,re,rv⟩:=r1;let⟨uc,vc,dc,rk,rs⟩:=cc;let ho:=I1.heap _ _ _ q;let hj:X.N.length+(j - X.N.length)=j:=Mf h2;let hne:a≠ce:=λz=>by subst z;rw[rdf]at qe;rw[q]at qe;cases qe
 refine rU I1.heap (I1.nsys qe) hne ho (qe.heap I1.heap) dc ((Ks.rs (m:=Y) (M:=M1)).mp rk) rs de ((Ks.rs (m:=Y) (M:=M1)).mp re) rv hz λh' o' us' vs' sb g' dc' rk' rs'=>?_
 let lt:∀{q:Nat}{y:Ih},X.N[q]?=U y->q<X.N.length:=λw=>(List.getElem?_eq_some_iff.mp w).1
 let⟨I2,f2,p2⟩:=I1.chg1 (κ:=.s (j - X.N.length)) (s':={s1 with heap:=h'}) (δ':=δ.set j (U (.dK (cp ls us ks0 vs0).1 (cp ls us ks0 vs0).2,V))) rfl q (λb ob z w=>(sb.2 b z).trans w) g' (xp dc') (by simp)
  (λq y d' b z1 z2 z3=>.inl ⟨λw=>(nomatch w),λw=>(nomatch w),by have:=lt z1;rw[H0 (by lia)]at z3;exact z3⟩)
  (λp d' z=>by
   by_cases w:p=j - X.N.length
   ·subst w
    rw[hj,IE (List.getElem?_eq_some_iff.mp e2).1]at z
    cases z;exact .inr ⟨rfl,.inl ⟨us',vs',dc',Ks.rs.mpr rk',rs'⟩⟩
   ·rw[H0 (by lia)]at z
    exact .inl ⟨λy=>w (by injection y with y;exact y.symm),z⟩)
  (λp b z1 z2=>by lia)
 exact k _ _ (x1.sx.trans ⟨f2,λa o=>(p2 a o).mp,λa o=>(p2 a o).mpr⟩) I2
end
end L2
namespace L2
open PySem PySem.Spec PyProof.Rows Md
def Fw:Qq D->Qq D->Qq D:=b2 (bI (λ_ _=>V) λi j=>.int (i - j))
def GB (x:Qq D):Qq D:=ae x λd=>match d with|.str _=>U (.bl V)|_=>B
def tyA:D->Qq String
 |.tup _=>U "tuple"|.lst _=>U "list"|.str _=>U "str"|.int _=>U "int"|.bl _=>U "bool"|_=>B
def GZ (t c:String):Bool:=t==c||(t=="bool"&&c=="int")
def dE (c:String) (x:Qq D):Qq D:=ae x λd=>ae (tyA d) λt=>U (.bl (GZ t c))
variable[Md]
section
variable{X:Cx}{M:Mp}{δ:DEnv}{s:HN}{tg a b:Expr}{fa fb:DEnv->Qq D}{m m' mm:Bool}{p pos:MR}
theorem Eh (ha:DE X m a fa) (hb:DE X m' b fb):DE X mm (.BinOp a .Sub b pos) (λδ=>Fw (fa δ) (fb δ)):=tD (opI λ_ _ _ _ _ _ _ q=>sub_int q) ha hb
def GE {pc:MR}(g:Bn X "isinstance") (gc:Bn X "str") (ha:DE X m a fa):DE X mm (.Call (.Name "isinstance" p) [a,.Name "str" pc] [] pos) (λδ=>GB (fa δ)):=⟨rfl,λ{M δ s d Q} I e k=>by
 let⟨d,e1,e2⟩:=ag e;split at e2<;>cases e2
 refine IN (I.bltn g (by rfl:bootBuiltins "isinstance"=U (.builtin "isinstance")) (JZ ?_ (aB ha.pl) rfl))
 rw[aB ha.pl];refine Ie (ha.ev I e1 λv s1 M1 x1 I1 r=>Ie (I1.bltn gc (by rfl:bootBuiltins "str"=U (.type "str")) (IX ?_)))
 let⟨t,rfl⟩:=r;exact Li PySem.W.kitx_str I1.kIn trivial (by rfl) (λz=>nomatch z) λtk=>k (.bool V) {s1 with toks:=tk} M1 x1 I1.tok rfl⟩
end
section
variable{X:Cx}{M M':Mp}{δ:DEnv}{s:HN}{a b c:Expr}{fa fb fc:DEnv->Qq D}{m m' m'' mm:Bool}{p pos:MR}
theorem BV {y:Ih}{cs:String}{pc:MR}(hc:cs="list"\/cs="tuple"\/cs="str"\/cs="int"\/cs="bool") (g:Bn X "isinstance") (gc:Bn X y) (hv:bootBuiltins y=U (.type cs)) (ha:DE X m a fa):DE X mm (.Call (.Name "isinstance" p) [a,.Name y pc] [] pos) (λδ=>dE cs (fa δ)):=⟨rfl,λ{M δ s d Q} I e k=>by
 let⟨d,e1,e2⟩:=ag e;let⟨t,e3,e4⟩:=ag e2;cases e4;refine IN (I.bltn g (by rfl:bootBuiltins "isinstance"=U (.builtin "isinstance")) (JZ ?_ (aB ha.pl) rfl))
 rw[aB ha.pl];refine Ie (ha.ev I e1 λv s1 M1 x1 I1 r=>Ie (I1.bltn gc hv (IX ?_)))
 let kit:∀(T:String),(T="list"\/T="tuple"\/T="str"\/T="int"\/T="bool")->PySem.W.kitOne K (.type T) (.type cs)=U (GZ T cs):=λT hT=>by
  rcases hc with rfl|rfl|rfl|rfl|rfl<;>rcases hT with rfl|rfl|rfl|rfl|rfl<;>rfl
 let fin:∀tk,_:=λtk=>k (.bool (GZ t cs)) {s1 with toks:=tk} M1 x1 I1.tok rfl
 cases d with
 |tup ds=>
  cases e3;let⟨a,o,vs,rfl,q,t,_⟩:=r;let⟨o,h1,h2,_⟩:=t.is I1.heap q;exact Li PySem.W.kitx_tuple I1.kIn ⟨o,h1,h2⟩ (kit _ (by simp)) (λz=>nomatch z) fin
 |lst ds=>
  cases e3;let⟨a,o,vs,rfl,q,t,_⟩:=r;let⟨o,h1,h2,_⟩:=t.is I1.heap q;exact Li PySem.W.kitx_list I1.kIn ⟨o,h1,h2⟩ (kit _ (by simp)) (λz=>nomatch z) fin
 |str x=>cases e3;let⟨t,rfl⟩:=r;exact Li PySem.W.kitx_str I1.kIn trivial (kit _ (by simp)) (λz=>nomatch z) fin
 |int x=>cases e3;let⟨t,rfl⟩:=r;exact Li PySem.W.kitx_int I1.kIn trivial (kit _ (by simp)) (λz=>nomatch z) fin
 |bl x=>cases e3;cases r;exact Li PySem.W.kitx_bool I1.kIn trivial (kit _ (by simp)) (λz=>nomatch z) fin
 |_=>cases e3⟩
theorem Eu (ha:DE X m a fa):DE X mm (.UnaryOp .Not a pos) (λδ=>ofB (be (tyB (fa δ)))):=⟨rfl,λ{M δ s d Q} I e k=>by
 let⟨c,e1,rfl⟩:=sW e;cases q:tyB (fa δ)with
 |none=>simp[be,q]at e1
 |some g=>
  simp![be,q]at e1;cases e1;refine UnaryOp_ (ha.ev I (lQ q) λv s1 M1 x1 I1 r=>?_)
  cases r;exact not_of (Jh (k _ _ _ x1 I1 rfl))⟩
end
end L2
namespace L2
open PySem PySem.Spec PyProof.Rows PySem.W PySem.Calls
theorem lF {a:HZ}{o:LW}:∀{l:Frag},l.lookup a=U o->(a,o)∈l
 |[],h=>nomatch h
 |(b,p)::l,h=>by
  rw[N3]at h;cases e:a==b with
  |true=>rw[e]at h;cases h;rw[beq_iff_eq.mp e];exact .head _
  |false=>rw[e]at h;exact .tail _ (lF h)
nonrec theorem sG (h:Jr) {a:HZ}{o:LW}(e:(CW h).lookup a=U o):h.get? a=U o/\(o.cls != .type "list")=V:=by
 let⟨b,_,hb⟩:=qaD.mp (lF e);let⟨p,h1,h2⟩:=Option.bind_eq_some_iff.mp hb;split at h2
 ·rename_i z
  cases h2;exact⟨h1,(Bool.and_eq_true_iff.mp z).2⟩
 ·cases h2
structure Seen (kl:KL) (defs:Qw (Ih×Jp)) (bl:Qw Ih) (cs:Qw (Ih×HZ)) (K:Frag):Prop where
 kl:kl.map (λp=>FW K p.1.1 p.1.2 p.2.1)=kl.map λp=>U (F0 p.1.2 p.2.2)
 fn:defs.map (λp=>FS K p.1)=defs.map λp=>U (yZ p.1 p.2)
 bl:bl.map (nsIn K mainGlobals)=bl.map λ_=>U B
 cd:cs.map (λp=>rG K p.1)=cs.map λp=>U (.ref p.2)
theorem sM {α β:Type}{f g:α->β}:∀{l:Qw α}{i:Nat}{x:α},l.map f=l.map g->l[i]?=U x->f x=g x
 |[],_,_,_,h=>by simp at h
 |y::l,0,x,e,h=>by cases h;exact(qaq.inj e).1
 |y::l,i+1,x,e,h=>sM (qaq.inj e).2 h
def map_mem {α β:Type}{f g:α->β}{l:Qw α}{x:α}(e:l.map f=l.map g) (h:x∈l):f x=g x:=by
 simp_all
section
variable[Md] {kl:KL}{defs:Qw (Ih×Jp)}{bl:Qw Ih}{cs:Qw (Ih×HZ)}
nonrec theorem Seen.df0 (S:Seen kl defs bl cs Md.K) (X:Md.K.In Md.base) (G:Md.base.Ns mainGlobals Md.mg) (i:Nat) {x:Ih}{st:Jp}(e:defs[i]?=U (x,st)):∃f fd,Fun Md.K x x st f fd/\Md.mg x=U (.ref f)/\rG Md.K x=U fd.code:=by
 let q:FS Md.K x=U (yZ x st):=sM S.fn e;unfold FS at q;unfold rG;split at q
 ·rename_i f hf
  split at q
  ·rename_i oc od fd sl hl
   split at q
   ·rename_i hc
    refine⟨f,fd,⟨⟨oc,od,fd.kwdefaults,fd.doc,fd.pyModule,fd.annotations,fd.code,fd.closureTuple,sl,?_,hl,hc⟩,?_⟩,mg_of X G hf,rfl⟩
    ·let q':=JT q
     let⟨a1,a2,a3,a4,a5,a6,a7,a8,a9,a10,a11,a12,a13,a14,a15⟩:=fd;simp![yh,yZ,LH]at q'
     lia
    ·unfold keepIn;dsimp only;rw[hl]
   ·cases q
  ·cases q
 ·cases q
def Seen.df (S:Seen kl defs bl cs Md.K) (X:Md.K.In Md.base) (G:Md.base.Ns mainGlobals Md.mg) (i:Nat) {x:Ih}{st:Jp}(e:defs[i]?=U (x,st)):Df x st:=by
 let⟨f,fd,F,hm,_⟩:=S.df0 X G i e;exact⟨f,fd,F,hm⟩
def Seen.dfC (S:Seen kl defs bl cs Md.K) (X:Md.K.In Md.base) (G:Md.base.Ns mainGlobals Md.mg) (i j:Nat) {x:Ih}{st:Jp}{c:HZ}(e:defs[i]?=U (x,st)) (e':cs[j]?=U (x,c)):DfC x st c:=by
 let⟨f,fd,F,hm,hc⟩:=S.df0 X G i e;exact⟨f,fd,F,hm,JT (hc.symm.trans (sM S.cd e'))⟩
def Seen.txt (S:Seen kl defs bl cs Md.K) (X:Md.K.In Md.base) (G:Md.base.Ns mainGlobals Md.mg):Txb bl:=λx hx=>mg_none_of X G (map_mem S.bl hx)
end
def Hh (tb:Tb) (cs:Qw (Ih×HZ)) (K:Frag):Prop:=(tb.zip cs).map (λq=>codeHdIn K q.2.2 q.1.1)=(tb.zip cs).map (λ_=>V)/\tb.map (λq=>K.lookup q.1)=tb.map (λ_=>B)
def YH (tb:Tb) (kl:KL) (defs:Qw (Ih×Jp)) (bl:Qw Ih) (cs:Qw (Ih×HZ)) (_:JA) (h:Jr):Prop:=∃K:Frag,K.In h/\Seen kl defs bl cs K/\tb.map (λq=>h.get? q.1)=tb.map (λ_=>U FT)/\Hh tb cs K/\∀b o,K.lookup b=U o->(o.cls != .type "list")=V
section
variable{tb:Tb}{kl:KL}{defs:Qw (Ih×Jp)}{bl:Qw Ih}{cs:Qw (Ih×HZ)}
def yh_of (w:JA) (s:HN) (e:YfH tb kl defs bl cs s=YaH tb kl defs bl cs w):YH tb kl defs bl cs w s.heap:=by
 unfold YfH YaH at e;simp![LH]at e;exact⟨CW s.heap,λa o h=>(sG _ h).1,⟨e.1,e.2.1,e.2.2.1,e.2.2.2.1⟩,e.2.2.2.2.1,⟨e.2.2.2.2.2.1,e.2.2.2.2.2.2⟩,λa o h=>(sG _ h).2⟩
def yh_keeps (w:JA) (h h':Jr) (y:YH tb kl defs bl cs w h) (k:∀b o,h.get? b=U o->h'.get? b=U o):YH tb kl defs bl cs w h':=by
 let⟨K,hK,hS,ht,hc⟩:=y;exact⟨K,hK.keeps k,hS,Jj λq hq=>k _ _ (map_mem ht hq),hc⟩
end
theorem wF {α β:Type}:∀{l:Qw α}{m:Qw β}{x:α},l.length=m.length->x∈l->∃y,(x,y)∈l.zip m
 |a::l,b::m,x,e,h=>by
  rcases qaa.mp h with rfl|h
  ·exact⟨b,.head _⟩
  ·let⟨y,hy⟩:=wF (L0 e) h
   exact⟨y,.tail _ hy⟩
theorem oD [Md] {P:Params}{h:Jr}{m:Bool}{M:Mp}:∀{ns:Qw Int}{vs:Qw HM},WellAll P h vs (ns.map WData.int)->Rs m M (ns.map D.int) vs
 |[],_,w=>by cases w;rfl
 |n::ns,_,w=>by
  cases w with
  |cons a b=>cases a;exact⟨_,_,rfl,⟨_,rfl⟩,oD b⟩
def EW {l:OpenLaw}{n:Nat}(hn:l.most=U n) {args:Qw WData}(hpre:l.row.toRowW.claim.pre args=V):∃ns:Qw Int,args=[.list (ns.map .int)]/\ns.length<=n:=by
 let⟨d,r,rfl,h1,h2⟩:=hasAllW_cons (show WShape.hasAll [] args [.list .int]=V from(pre_splitW hpre).1)
 obtain rfl:=hasAllW_nil h2;let⟨xs,rfl,h3⟩:=hasW_list h1;let⟨ns,rfl⟩:=items_int h3;refine⟨ns,rfl,?_⟩
 let hc:l.pre.holds [] {args:=[.list (ns.map .int)]}=V:=(pre_splitW hpre).2;let h4:=(holds_andW hc).1;rw[hn]at h4;let h5:=condW_of (show(WTm.not (.lt (.lit (.int (n:Int))) (.len (.arg 0)))).holds [] {args:=[.list (ns.map .int)]}=V from h4) (w_not (w_lt w_lit (w_len_list (w_arg rfl))))
 simp at h5;lia
theorem walk_N {l:OpenLaw}{n k:Nat}{q:IZ}{loose:Qw Ih}{XP:(Ih->Qq HM)->Jr->Prop}{d:DefRec}{tb:Tb}{kl:KL}{defs:Qw (Ih×Jp)}{bl:Qw Ih}{cs:Qw (Ih×HZ)}{f:Qw D->Qq (D×Bool)}
  (hn:l.most=U n) (hn2:n<=sizeLine) (hdf:d.params.defaults=[]) (hr:Room k callerA) (hcs:tb.length=cs.length)
  (F:∀I:Md,I.tb=tb->I.P=l.prog->Seen kl defs bl cs I.K->Hh tb cs I.K->I.K.In I.base->I.base.Ns mainGlobals I.mg->FnM k d.name f)
  (hf:∀(_:Md) (ns:Qw Int),ns.length<=n->f [.lst (ns.map D.int)]=U (.bl V,Y)):
  WalkO q loose XP (YH tb kl defs bl cs) l.row.toRowW d [] (λf vs=>PySem.call f vs):=by
 intro w s₀ s₁ mg mb G Py fa o pm cd doc dV kV ho hd hcd hD hmg hg args vals as hpre hlay hrd hwl hlo;let⟨ns,rfl,hlen⟩:=EW hn hpre;let⟨K,KX,S,ht,hL,hno⟩:=Py;cases hwl with
 |cons w1 w2=>
 cases w2;cases w1 with
 | @list a vs _ ha hall=>
 let hsy:a≠sysModules:=by
  cases hrd with
  |cons r1 r2=>cases r1 with
   |list h1 h2 h3 h4=>simp_all
 let hT:∀q∈tb,s₁.heap.get? q.1=U FT/\K.lookup q.1=B/\isCodeTable s₁.heap q.1:=λq hq=>⟨map_mem ht hq,map_mem hL.2 hq,by
  let⟨c,hz⟩:=wF hcs hq;let⟨o,vs,_,_,_,_,_,_,_,e1,e2,e3,e4,_⟩:=codeHd_of_K KX (map_mem hL.1 hz);exact⟨c.2,o,vs,e1,e2,e3,e4⟩⟩
 letI hd:=a::tb.map (·.1)
 let un:∀{b:HZ}{o:LW},s₁.heap.get? b=U o->(∀vs n,o.data≠.seq vs n)->(∀vs,o.data≠.fields vs)->b∉hd:=λ{b o} e n1 n2 z=>by
  rcases qaa.mp z with rfl|z
  ·rw[ha]at e;cases e;exact n1 _ _ rfl
  ·let⟨q,hq,rfl⟩:=mt.mp z
   rw[(hT q hq).1]at e;cases e;exact n2 _ rfl
 letI base:=hideAll s₁.heap hd
 let nsK:∀{b:HZ}{m:Ih->Qq HM},s₁.heap.Ns b m->base.Ns b m:=λ{b m} ⟨o,es,ep,e,d,r⟩=>⟨o,es,ep,hideAll_get _ e (un e (λ_ _ z=>by lia) λ_ z=>by lia),d,r⟩
 let hKb:K.In base:=λb o e=>hideAll_get _ (KX b o e) λz=>by
  rcases qaa.mp z with rfl|z
  ·have:=KX _ _ e
   grind
  ·let⟨q,hq,rfl⟩:=mt.mp z
   rw[(hT q hq).2.1]at e;cases e
 letI I:Md:=⟨l.prog,w,K,mg,base,tb,s₁.os,s₁.gens⟩
 letI ob:LW:={cls:=.type "list",data:=.seq vs.toArray}
 letI M:Mp:=λb=>if b=a then U (.f,ob) else if b∈tb.map (·.1) then B else(s₁.heap.get? b).map λo=>(.p,o)
 let Ma:M a=U (.f,ob):=if_pos rfl;let ta:∀q∈tb,q.1≠a:=λq hq e=>by have:=(hT q hq).1;rw[e,ha]at this;cases this
 let Mt:∀q∈tb,M q.1=B:=λq hq=>(if_neg (ta q hq)).trans (if_pos (H4 hq))
 let Mp':∀{b o},s₁.heap.get? b=U o->b∉hd->M b=U (.p,o):=λ{b o} e z=>by
  grind
 let Mb:∀{b},b∈hd->b=a\/∃q∈tb,b=q.1:=λ{b} z=>(qaa.mp z).imp id λz=>by let⟨q,hq,e⟩:=mt.mp z;exact⟨q,hq,e.symm⟩
 let Mi:∀{b k o},M b=U (k,o)->(b=a/\k=.f/\o=ob)\/(k=.p/\s₁.heap.get? b=U o):=λ{b k o} e=>by
  by_cases z:b∈hd
  ·grind
  ·cases h:s₁.heap.get? b with
   |some o'=>simp_all
   |none=>
    grind
 let PA:Bas M s₁ []:=by
  refine⟨⟨rfl,rfl⟩,λb k o e=>?_,λb o e=>Mp' (of_hideAll _ e) λz=>?_,λq hq=>⟨Mt q hq,#[],(hT q hq).1,trivial,λ_ _ e=>nomatch e⟩,λb k o e w=>?_,λb o e=>?_,λk o e=>?_⟩
  ·rcases Mi e with⟨rfl,_,rfl⟩|⟨_,e⟩
   ·exact ha
   ·exact e
  ·cases (show base.get? b=B from hideAll_none _ z).symm.trans e
  ·rcases Mi e with⟨_,z,_⟩|⟨z,_⟩<;>subst z<;>cases w
  ·by_cases z:b∈hd
   ·rcases Mb z with rfl|z
    ·exact .inl (by rw[Ma];simp)
    ·exact .inr z
   ·exact .inl (by rw[Mp' e z];simp)
  ·rcases Mi e with⟨z,_,_⟩|⟨z,_⟩
   ·lia
   ·exact z
 let hM:Mod:=⟨hKb,nsK G.T.g,⟨mb,nsK G.T.b,G.T.builtins⟩,let ⟨mc,h1,h2⟩:=G.T.nolimit;⟨mc,nsK h1,h2⟩,by
  let⟨bm,ob,b1,b2,b3,b4,b5,b6⟩:=G.T.bmain;exact⟨bm,ob,b1,b2,hideAll_get _ b3 (un b3 (λ_ _ z=>by lia) λ_ z=>by lia),b4,b5,b6⟩⟩
 let⟨p,hp,_,hc⟩:=(F I rfl rfl S hL hKb (nsK G.T.g)).ex;cases hmg.symm.trans hp;let hw:Rs Y M (ns.map D.int) vs:=oD hall;let hlv:vs.length<=sizeLine:=by have:=hw.length;rw[HT]at this;lia
 refine enter_call (Mx (hc hr hM PA (us:=[.ref a]) (ds:=[.lst (ns.map D.int)]) ⟨_,_,rfl,⟨a,ob,vs,rfl,⟨.f,Ma,rfl⟩,⟨hlv,_,rfl⟩,hw⟩,rfl⟩ (hf I ns hlen)) λr s' hq=>?_)
 let⟨v,X',M1,δ1,rfl,hs,J,_,hv⟩:=hq;obtain rfl:v=.bool V:=hv;let key:∀b o,s₁.heap.get? b=U o->s'.heap.get? b=U o\/∃q∈tb,b=q.1:=λb o e=>by
  by_cases z:b∈hd
  ·rcases Mb z with rfl|z
   ·rw[ha]at e;cases e
    exact .inl (J.heap _ _ _ (rdf.mp (hs.f _ _ (rdf.mpr Ma))))
   ·exact .inr z
  ·exact .inl (J.heap _ _ _ (hs.p _ _ (Mp' e z)))
 refine⟨.inl ⟨.bool V,.bool V,[],rfl,λ_=>rfl,.bool V,?_,λ_=>⟨L3,λ_ hm=>(nomatch hm)⟩⟩,⟨λb o e=>?_,λb o e=>?_⟩,J.og.1,.of_eq (J.og.2.trans hg)⟩
 ·exact postW_of (r:=l.row.toRowW) (X:=(V==V)) (show WShape.has [] (.bool V) .bool=V by rfl)
   (show(WTm.eq .res (.lit (.bool V))).value [] {args:=_,res:=U (.bool V),after:=_}=U (.bool (V==V)) from w_eq_bool (w_res rfl) w_lit) rfl
 ·rcases key b o e with h|⟨q,hq,rfl⟩
  ·exact .inl h
  ·rw[(hT q hq).1]at e;cases e
   let⟨_,ps,h,_⟩:=J.tabs q hq;exact .inr (.inl ⟨(hT q hq).2.2,rfl,#[],ps,rfl,by rw[h];simp[FT]⟩)
 ·rcases key b o e with h|⟨q,hq,rfl⟩
  ·exact⟨o,h⟩
  ·let⟨_,ps,h,_⟩:=J.tabs q hq
   exact⟨_,h⟩
end L2
namespace L2
open PySem PySem.Spec PyProof.Rows PySem.W Md
variable[Md]
def DfI (c q:Ih) (ns:Qw Ih) (st:Jp):Prop:=∃C f fd,Cls c C ns/\findIn K (.ref C) "__init__"=U (U (.ref f))/\typeIn K (.ref f)=U (.type "function")/\Fun K "__init__" q st f fd
def nQ (h:FQ n x=V):x=U (U (.builtin n)):=by
 unfold FQ at h;split at h
 ·rw[beq_iff_eq.mp h]
 ·cases h
def zt (h:noA x=V):x=U B:=by
 unfold noA at h;split at h
 ·rfl
 ·cases h
def xf (h:Gq x=V):x=U (.type "function"):=by
 unfold Gq at h;split at h
 ·rw[beq_iff_eq.mp h]
 ·cases h
section
variable{kl:KL}{defs:Qw (Ih×Jp)}{bl:Qw Ih}{cs:Qw (Ih×HZ)}
nonrec theorem Seen.dfI (S:Seen kl defs bl cs Md.K) (X:Md.K.In Md.base) (G:Md.base.Ns mainGlobals Md.mg) (i:Nat) {c q:Ih}{ns:Qw Ih}{st:Jp}(e:kl[i]?=U ((c,q),ns,st)):DfI c q ns st:=by
 let w:FW Md.K c q ns=U (F0 q st):=sM S.kl e;unfold FW at w;split at w<;>try cases w
 rename_i C hC;split at w<;>try cases w
 rename_i ok;split at w<;>try cases w
 rename_i f hf;split at w<;>try cases w
 rename_i hfn;split at w<;>try cases w
 rename_i oc od fd sl hl;split at w<;>try cases w
 rename_i hc;unfold Hq at ok;simp![HW]at ok;let⟨⟨⟨⟨⟨⟨k1,k2⟩,k3⟩,k4⟩,k5⟩,k6⟩,k7⟩:=ok;refine⟨C,f,fd,⟨mg_of X G hC,k1,k2,k3,k4,nQ k5,nQ k6,λn hn=>zt (qac.mp k7 n hn)⟩,hf,xf hfn,⟨⟨oc,od,fd.kwdefaults,fd.doc,fd.pyModule,fd.annotations,fd.code,fd.closureTuple,sl,?_,hl,hc⟩,?_⟩⟩
 ·let q':=JT w
  let⟨a1,a2,a3,a4,a5,a6,a7,a8,a9,a10,a11,a12,a13,a14,a15⟩:=fd;simp![yh,F0,LH]at q'
  lia
 ·unfold keepIn;dsimp only;rw[hl]
end
section
variable{c q:Ih}{ns:Qw Ih}{st:Jp}
def DfI.cls (D:DfI c q ns st):∃C,Cls c C ns:=by let⟨C,_,_,h,_⟩:=D;exact⟨C,h⟩
abbrev HBI (q:Ih) (st:Jp) (N:Qw Ih) (n:Nat):Prop:=∀(kV doc pm:HM) (an:Qq HZ) (cdv ct:HM) (us:Qw HM),us.length=(N.take n).length->bindArgs (OP "__init__" q (defArgs st) (defBody st) (defScope st) .none kV doc pm an cdv ct) ⟨us,[]⟩=pure ((N.take n).zip us)
def mkI {k:Nat}(n:Nat) (N:Qw Ih) (g:DEnv->Qq Out) (D:DfI c q ns st) (S:FnScope N (N.take n) (defScope st):=by walk_at "sc")
  (hb:HBI q st N n:=by walk_at "bi") (body:HY N st k (λX=>DSs X (defBody st) g):=by walk_at "mk"):Ini c ns (k+1) (u9 N.length (N.take n).length g):=by
 let⟨C,f,fd,h1,h2,h3,F⟩:=D;refine⟨C,f,h1,h2,h3,vK F S (λs us hl=>?_) λA L as hr=>body (cxF N q (defScope st) f fd.code A L as) ⟨rfl,rfl,S.nd⟩ rfl hr⟩
 let⟨oc,od,kV,doc,pm,an,cdv,ct,osl,rfl,_⟩:=F.ex;exact .of_eq (hb kV doc pm an cdv ct us hl)
def FnM.none {x:Ih}(D:Df x st) (k:Nat):FnM k x λ_=>B:=by
 let⟨f,fd,F,hm⟩:=D;exact⟨f,hm,F.kp,λ_ _ _ _ e=>nomatch e⟩
def FnW.none {x:Ih}(D:Df x st) (k:Nat):FnW k x λ_ _=>B:=by
 let⟨f,fd,F,hm⟩:=D;exact⟨f,hm,F.kp,λ_ _ _ _ _ _ _ e=>nomatch e⟩
end
section
variable{X:Cx}{a:Expr}{es:Qw Expr}{fs:DEnv->Qq (Qw D)}{p pos p2:MR}{m:Bool}{c x:Ih}{ns:Qw Ih}
theorem yJ {k:Nat}{f:Qw D->Qq (D×Bool)}(F:FnM k x f) (hr:Room k X.A) (g:Gb X x) (ha:DA X Y (a::es) fs):DE X m (.Call (.Name x p) (a::es) [] pos) (λδ=>obO (ae (fs δ) f)):=(we F hr g ha).share
theorem DN {op:CmpOp}{b:Expr}{fa fb:DEnv->Qq D}{m' mm:Bool}{g:Int->Int->Bool}(ho:CmS X op (λx y=>match x,y with|.int i,.int j=>U (g i j)|_,_=>B)) (ha:DE X m a fa) (hb:DE X m' b fb):DE X mm (.Compare a [op] [b] pos) (λδ=>ofB (cI g (fa δ) (fb δ))):=DP ho ha hb
theorem tx {k:Nat}{f:Qw D->Qw D->Qq (D×Bool×DEnv)}(F:Ini c ns k f) (hr:Room (k+1) X.A) (g:Gb X c) (ha:DA X Y (a::es) fs):DS X (.Return (U (.Call (.Name c p) (a::es) [] pos)) p2) (λδ=>dz (Aq c f (fs δ)) δ):=vF (Bf F hr g ha)
end
section
variable{X:Cx}{M M' M1:Mp}{δ:DEnv}{s s':HN}{scope:Kg}{bs:Qw Bool}{fp:Qw HZ}{elt tg iter:Expr}{ifs:Qw Expr}{pos:MR}{i:Nat}{fi:DEnv->Qq (Qw D)}{τ:D->DEnv->Qq DEnv}{ft:DEnv->Qq Bool}{fe:DEnv->Qq D}
theorem yj {y:Ih}{py spos:MR}(hx:Lc X i y) (hτ:yl τ) (hi:DI X V tg iter fi) (S:CompScope X scope bs) (hg:∀cl C,DG (cxC X scope cl C) tg τ) (ht:∀cl C,DTs (cxC X scope cl C) ifs ft) (he:∀cl C,DE (cxC X scope cl C) Y elt fe)
  (hsw:swapsWith (.ListComp elt [⟨tg,iter,ifs,0⟩] scope pos) (U (.Name y py)) spos.line X.env=pure V):DS X (.Assign [.Name y py] (.ListComp elt [⟨tg,iter,ifs,0⟩] scope pos) spos) (λδ=>gN i (ar (nw (ae (fi δ) (bA V bs τ ft fe δ)))) δ):=λ{M δ s o Q} I e k=>by
 let⟨d,ed,rfl⟩:=i6 e;cases q:ae (fi δ) (bA V bs τ ft fe δ)with
 |none=>simp[q,ar,nw]at ed
 |some ls=>
  simp![q,ar,nw]at ed
  by_cases fl:D.flats ls=V
  rotate_left
  ·rw[if_neg fl]at ed;cases ed
  rw[if_pos fl]at ed;cases ed;let⟨ds,e1,e2⟩:=ag q;rw[exec_Assign_Name_used _ _ _ _ hsw];refine HJ (NZ (HJ ?_))
  refine HJ (Jv (Lw (use:=U (assign (.Name y py) X.env)) (Q:=λ_ s'=>Q .next s') rfl (λx=>i9 hi.pl) (bx (S.has I)) S.kind S.loc
   (hi.ev I e1 λit fp tn s1 M1 x1 I1 T t0 f1=>?_)) (λ_ s' hq=>HK (HK hq)) λ_ _ e=>e)
  refine pR (RR:=λacc C=>compPost (model P w) X.A (λ_ _=>False) (U (assign (.Name y py) X.env)) (λ_ s'=>Q .next s') acc C) hτ S hg ht he I1 T t0 f1 e2 ?_
  intro acc C m s' M' vs x2 I2 fa fC hn ne ⟨n,ha⟩ hl rs;refine Oq (I2.setOwn fa ha (d:=.lst ls) ⟨vs,⟨aA hl,n,rfl⟩,Rs.flat I2.own fl rs⟩ hx λs3 M3 c I3 h1 h2 h3 h4 h5=>?_)
  let hC:C≠c:=by
   rcases h4 with rfl|h4
   ·exact fC.l
   ·rintro rfl;exact fC.c y h4
  exact⟨m,hn.sameBut h3 hC,λh' hs=>k _ M3 ((x1.trans x2).sx.trans ⟨h1,λa o q=>(h2 a o).mp q,λa o q=>(h2 a o).mpr q⟩) (I3.wr (s':={s3 with heap:=h'}) [C] (λb hb=>by rw[on.mp hb];exact⟨h5 _ fC.m (Ib ne),fC.l,fC.c,fC.t,fC.s,fC.n⟩) λb o hb e=>(hs.2 b λz=>hb (by simp[z])).trans e)⟩
end
def Ae {X:Cx}{N:Qw Ih}{k:Nat}{lq:Ih}{lscope:Kg}{body:Expr}{fb:DEnv->Qq D}(h:X.N=N) (nd:X.N.Nodup) (H:∀X':Cx,Has X' N lscope->Room k X'.A->DE X' Y body fb):∀(cl:Qw (Ih×HZ)) (f c':HZ) (A:Ia) (L:HZ),Room k A->DE (cxL X.N lq lscope cl f (.ref c') A L) Y body fb:=λ_ _ _ _ _ hr=>H _ ⟨h,rfl,nd⟩ hr
end L2
namespace K22
open PySem L2 Md
variable[Md]
local macro_rules| `(tactic|walk_at "z")=>do
  let zz:=λs:String=>(s.splitOn " ").toArray.mapM λx=>(do let i:=Lean.mkIdent x.toName;`(Lean.Parser.Tactic.tacticSeq|refine' @$i ..):Lean.MacroM (Lean.TSyntax `Lean.Parser.Tactic.tacticSeq))
  let h0<-`(h)
  let h1<-`((Has.comp $h0 ..))
  let hs:=#[h0,h1,<-`((Has.comp $h1 ..))]
  let hA<-(("Has.nm Has.gb CompScope.of' Has.nmI uw Has.lcl".splitOn " ").toArray.flatMap λx=>hs.map λy=>(x,y)).mapM λ(x,y)=>(do let i:=Lean.mkIdent x.toName;`(Lean.Parser.Tactic.tacticSeq|exact $i $y (by decide +kernel)):Lean.MacroM (Lean.TSyntax `Lean.Parser.Tactic.tacticSeq))
  let hB<-hs.mapM λy=>(`(Lean.Parser.Tactic.tacticSeq|exact Txb.bn T $y (by decide +kernel)):Lean.MacroM (Lean.TSyntax `Lean.Parser.Tactic.tacticSeq))
  let hC<-hs.mapM λy=>(`(Lean.Parser.Tactic.tacticSeq|exact Has.nd $y):Lean.MacroM (Lean.TSyntax `Lean.Parser.Tactic.tacticSeq))
  let a<-zz "nv DY Ff Gs yg BF EG FK zA C6 EQ CA Ft FJ Do By D4 zV F8 EJ D8 Gv DZ Em Cc BY BI DF.share"
  let b<-zz "zJ xw Am y0 De df_sortedSet Dq wv wU D0 yH Cs ye"
  let c<-zz "BH E5 Fo E3 Al Go GJ xh EK EI Dt"
  let d<-zz "B7 yk BC yK Au tR E9 uA Dl E1 Gu DU AB Be"
  let e<-zz "Cd FD CG Co FL"
  let f<-zz "B6 Ci sj vH"
  `(tactic|first
 |fail_if_success refine(?_:(_:Prop))
 |rfl
 |assumption
 |(((with_reducible first|(refine'(?_:DE ..);first $[|$a]*)|(refine'(?_:DF ..);first $[|$b]* )|(refine'(?_:DT ..);first $[|$c]*)|(refine'(?_:DS ..);first $[|$d]*)|refine' @bC .. |refine' @aW .. |(refine'(?_:DI2 ..);first $[|$e]*)|refine' @Ep .. |refine' @yo .. |refine' @zE .. |refine' @Dp .. |refine' @BW .. |refine' @C9 .. |refine' @vU .. |refine' @BD .. |(refine'(?_:DW ..);first|refine' @G8 .. |refine' @EA .. |refine' @Ec ..)|(refine'(?_:DSs ..);first $[|$f]*))<;>walk_at "z");all_goals exact Y)
 |(have h:=(by assumption:Has _ _ _);first $[|$hA]*|exact Has.lc h (by assumption) (by decide +kernel)|(have T:=(by assumption:Txb _);first $[|$hB]*) $[|$hC]*)
 |(have h:=(by assumption:Room _ _);exact Room.mono h (by decide))
 |exact uT _
 |exact xD _ _ (by decide)
 |exact Gj
 |exact λ_ _ _ _ _=>.of_eq rfl
 |exact⟨rfl,rfl,rfl,by decide +kernel,rfl,by decide +kernel,by decide +kernel⟩
 |exact GO
 |exact GS
 |exact .inl rfl
 |exact .inr rfl
 |exact aN (aN gn)
 |exact aN (aN (aN (aN (aN (aN gn)))))
 |exact aN gn
 |exact aN (aN (aN gn))
 |decide +kernel
 |decide
 |(simp;done)
 |(intros;rfl)
 |(intro _;walk_at "z"))
local macro_rules| `(tactic|walk_at "sc")=> `(tactic|first
 |exact⟨rfl,rfl,rfl,by decide +kernel,rfl,by decide +kernel,by decide +kernel⟩)
local macro_rules| `(tactic|walk_at "bi")=> `(tactic|first
 |exact λ_ _ _ _ _ _=>usS λ_=>us0 rfl
 |exact λ_ _ _ _ _ _=>usS λ_=>usS λ_=>us0 rfl
 |exact λ_ _ _ _ _ _=>usS λ_=>usS λ_=>usS λ_=>us0 rfl
 |exact λ_ _ _ _ _ _=>usS λ_=>usS λ_=>usS λ_=>usS λ_=>us0 rfl
 |exact λ_ _ _ _ _ _=>usS λ_=>usS λ_=>usS λ_=>usS λ_=>usS λ_=>us0 rfl
 |exact λ_ _ _ _ _ _=>usS λ_=>usS λ_=>usS λ_=>usS λ_=>usS λ_=>usS λ_=>us0 rfl)
local macro_rules| `(tactic|walk_at "mk")=> `(tactic|first
 |(intro X h f r;(conv in defBody _=>whnf);walk_at "z"))
local macro_rules| `(tactic|walk_at "z")=> `(tactic|first
 |(((with_reducible first
  |(refine'(?_:DE ..);first|refine' @DN .. |refine' @Ao .. |refine' @de_attr .. |refine' @uO .. |refine' @de_newS .. |refine' @yJ .. |refine' @Eh .. |refine' @BV .. |refine' @Eu .. |refine' @CZ .. |refine' @xA .. |refine' @zw .. |refine' @de_max ..)
  |(refine'(?_:DF ..);first|refine' @yM .. |refine' @tU .. |refine' @tJ .. |refine' @zR .. |refine' @zm .. |refine' @zp ..)
  |(refine'(?_:DNw ..);first|refine' @Bf .. |refine' @we ..)
  |(refine'(?_:DX ..);first|refine' @Ea .. |refine' @ET .. |refine' @vD ..)
  |(refine'(?_:DXi ..);first|refine' @xL ..)
  |(refine'(?_:DTX ..);first|refine' @Cp .. |refine' @Bv ..)
  |(refine'(?_:DS ..);first|refine' @yj .. |refine' @BK .. |refine' @tx .. |refine' @Cy .. |refine' @vC .. |refine' @Ac .. |refine' @Cf .. |refine' @Ak .. |refine' @yT .. |refine' @C4 .. |refine' @B4 .. |refine' @tw ..)
  |(refine'(?_:DSs ..);first|refine' @Ay ..)
  |(refine'(?_:DI2 ..);first|refine' @zX .. |refine' @BN .. |refine' @yA .. |refine' @di_rng2 ..))<;>walk_at "z");all_goals exact Y)
 |(have h:=(by assumption:Room _ _);exact Room.mono h (by lia)))
abbrev rY:=rd Y
abbrev qW:Qw Ih:=["rows","numbers","table","cells","cell"]
abbrev gz (δ:DEnv):Qq D:=ixO (rY 4 δ) (U (.int 1))
abbrev gH (δ:DEnv):Qq Out:=AV 1 (ar (ae (yp (rY 3 δ)) (bA Y [Y,Y,Y,Y,Y] (af 4) (λδ=>eqO (ixO (rY 4 δ) (U (.int 0))) (U (.str "blank"))) gz δ))) δ
abbrev m9 (δ:DEnv):Qq Out:=dz (sortSetO .it V (rY 1 δ)) δ
abbrev jP (δ:DEnv):Qq Out:=au (gN 1 (dC (U [])) δ) (λδ=>au (ae (dj (rY 0 δ)) λds=>aq (λd δ=>ae ((bh (am (af 2) (am (af 3) (toNil)))) d δ) gH) ds δ) (λδ=>m9 (pN 1 δ)))
def zA3:Qw D->Qq (D×Bool):=bW 5 1 jP
abbrev kq:Qw Ih:=["number","numbers_of","keys_of","seen","cluster","waiting","keys","key","unseen","near"]
abbrev aS (δ:DEnv):Qq Bool:=AH (rd V 5 δ)
abbrev iH (δ:DEnv):Qq D:=rY 9 δ
abbrev bS (δ:DEnv):Qq D:=dh (aa (rY 9 δ) (aa (U (.bl V)) (U [])))
abbrev iI (δ:DEnv):Qq Out:=au (FV 3 (bv (ar (ae (dj (rY 8 δ)) (bA Y [Y,Y,Y,Y,Y,Y,Y,Y,Y,Y] (af 9) (λδ=>U V) bS δ)))) δ) (λδ=>BE 5 (rY 8 δ) δ)
abbrev bU (δ:DEnv):Qq Out:=ifO (be (sZ (rY 7 δ) (rd V 4 δ))) (au (iM 4 (rY 7 δ) (U (.bl V)) δ) (λδ=>au (gN 8 (ar (nw (ae (dj (cM (rd V 1 δ) (rY 7 δ))) (bA V [Y,Y,Y,V,Y,Y,Y,Y,Y,Y] (af 9) (λδ=>be (sZ (rY 9 δ) (rY 3 δ))) iH δ)))) δ) (λδ=>iI (pN 8 δ)))) (nextO δ)
abbrev aI (δ:DEnv):Qq Out:=au (FP 6 (DD (λδ=>rY 2 δ) (DC 5) δ)) (λδ=>ae (dj (rY 6 δ)) λds=>aq (λd δ=>ae ((af 7) d δ) bU) ds δ)
abbrev iG (δ:DEnv):Qq Out:=dz (fq (rY 4 δ)) δ
abbrev bM (δ:DEnv):Qq Out:=au (gN 4 (U (.dD [] [])) δ) (λδ=>au (gN 5 (dC (aa (rY 0 δ) (U []))) δ) (λδ=>au (aK aS aI 1000 δ) (λδ=>iG (pN 4 δ))))
def zB0:Qw D->Qw D->Qq (D×Bool×DEnv):=u9 10 4 bM
abbrev t9:Qw Ih:=["numbers_of","keys_of","key","numbers","number","found","seen"]
abbrev d9 (δ:DEnv):Qq Out:=wP 1 (rY 4 δ) (λδ=>rY 2 δ) δ
abbrev dZ (δ:DEnv):Qq Out:=ae (dj (rY 3 δ)) λds=>aq (λd δ=>ae ((af 4) d δ) d9) ds δ
abbrev cF (δ:DEnv):Qq Out:=ifO (be (sZ (rY 4 δ) (rd V 6 δ))) (au (iM 6 (rY 4 δ) (U (.bl V)) δ) (λδ=>GT 5 (wE 6 (λδ=>rY 4 δ) (λδ=>rY 0 δ) (λδ=>rY 1 δ) zB0) δ)) (nextO δ)
abbrev oR (δ:DEnv):Qq Out:=au (ae (jF (rY 1 δ)) λds=>aq (λd δ=>ae ((af 4) d δ) cF) ds δ) (λδ=>dz (bu 5 δ) δ)
abbrev lL (δ:DEnv):Qq Out:=au (Gl 1 (U (.dK [] [])) δ) (λδ=>au (ae (d8 (rY 0 δ)) λds=>aq (λd δ=>ae ((bh (am (af 2) (am (af 3) (toNil)))) d δ) dZ) ds δ) (λδ=>au (gN 5 (dC (U [])) δ) (λδ=>au (gN 6 (U (.dK [] [])) δ) (λδ=>oR (pN 1 δ)))))
def zD5:Qw D->Qq (D×Bool):=bW 7 1 lL
abbrev jt:Qw Ih:=["rows","row"]
abbrev gV (δ:DEnv):Qq D:=rY 1 δ
abbrev eE (δ:DEnv):Qq Out:=dz (ar (ae (dj (rY 0 δ)) (bA Y [Y,Y] (af 1) (λδ=>be (AH (frO (ae (aa (dC (aa (rY 1 δ) (U []))) (U [])) zA3)))) gV δ))) δ
def zA9:Qw D->Qq (D×Bool):=bW 2 1 eE
abbrev qw:Qw Ih:=["part","counts","colour"]
abbrev dg (δ:DEnv):Qq Out:=iM 1 (rY 2 δ) (dY (lB (rd V 1 δ) (rd V 2 δ) (U (.int 0))) (U (.int 1))) δ
abbrev i7 (δ:DEnv):Qq Out:=au (gN 1 (U (.dK [] [])) δ) (λδ=>au (ae (eY (bP "Painted" "colours" (rd V 0 δ))) λds=>aq (λd δ=>ae ((af 2) d δ) dg) ds δ) (λδ=>dz (bu 1 δ) δ))
def zB8:Qw D->Qq (D×Bool):=bW 3 1 i7
abbrev iO:Qw Ih:=["one","other","counts","numbers","number","colour"]
abbrev gD (δ:DEnv):Qq D:=dh (aa (rY 5 δ) (aa (rY 4 δ) (U [])))
abbrev fV (δ:DEnv):Qq D:=dh (aa (rY 4 δ) (aa (cM (rY 3 δ) (rY 5 δ)) (U [])))
abbrev dv (δ:DEnv):Qq Out:=au (bj 2 (frO (ae (aa (rY 0 δ) (U [])) zB8)) δ) (λδ=>au (bj 3 (bv (ar (ae (d8 (bP "Painted" "colours" (rd V 1 δ))) (bA Y [Y,Y,Y,Y,Y,Y] (bh (am (af 4) (am (af 5) (toNil)))) (λδ=>U V) gD δ)))) δ) (λδ=>dz (bv (ar (ae (d8 (bP "Painted" "colours" (rd V 0 δ))) (bA Y [Y,Y,V,V,Y,Y] (bh (am (af 4) (am (af 5) (toNil)))) (λδ=>eqO (cM (rY 2 δ) (rY 5 δ)) (U (.int 1))) fV δ)))) δ))
def zB9:Qw D->Qq (D×Bool):=bW 6 2 dv
abbrev jJ:Qw Ih:=["self","rows","colours"]
abbrev eC (δ:DEnv):Qq Out:=au (kB "Painted" "rows" 0 (rY 1 δ) δ) (λδ=>kB "Painted" "colours" 0 (rY 2 δ) δ)
def zA5:Qw D->Qw D->Qq (D×Bool×DEnv):=u9 3 3 eC
abbrev xb:Qw Ih:=["painted","rows","number"]
abbrev qR (δ:DEnv):Qq D:=dh (aa (rY 2 δ) (aa (cM (bP "Painted" "colours" (rd V 0 δ)) (rY 2 δ)) (U [])))
abbrev oX (δ:DEnv):Qq Out:=dz (Aq "Painted" zA5 (aa (rY 1 δ) (aa (bv (ar (ae (dj (frO (ae (aa (rY 1 δ) (U [])) zA3))) (bA Y [V,Y,Y] (af 2) (λδ=>U V) qR δ)))) (U [])))) δ
def zD9:Qw D->Qq (D×Bool):=bW 3 2 oX
abbrev lX:Qw Ih:=["painted","counts","loose","row","rows","number"]
abbrev eA (δ:DEnv):Qq D:=rY 5 δ
abbrev b8 (δ:DEnv):Qq Out:=iM 2 (rY 3 δ) (ar (ae (dj (frO (ae (aa (dC (aa (rY 3 δ) (U []))) (U [])) zA3))) (bA Y [V,V,Y,Y,Y,Y] (af 5) (λδ=>cI gGt (cM (rY 1 δ) (cM (bP "Painted" "colours" (rd V 0 δ)) (rY 5 δ))) (U (.int 1))) eA δ))) δ
abbrev jA (δ:DEnv):Qq D:=obO (ae (aa (rY 0 δ) (aa (rY 4 δ) (U []))) zD9)
abbrev je (δ:DEnv):Qq Out:=dz (ar (ae (dj (frO (ae (aa (rY 2 δ) (U [])) zD5))) (bA Y [V,Y,Y,Y,Y,Y] (af 4) (λδ=>U V) jA δ))) δ
abbrev gh (δ:DEnv):Qq Out:=au (bj 1 (frO (ae (aa (rY 0 δ) (U [])) zB8)) δ) (λδ=>au (gN 2 (U (.dD [] [])) δ) (λδ=>au (ae (dj (bP "Painted" "rows" (rd V 0 δ))) λds=>aq (λd δ=>ae ((af 3) d δ) b8) ds δ) (λδ=>je (pN 2 δ))))
def zB7:Qw D->Qq (D×Bool):=bW 6 1 gh
abbrev Dj:Qw Ih:=["cell","first","colours"]
abbrev xR (δ:DEnv):Qq Out:=cG (dh (aa (ixO (rY 0 δ) (U (.int 0))) (aa (ifV (eqO (ixO (rY 0 δ) (U (.int 0))) (U (.str "blank"))) (cM (rY 2 δ) (ixO (rY 0 δ) (U (.int 1)))) (ixO (rY 0 δ) (U (.int 1)))) (aa (rY 1 δ) (U []))))) δ
def zF6:Qw D->Qq (D×Bool):=bW 3 3 xR
abbrev uf:Qw Ih:=["painted","views","row","shades","number","cell"]
abbrev o6 (δ:DEnv):Qq D:=rY 4 δ
abbrev hV (δ:DEnv):Qq D:=shO (ae (aa (rY 5 δ) (aa (wN (ixO (rY 2 δ) (U (.int 1))) (rY 5 δ)) (aa (bP "Painted" "colours" (rd V 0 δ)) (U [])))) zF6)
abbrev dW (δ:DEnv):Qq Out:=ky 1 (rY 4 δ) (dh (aa (ixO (rY 2 δ) (U (.int 0))) (aa (rY 3 δ) (aa (wN (ixO (rY 2 δ) (U (.int 1))) (dh (aa (U (.str "blank")) (aa (rY 4 δ) (U []))))) (U []))))) δ
abbrev dU (δ:DEnv):Qq Out:=au (bj 3 (hY (ar (ae (yp (ixO (rY 2 δ) (U (.int 1)))) (bA Y [V,Y,V,Y,Y,Y] (af 5) (λδ=>U V) hV δ)))) δ) (λδ=>ae (dj (frO (ae (aa (dC (aa (rY 2 δ) (U []))) (U [])) zA3))) λds=>aq (λd δ=>ae ((af 4) d δ) dW) ds δ)
abbrev oG (δ:DEnv):Qq D:=dh (aa (rY 4 δ) (aa (dh (aa (cM (bP "Painted" "colours" (rd V 0 δ)) (rY 4 δ)) (aa (hY (dF .ts (cM (rY 1 δ) (rY 4 δ)))) (U [])))) (U [])))
abbrev oO (δ:DEnv):Qq Out:=dz (bv (ar (ae (jF (rY 1 δ)) (bA Y [V,V,Y,Y,Y,Y] (af 4) (λδ=>U V) oG δ)))) δ
abbrev kM (δ:DEnv):Qq Out:=au (uX 1 (ae (jF (bP "Painted" "colours" (rd V 0 δ))) (bA Y [Y,Y,Y,Y,Y,Y] (af 4) (λδ=>U V) o6 δ)) δ) (λδ=>au (ae (dj (bP "Painted" "rows" (rd V 0 δ))) λds=>aq (λd δ=>ae ((af 2) d δ) dU) ds δ) (λδ=>oO (pN 1 δ)))
def zD0:Qw D->Qq (D×Bool):=bW 6 1 kM
abbrev oZ:Qw Ih:=["one","other","count","looks","other_looks","unlike","finer","colour","look","number"]
abbrev aV (δ:DEnv):Qq Bool:=tyB (U (.bl V))
abbrev fu (δ:DEnv):Qq D:=dh (aa (rY 8 δ) (aa (rY 7 δ) (U [])))
abbrev fE (δ:DEnv):Qq D:=dh (aa (rY 9 δ) (aa (cM (rY 6 δ) (rY 8 δ)) (U [])))
abbrev fx (δ:DEnv):Qq D:=dh (aa (rY 9 δ) (aa (cM (rY 6 δ) (rY 8 δ)) (U [])))
abbrev ay (δ:DEnv):Qq Out:=au (bj 3 (flO (ae (aa (rd V 0 δ) (U [])) zD0)) δ) (λδ=>au (bj 4 (flO (ae (aa (rd V 1 δ) (U [])) zD0)) δ) (λδ=>au (ifO (neO (dF .ti (jN (eY (rY 3 δ)))) (dF .ti (jN (eY (rY 4 δ))))) (cG (U (.bl Y)) δ) (nextO δ)) (λδ=>au (bj 5 (sortSetO .ti Y (jN (eY (rY 3 δ)))) δ) (λδ=>au (bj 6 (kN (ar (ae (vM (rY 5 δ)) (bA Y [Y,Y,Y,Y,Y,Y,Y,Y,Y,Y] (bh (am (af 7) (am (af 8) (toNil)))) (λδ=>U V) fu δ)))) δ) (λδ=>au (ifO (eqO (BP (rY 6 δ)) (rY 2 δ)) (cG (U (.bl V)) δ) (nextO δ)) (λδ=>au (bj 2 (BP (rY 6 δ)) δ) (λδ=>au (kB "Painted" "colours" 0 (bv (ar (ae (d8 (rY 3 δ)) (bA Y [Y,Y,Y,Y,Y,Y,V,Y,Y,Y] (bh (am (af 9) (am (af 8) (toNil)))) (λδ=>U V) fE δ)))) δ) (λδ=>kB "Painted" "colours" 1 (bv (ar (ae (d8 (rY 4 δ)) (bA Y [Y,Y,Y,Y,Y,Y,V,Y,Y,Y] (bh (am (af 9) (am (af 8) (toNil)))) (λδ=>U V) fx δ)))) δ))))))))
abbrev cy (δ:DEnv):Qq Out:=au (bj 2 (U (.int 0)) δ) (λδ=>aK aV ay 1000 δ)
def zB3:Qw D->Qw D->Qq (D×Bool×DEnv):=u9 10 2 cy
abbrev zG:Qw Ih:=["count"]
abbrev sr (δ:DEnv):Qq Out:=cG (dh (aa (ofB (eqO (rY 0 δ) (U (.int 1)))) (aa (rY 0 δ) (U [])))) δ
def zE6:Qw D->Qq (D×Bool):=bW 1 1 sr
abbrev jp:Qw Ih:=["part","counts","number"]
abbrev cZ (δ:DEnv):Qq D:=shO (ae (aa (cM (rY 1 δ) (cM (bP "Painted" "colours" (rd V 0 δ)) (rY 2 δ))) (U [])) zE6)
abbrev eG (δ:DEnv):Qq Out:=au (bj 1 (frO (ae (aa (rY 0 δ) (U [])) zB8)) δ) (λδ=>cG (xE (fq (bP "Painted" "colours" (rd V 0 δ))) (F3 2 [V,V,Y] cZ δ)) δ)
def zC6:Qw D->Qq (D×Bool):=bW 3 1 eG
abbrev yx:Qw Ih:=["part","number","colours"]
abbrev uu (δ:DEnv):Qq Out:=dz (Aq "Painted" zA5 (aa (bP "Painted" "rows" (rd V 0 δ)) (aa (rY 2 δ) (U [])))) δ
abbrev rN (δ:DEnv):Qq Out:=au (gN 2 (wO (bP "Painted" "colours" (rd V 0 δ))) δ) (λδ=>au (iM 2 (rY 1 δ) (E7 (U (.int 1))) δ) (λδ=>uu (pN 2 δ)))
def zD6:Qw D->Qq (D×Bool):=bW 3 2 rN
abbrev mJ:Qw Ih:=["part","candidate","number","near","found"]
abbrev aQ (Fr:Qw D->Qw D->Qq (D×Bool×DEnv)) (δ:DEnv):Qq Out:=ifO (eqO (cM (bP "Painted" "colours" (rd V 1 δ)) (rY 3 δ)) (cM (bP "Painted" "colours" (rd V 0 δ)) (rY 2 δ))) (au (bj 4 (lw Fr (obO (ae (aa (rY 0 δ) (aa (rY 2 δ) (U []))) zD6)) (obO (ae (aa (rY 1 δ) (aa (rY 3 δ) (U []))) zD6))) δ) (λδ=>ifO (be (kt (rY 4 δ))) (cG (rY 4 δ) δ) (nextO δ))) (nextO δ)
abbrev aE (Fr:Qw D->Qw D->Qq (D×Bool×DEnv)) (δ:DEnv):Qq Out:=au (ifO (neO (cS (bP "Painted" "rows" (rd V 0 δ))) (cS (bP "Painted" "rows" (rd V 1 δ)))) (cG (U .non) δ) (nextO δ)) (λδ=>au (bj 2 (shO (ae (aa (rY 0 δ) (U [])) zC6)) δ) (λδ=>au (ae (dj (fq (bP "Painted" "colours" (rd V 1 δ)))) λds=>aq (λd δ=>ae ((af 3) d δ) (aQ Fr)) ds δ) (λδ=>cG (U .non) δ)))
abbrev Ab:Qw Ih:=["one","other","pairs","candidates","part","place","found"]
abbrev bH (Fr:Qw D->Qq (D×Bool)) (δ:DEnv):Qq Bool:=vN (kt (rY 6 δ)) (cI gLt (rY 5 δ) (cS (rY 3 δ)))
abbrev bE (Fr:Qw D->Qq (D×Bool)) (δ:DEnv):Qq Out:=au (bj 6 (shO (ae (aa (rY 4 δ) (aa (ixO (rY 3 δ) (rY 5 δ)) (U []))) Fr)) δ) (λδ=>bj 5 (dY (rY 5 δ) (U (.int 1))) δ)
abbrev cW (Fr:Qw D->Qq (D×Bool)) (δ:DEnv):Qq Out:=au (bj 5 (U (.int 0)) δ) (λδ=>au (bj 6 (U .non) δ) (λδ=>au (aK (bH Fr) (bE Fr) 1000 δ) (λδ=>au (ifO (kt (rY 6 δ)) (cG (U .non) δ) (nextO δ)) (λδ=>au (bj 3 (gO (bq (rY 3 δ) (U B) (aX (Fw (rY 5 δ) (U (.int 1))))) (bq (rY 3 δ) (aX (rY 5 δ)) (U B))) δ) (λδ=>EZ 2 (rY 6 δ) δ)))))
abbrev kX (Fr:Qw D->Qq (D×Bool)) (δ:DEnv):Qq Out:=au (gN 2 (frO (ae (aa (rY 0 δ) (aa (rY 1 δ) (U []))) zB9)) δ) (λδ=>au (bj 3 (frO (ae (aa (rY 1 δ) (U [])) zB7)) δ) (λδ=>au (ae (dj (frO (ae (aa (rY 0 δ) (U [])) zB7))) λds=>aq (λd δ=>ae ((af 4) d δ) (cW Fr)) ds δ) (λδ=>dz (bu 2 δ) δ)))
abbrev tO (Fr:Qw D->Qq (D×Bool)) (δ:DEnv):Qq Out:=(kX Fr) (Ar 1 δ)
abbrev gI (Fr:Qw D->Qq (D×Bool)) (δ:DEnv):Qq Out:=au (ifX (EB (tyX (kW 0 1 zB3 δ))) (λδ=>cG (U .non) δ) (λδ=>nextO δ)) (λδ=>(tO Fr) (Ar 0 δ))
def aD:Nat->Qw D->Qw D->Qq (D×Bool×DEnv)
 |0=>λ_ _=>B
 |n+1=>u9 7 2 (gI (bW 5 2 (aE (aD n))))
abbrev jX:Qw Ih:=["rows","number"]
abbrev gZ (δ:DEnv):Qq D:=dh (aa (rY 1 δ) (aa (U (.int 0)) (U [])))
abbrev eN (δ:DEnv):Qq Out:=dz (bv (ar (ae (dj (frO (ae (aa (rY 0 δ) (U [])) zA3))) (bA Y [Y,Y] (af 1) (λδ=>U V) gZ δ)))) δ
def zB1:Qw D->Qq (D×Bool):=bW 2 1 eN
abbrev xT:Qw Ih:=["one","other","pairs","number"]
abbrev pS (δ:DEnv):Qq D:=dh (aa (rY 3 δ) (aa (dh (aa (U (.str "blank")) (aa (cM (rY 2 δ) (rY 3 δ)) (U [])))) (U [])))
abbrev nM (δ:DEnv):Qq Out:=au (bj 2 (U .non) δ) (λδ=>au (ifO (eqO (frO (ae (aa (rY 0 δ) (U [])) zA9)) (frO (ae (aa (rY 1 δ) (U [])) zA9))) (bj 2 (lw (aD 12) (Aq "Painted" zA5 (aa (rY 0 δ) (aa (frO (ae (aa (rY 0 δ) (U [])) zB1)) (U [])))) (Aq "Painted" zA5 (aa (rY 1 δ) (aa (frO (ae (aa (rY 1 δ) (U [])) zB1)) (U []))))) δ) (nextO δ)) (λδ=>au (ifO (kt (rY 2 δ)) (cG (dh (aa (U (.str "apart")) (U []))) δ) (nextO δ)) (λδ=>cG (dh (aa (U (.str "same")) (aa (ar (ae (dj (rj .it (rY 2 δ))) (bA Y [Y,Y,V,Y] (af 3) (λδ=>U V) pS δ))) (U [])))) δ)))
def zC0:Qw D->Qq (D×Bool):=bW 4 2 nM
abbrev n6:Qw Ih:=["_law_found"]
abbrev ii (δ:DEnv):Qq Out:=cG (A4 (dE "int" (rY 0 δ)) (ofB (be (tyB (dE "bool" (rY 0 δ)))))) δ
def zC5:Qw D->Qq (D×Bool):=bW 1 1 ii
abbrev nA:Qw Ih:=["_law_cell","_law_k","_law_one"]
abbrev d6 (δ:DEnv):Qq Out:=au (bj 2 (c9 (uS (dY (dY (c9 (rY 0 δ) (U (.int 2147483647))) (uS (uS (U (.int 40503)) (rY 1 δ)) (rY 1 δ))) (uS (U (.int 17)) (rY 1 δ))) (U (.int 48271))) (U (.int 2147483647))) δ) (λδ=>cG (c9 (uS (rY 2 δ) (dY (dY (c9 (rY 2 δ) (U (.int 65537))) (uS (U (.int 3)) (rY 1 δ))) (U (.int 1)))) (U (.int 2147483629))) δ)
def zA1:Qw D->Qq (D×Bool):=bW 3 2 d6
abbrev n8:Qw Ih:=["_law_cell","_law_many","_law_letters","_law_word","_law_at","_law_first","_law_k"]
abbrev cJ (δ:DEnv):Qq D:=Ez (rY 2 δ) (c9 (shO (ae (aa (rY 0 δ) (aa (rY 6 δ) (U []))) zA1)) (U (.int 26)))
abbrev cO (δ:DEnv):Qq D:=Es (Es (xC (rY 3 δ) (U B) (aX (rY 4 δ))) (Ez (rY 2 δ) (c9 (dY (rY 5 δ) (rY 6 δ)) (U (.int 26))))) (xC (rY 3 δ) (aX (dY (rY 4 δ) (U (.int 1)))) (U B))
abbrev eB (δ:DEnv):Qq Out:=au (bj 2 (U (.str "abcdefghijklmnopqrstuvwxyz")) δ) (λδ=>au (bj 3 (zY (U (.str "")) (ar (ae (nG (dY (U (.int 1)) (c9 (rY 0 δ) (U (.int 8))))) (bA Y [V,Y,V,Y,Y,Y,Y] (af 6) (λδ=>U V) cJ δ)))) δ) (λδ=>au (bj 4 (c9 (shO (ae (aa (rY 0 δ) (aa (U (.int 19)) (U []))) zA1)) (FO (rY 3 δ))) δ) (λδ=>au (bj 5 (shO (ae (aa (rY 0 δ) (aa (U (.int 20)) (U []))) zA1)) δ) (λδ=>dz (ar (ae (nG (rY 1 δ)) (bA Y [Y,Y,V,V,V,V,Y] (af 6) (λδ=>U V) cO δ))) δ))))
def zB5:Qw D->Qq (D×Bool):=bW 7 2 eB
abbrev kG:Qw Ih:=["_law_cell","_law_many","_law_k"]
abbrev dy (δ:DEnv):Qq D:=c9 (dY (c9 (shO (ae (aa (rY 0 δ) (aa (U (.int 30)) (U []))) zA1)) (U (.int 999900))) (uS (U (.int 7)) (rY 2 δ))) (U (.int 1000000))
abbrev cN (δ:DEnv):Qq Out:=au (ifO (eqO (c9 (rY 0 δ) (U (.int 3))) (U (.int 0))) (dz (xa (rY 1 δ)) δ) (nextO δ)) (λδ=>dz (ar (ae (nG (rY 1 δ)) (bA Y [V,Y,Y] (af 2) (λδ=>U V) dy δ))) δ)
def zC1:Qw D->Qq (D×Bool):=bW 3 2 cN
abbrev pD:Qw Ih:=["_law_number","_law_names","_law_numbers_here"]
abbrev eF (δ:DEnv):Qq Out:=au (ifO (eqO (c9 (rY 0 δ) (U (.int 2))) (U (.int 1))) (cG (dh (aa (U (.str "blank")) (aa (ixO (rY 2 δ) (c9 (iS (rY 0 δ) (U (.int 2))) (cS (rY 2 δ)))) (U [])))) δ) (nextO δ)) (λδ=>cG (dh (aa (U (.str "name")) (aa (ixO (rY 1 δ) (c9 (iS (rY 0 δ) (U (.int 2))) (cS (rY 1 δ)))) (U [])))) δ)
def zA8:Qw D->Qq (D×Bool):=bW 3 3 eF
abbrev tN:Qw Ih:=["_law_cell","_law_tables_here","_law_names","_law_numbers_here","_law_kind","_law_many","_law_cells","_law_j"]
abbrev eH (δ:DEnv):Qq D:=shO (ae (aa (shO (ae (aa (rY 0 δ) (aa (dY (U (.int 2)) (rY 7 δ)) (U []))) zA1)) (aa (rY 2 δ) (aa (rY 3 δ) (U [])))) zA8)
abbrev ie (δ:DEnv):Qq Out:=cG (dh (aa (ixO (ixO (rY 1 δ) (rY 4 δ)) (U (.int 0))) (aa (hY (rY 6 δ)) (U [])))) δ
abbrev lu (δ:DEnv):Qq Out:=au (bj 4 (c9 (shO (ae (aa (rY 0 δ) (aa (U (.int 1)) (U []))) zA1)) (cS (rY 1 δ))) δ) (λδ=>au (bj 5 (ixO (ixO (rY 1 δ) (rY 4 δ)) (U (.int 1))) δ) (λδ=>au (ifO (eqO (c9 (shO (ae (aa (rY 0 δ) (aa (U (.int 7)) (U []))) zA1)) (U (.int 3))) (U (.int 0))) (bj 5 (dY (U (.int 1)) (c9 (shO (ae (aa (rY 0 δ) (aa (U (.int 8)) (U []))) zA1)) (rY 5 δ))) δ) (nextO δ)) (λδ=>au (gN 6 (ar (ae (nG (rY 5 δ)) (bA Y [V,Y,V,V,Y,Y,Y,Y] (af 7) (λδ=>U V) eH δ))) δ) (λδ=>ie (pN 6 δ)))))
def zC9:Qw D->Qq (D×Bool):=bW 8 4 lu
abbrev mO:Qw Ih:=["_law_cell","_law_most","_law_words_here","_law_k"]
abbrev ey (δ:DEnv):Qq D:=dh (aa (ixO (rY 2 δ) (rY 3 δ)) (aa (dY (U (.int 1)) (c9 (shO (ae (aa (rY 0 δ) (aa (dY (U (.int 40)) (rY 3 δ)) (U []))) zA1)) (rY 1 δ))) (U [])))
abbrev gJ (δ:DEnv):Qq Out:=au (bj 2 (frO (ae (aa (rY 0 δ) (aa (U (.int 3)) (U []))) zB5)) δ) (λδ=>dz (ar (ae (nG (dY (U (.int 1)) (c9 (iS (rY 0 δ) (U (.int 8))) (U (.int 3))))) (bA Y [V,V,V,Y] (af 3) (λδ=>U V) ey δ))) δ)
def zC8:Qw D->Qq (D×Bool):=bW 4 2 gJ
abbrev pL:Qw Ih:=["_law_rows","_law_told","_law_row_here"]
abbrev aU (δ:DEnv):Qq Out:=ifO (orO (eqO (cS (rd V 1 δ)) (U (.int 0))) (neO (ixO (rd V 1 δ) (E7 (U (.int 1)))) (rY 2 δ))) (ui 1 (rY 2 δ) δ) (nextO δ)
abbrev eK (δ:DEnv):Qq Out:=au (gN 1 (dC (U [])) δ) (λδ=>au (ae (dj (dF .ts (rY 0 δ))) λds=>aq (λd δ=>ae ((af 2) d δ) aU) ds δ) (λδ=>dz (bu 1 δ) δ))
def zA7:Qw D->Qq (D×Bool):=bW 3 1 eK
abbrev kr:Qw Ih:=["_law_found"]
abbrev fG (δ:DEnv):Qq Out:=au (ifO (orO (be (tyB (dE "tuple" (rY 0 δ)))) (orO (neO (cS (rY 0 δ)) (U (.int 2))) (be (tyB (dE "str" (ixO (rY 0 δ) (U (.int 0)))))))) (cG (U (.bl Y)) δ) (nextO δ)) (λδ=>au (ifO (eqO (ixO (rY 0 δ) (U (.int 0))) (U (.str "name"))) (cG (dE "str" (ixO (rY 0 δ) (U (.int 1)))) δ) (nextO δ)) (λδ=>cG (A4 (ofB (eqO (ixO (rY 0 δ) (U (.int 0))) (U (.str "blank")))) (A4 (shO (ae (aa (ixO (rY 0 δ) (U (.int 1))) (U [])) zC5)) (ofB (cI gGe (ixO (rY 0 δ) (U (.int 1))) (U (.int 0)))))) δ))
def zC2:Qw D->Qq (D×Bool):=bW 1 1 fG
abbrev oY:Qw Ih:=["_law_rows","_law_moves","_law_told","_law_table","_law_cells","_law_more","_law_cell","_law_there","_law_number","_law_other"]
abbrev cL (δ:DEnv):Qq Out:=ifO (eqO (rY 6 δ) (dh (aa (U (.str "blank")) (aa (rY 8 δ) (U []))))) (bj 7 (rY 9 δ) δ) (nextO δ)
abbrev fA (δ:DEnv):Qq Out:=au (bj 7 (rY 6 δ) δ) (λδ=>au (ae (dj (rY 1 δ)) λds=>aq (λd δ=>ae ((bh (am (af 8) (am (af 9) (toNil)))) d δ) cL) ds δ) (λδ=>ui 5 (rY 7 δ) δ))
abbrev kL (δ:DEnv):Qq Out:=ui 2 (dh (aa (rY 3 δ) (aa (hY (rY 5 δ)) (U [])))) δ
abbrev fy (δ:DEnv):Qq Out:=au (gN 5 (dC (U [])) δ) (λδ=>au (ae (yp (rY 4 δ)) λds=>aq (λd δ=>ae ((af 6) d δ) fA) ds δ) (λδ=>kL (pN 5 δ)))
abbrev kj (δ:DEnv):Qq Out:=dz (frO (ae (aa (rY 2 δ) (U [])) zA7)) δ
abbrev iE (δ:DEnv):Qq Out:=au (gN 2 (dC (U [])) δ) (λδ=>au (ae (dj (rY 0 δ)) λds=>aq (λd δ=>ae ((bh (am (af 3) (am (af 4) (toNil)))) d δ) fy) ds δ) (λδ=>kj (pN 2 δ)))
def zA4:Qw D->Qq (D×Bool):=bW 10 2 iE
abbrev lW:Qw Ih:=["_law_rows","_law_told","_law_table","_law_cells","_law_cell"]
abbrev dN (δ:DEnv):Qq Out:=ifO (vN (eqO (ixO (rY 4 δ) (U (.int 0))) (U (.str "blank"))) (o4 (ixO (rY 4 δ) (U (.int 1))) (rd V 1 δ))) (ui 1 (ixO (rY 4 δ) (U (.int 1))) δ) (nextO δ)
abbrev dG (δ:DEnv):Qq Out:=ae (yp (rY 3 δ)) λds=>aq (λd δ=>ae ((af 4) d δ) dN) ds δ
abbrev jz (δ:DEnv):Qq Out:=dz (dF .it (rY 1 δ)) δ
abbrev fT (δ:DEnv):Qq Out:=au (gN 1 (dC (U [])) δ) (λδ=>au (ae (dj (rY 0 δ)) λds=>aq (λd δ=>ae ((bh (am (af 2) (am (af 3) (toNil)))) d δ) dG) ds δ) (λδ=>jz (pN 1 δ)))
def zA6:Qw D->Qq (D×Bool):=bW 5 1 fT
abbrev jy:Qw Ih:=["_law_found","_law_numbers_here","_law_one","_law_number"]
abbrev bG (δ:DEnv):Qq Out:=au (ifO (orO (be (tyB (dE "tuple" (rY 2 δ)))) (orO (neO (cS (rY 2 δ)) (U (.int 2))) (orO (be (tyB (shO (ae (aa (ixO (rY 2 δ) (U (.int 0))) (U [])) zC5)))) (neO (ixO (rY 2 δ) (U (.int 0))) (rY 3 δ))))) (cG (U (.bl Y)) δ) (nextO δ)) (λδ=>ifO (be (tyB (shO (ae (aa (ixO (rY 2 δ) (U (.int 1))) (U [])) zC2)))) (cG (U (.bl Y)) δ) (nextO δ))
abbrev dT (δ:DEnv):Qq Out:=au (ifO (orO (be (tyB (dE "list" (rY 0 δ)))) (neO (cS (rY 0 δ)) (cS (rY 1 δ)))) (cG (U (.bl Y)) δ) (nextO δ)) (λδ=>au (ae (DH Y Y (rY 0 δ) (rY 1 δ)) λds=>aq (λd δ=>ae ((bh (am (af 2) (am (af 3) (toNil)))) d δ) bG) ds δ) (λδ=>cG (U (.bl V)) δ))
def zB2:Qw D->Qq (D×Bool):=bW 4 2 dT
abbrev qG:Qw Ih:=["_law_one","_law_other","_law_told","_law_cells","_law_cell","_law_number"]
abbrev lT (δ:DEnv):Qq D:=rY 4 δ
abbrev dt (δ:DEnv):Qq Out:=ifO (orO (neO (ixO (rY 4 δ) (U (.int 0))) (U (.str "blank"))) (cI gGt (FN (rY 3 δ) (rY 4 δ)) (U (.int 1)))) (cG (U (.bl Y)) δ) (nextO δ)
abbrev mC (δ:DEnv):Qq Out:=au (ae (dj (rY 3 δ)) λds=>aq (λd δ=>ae ((af 4) d δ) dt) ds δ) (λδ=>cG (ofB (eqO (frO (ae (aa (rY 0 δ) (aa (ixO (rY 2 δ) (U (.int 1))) (U []))) zA4)) (rY 1 δ))) δ)
abbrev ja (δ:DEnv):Qq Out:=au (ifO (orO (be (tyB (dE "tuple" (rY 2 δ)))) (orO (neO (cS (rY 2 δ)) (U (.int 2))) (orO (be (tyB (dE "str" (ixO (rY 2 δ) (U (.int 0)))))) (neO (ixO (rY 2 δ) (U (.int 0))) (U (.str "same")))))) (cG (U (.bl Y)) δ) (nextO δ)) (λδ=>au (ifO (be (tyB (shO (ae (aa (ixO (rY 2 δ) (U (.int 1))) (aa (frO (ae (aa (rY 0 δ) (U [])) zA6)) (U []))) zB2)))) (cG (U (.bl Y)) δ) (nextO δ)) (λδ=>au (gN 3 (ar (ae (dj (ixO (rY 2 δ) (U (.int 1)))) (bA Y [Y,Y,Y,Y,Y,Y] (bh (am (af 5) (am (af 4) (toNil)))) (λδ=>U V) lT δ))) δ) (λδ=>mC (pN 3 δ))))
def zB6:Qw D->Qq (D×Bool):=bW 6 3 ja
abbrev mf:Qw Ih:=["_law_numbers_here","_law_told","_law_k","_law_rest"]
abbrev bY (Fr:Qw D->Qq (D×Bool)) (δ:DEnv):Qq Out:=ui 1 (gO (dC (aa (ixO (rY 0 δ) (rY 2 δ)) (U []))) (rY 3 δ)) δ
abbrev bZ (Fr:Qw D->Qq (D×Bool)) (δ:DEnv):Qq Out:=ae (dj (frO (ae (aa (gO (bq (rY 0 δ) (U B) (aX (rY 2 δ))) (bq (rY 0 δ) (aX (dY (rY 2 δ) (U (.int 1)))) (U B))) (U [])) Fr))) λds=>aq (λd δ=>ae ((af 3) d δ) (bY Fr)) ds δ
abbrev gK (Fr:Qw D->Qq (D×Bool)) (δ:DEnv):Qq Out:=au (ifO (eqO (cS (rY 0 δ)) (U (.int 0))) (dz (dC (aa (dC (U [])) (U []))) δ) (nextO δ)) (λδ=>au (gN 1 (dC (U [])) δ) (λδ=>au (ae (nG (cS (rY 0 δ))) λds=>aq (λd δ=>ae ((af 2) d δ) (bZ Fr)) ds δ) (λδ=>dz (bu 1 δ) δ)))
def aO:Nat->Qw D->Qq (D×Bool)
 |0=>λ_=>B
 |n+1=>bW 4 1 (gK (aO n))
abbrev kK:Qw Ih:=["_law_one","_law_other","_law_numbers_here","_law_there","_law_order","_law_number","_law_k"]
abbrev bR (δ:DEnv):Qq D:=dh (aa (rY 5 δ) (aa (dh (aa (U (.str "blank")) (aa (rY 6 δ) (U [])))) (U [])))
abbrev aT (δ:DEnv):Qq Out:=ifO (eqO (frO (ae (aa (rY 0 δ) (aa (ar (ae (DH Y Y (rY 2 δ) (rY 4 δ)) (bA Y [Y,Y,Y,Y,Y,Y,Y] (bh (am (af 5) (am (af 6) (toNil)))) (λδ=>U V) bR δ))) (U []))) zA4)) (rY 1 δ)) (cG (U (.bl V)) δ) (nextO δ)
abbrev fF (δ:DEnv):Qq Out:=au (bj 2 (frO (ae (aa (rY 0 δ) (U [])) zA6)) δ) (λδ=>au (bj 3 (frO (ae (aa (rY 1 δ) (U [])) zA6)) δ) (λδ=>au (ifO (neO (cS (rY 2 δ)) (cS (rY 3 δ))) (cG (U (.bl Y)) δ) (nextO δ)) (λδ=>au (ae (dj (frO (ae (aa (rY 3 δ) (U [])) (aO 8)))) λds=>aq (λd δ=>ae ((af 4) d δ) aT) ds δ) (λδ=>cG (U (.bl Y)) δ))))
def zC3:Qw D->Qq (D×Bool):=bW 7 2 fF
abbrev pJ:Qw Ih:=["_law_one","_law_other","_law_handed","_law_told"]
abbrev iD (δ:DEnv):Qq Out:=au (bj 2 (dC (aa (tz (rY 0 δ)) (aa (tz (rY 1 δ)) (U [])))) δ) (λδ=>au (bj 3 (shO (ae (aa (ixO (rY 2 δ) (U (.int 0))) (aa (ixO (rY 2 δ) (U (.int 1))) (U []))) zC0)) δ) (λδ=>au (ifO (neO (rY 2 δ) (dC (aa (rY 0 δ) (aa (rY 1 δ) (U []))))) (cG (U (.bl Y)) δ) (nextO δ)) (λδ=>au (ifO (vN (tyB (dE "tuple" (rY 3 δ))) (vN (eqO (cS (rY 3 δ)) (U (.int 1))) (vN (tyB (dE "str" (ixO (rY 3 δ) (U (.int 0))))) (eqO (ixO (rY 3 δ) (U (.int 0))) (U (.str "apart")))))) (cG (ofB (be (tyB (shO (ae (aa (rY 0 δ) (aa (rY 1 δ) (U []))) zC3))))) δ) (nextO δ)) (λδ=>cG (shO (ae (aa (rY 0 δ) (aa (rY 1 δ) (aa (rY 3 δ) (U [])))) zB6)) δ))))
def zB4:Qw D->Qq (D×Bool):=bW 4 2 iD
abbrev qr:Qw Ih:=["_law_one","_law_cell","_law_row_here","_law_names","_law_numbers_here","_law_way","_law_at"]
abbrev jH (δ:DEnv):Qq Out:=au (bj 5 (c9 (rY 1 δ) (U (.int 4))) δ) (λδ=>au (ifO (orO (eqO (cS (rY 0 δ)) (U (.int 0))) (eqO (rY 5 δ) (U (.int 0)))) (dz (frO (ae (aa (gO (rY 0 δ) (dC (aa (rY 2 δ) (U [])))) (U [])) zA7)) δ) (nextO δ)) (λδ=>au (bj 6 (c9 (iS (rY 1 δ) (U (.int 4))) (cS (rY 0 δ))) δ) (λδ=>au (ifO (eqO (rY 5 δ) (U (.int 1))) (dz (gO (bq (rY 0 δ) (U B) (aX (rY 6 δ))) (bq (rY 0 δ) (aX (dY (rY 6 δ) (U (.int 1)))) (U B))) δ) (nextO δ)) (λδ=>au (ifO (eqO (rY 5 δ) (U (.int 2))) (dz (frO (ae (aa (gO (gO (bq (rY 0 δ) (U B) (aX (rY 6 δ))) (bq (rY 0 δ) (aX (dY (rY 6 δ) (U (.int 1)))) (U B))) (dC (aa (rY 2 δ) (U [])))) (U [])) zA7)) δ) (nextO δ)) (λδ=>dz (frO (ae (aa (rY 0 δ) (aa (dC (aa (dh (aa (ixO (rY 4 δ) (c9 (iS (rY 1 δ) (U (.int 4))) (U (.int 3)))) (aa (shO (ae (aa (shO (ae (aa (rY 1 δ) (aa (U (.int 60)) (U []))) zA1)) (aa (rY 3 δ) (aa (rY 4 δ) (U [])))) zA8)) (U [])))) (U []))) (U []))) zA4)) δ)))))
def zD3:Qw D->Qq (D×Bool):=bW 7 5 jH
abbrev Gd:Qw Ih:=["_law_script","_law_cells","_law_tables_here","_law_names","_law_numbers_here","_law_others","_law_at","_law_cell","_law_end","_law_one","_law_turn","_law_there","_law_other","_law_row_here","_law_bent_here","_law_k"]
abbrev qU (δ:DEnv):Qq D:=dY (c9 (shO (ae (aa (ixO (rY 1 δ) (U (.int 0))) (aa (U (.int 70)) (U []))) zA1)) (U (.int 999000))) (uS (U (.int 300)) (rY 15 δ))
abbrev qx (δ:DEnv):Qq Bool:=cI gLt (rY 6 δ) (cS (rY 1 δ))
abbrev p0 (δ:DEnv):Qq D:=shO (ae (aa (rY 15 δ) (aa (rY 2 δ) (aa (rY 3 δ) (aa (rY 4 δ) (U []))))) zC9)
abbrev pT (δ:DEnv):Qq D:=dh (aa (ixO (rY 4 δ) (rY 15 δ)) (aa (dh (aa (U (.str "blank")) (aa (ixO (rY 11 δ) (rY 15 δ)) (U [])))) (U [])))
abbrev pW (δ:DEnv):Qq Out:=au (bj 7 (ixO (rY 1 δ) (rY 6 δ)) δ) (λδ=>au (bj 8 (dY (dY (rY 6 δ) (U (.int 1))) (c9 (rY 7 δ) (U (.int 8)))) δ) (λδ=>au (bj 9 (frO (ae (aa (ar (ae (dj (bq (rY 1 δ) (aX (dY (rY 6 δ) (U (.int 1)))) (aX (rY 8 δ)))) (bA Y [Y,Y,V,V,V,Y,Y,Y,Y,Y,Y,Y,Y,Y,Y,Y] (af 15) (λδ=>U V) p0 δ))) (U [])) zA7)) δ) (λδ=>au (bj 10 (c9 (iS (rY 7 δ) (U (.int 8))) (U (.int 3))) δ) (λδ=>au (bj 11 (gO (bq (rY 5 δ) (aX (rY 10 δ)) (U B)) (bq (rY 5 δ) (U B) (aX (rY 10 δ)))) δ) (λδ=>au (ifO (eqO (c9 (iS (rY 7 δ) (U (.int 24))) (U (.int 2))) (U (.int 1))) (bj 11 (gO (bq (rY 4 δ) (aX (rY 10 δ)) (U B)) (bq (rY 4 δ) (U B) (aX (rY 10 δ)))) δ) (nextO δ)) (λδ=>au (bj 12 (frO (ae (aa (rY 9 δ) (aa (ar (ae (nG (U (.int 3))) (bA Y [Y,Y,Y,Y,V,Y,Y,Y,Y,Y,Y,V,Y,Y,Y,Y] (af 15) (λδ=>U V) pT δ))) (U []))) zA4)) δ) (λδ=>au (ifO (orO (be (tyB (shO (ae (aa (rY 9 δ) (aa (rY 12 δ) (U []))) zB4)))) (be (tyB (shO (ae (aa (rY 9 δ) (aa (rY 12 δ) (aa (shO (ae (aa (rY 9 δ) (aa (rY 12 δ) (U []))) zC0)) (U [])))) zB6))))) (cG (U (.bl Y)) δ) (nextO δ)) (λδ=>au (bj 13 (shO (ae (aa (iS (rY 7 δ) (U (.int 3))) (aa (rY 2 δ) (aa (rY 3 δ) (aa (rY 4 δ) (U []))))) zC9)) δ) (λδ=>au (bj 14 (frO (ae (aa (rY 12 δ) (aa (iS (rY 7 δ) (U (.int 48))) (aa (rY 13 δ) (aa (rY 3 δ) (aa (rY 4 δ) (U [])))))) zD3)) δ) (λδ=>au (ifO (orO (be (tyB (shO (ae (aa (rY 9 δ) (aa (rY 14 δ) (U []))) zB4)))) (be (tyB (shO (ae (aa (rY 14 δ) (aa (rY 9 δ) (U []))) zB4))))) (cG (U (.bl Y)) δ) (nextO δ)) (λδ=>bj 6 (rY 8 δ) δ)))))))))))
abbrev CK (δ:DEnv):Qq Out:=au (bj 6 (U (.int 1)) δ) (λδ=>au (aK qx pW 1000 δ) (λδ=>cG (U (.bl V)) δ))
abbrev E2 (δ:DEnv):Qq Out:=au (bj 1 (gO (bq (rY 0 δ) (U B) (aX (U (.int 41)))) (dC (aa (U (.int 0)) (aa (U (.int 0)) (U []))))) δ) (λδ=>au (bj 2 (frO (ae (aa (ixO (rY 1 δ) (U (.int 0))) (aa (U (.int 3)) (U []))) zC8)) δ) (λδ=>au (bj 3 (frO (ae (aa (iS (ixO (rY 1 δ) (U (.int 0))) (U (.int 7))) (aa (U (.int 4)) (U []))) zB5)) δ) (λδ=>au (bj 4 (frO (ae (aa (iS (ixO (rY 1 δ) (U (.int 0))) (U (.int 5))) (aa (U (.int 3)) (U []))) zC1)) δ) (λδ=>au (gN 5 (ar (ae (nG (U (.int 3))) (bA Y [Y,V,Y,Y,Y,Y,Y,Y,Y,Y,Y,Y,Y,Y,Y,Y] (af 15) (λδ=>U V) qU δ))) δ) (λδ=>CK (pN 5 δ))))))
def f_law:Qw D->Qq (D×Bool):=bW 16 1 E2
section
variable(T:Txb blK) (zA2:∃C,Cls "Painted" C bO)
include T zA2
theorem p8 (D:Df "blanks_of" jU):FnM 1 "blanks_of" zA3:=
 mk 1 qW jP D
theorem kC (D:Df "cluster_from" fJ):FnW 1 "cluster_from" zB0:=
 mkW 4 kq bM D
theorem uC (D:Df "clusters" kZ) (_:FnW 1 "cluster_from" zB0):FnM 2 "clusters" zD5:=
 mk 1 t9 lL D
theorem jk (D:Df "rows_of_names" eI) (_:FnM 1 "blanks_of" zA3):FnM 2 "rows_of_names" zA9:=
 mk 1 jt eE D
theorem qA (D:Df "counts_of" jf):FnM 1 "counts_of" zB8:=
 mk 1 qw i7 D
theorem iF (D:Df "pairs_of_alone" du) (_:FnM 1 "counts_of" zB8):FnM 2 "pairs_of_alone" zB9:=
 mk 2 iO dv D
omit T zA2 in
theorem jb (D:DfI "Painted" "Painted.__init__" bO cm):Ini "Painted" bO 1 zA5:=
 let zA2:=D.cls
 mkI 3 jJ eC D
theorem xK (D:Df "part_of" pn) (_:Ini "Painted" bO 1 zA5) (_:FnM 1 "blanks_of" zA3):FnM 3 "part_of" zD9:=
 mk 2 xb oX D
theorem mS (D:Df "loose_parts" fU) (_:FnM 1 "blanks_of" zA3) (_:FnM 2 "clusters" zD5) (_:FnM 1 "counts_of" zB8) (_:FnM 3 "part_of" zD9):FnM 4 "loose_parts" zB7:=
 mk 1 lX gh D
theorem Di (D:Df "shade" v9):FnM 1 "shade" zF6:=
 mk 3 Dj xR D
theorem tM (D:Df "looks_of" lC) (_:FnM 1 "blanks_of" zA3) (_:FnM 1 "shade" zF6):FnM 2 "looks_of" zD0:=
 mk 1 uf kM D
theorem nD (D:Df "told_apart" iv) (_:FnM 2 "looks_of" zD0):FnW 3 "told_apart" zB3:=
 mkW 2 oZ cy D
theorem zM (D:Df "rarity" sU):FnM 1 "rarity" zE6:=
 mk 1 zG sr D
theorem j5 {c_ P_:HZ}(D:DfC "blank_to_mark" dS c_) (hLP:((P_,("blank_to_mark.<locals>.<lambda>":Ih)):HZ×Ih)∈tb) (hTu:∀q∈tb,q.1=P_->q=(P_,("blank_to_mark.<locals>.<lambda>":Ih))) (hLC:N8 base c_ P_) (_:FnM 1 "counts_of" zB8) (_:FnM 1 "rarity" zE6):FnM 6 "blank_to_mark" zC6:=
 mkC (lq:="blank_to_mark.<locals>.<lambda>") 1 jp eG D (λ_ _ _=>rfl) (by walk_at "sc") (by walk_at "bi") λX h f r hq hc=>by
  (conv in defBody _=>whnf)
  refine' @sj _ _ _ _ _ _ ?a ?b
  case a=>walk_at "z"
  case b=>
   refine' @vH _ _ _ _ ?_
   with_reducible refine' @Be ..
   refine' vR (c:=c_) (P:=P_) (lq:="blank_to_mark.<locals>.<lambda>") (x:="number") (k:=1) (i:=2) r ?g hLP hTu hq hLC hc rfl ?S rfl rfl (by rw[h.n];rfl) h.nd ?l (λ_ _ _ _ _ _=>.of_eq rfl) ?b ?a
   case g=>walk_at "z"
   case S=>walk_at "z"
   case l=>decide +kernel
   case a=>walk_at "z"
   case b=>
    refine Ae h.n h.nd λX' h' r'=>?_
    clear hq hc h r
    walk_at "z"
theorem yr (D:Df "marked" rm) (_:Ini "Painted" bO 1 zA5):FnM 3 "marked" zD6:=
 mk 2 yx rN D
theorem sS (D:Df "paired" sg) (D2:Df "part_paired" f9) (_:FnM 6 "blank_to_mark" zC6) (_:FnM 3 "marked" zD6) (_:FnM 4 "loose_parts" zB7) (_:FnM 2 "pairs_of_alone" zB9) (_:FnW 3 "told_apart" zB3):∀n,FnW (2*n+10) "paired" (aD n)
 |0=>FnW.none D _
 |n+1=>by
  let ih:=sS D D2 (by assumption) (by assumption) (by assumption) (by assumption) (by assumption) n
  let P:FnM (2*n+10+1) "part_paired" (bW 5 2 (aE (aD n))):=mk 2 mJ (aE (aD n)) D2;exact mkW (k:=2*n+11) 2 Ab (gI (bW 5 2 (aE (aD n)))) D
theorem jm (D:Df "plain_colours" dO) (_:FnM 1 "blanks_of" zA3):FnM 2 "plain_colours" zB1:=
 mk 1 jX eN D
theorem xl (D:Df "renamed" nz) (_:Ini "Painted" bO 1 zA5) (_:FnW 34 "paired" (aD 12)) (_:FnM 2 "plain_colours" zB1) (_:FnM 2 "rows_of_names" zA9):FnM 35 "renamed" zC0:=
 mk 2 xT nM D
theorem ph (D:Df "_law_whole" iC):FnM 1 "_law_whole" zC5:=
 mk 1 n6 ii D
theorem oF (D:Df "_law_mixed" iA):FnM 1 "_law_mixed" zA1:=
 mk 2 nA d6 D
theorem pq (D:Df "_law_words" iB) (_:FnM 1 "_law_mixed" zA1):FnM 2 "_law_words" zB5:=
 mk 2 n8 eB D
theorem kz (D:Df "_law_numbers" fK) (_:FnM 1 "_law_mixed" zA1):FnM 2 "_law_numbers" zC1:=
 mk 2 kG cN D
theorem om (D:Df "_law_drawn" iz):FnM 1 "_law_drawn" zA8:=
 mk 3 pD eF D
theorem uk (D:Df "_law_row" kT) (_:FnM 1 "_law_drawn" zA8) (_:FnM 1 "_law_mixed" zA1):FnM 2 "_law_row" zC9:=
 mk 4 tN lu D
theorem mZ (D:Df "_law_tables" gF) (_:FnM 1 "_law_mixed" zA1) (_:FnM 2 "_law_words" zB5):FnM 3 "_law_tables" zC8:=
 mk 2 mO gJ D
theorem ny (D:Df "_law_stand" il):FnM 1 "_law_stand" zA7:=
 mk 1 pL eK D
theorem kH (D:Df "_law_is_cell" fj) (_:FnM 1 "_law_whole" zC5):FnM 2 "_law_is_cell" zC2:=
 mk 1 kr fG D
theorem pE (D:Df "_law_moved" iw) (_:FnM 1 "_law_stand" zA7):FnM 2 "_law_moved" zA4:=
 mk 2 oY iE D
theorem mE (D:Df "_law_blanks" gC):FnM 1 "_law_blanks" zA6:=
 mk 1 lW fT D
theorem jh (D:Df "_law_is_moves" dP) (_:FnM 2 "_law_is_cell" zC2) (_:FnM 1 "_law_whole" zC5):FnM 3 "_law_is_moves" zB2:=
 mk 2 jy dT D
theorem qE (D:Df "_law_same" jS) (_:FnM 1 "_law_blanks" zA6) (_:FnM 3 "_law_is_moves" zB2) (_:FnM 2 "_law_moved" zA4):FnM 4 "_law_same" zB6:=
 mk 3 qG ja D
theorem gA (D:Df "_law_orders" gv):∀n,FnM (n+1) "_law_orders" (aO n)
 |0=>FnM.none D _
 |n+1=>by
  let ih:=gA D n;exact mk (k:=n+1) 1 mf (gK (aO n)) D
theorem km (D:Df "_law_any_way" fL) (_:FnM 1 "_law_blanks" zA6) (_:FnM 2 "_law_moved" zA4) (_:FnM 9 "_law_orders" (aO 8)):FnM 10 "_law_any_way" zC3:=
 mk 2 kK fF D
theorem oS (D:Df "_law_right" ic) (_:FnM 10 "_law_any_way" zC3) (_:FnM 4 "_law_same" zB6) (_:FnM 35 "renamed" zC0):FnM 36 "_law_right" zB4:=
 mk 2 pJ iD D
theorem qi (D:Df "_law_bent" jW) (_:FnM 1 "_law_drawn" zA8) (_:FnM 1 "_law_mixed" zA1) (_:FnM 2 "_law_moved" zA4) (_:FnM 1 "_law_stand" zA7):FnM 3 "_law_bent" zD3:=
 mk 5 qr jH D
theorem Gp (D:Df "law" s_law) (_:FnM 3 "_law_bent" zD3) (_:FnM 1 "_law_mixed" zA1) (_:FnM 2 "_law_moved" zA4) (_:FnM 2 "_law_numbers" zC1) (_:FnM 36 "_law_right" zB4) (_:FnM 2 "_law_row" zC9) (_:FnM 4 "_law_same" zB6) (_:FnM 1 "_law_stand" zA7) (_:FnM 3 "_law_tables" zC8) (_:FnM 2 "_law_words" zB5) (_:FnM 35 "renamed" zC0):FnM 37 "law" f_law:=
 mk 1 Gd E2 D
end
end K22
namespace K22
open PySem L2 JP
variable[Md]
def tL (c:Ce):okD 16 (ceD c)=V:=by cases c<;>rfl
def Fq (a b:Ce):eqO (U (ceD a)) (U (ceD b))=U (decide (a=b)):=by
 rw[uV _ _ (by unfold ok2;rw[tL,tL];rfl)]
 congr 1;exact decide_eq_decide.mpr ⟨mh,λh=>by rw[h]⟩
theorem mQ {α:Type}{f:α->D}(hf:∀a b,f a=f b->a=b):∀{l m:Qw α},l.map f=m.map f->l=m
 |[],[],_=>rfl
 |[],_::_,h=>by simp at h
 |_::_,[],h=>by simp at h
 |a::l,b::m,h=>by
  simp![HP,KH]at h;rw[hf _ _ h.1,mQ hf h.2]
theorem rA {α:Type}{f:α->D}{h:α->D}{p:α->Bool}{F:D->Qq (Qq D)}:∀{xs:Qw α},(∀x∈xs,F (f x)=U (if p x=V then U (h x) else B))->bD F (xs.map f)=U ((xs.filter p).map h)
 |[],_=>rfl
 |x::xs,H=>by
  rw[HP];unfold bD;rw[H x (Ik ..),rA λy hy=>H y (Ic _ hy),qaC]
  cases p x<;>rfl
def yb {α:Type}{f:α->D}{h:α->D}{F:D->Qq (Qq D)}{xs:Qw α}(H:∀x∈xs,F (f x)=U (U (h x))):bD F (xs.map f)=U (xs.map h):=by
 have:=rA (f:=f) (h:=h) (p:=λ_=>V) (F:=F) (xs:=xs) λx hx=>by rw[H x hx];rfl
 rwa[List.filter_eq_self.mpr λ_ _=>rfl]at this
theorem fR {lt:D->D->Qq Bool}:∀{xs ys:Qw D},(∀x∈xs,∀y∈ys,(lt x y).isSome=V)->(dw lt xs ys).isSome=V
 |[],[],_=>rfl
 |[],_::_,_=>rfl
 |_::_,[],_=>rfl
 |x::xs,y::ys,h=>by
  unfold dw;split
  ·exact fR λa ha b hb=>h a (Ic _ ha) b (Ic _ hb)
  ·exact h x (Ik ..) y (Ik ..)
def bn:¬(IU "blank")=(IU "name"):=by decide +kernel
def nb:¬(IU "name")=(IU "blank"):=by decide +kernel
def G7 (n:Nat) (c e:Ce):(ltD (n+1) (ceD c) (ceD e)).isSome=V:=by
 cases c<;>cases e<;>simp[ceD,ltD,dw,bn,nb]<;>split<;>rfl
theorem eS {α:Type}{f:α->D}:∀{l:Qw D}{fs:Qw α},l.Perm (fs.map f)->∃gs:Qw α,gs.Perm fs/\l=gs.map f
 |[],fs,h=>⟨[],by rw[List.map_eq_nil_iff.mp h.symm.eq_nil],rfl⟩
 |d::l,fs,h=>by
  let⟨a,ha,rfl⟩:=mt.mp (h.mem_iff.mp (.head _));let⟨s,t,rfl⟩:=qaG ha;let⟨gs,p,rfl⟩:=eS (l:=l) (fs:=s++t) (by rw[Ip]at h⊢;exact(h.trans qap).cons_inv)
  exact⟨a::gs,(p.cons a).trans qap.symm,rfl⟩
def nt (r:Row) (n:Nat):okD (n+3) (rowD r)=V:=by
 simp![rowD,okD,Iw,Mh,KY,KW,KO,Iz];intro c _;cases c<;>simp[ceD,okD]
def wg (rs:Qw Row):okD 16 (.lst (rs.map rowD))=V:=by
 simp![okD,KO,Iz];intro r _;exact nt r 12
def EL (n:Nat) (r q:Row):(ltD (n+3) (rowD r) (rowD q)).isSome=V:=by
 show(dw (ltD (n+2)) [.str r.1,.tup (r.2.map ceD)] [.str q.1,.tup (q.2.map ceD)]).isSome=V;unfold dw;split
 ·unfold dw
  split
  ·rfl
  ·refine fR λx hx y hy=>?_
   let⟨c,_,rfl⟩:=mt.mp hx;let⟨e,_,rfl⟩:=mt.mp hy;exact G7 n c e
 ·rfl
def iY (rs:Qw Row):eZ (rs.map rowD)=V:=by
 unfold eZ
 simp_all [Iz,HW,nt,EL]
def BO (rs:Qw Row):(rs.map rowD).all (iT .ts)=V:=by
 rw[Iz];intro x hx;let⟨r,_,rfl⟩:=mt.mp hx;rfl
def eP {r q:Row}(h:rowD r=rowD q):r=q:=by
 let⟨a,c⟩:=r;simp![rowD,D.tup.injEq,KH,D.str.injEq,and_true]at h;rw[h.1,mQ (f:=ceD) (λ_ _=>mh) h.2]
def ro (r:Row):cT 8 (rowD r)=V:=by
 simp![rowD,cT,Iw,Mh,KY,KW,KO,Iz];intro c _;cases c<;>simp[ceD,cT]
structure Cn (fs:Qw Row):Prop where
 nd:fs.Nodup
 so:(fs.map rowD).Pairwise leD
def Cn.eq {fs gs:Qw Row}(h:Cn fs) (g:Cn gs) (hm:∀r,r∈fs↔r∈gs):fs=gs:=
 (qaH λ_ _=>eP).mp (cY (iY fs) _ _ (λ_ h=>h) (((K7 h.nd g.nd).mpr hm).map rowD) h.so g.so)
abbrev Mv:=Qw (Int×Ce)
def mvD (q:Int×Ce):D:=.tup [.int q.1,ceD q.2]
def led (mv:Mv) (c:Ce):Ce:=match mv.find? (λq=>decide (c=.bk q.1))with|some q=>q.2|none=>c
def bls:Qw Ce->Qw Int
 |[]=>[]
 |.bk n::cs=>n::bls cs
 |.nm _::cs=>bls cs
theorem lY:∀cs:Qw Ce,(bls cs).length<=cs.length
 |[]=>HQ _
 |.bk n::cs=>Nat.succ_le_succ (lY cs)
 |.nm _::cs=>Nat.le_succ_of_le (lY cs)
variable{rs:Qw Row}
variable{rs:Qw Row}
theorem vr:∀cs:Qw Ce,bD (cw (af 4) (λδ=>eqO (ixO (rd Y 4 δ) (U (.int 0))) (U (.str "blank"))) gz [B,B,B,B,B]) (cs.map ceD)=U ((bls cs).map D.int)
 |[]=>rfl
 |c::cs=>by
  rw[HP];unfold bD;rw[vr cs];cases c<;>rfl
theorem jQ {n:Int}:∀{cs:Qw Ce},n∈bls cs↔Ce.bk n∈cs
 |[]=>by simp[bls]
 |.bk m::cs=>by simp[bls,jQ (cs:=cs)]
 |.nm w::cs=>by simp[bls,jQ (cs:=cs)]
def mx (c k:Int):Int:=((c%2147483647+40503*k*k+17*k)*48271%2147483647)*((c%2147483647+40503*k*k+17*k)*48271%2147483647%65537+3*k+1)%2147483629
def GI (c k:Int):0<=mx c k:=by exact Kv _ (by decide)
def iW (c k:Int) (h0:0<=k) (h1:k<=1000):zA1 [.int c,.int k]=U (.int (mx c k),Y):=by
 rw[jn (f:=zA1) (δ:=[U (.int c,Y),U (.int k,Y),B]) rfl rfl rfl];simp![d6,xV,IT,Jb,kA,kI]
 rw[modI_s _ _ (by decide),mulI_s 40503 k (by lia),mulI_s (40503*k) k (by lia),addI_s,mulI_s 17 k (by lia),addI_s,mulI_s _ 48271 (by lia),modI_s _ _ (by decide),setO_s _ _ _ (by simp)]
 simp![seqO_n,JK,JJ,xV,IT,Jb,kA,kI]
 rw[modI_s _ _ (by decide),mulI_s 3 k (by lia),addI_s,addI_s,mulI_s _ _ (.inl (by lia)),modI_s _ _ (by decide)]
 rfl
def Fg:∀n:Nat,n<26->Ez (U (.str "abcdefghijklmnopqrstuvwxyz")) (U (.int n))=U (.str ⟨#[97+n]⟩):=by decide +kernel
theorem CO (a b:Ih):(a++b).cps.toList=a.cps.toList++b.cps.toList:=IV
def BR {a b:Ih}{x y:Nat}(h:a++⟨#[x]⟩++b=a++⟨#[y]⟩++b):x=y:=by
 have:=congrArg (λs:Ih=>s.cps.toList) h
 grind [CO,Jg,List.append_cancel_left]
def zi (c m:Int) (hm0:1<=m) (hm:m<=20):∃ws:Qw Ih,ws.length=m.toNat/\ws.Nodup/\(∀w∈ws,w.length<=20)/\zB5 [.int c,.int m]=U (.lst (ws.map .str),V):=by
 generalize hsz:1+c%8=sz;let at_abc:∀i:Int,0<=i->i<26->Ez (U (.str "abcdefghijklmnopqrstuvwxyz")) (U (.int i))=U (.str ⟨#[97+i.toNat]⟩):=λi h0 h1=>by
  have:=Fg i.toNat (by lia)
  rwa[Int.toNat_of_nonneg h0]at this
 let⟨g,eg,gl,gp⟩:=rM (ds:=jK 0 sz.toNat) (P:=λ_ y=>∃x:Ih,x.length=1/\y=.str x)
  (h:=cw (af 6) (λδ=>U V) cJ [U (.int c,Y),B,U (.str "abcdefghijklmnopqrstuvwxyz",Y),B,B,B,B]) λd hd=>by
   let⟨i,hi,rfl⟩:=zC hd;let ex:=at_abc (mx c (0+(i:Int))%26) (by lia) (by lia)
   refine⟨.str ⟨#[97+(mx c (0+(i:Int))%26).toNat]⟩,?_,⟨#[97+(mx c (0+(i:Int))%26).toNat]⟩,rfl,rfl⟩
   unfold cw;rw[toName_s _ _ _ (by simp)]
   simp![bindO_s,JK,JJ,xV,IT,Jb,kA,kI,cJ,consO_s,iW c (0+(i:Int)) (by lia) (by lia),shO_s]
   rw[modI_s _ _ (by decide),ex]
 let⟨ss,rfl,hss⟩:=CX (Q:=λx=>x.length=1) gl gp λd y hz=>by let⟨x,hx,e⟩:=hz;exact⟨x,e,hx⟩
 rw[fQ,HT]at gl;let hj:=CM "" ss (by rw[rH hss,show Str.length ""=0 by rfl];lia)
 let hjl:(ON "" ss).length=ss.length:=by rw[uZ,rH hss]
 generalize ON "" ss=stem at hj hjl;generalize hat:mx c 19%(stem.length:Int)=at';let c1:=mu stem B (U at');let c2:=mu stem (U (at'+1)) B;let hlim:lim=1000000:=rfl;let ecomp:bD (cw (af 6) (λδ=>U V) cO [B,B,U (.str "abcdefghijklmnopqrstuvwxyz",Y),U (.str stem,Y),U (.int at',Y),U (.int (mx c 20),Y),B]) (jK 0 m.toNat)=U (((Iu m.toNat).map λk=>wj stem B (U at')++⟨#[97+((mx c 20+(0+(k:Int)))%26).toNat]⟩++wj stem (U (at'+1)) B).map D.str):=by
  unfold jK;rw[yb (f:=λk:Nat=>D.int (0+(k:Int))) (h:=λk=>.str (wj stem B (U at')++⟨#[97+((mx c 20+(0+(k:Int)))%26).toNat]⟩++wj stem (U (at'+1)) B)) λk _=>by
   unfold cw;rw[toName_s _ _ _ (by simp)]
   simp![bindO_s,JK,JJ,xV,IT,Jb,kA,kI,cO,partI_s,addI_s]
   rw[cutSO_s _ _ _ (by lia),cutSO_s _ _ _ (by lia),modI_s _ _ (by decide),at_abc _ (by lia) (by lia),addS_s _ _ (by show _+1<=_;lia),addS_s _ _ (by rw[LD];show _+1+_<=_;lia)]]
  rw[Ix];rfl
 refine⟨(Iu m.toNat).map λk=>wj stem B (U at')++⟨#[97+((mx c 20+(0+(k:Int)))%26).toNat]⟩++wj stem (U (at'+1)) B,by simp,?_,?_,?_⟩
 ·refine qak.mpr (List.Pairwise.imp_of_mem (R:=λa b=>a<b) (λ{a b} ha hb hab e=>?_) O8)
  have:=BR e;let hb':=qad.mp hb
  lia
 ·intro w hw
  let⟨k,_,rfl⟩:=mt.mp hw;rw[LD,LD];show _+1+_<=20
  lia
 ·rw[jn (f:=zB5) (δ:=[U (.int c,Y),U (.int m,Y),B,B,B,B,B]) rfl rfl rfl]
  let em1:∀(a d e f g:Qq (D×Bool)) (x y:D),cx Y [V,Y,V,Y,Y,Y,Y] [U (x,Y),a,U (y,Y),d,e,f,g]=[U (x,Y),B,U (y,Y),B,B,B,B]:=λ_ _ _ _ _ _ _=>rfl
  let em2:∀(a b g:Qq (D×Bool)) (x y z w:D),cx Y [Y,Y,V,V,V,V,Y] [a,b,U (x,Y),U (y,Y),U (z,Y),U (w,Y),g]=[B,B,U (x,Y),U (y,Y),U (z,Y),U (w,Y),B]:=λ_ _ _ _ _ _ _=>rfl
  simp![eB];rw[setO_s _ _ _ (by simp)]
  simp![seqO_n,JK,JJ,xV,IT,Jb,kA,kI]
  rw[modI_s _ _ (by decide),addI_s,hsz,jq sz (by lia),bindO_s,sD (by rw[fQ,lim_eq];lia),em1,eg,lstLim_s,hj,setO_s _ _ _ (by simp)]
  simp![seqO_n,JK,JJ,xV,IT,Jb,kA,kI,consO_s,bindO_s,iW c 19 (by lia) (by lia),shO_s]
  rw[lenS_s _ (by lia),modI_s _ _ (by lia),hat,setO_s _ _ _ (by simp)]
  simp![seqO_n,JK,JJ,xV,IT,Jb,kA,kI,consO_s,bindO_s,iW c 20 (by lia) (by lia),shO_s]
  rw[setO_s _ _ _ (by simp)]
  simp![seqO_n,JK,JJ,xV,IT,Jb,kA,kI]
  rw[jq m (by lia),bindO_s,sD (by rw[fQ,lim_eq];lia),em2,ecomp,lstLim_s]
  rfl
section
variable{x y:Qq D}{a b:Int}
def AU {c k:Int}(h:x=U (.int c)) (h':y=U (.int k)) (h0:0<=k) (h1:k<=1000):shO (ae (aa x (aa y (U []))) zA1)=U (.int (mx c k)):=by subst h h';simp![consO_s,bindO_s,iW c k h0 h1,shO_s]
end
abbrev tbD (t:Ih×Int):D:=.tup [.str t.1,.int t.2]
structure Dr (tb:Qw (Ih×Int)) (ns:Qw Ih) (nu:Qw Int):Prop where
 tn:tb≠[]
 ta:∀t∈tb,1<=t.2/\t.2<=3
 nl:ns.length=3
 ul:nu.length=3
 u0:∀n∈nu,0<=n
def yF {α:Type}{f:α->D}{xs:Qw α}(h:xs≠[]) (k:Int):∃x∈xs,atI (xs.map f) (k%(xs.length:Int))=U (f x):=by
 let l:=qam.mpr h;let⟨v,hv,_,e⟩:=A9 (xs:=xs.map f) (i:=k%(xs.length:Int)) (Kv _ (by lia)) (by rw[HT];exact NM _ (by lia))
 let⟨x,hx,rfl⟩:=mt.mp hv;exact⟨x,hx,e⟩
def Bt {α:Type}{f:α->D}{xs:Qw α}{i:Int}(h0:0<=i) (h1:i<xs.length):∃x∈xs,atI (xs.map f) i=U (f x):=by
 let⟨v,hv,_,e⟩:=A9 (xs:=xs.map f) h0 (by rw[HT];exact h1)
 let⟨x,hx,rfl⟩:=mt.mp hv;exact⟨x,hx,e⟩
def AE {ns:Qw Ih}(hn:ns≠[]) {nu:Qw Int}(hu:nu≠[]) (k:Int):∃e:Ce,(∀n,e=.bk n->n∈nu)/\zA8 [.int k,.lst (ns.map D.str),.lst (nu.map D.int)]=U (ceD e,Y):=by
 let l1:=qam.mpr hn;let l2:=qam.mpr hu;let⟨w,_,ew⟩:=yF (f:=D.str) hn (k / 2);let⟨n,hn0,en⟩:=yF (f:=D.int) hu (k / 2);rw[jn (f:=zA8) (δ:=[U (.int k,Y),U (.lst (ns.map D.str),Y),U (.lst (nu.map D.int),Y)]) rfl rfl rfl];unfold eF;rw[eqG (ni (rfl:rd Y 0 _=U (.int k)) rfl (by decide)) rfl]
 cases decide (k%2=1)with
 |true=>
  exact⟨.bk n,λm e=>(by simp_all),stR rfl (lO rfl (ixG rfl (ni (vS rfl rfl (by decide)) (ug rfl) (by rw[HT];lia)) (by rw[HT];exact en)))⟩
 |false=>exact⟨.nm w,λ_ e=>(nomatch e),stI rfl (rO (lO rfl (ixG rfl (ni (vS rfl rfl (by decide)) (ug rfl) (by rw[HT];lia)) (by rw[HT];exact ew))))⟩
def Cv (xs:Qw D) (x:D) (hl:xs.length<=1000):atI (xs++[x]) (-1)=U x:=by
 unfold atI ixN;rw[if_neg (by decide),if_pos (by simp;lia),IJ,Pl,show(-1+((xs.length+1:Nat):Int)).toNat=xs.length by lia]
 simp
def AX (r q:Row):neO (U (rowD r)) (U (rowD q))=U (!decide (r=q)):=by
 rw[CB _ _ (by unfold ok2;rw[nt r 13,nt q 13];rfl)]
 congr 2;exact decide_eq_decide.mpr ⟨eP,λh=>by rw[h]⟩
theorem vz (a0:Qq (D×Bool)):∀(qs fs:Qw Row) (x2:Qq (D×Bool)),fs.length+qs.length<=100->∃(fs':Qw Row) (y2:Qq (D×Bool)),(∀r,r∈fs'↔r∈fs\/r∈qs)/\fs'.length<=fs.length+qs.length/\(Cn fs->(qs.map rowD).Pairwise leD->(∀x∈fs,∀y∈qs,leD (rowD x) (rowD y))->Cn fs')/\
  aq (λd δ=>ae ((af 2) d δ) aU) (qs.map rowD) [a0,U (.lst (fs.map rowD),V),x2]=U (.next [a0,U (.lst (fs'.map rowD),V),y2])
 |[],fs,x2,_=>⟨fs,x2,λr=>by simp,by simp,λh _ _=>h,by rfl⟩
 |q::qs,fs,x2,hl=>by
  rw[H3]at hl;let go:∀fs1:Qw Row,(∀r,r∈fs1↔r∈fs\/r=q)->fs1.length<=fs.length+1->(Cn fs->(∀x∈fs,leD (rowD x) (rowD q))->Cn fs1)->ae ((af 2) (rowD q) [a0,U (.lst (fs.map rowD),V),x2]) aU=U (.next [a0,U (.lst (fs1.map rowD),V),U (rowD q,Y)])->∃(fs':Qw Row) (y2:Qq (D×Bool)),(∀r,r∈fs'↔r∈fs\/r∈q::qs)/\fs'.length<=fs.length+(q::qs).length/\(Cn fs->((q::qs).map rowD).Pairwise leD->(∀x∈fs,∀y∈q::qs,leD (rowD x) (rowD y))->Cn fs')/\
    aq (λd δ=>ae ((af 2) d δ) aU) ((q::qs).map rowD) [a0,U (.lst (fs.map rowD),V),x2]=U (.next [a0,U (.lst (fs'.map rowD),V),y2]):=λfs1 h1 h2 h3 e=>by
   let⟨fs',y2,g1,g2,g3,e2⟩:=vz a0 qs fs1 (U (rowD q,Y)) (by lia)
   refine⟨fs',y2,λr=>by rw[g1,h1,ID,or_assoc],by simp;lia,λhc hq hx=>?_,?_⟩
   ·rw[HP,qai]at hq
    refine g3 (h3 hc λx z=>hx x z q (.head _)) hq.2 λx z y hy=>?_
    rcases(h1 x).mp z with z|rfl
    ·exact hx x z y (.tail _ hy)
    ·exact hq.1 _ (H4 hy)
   rw[HP];unfold aq;rw[e];exact e2
  let ap:ui 1 (U (rowD q)) [a0,U (.lst (fs.map rowD),V),U (rowD q,Y)]=U (.next [a0,U (.lst ((fs++[q]).map rowD),V),U (rowD q,Y)]):=by
   rw[sE (ds:=fs.map rowD) _ rfl (by simp;lia)]
   simp
  let ng:E7 (U (.int 1))=U (.int (-1)):=rfl
  rcases Pm fs with rfl|⟨f0,l,rfl⟩
  ·refine go [q] (λr=>by simp) (by simp) (λ_ _=>⟨by simp,by simp⟩) ?_
   rfl
  ·rw[Po]at*
   let hne:eqO (U (.int (((f0++[l]).map rowD).length:Int))) (U (.int 0))=U Y:=by
    rw[eqO_int,decide_eq_false (by simp;lia)]
   let hlast:atI ((f0++[l]).map rowD) (-1)=U (rowD l):=by
    rw[Ip];exact Cv (f0.map rowD) (rowD l) (by simp at hl⊢;lia)
   by_cases h:l=q
   ·subst h
    refine go (f0++[l]) (λr=>?_) (by lia) (λh _=>h) ?_
    ·simp
    ·rw[toName_s _ _ _ (by simp)]
     simp![bindO_s,JK,JJ,aU,xV,IT,Jb,kA,kI,lenL_l,hne,ng,ixO_l,hlast,AX,decide_true,NC,orO_f,ifO_f,nextO_s]
   ·refine go (f0++[l]++[q]) (λr=>by simp[or_assoc]) (by simp) (λhc hx=>?_) ?_
    ·let hq:q∉f0++[l]:=λz=>h (by
      rcases qab.mp z with z|z
      ·let h1:leD (rowD q) (rowD l):=by
        have:=hc.so;rw[Ip,JO]at this;exact this.2.2 _ (H4 z) _ (by simp)
       exact eP (Bk (ds:=[rowD l,rowD q]) (iY [l,q]) (by simp) (by simp) (hx l (by simp)) h1)
      ·exact(on.mp z).symm)
     refine⟨qan.mpr ⟨hc.nd,by simp,λx hx y hy e=>hq (by simp at hy;rw[<-hy,<-e];exact hx)⟩,?_⟩
     rw[Ip,JO];refine⟨hc.so,by simp,λx z y w=>?_⟩
     let⟨x',hx',rfl⟩:=mt.mp z;simp at w;subst w;exact hx x' hx'
    rw[toName_s _ _ _ (by simp)]
    simp![bindO_s,JK,JJ,aU,xV,IT,Jb,kA,kI,lenL_l,hne,ng,ixO_l,hlast,AX,h,decide_false,Bool.not_false,orO_f,ifO_t]
    exact ap
def yd (rs:Qw Row) (h:rs.length<=60):∃fs:Qw Row,Cn fs/\(∀r,r∈fs↔r∈rs)/\fs.length<=rs.length/\zA7 [.lst (rs.map rowD)]=U (.lst (fs.map rowD),V):=by
 let⟨ss,pss,es⟩:=eS (ax (rs.map rowD));let hsl:=pss.length_eq;let⟨fs,y2,h1,h2,hcn,h3⟩:=vz (U (.lst (rs.map rowD),Y)) ss [] B (by simp;lia)
 refine⟨fs,hcn ⟨by simp,by simp⟩ (es▸bp (iY rs)) (λ_ z=>nomatch z),λr=>by simp[h1,pss.mem_iff],by simp at h2;lia,?_⟩
 rw[jn (f:=zA7) (δ:=[U (.lst (rs.map rowD),Y),B,B]) rfl rfl rfl];let hso:dF .ts (U (.lst (rs.map rowD)))=U (.lst (ss.map rowD)):=by
  rw[fZ (iY rs) (.inr (BO rs)),es]
 simp_all [eK,rd_0]
def wX {x y:Qq D}{c m:Int}(h:x=U (.int c)) (h':y=U (.int m)) (hm0:1<=m) (hm:m<=20):∃ws:Qw Ih,ws.length=m.toNat/\frO (ae (aa x (aa y (U []))) zB5)=U (.lst (ws.map .str)):=by
 let⟨ws,h1,_,_,e⟩:=zi c m hm0 hm;exact⟨ws,h1,by simp_all⟩
def vv (c:Int):∃tb:Qw (Ih×Int),tb≠[]/\(∀t∈tb,1<=t.2/\t.2<=3)/\zC8 [.int c,.int 3]=U (.lst (tb.map tbD),V):=by
 let⟨ws,hw,ew⟩:=wX (x:=U (.int c)) (y:=U (.int 3)) rfl rfl (by decide) (by decide)
 let hn:(1+c / 8%3).toNat<=3:=by lia
 let⟨tb,h1,h2,h3⟩:=sd (n:=(1+c / 8%3).toNat) (g:=tbD) (P:=λt=>1<=t.2/\t.2<=3) (F:=cw (af 3) (λδ=>U V) ey [U (.int c,Y),U (.int 3,Y),U (.lst (ws.map .str),Y),B]) λk hk=>by
  let hk':(0:Int)+(k:Int)<ws.length:=by rw[hw];show _<((3:Nat):Int);lia
  let⟨w,_,e⟩:=Bt (f:=D.str) (xs:=ws) (i:=0+(k:Int)) (by lia) hk'
  exact⟨(w,1+mx c (40+(0+(k:Int)))%3),by have:=GI c (40+(0+(k:Int)));lia,itG (lO (ixG rfl rfl e) (vT rfl (ni (AU rfl (vT rfl rfl) (by lia) (by lia)) rfl (by decide))))⟩
 refine⟨tb,λz=>?_,h2,stO ew (rF (i5 (ds:=jK 0 (1+c / 8%3).toNat) ?_ (by rw[fQ];lia) rfl h3 (by simp;lia)))⟩
 ·rw[z]at h1;simp at h1;lia
 ·exact Hr (vT rfl (ni (vS rfl rfl (by decide)) rfl (by decide))) (by lia)
def sL {x:Qq D}{rs:Qw Row}(h:x=U (.lst (rs.map rowD))) (hl:rs.length<=60):∃fs:Qw Row,Cn fs/\(∀r,r∈fs↔r∈rs)/\fs.length<=rs.length/\frO (ae (aa x (U [])) zA7)=U (.lst (fs.map rowD)):=by
 subst h;let⟨fs,h0,h1,h2,e⟩:=yd rs hl;exact⟨fs,h0,h1,h2,frG e⟩
def mvC (c:Ce):Mv->Ce->Ce
 |[],t=>t
 |q::mv,t=>mvC c mv (if c=.bk q.1 then q.2 else t)
theorem DM (a0 a1 a2 a3 a4 a5:Qq (D×Bool)) (c:Ce):∀(mv:Mv) (t:Ce) (x8 x9:Qq (D×Bool)),∃y8 y9,aq (λd δ=>ae ((bh (am (af 8) (am (af 9) (toNil)))) d δ) cL) (mv.map mvD) [a0,a1,a2,a3,a4,a5,U (ceD c,Y),U (ceD t,Y),x8,x9]=U (.next [a0,a1,a2,a3,a4,a5,U (ceD c,Y),U (ceD (mvC c mv t),Y),y8,y9])
 |[],t,x8,x9=>⟨x8,x9,by rfl⟩
 |q::mv,t,x8,x9=>by
  let⟨y8,y9,e⟩:=DM a0 a1 a2 a3 a4 a5 c mv (if c=.bk q.1 then q.2 else t) (U (.int q.1,Y)) (U (ceD q.2,Y))
  refine⟨y8,y9,?_⟩
  rw[HP];unfold aq;let h:ae ((bh (am (af 8) (am (af 9) (toNil)))) (mvD q) [a0,a1,a2,a3,a4,a5,U (ceD c,Y),U (ceD t,Y),x8,x9]) cL=ifO (U (decide (c=.bk q.1))) (bj 7 (U (ceD q.2)) [a0,a1,a2,a3,a4,a5,U (ceD c,Y),U (ceD t,Y),U (.int q.1,Y),U (ceD q.2,Y)]) (nextO [a0,a1,a2,a3,a4,a5,U (ceD c,Y),U (ceD t,Y),U (.int q.1,Y),U (ceD q.2,Y)]):=by
   show ifO (eqO (U (ceD c)) (dh (aa (U (.str "blank")) (aa (U (.int q.1)) (U []))))) _ _=_;rw[lO rfl rfl,show D.tup [.str "blank",.int q.1]=ceD (.bk q.1) from rfl,Fq]
   rfl
  rw[h,show mvC c (q::mv) t=mvC c mv (if c=.bk q.1 then q.2 else t) from rfl]
  by_cases hc:c=.bk q.1
  ·rw[decide_eq_true hc];rw[if_pos hc]at e⊢;exact e
  ·rw[decide_eq_false hc];rw[if_neg hc]at e⊢;exact e
def lV (x:Ih):eqO (U (.str x)) (U (.str x))=U V:=by simp[CF]
def DK {a b r:Qq Bool}(h:a=U V) (k:b=r):vN a b=r:=by subst h;exact k
def qY (T:Qw Int):Ce->Qw Int
 |.bk n=>if n∈T then T else T++[n]
 |.nm _=>T
def zD (T:Qw Int) (c:Ce):(qY T c).length<=T.length+1:=by
 cases c with
 |nm w=>exact Kl _
 |bk n=>unfold qY;dsimp only;split<;>simp
def Aj {T:Qw Int}{c:Ce}{n:Int}:n∈qY T c↔n∈T\/c=.bk n:=by
 cases c with
 |nm w=>simp[qY]
 |bk k=>unfold qY;dsimp only;split<;>simp<;>grind
theorem pu {n:Int}:∀{cs:Qw Ce}{T:Qw Int},n∈cs.foldl qY T↔n∈T\/Ce.bk n∈cs
 |[],T=>by simp
 |c::cs,T=>by rw[L7,pu (cs:=cs),Aj,ID,or_assoc];grind
end K22
namespace K22
open PySem L2 JP
structure Pt where
 rows:Qw Row
 ks:Qw Int
 c:Int->Int
def rC (φ:Int->Int):Ce->Ce|.nm w=>.nm w|.bk n=>.bk (φ n)
def rR (φ:Int->Int) (r:Row):Row:=(r.1,r.2.map (rC φ))
structure Wf (P:Pt):Prop where
 nr:P.rows.Nodup
 nk:P.ks.Nodup
 mem:∀n,n∈P.ks↔∃r∈P.rows,Ce.bk n∈r.2
structure Iso (P Q:Pt) (φ:Int->Int):Prop where
 ks:∀n∈P.ks,φ n∈Q.ks/\Q.c (φ n)=P.c n
 inj:∀n∈P.ks,∀m∈P.ks,φ n=φ m->n=m
 rows:∀r∈P.rows,rR φ r∈Q.rows
 onto:∀r∈Q.rows,∃r'∈P.rows,rR φ r'=r
def Fk {φ ψ:Int->Int}{r:Row}(h:∀n,Ce.bk n∈r.2->φ n=ψ n):rR φ r=rR ψ r:=by
 unfold rR;congr 1;refine Jj λx hx=>?_
 cases x with
 |nm w=>rfl
 |bk n=>simp![rC,h n hx]
def uL {φ:Int->Int}{r:Row}{m:Int}(h:Ce.bk m∈(rR φ r).2):∃n,Ce.bk n∈r.2/\φ n=m:=by
 let⟨x,hx,e⟩:=mt.mp h;cases x with
 |nm w=>cases e
 |bk n=>injection e with e;exact⟨n,hx,e⟩
def fD {φ:Int->Int}{r:Row}{n:Int}(h:Ce.bk n∈r.2):Ce.bk (φ n)∈(rR φ r).2:=mt.mpr ⟨_,h,rfl⟩
def jY {φ ψ:Int->Int}(r:Row):rR ψ (rR φ r)=rR (λn=>ψ (φ n)) r:=by
 unfold rR;congr 1;rw[Ix];refine Jj λx _=>?_
 cases x<;>rfl
def pg {φ:Int->Int}{r:Row}(h:∀n,Ce.bk n∈r.2->φ n=n):rR φ r=r:=by
 have:rR φ r=rR id r:=Fk h;rw[this];unfold rR;let e:∀l:Qw Ce,l.map (rC id)=l:=λl=>by
  induction l with
  |nil=>rfl
  |cons x l ih=>rw[HP,ih];cases x<;>rfl
 rw[e]
section
variable{P Q T:Pt}{φ ψ:Int->Int}
def Wf.row (w:Wf P) {r:Row}{n:Int}(hr:r∈P.rows) (h:Ce.bk n∈r.2):n∈P.ks:=(w.mem n).mpr ⟨r,hr,h⟩
def A2 (w:Wf P) (hi:∀n∈P.ks,∀m∈P.ks,φ n=φ m->n=m) {r q:Row}(hr:r∈P.rows) (hq:q∈P.rows) (e:rR φ r=rR φ q):r=q:=by
 let⟨t,a⟩:=r;let⟨u,b⟩:=q;unfold rR at e;simp![LH]at e;let⟨e1,e2⟩:=e;let hc:∀x∈a,∀y∈b,rC φ x=rC φ y->x=y:=λx hx y hy e=>by
  cases x<;>cases y<;>simp![rC,Ce.nm.injEq,Ce.bk.injEq,reduceCtorEq]at e
  ·rw[e]
  ·rw[hi _ (w.row hr hx) _ (w.row hq hy) e]
 have:∀a b:Qw Ce,(∀x∈a,∀y∈b,rC φ x=rC φ y->x=y)->a.map (rC φ)=b.map (rC φ)->a=b:=λa=>by
  induction a with
  |nil=>simp
  |cons x a ih=>
   intro b h e;cases b with
   |nil=>cases e
   |cons y b=>
    rw[HP,HP]at e;injection e with e1 e2
    rw[h x (by simp) y (by simp) e1,ih b (λx hx y hy=>h x (by simp[hx]) y (by simp[hy])) e2]
 rw[e1,this a b hc e2]
def Iso.onk (i:Iso P Q φ) (w:Wf P) (wq:Wf Q) {m:Int}(hm:m∈Q.ks):∃n∈P.ks,φ n=m:=by
 let⟨r,hr,h⟩:=(wq.mem m).mp hm;let⟨r',hr',rfl⟩:=i.onto r hr;let⟨n,hn,e⟩:=uL h;exact⟨n,w.row hr' hn,e⟩
def Iso.congr (i:Iso P Q φ) (w:Wf P) (h:∀n∈P.ks,φ n=ψ n):Iso P Q ψ:=by
 let e:∀r∈P.rows,rR φ r=rR ψ r:=λr hr=>Fk λn hn=>h n (w.row hr hn)
 refine⟨λn hn=>by rw[<-h n hn];exact i.ks n hn,λn hn m hm z=>i.inj n hn m hm (by simp_all),λr hr=>by rw[<-e r hr];exact i.rows r hr,λr hr=>?_⟩
 let⟨r',h1,h2⟩:=i.onto r hr;exact⟨r',h1,by rw[<-e r' h1,h2]⟩
def Iso.trans (i:Iso P Q φ) (j:Iso Q T ψ):Iso P T (λn=>ψ (φ n)):=by
 refine⟨λn hn=>?_,λn hn m hm z=>?_,λr hr=>?_,λr hr=>?_⟩
 ·let⟨h1,h2⟩:=i.ks n hn
  let⟨h3,h4⟩:=j.ks _ h1;exact⟨h3,h4.trans h2⟩
 ·exact i.inj n hn m hm (j.inj _ (i.ks n hn).1 _ (i.ks m hm).1 z)
 ·rw[<-jY];exact j.rows _ (i.rows r hr)
 ·let⟨r1,h1,rfl⟩:=j.onto r hr
  let⟨r2,h2,rfl⟩:=i.onto r1 h1;exact⟨r2,h2,(jY r2).symm⟩
open Classical in
theorem Iso.symm (i:Iso P Q φ) (w:Wf P) (wq:Wf Q):∃ψ,Iso Q P ψ/\∀n∈P.ks,ψ (φ n)=n:=by
 letI ψ:Int->Int:=λm=>if h:∃n∈P.ks,φ n=m then h.choose else 0
 let hψ:∀n∈P.ks,ψ (φ n)=n:=λn hn=>by
  let h:∃k∈P.ks,φ k=φ n:=⟨n,hn,rfl⟩;show(if h:∃k∈P.ks,φ k=φ n then h.choose else 0)=n
  rw[dif_pos h];exact i.inj _ h.choose_spec.1 _ hn h.choose_spec.2
 refine⟨ψ,⟨λm hm=>?_,λm hm m' hm' z=>?_,λr hr=>?_,λr hr=>?_⟩,hψ⟩
 ·let⟨n,hn,rfl⟩:=i.onk w wq hm
  rw[hψ n hn];exact⟨hn,(i.ks n hn).2.symm⟩
 ·let⟨n,hn,rfl⟩:=i.onk w wq hm
  let⟨n',hn',rfl⟩:=i.onk w wq hm'
  simp_all
 ·let⟨r',hr',rfl⟩:=i.onto r hr
  rw[jY,pg λn hn=>hψ n (w.row hr' hn)];exact hr'
 ·exact⟨rR φ r,i.rows r hr,by rw[jY,pg λn hn=>hψ n (w.row hr hn)]⟩
def Iso.id (P:Pt):Iso P P λn=>n:=by
 refine⟨λn hn=>⟨hn,rfl⟩,λn _ m _ h=>h,λr hr=>?_,λr hr=>⟨r,hr,pg λ_ _=>rfl⟩⟩
 rw[pg λ_ _=>rfl];exact hr
end
end K22
namespace K22
open PySem L2 JP
abbrev Sh:=Sum Ih Int×Nat
def sh (c:Int->Int) (cells:Qw Ce):Ce->Sh
 |.nm w=>(.inl w,cells.idxOf (.nm w))
 |.bk m=>(.inr (c m),cells.idxOf (.bk m))
def view (c:Int->Int) (r:Row) (n:Int):Ih×Qw Sh×Nat:=(r.1,r.2.map (sh c r.2),r.2.idxOf (.bk n))
def tX (P:Pt) (n:Int):Qw (Ih×Qw Sh×Nat):=(P.rows.filter λr=>decide (Ce.bk n∈r.2)).map λr=>view P.c r n
def cC (P:Pt) (n:Int):Int×Qw (Ih×Qw Sh×Nat):=(P.c n,tX P n)
def SL (x y:Int×Qw (Ih×Qw Sh×Nat)):Prop:=x.1=y.1/\x.2.Perm y.2
def SL.refl (x):SL x x:=⟨rfl,.refl _⟩
def SL.symm (h:SL x y):SL y x:=⟨h.1.symm,h.2.symm⟩
def SL.trans (h:SL x y) (g:SL y z):SL x z:=⟨h.1.trans g.1,h.2.trans g.2⟩
section
variable{P Q:Pt}{φ:Int->Int}
theorem qm {α β:Type}[DecidableEq α] [DecidableEq β] {f:α->β}:∀{l:Qw α}{a:α},(∀x∈l,f x=f a->x=a)->(l.map f).idxOf (f a)=l.idxOf a
 |[],_,_=>rfl
 |x::l,a,h=>by
  rw[HP,Ol,Ol]
  by_cases e:x=a
  ·subst e;simp
  ·have:f x≠f a:=λz=>e (h x (by simp) z)
   rw[show(f x==f a)=Y from beq_eq_false_iff_ne.mpr this,show(x==a)=Y from beq_eq_false_iff_ne.mpr e,qm λx hx=>h x (by simp[hx])]
def FG (i:Iso P Q φ) (w:Wf P) {r:Row}(hr:r∈P.rows) {x y:Ce}(hx:x∈r.2) (hy:y∈r.2) (e:rC φ x=rC φ y):x=y:=by
 cases x<;>cases y<;>simp![rC,Ce.nm.injEq,Ce.bk.injEq,reduceCtorEq]at e
 ·rw[e]
 ·rw[i.inj _ (w.row hr hx) _ (w.row hr hy) e]
def yI (i:Iso P Q φ) (w:Wf P) {r:Row}(hr:r∈P.rows) {n:Int}(hn:Ce.bk n∈r.2):view Q.c (rR φ r) (φ n)=view P.c r n:=by
 let ix:∀x∈r.2,(r.2.map (rC φ)).idxOf (rC φ x)=r.2.idxOf x:=λx hx=>qm λy hy e=>FG i w hr hy hx e
 unfold view;rw[show(rR φ r).2=r.2.map (rC φ) from rfl,Ix,show Ce.bk (φ n)=rC φ (.bk n) from rfl,ix _ hn]
 refine Pq rfl (Pq (Jj λx hx=>?_) rfl)
 let e:=ix x hx;cases x with
 |nm v=>simp![On,rC,sh]at e⊢;rw[e]
 |bk m=>simp![On,rC,sh]at e⊢;rw[e,(i.ks m (w.row hr hx)).2]
def jI {α:Type}[DecidableEq α] {l m:Qw α}(h:l.Nodup) (g:m.Nodup) (e:∀x,x∈l↔x∈m):l.Perm m:=by
 rw[List.perm_iff_count];intro a
 by_cases ha:a∈l
 ·simp_all [h.count,g.count]
 ·rw[KN ha,KN λz=>ha ((e a).mpr z)]
def aR {α β:Type}{f:α->β}{l:Qw α}(h:∀x∈l,∀y∈l,f x=f y->x=y) (nd:l.Nodup):(l.map f).Nodup:=by
 induction l with
 |nil=>simp
 |cons a l ih=>
  rw[J8]at nd;rw[HP,J8];refine⟨λz=>?_,ih (λx hx y hy=>h x (by simp[hx]) y (by simp[hy])) nd.2⟩
  let⟨b,hb,e⟩:=mt.mp z;exact nd.1 (h a (by simp) b (by simp[hb]) e.symm▸hb)
def nJ (i:Iso P Q φ) (w:Wf P) (wq:Wf Q):Q.rows.Perm (P.rows.map (rR φ)):=
 jI wq.nr (aR (λr hr q hq e=>A2 w i.inj hr hq e) w.nr) λr=>by
  rw[NQ];exact⟨λh=>i.onto r h,λ⟨r',h,e⟩=>e▸i.rows r' h⟩
def sT (i:Iso P Q φ) (w:Wf P) (wq:Wf Q) {n:Int}(hn:n∈P.ks):SL (cC Q (φ n)) (cC P n):=by
 refine⟨(i.ks n hn).2,?_⟩
 show(tX Q (φ n)).Perm (tX P n);let h1:=((nJ i w wq).filter λr=>decide (Ce.bk (φ n)∈r.2)).map λr=>view Q.c r (φ n)
 refine h1.trans ?_
 rw[List.filter_map,Ix];let e:(P.rows.filter ((λr:Row=>decide (Ce.bk (φ n)∈r.2)) ∘ rR φ))=P.rows.filter λr=>decide (Ce.bk n∈r.2):=by
  refine List.filter_congr λr hr=>?_
  simp![On,decide_eq_decide];refine⟨λh=>?_,fD⟩
  let⟨m,hm,e⟩:=uL h;rw[i.inj _ (w.row hr hm) _ hn e]at hm;exact hm
 rw[e];refine List.Perm.of_eq (Jj λr hr=>?_)
 let⟨h1,h2⟩:=qaf.mp hr;exact yI i w h1 (of_decide_eq_true h2)
end
structure Fine (P Q:Pt):Prop where
 cross:∀n∈P.ks,∀m∈Q.ks,P.c n=Q.c m->SL (cC P n) (cC Q m)
 cnt:(P.ks.map P.c).Perm (Q.ks.map Q.c)
 pos:∀n∈P.ks,0<=P.c n
def iL (P:Pt) (n:Int):Prop:=n∈P.ks/\∀m∈P.ks,P.c m=P.c n->m=n
def aM (P:Pt) (n:Int):Prop:=n∈P.ks/\∃m∈P.ks,P.c m=P.c n/\m≠n
def bw {P:Pt}{n:Int}(h:n∈P.ks):iL P n\/aM P n:=by
 by_cases g:∃m∈P.ks,P.c m=P.c n/\m≠n
 ·exact .inr ⟨h,g⟩
 ·exact .inl ⟨h,λm hm e=>J4 λz=>g ⟨m,hm,e,z⟩⟩
def ba {P:Pt}(nd:P.ks.Nodup) {n:Int}(h:n∈P.ks):(P.ks.map P.c).count (P.c n)=1↔∀m∈P.ks,P.c m=P.c n->m=n:=by
 let⟨a,b,e⟩:=qaG h;rw[e,IS]at nd;let⟨n1,n2,n3⟩:=nd;rw[J8]at n2;rw[e,Ip,HP,qaI,List.count_cons_self];constructor
 ·intro hc m hm em
  let ha:(a.map P.c).count (P.c n)=0:=by lia
  let hb:(b.map P.c).count (P.c n)=0:=by lia
  rw[qas]at ha hb
  rcases qab.mp hm with z|z
  ·exact absurd (mt.mpr ⟨m,z,em⟩) ha
  ·rcases qaa.mp z with z|z
   ·exact z
   ·simp_all
 ·intro hu
  let ha:(a.map P.c).count (P.c n)=0:=qas.mpr λz=>by
   grind
  let hb:(b.map P.c).count (P.c n)=0:=qas.mpr λz=>by
   grind
  lia
end K22
namespace K22
open PySem L2 JP
inductive Rc (P:Pt) (n:Int):Row->Prop
 |one {r:Row}:r∈P.rows->Ce.bk n∈r.2->Rc P n r
 |step {r r':Row}{m:Int}:Rc P n r->aM P m->Ce.bk m∈r.2->r'∈P.rows->Ce.bk m∈r'.2->Rc P n r'
def Rc.row {P:Pt}{n:Int}{r:Row}(h:Rc P n r):r∈P.rows:=by cases h<;>assumption
def Rc.trans {P:Pt}{n m:Int}{r q:Row}(h:Rc P n r) (hm:aM P m) (e:Ce.bk m∈r.2) (g:Rc P m q):Rc P n q:=by
 induction g with
 |one h1 h2=>exact .step h hm e h1 h2
 |step _ h2 h3 h4 h5 ih=>exact .step ih h2 h3 h4 h5
def Rc.symm {P:Pt}{n:Int}(hn:aM P n) {r:Row}(h:Rc P n r):∀m,aM P m->Ce.bk m∈r.2->∀r0∈P.rows,Ce.bk n∈r0.2->Rc P m r0:=by
 induction h with
 |one h1 h2=>exact λm hm e r0 h3 h4=>.step (.one h1 e) hn h2 h3 h4
 |step h1 h2 h3 h4 h5 ih=>exact λm hm e r0 h6 h7=>((Rc.one h4 e).step h2 h5 h1.row h3).trans h2 h3 (ih _ h2 h3 r0 h6 h7)
structure Parts (P:Pt) (L:Qw Pt):Prop where
 c:∀A∈L,A.c=P.c
 wf:∀A∈L,Wf A
 one:∀A∈L,∃n,aM P n/\∀r,r∈A.rows↔Rc P n r
 cov:∀r∈P.rows,∀n,aM P n->Ce.bk n∈r.2->∃A∈L,r∈A.rows
 dis:L.Pairwise λA PA=>∀r∈A.rows,r∉PA.rows
section
variable{P Q:Pt}{φ:Int->Int}{L M:Qw Pt}{A PA:Pt}
def Parts.sub (h:Parts P L) (ha:A∈L) {r:Row}(hr:r∈A.rows):r∈P.rows:=by
 let⟨n,_,h2⟩:=h.one A ha;exact((h2 r).mp hr).row
def Parts.ks (h:Parts P L) (w:Wf P) (ha:A∈L) {n:Int}(hn:n∈A.ks):n∈P.ks:=by
 let⟨r,hr,e⟩:=((h.wf A ha).mem n).mp hn;exact w.row (h.sub ha hr) e
def Parts.clo (h:Parts P L) (ha:A∈L) {r q:Row}{n:Int}(hr:r∈A.rows) (hn:aM P n) (e:Ce.bk n∈r.2) (hq:q∈P.rows) (e':Ce.bk n∈q.2):q∈A.rows:=by
 let⟨m,_,h2⟩:=h.one A ha;exact(h2 q).mpr (((h2 r).mp hr).step hn e hq e')
def Parts.eq (h:Parts P L) {i j:Nat}(hi:L[i]?=U A) (hj:L[j]?=U PA) {r:Row}(ha:r∈A.rows) (hb:r∈PA.rows):i=j:=by
 rcases LF i j with z|z|z
 ·let⟨li,rfl⟩:=List.getElem?_eq_some_iff.mp hi
  let⟨lj,rfl⟩:=List.getElem?_eq_some_iff.mp hj
  exact absurd hb (qaj.mp h.dis i j li lj z r ha)
 ·exact z
 ·let⟨li,rfl⟩:=List.getElem?_eq_some_iff.mp hi
  let⟨lj,rfl⟩:=List.getElem?_eq_some_iff.mp hj
  exact absurd ha (qaj.mp h.dis j i lj li z r hb)
def gu (w:Wf P) (wq:Wf Q) (F:Fine P Q) {n m:Int}(hn:n∈P.ks) (hm:m∈Q.ks) (e:Q.c m=P.c n):iL P n↔iL Q m:=by
 let h1:=ba w.nk hn;let h2:=ba wq.nk hm;let hc:(P.ks.map P.c).count (P.c n)=(Q.ks.map Q.c).count (Q.c m):=by rw[F.cnt.count_eq,e]
 rw[hc]at h1;exact⟨λh=>⟨hm,h2.mp (h1.mpr h.2)⟩,λh=>⟨hn,h1.mp (h2.mpr h.2)⟩⟩
def iR {n:Int}(h:iL P n) (g:aM P n):False:=by
 let⟨_,m,h1,h2,h3⟩:=g;exact h3 (h.2 m h1 h2)
def xi {r q:Row}{n m:Int}(h:∀a b,Ce.bk a∈r.2->Ce.bk b∈q.2->P.c a=Q.c b->φ a=b) (e:view P.c r n=view Q.c q m):rR φ r=q:=by
 let⟨t,a⟩:=r;let⟨u,b⟩:=q;unfold view at e;simp![LH]at e;let⟨e1,e2,_⟩:=e;have:∀(x y a b:Qw Ce),(∀i j,Ce.bk i∈a->Ce.bk j∈b->P.c i=Q.c j->φ i=j)->a.map (sh P.c x)=b.map (sh Q.c y)->a.map (rC φ)=b:=λx y a=>by
  induction a with
  |nil=>simp
  |cons s a ih=>
   intro b h e;cases b with
   |nil=>cases e
   |cons t b=>
    injection e with e1 e2
    rw[HP,ih b (λi j h1 h2=>h i j (by simp[h1]) (by simp[h2])) e2]
    congr 1;cases s<;>cases t<;>simp![sh,LH,Sum.inl.injEq,Sum.inr.injEq,reduceCtorEq,false_and]at e1
    ·rw[e1.1];rfl
    ·exact congrArg Ce.bk (h _ _ (by simp) (by simp) e1.1)
 show(t,a.map (rC φ))=(u,b);rw[e1,this a b a b h e2]
def Aa {a b:Qw Int}(ha:a.Nodup) (hb:b.Nodup) (hs:∀x∈a,x∈b) (hl:a.length=b.length):∀x∈b,x∈a:=by
 intro x hx;apply J4;intro hn;let h1:(x::a).Nodup:=qae.mpr ⟨hn,ha⟩;let h2:∀y∈x::a,y∈b:=λy hy=>by
  grind
 have:(x::a).length<=b.length:=H2 h1 h2;simp at this;lia
def G6 (w:Wf P) (wq:Wf Q) (F:Fine P Q) (nm:∀r:Row,(∀n,Ce.bk n∉r.2)->(r∈P.rows↔r∈Q.rows)) (LP:Parts P L) (LQ:Parts Q M)
  (al:∀n,iL P n->φ n∈Q.ks/\Q.c (φ n)=P.c n) {js:Qw Nat}(hl:js.length=L.length) (nd:js.Nodup)
  (hB:∀(i:Nat) A,L[i]?=U A->∃j PA,js[i]?=U j/\M[j]?=U PA/\Iso A PA φ):Iso P Q φ:=by
 let part:∀n,aM P n->∃(i j:Nat) (A PA:Pt),L[i]?=U A/\js[i]?=U j/\M[j]?=U PA/\Iso A PA φ/\n∈A.ks:=λn hn=>by
  let⟨r,hr,e⟩:=(w.mem n).mp hn.1;let⟨A,hA,hrA⟩:=LP.cov r hr n hn e;let⟨i,hi⟩:=List.mem_iff_getElem?.mp hA;let⟨j,PA,h1,h2,h3⟩:=hB i A hi;exact⟨i,j,A,PA,hi,h1,h2,h3,(LP.wf A hA).row hrA e⟩
 let cc:∀n∈P.ks,φ n∈Q.ks/\Q.c (φ n)=P.c n:=λn hn=>by
  rcases bw hn with h|h
  ·exact al n h
  ·let⟨i,j,A,PA,h1,h2,h3,h4,h5⟩:=part n h
   let mA:=HR h1;let mB:=HR h3;let⟨g1,g2⟩:=h4.ks n h5;rw[LP.c A mA,LQ.c PA mB]at g2;exact⟨LQ.ks wq mB g1,g2⟩
 let lo:∀{n},aM P n->aM Q (φ n):=λ{n} h=>by
  let⟨h1,h2⟩:=cc n h.1
  rcases bw h1 with g|g
  ·exact(iR ((gu w wq F h.1 h1 h2).mpr g) h).elim
  ·exact g
 let inj:∀n∈P.ks,∀m∈P.ks,φ n=φ m->n=m:=λn hn m hm e=>by
  let ec:P.c n=P.c m:=by rw[<-(cc n hn).2,<-(cc m hm).2,e]
  rcases bw hn with h|h
  ·exact(h.2 m hm ec.symm).symm
  rcases bw hm with g|g
  ·exact g.2 n hn ec
  let⟨i,j,A,PA,h1,h2,h3,h4,h5⟩:=part n h;let⟨i',j',A',B',g1,g2,g3,g4,g5⟩:=part m g;let mB:=HR h3;let mB':=HR g3;let⟨r,hr,er⟩:=((LQ.wf PA mB).mem _).mp (h4.ks n h5).1;let⟨q,hq,eq⟩:=((LQ.wf B' mB').mem _).mp (g4.ks m g5).1;have:q∈PA.rows:=LQ.clo mB hr (lo h) er (LQ.sub mB' hq) (by rw[e];exact eq)
  let ej:=LQ.eq h3 g3 this hq;subst ej;let ei:i=i':=(List.getElem?_inj (List.getElem?_eq_some_iff.mp h2).1 nd).mp (h2.trans g2.symm)
  subst ei;rw[h1]at g1;cases g1;exact h4.inj n h5 m g5 e
 let onk:∀m∈Q.ks,∃n∈P.ks,φ n=m:=λm hm=>by
  have:=Aa (a:=P.ks.map φ) (b:=Q.ks) (aR inj w.nk) wq.nk (λx hx=>by let⟨n,hn,rfl⟩:=mt.mp hx;exact(cc n hn).1) (by have:=F.cnt.length_eq;simpa using this) m hm
  simp_all
 let ha:∀{n},iL P n->∀b∈Q.ks,P.c n=Q.c b->φ n=b:=λ{n} h b hb e=>by
  let⟨h1,h2⟩:=cc n h.1;exact(((gu w wq F h.1 h1 h2).mp h).2 b hb (by rw[h2,e])).symm
 refine⟨cc,inj,λr hr=>?_,λr hr=>?_⟩
 ·by_cases h:∃n,aM P n/\Ce.bk n∈r.2
  ·let⟨n,hn,e⟩:=h
   let⟨A,hA,hrA⟩:=LP.cov r hr n hn e;let⟨i,hi⟩:=List.mem_iff_getElem?.mp hA;let⟨j,PA,_,h2,h3⟩:=hB i A hi;exact LQ.sub (HR h2) (h3.rows r hrA)
  ·let hA:∀n,Ce.bk n∈r.2->iL P n:=λn e=>(bw (w.row hr e)).resolve_right λz=>h ⟨n,z,e⟩
   by_cases g:∃n,Ce.bk n∈r.2
   ·let⟨n,e⟩:=g
    let⟨h1,h2⟩:=cc n (hA n e).1;let hv:view P.c r n∈tX P n:=mt.mpr ⟨r,qaf.mpr ⟨hr,decide_eq_true e⟩,rfl⟩;have:=(F.cross n (hA n e).1 _ h1 h2.symm).2.mem_iff.mp hv;let⟨q,hq,eq⟩:=mt.mp this;let⟨hq1,hq2⟩:=qaf.mp hq;have:=xi (φ:=φ) (λa b h1 h2 e=>ha (hA a h1) b (wq.row hq1 h2) e) eq.symm
    rw[this];exact hq1
   ·rw[pg λn e=>(g ⟨n,e⟩).elim]
    exact(nm r λn e=>g ⟨n,e⟩).mp hr
 ·by_cases h:∃m,aM Q m/\Ce.bk m∈r.2
  ·let⟨m,hm,e⟩:=h
   let⟨n,hn,rfl⟩:=onk m hm.1;let hl:aM P n:=(bw hn).resolve_left λz=>iR ((gu w wq F hn (cc n hn).1 (cc n hn).2).mp z) hm
   let⟨i,j,A,PA,h1,h2,h3,h4,h5⟩:=part n hl;let mB:=HR h3;let⟨q,hq,eq⟩:=((LQ.wf PA mB).mem _).mp (h4.ks n h5).1;let⟨r',hr',e'⟩:=h4.onto r (LQ.clo mB hq hm eq hr e);exact⟨r',LP.sub (HR h1) hr',e'⟩
  ·let hA:∀n,Ce.bk n∈r.2->iL Q n:=λn e=>(bw (wq.row hr e)).resolve_right λz=>h ⟨n,z,e⟩
   by_cases g:∃n,Ce.bk n∈r.2
   ·let⟨m,e⟩:=g
    let⟨n,hn,rfl⟩:=onk m (hA m e).1;let⟨h1,h2⟩:=cc n hn;let hv:view Q.c r (φ n)∈tX Q (φ n):=mt.mpr ⟨r,qaf.mpr ⟨hr,decide_eq_true e⟩,rfl⟩;have:=(F.cross n hn _ h1 h2.symm).2.mem_iff.mpr hv;let⟨q,hq,eq⟩:=mt.mp this;let⟨hq1,hq2⟩:=qaf.mp hq;refine⟨q,hq1,xi (λa b h1 h2 e=>?_) eq⟩
    let⟨g1,g2⟩:=cc a (w.row hq1 h1);exact(hA b h2).2 _ g1 (g2.trans e)
   ·exact⟨r,(nm r λn e=>g ⟨n,e⟩).mpr hr,pg λn e=>(g ⟨n,e⟩).elim⟩
end
end K22
namespace K22
open PySem L2 JP
section
variable{P Q:Pt}{φ ψ:Int->Int}{L M:Qw Pt}{A PA:Pt}
def Iso.loose (i:Iso P Q φ) {n:Int}(h:aM P n):aM Q (φ n):=by
 let⟨h1,m,h2,h3,h4⟩:=h;exact⟨(i.ks n h1).1,φ m,(i.ks m h2).1,by rw[(i.ks m h2).2,(i.ks n h1).2,h3],λe=>h4 (i.inj m h2 n h1 e)⟩
def Iso.rc (i:Iso P Q φ) {n:Int}{r:Row}(h:Rc P n r):Rc Q (φ n) (rR φ r):=by
 induction h with
 |one h1 h2=>exact .one (i.rows _ h1) (fD h2)
 |step _ h2 h3 h4 h5 ih=>exact .step ih (i.loose h2) (fD h3) (i.rows _ h4) (fD h5)
def xy (i:Iso P Q φ) (w:Wf P) (wq:Wf Q) (LP:Parts P L) (LQ:Parts Q M) (hA:A∈L):∃PA∈M,Iso A PA φ:=by
 let⟨n,hn,hr⟩:=LP.one A hA;let⟨r0,h0,e0⟩:=(w.mem n).mp hn.1;let ln:=i.loose hn;let⟨PA,hB,hb⟩:=LQ.cov _ (i.rows r0 h0) _ ln (fD e0);let⟨m,hm,hs⟩:=LQ.one PA hB;let⟨q0,g0,f0⟩:=(wq.mem m).mp hm.1;let h1:=(hs _).mp hb;let hs':∀q,q∈PA.rows↔Rc Q (φ n) q:=λq=>by
  rw[hs];exact⟨λh=>(h1.symm hm _ ln (fD e0) q0 g0 f0).trans hm f0 h,λh=>h1.trans ln (fD e0) h⟩
 let⟨ψ,j,hψ⟩:=i.symm w wq;let hk:∀n∈A.ks,n∈P.ks:=λn h=>LP.ks w hA h
 refine⟨PA,hB,⟨λa ha=>?_,λa ha b hb=>i.inj a (hk a ha) b (hk b hb),λr h=>?_,λq h=>?_⟩⟩
 ·let⟨r,h1,h2⟩:=((LP.wf A hA).mem a).mp ha
  refine⟨((LQ.wf PA hB).mem _).mpr ⟨rR φ r,(hs' _).mpr (i.rc ((hr r).mp h1)),fD h2⟩,?_⟩
  rw[LQ.c PA hB,LP.c A hA];exact(i.ks a (hk a ha)).2
 ·exact(hs' _).mpr (i.rc ((hr r).mp h))
 ·have:=j.rc ((hs' q).mp h)
  rw[hψ n hn.1]at this;refine⟨_,(hr _).mpr this,?_⟩
  rw[jY];refine pg λm hm=>?_
  let⟨k,hk,rfl⟩:=i.onk w wq (wq.row (LQ.sub hB h) hm);rw[hψ k hk]
def Mat (L M:Qw Pt) (i0:Nat) (js:Qw Nat):Prop:=∃g:Nat->Nat,(∀i A,i0<=i->L[i]?=U A->g i∈js/\∃PA,M[g i]?=U PA/\∃φ,Iso A PA φ)/\∀i j,i0<=i->i0<=j->i<L.length->j<L.length->g i=g j->i=j
def wz (i:Iso P Q φ) (w:Wf P) (wq:Wf Q) (LP:Parts P L) (LQ:Parts Q M):Mat L M 0 (Iu M.length):=by
 let key:∀(k:Nat),∃j,∀A,L[k]?=U A->∃PA,M[j]?=U PA/\Iso A PA φ:=λk=>by
  cases h:L[k]? with
  |none=>exact⟨0,λA e=>nomatch e⟩
  |some A=>
   let⟨PA,hB,hi⟩:=xy i w wq LP LQ (HR h);let⟨j,hj⟩:=List.mem_iff_getElem?.mp hB;exact⟨j,λA' e=>by cases e;exact⟨PA,hj,hi⟩⟩
 refine⟨λk=>(key k).choose,λk A _ h=>?_,λk l _ _ hk hl e=>?_⟩
 ·let⟨PA,h1,h2⟩:=(key k).choose_spec A h
  exact⟨qad.mpr (List.getElem?_eq_some_iff.mp h1).1,PA,h1,φ,h2⟩
 ·let hk':L[k]?=U L[k]:=by simp[hk]
  let hl':L[l]?=U L[l]:=by simp[hl]
  let⟨PA,h1,h2⟩:=(key k).choose_spec _ hk';let⟨B',g1,g2⟩:=(key l).choose_spec _ hl';dsimp only at e;rw[e,g1]at h1;cases h1;let mk:=HR hk';let ml:=HR hl';let⟨n,hn,hr⟩:=LP.one _ mk;let⟨r,hr1,hr2⟩:=(w.mem n).mp hn.1;let r1:=(hr r).mpr (.one hr1 hr2);let⟨r',r2,r3⟩:=g2.onto _ (h2.rows r r1);have:=A2 w i.inj (LP.sub ml r2) (LP.sub mk r1) r3;subst this;exact LP.eq hk' hl' r1 r2
nonrec theorem xX (h:Mat L M i0 js) (wL:∀A∈L,Wf A) (wM:∀PA∈M,Wf PA) (hA:L[i0]?=U A) (hj:j∈js) (hB:M[j]?=U PA) (hi:Iso A PA φ):Mat L M (i0+1) (js.erase j):=by
 let⟨g,g1,g2⟩:=h;let⟨h1,B0,h2,φ0,h3⟩:=g1 i0 A (HQ _) hA;let l0:=(List.getElem?_eq_some_iff.mp hA).1
 let ne:∀i,i0+1<=i->i<L.length->g i≠g i0:=λi hi hl e=>by have:=g2 i i0 (by lia) (HQ _) hl l0 e;lia
 refine⟨λi=>if g i=j then g i0 else g i,λi A' hi' hA'=>?_,λi k hi' hk' li lk e=>?_⟩
 ·let li:=(List.getElem?_eq_some_iff.mp hA').1
  let⟨k1,B1,k2,φ1,k3⟩:=g1 i A' (by lia) hA'
  dsimp only;split
  ·rename_i e
   rw[e,hB]at k2;cases k2;refine⟨K8 (λz=>ne i hi' li (by rw[e,z])) |>.mpr h1,B0,h2,?_⟩
   let⟨ψ,hψ,_⟩:=hi.symm (wL A (HR hA)) (wM _ (HR hB));exact⟨_,(k3.trans hψ).trans h3⟩
  ·rename_i e
   exact⟨K8 e |>.mpr k1,B1,k2,φ1,k3⟩
 ·dsimp only at e
  split at e<;>split at e
  ·rename_i e1 e2;exact g2 i k (by lia) (by lia) li lk (e1.trans e2.symm)
  ·exact(ne k hk' lk e.symm).elim
  ·rename_i e1 e2;exact(ne i hi' li e).elim
  ·exact g2 i k (by lia) (by lia) li lk e
def mark (P:Pt) (n:Int):Pt:={P with c:=λm=>if m=n then -1 else P.c m}
def Wf.mark (w:Wf P) (n:Int):Wf (mark P n):=⟨w.nr,w.nk,w.mem⟩
nonrec theorem tI {n m:Int}(hp:∀k∈P.ks,0<=P.c k) (hq:∀k∈Q.ks,0<=Q.c k) (hn:n∈P.ks) (e:Q.c m=P.c n) (i:Iso (mark P n) (mark Q m) φ):Iso P Q φ:=by
 let key:∀k∈P.ks,Q.c (φ k)=P.c k:=λk hk=>by
  let⟨h1,h2⟩:=i.ks k hk;let p1:=hq _ h1;let p2:=hp _ hk;simp![K22.mark]at h2;split at h2<;>split at h2
  ·rename_i e1 e2;rw[e1,e2,e]
  ·lia
  ·lia
  ·exact h2
 exact⟨λk hk=>⟨(i.ks k hk).1,key k hk⟩,i.inj,i.rows,i.onto⟩
def zf {n:Int}(hn:n∈P.ks) (i:Iso P Q φ):Iso (mark P n) (mark Q (φ n)) φ:=by
 refine⟨λk hk=>⟨(i.ks k hk).1,?_⟩,i.inj,i.rows,i.onto⟩
 simp![K22.mark]
 by_cases e:k=n
 ·rw[if_pos e,if_pos (by rw[e])]
 ·rw[if_neg e,if_neg λz=>e (i.inj k hk n hn z),(i.ks k hk).2]
open Classical in
def lo (P:Pt):Nat:=(P.ks.filter λn=>decide (aM P n)).length
open Classical in
theorem GK (nd:P.ks.Nodup) (h:∀n,aM P n->aM Q n):lo P<=lo Q:=by
 refine H2 (nd.filter _) λn hn=>?_
 have:=of_decide_eq_true (qaf.mp hn).2;exact qaf.mpr ⟨(h n this).1,decide_eq_true (h n this)⟩
open Classical in
theorem FH (nd:P.ks.Nodup) (h:∀n,aM P n->aM Q n) {n:Int}(h1:aM Q n) (h2:¬aM P n):lo P<lo Q:=by
 have:(n::P.ks.filter λn=>decide (aM P n)).length<=lo Q:=by
  refine H2 (qae.mpr ⟨λz=>h2 (of_decide_eq_true (qaf.mp z).2),nd.filter _⟩) λk hk=>?_
  rcases qaa.mp hk with rfl|hk
  ·exact qaf.mpr ⟨h1.1,decide_eq_true h1⟩
  ·have:=of_decide_eq_true (qaf.mp hk).2
   exact qaf.mpr ⟨(h k this).1,decide_eq_true (h k this)⟩
 exact this
nonrec theorem eQ {n k:Int}(hp:∀k∈P.ks,0<=P.c k) (h:aM (mark P n) k):aM P k/\k≠n:=by
 let⟨h1,m,h2,h3,h4⟩:=h;let p1:=hp _ h1;let p2:=hp _ h2;simp![K22.mark]at h3;split at h3<;>split at h3
 ·lia
 ·lia
 ·lia
 ·rename_i e1 e2;exact⟨⟨h1,m,h2,h3,h4⟩,e2⟩
def Cw (w:Wf P) (LP:Parts P L) (hp:∀k∈P.ks,0<=P.c k) (hA:A∈L) {n:Int}(hn:(∃m,aM A m)->aM A n):lo (mark A n)<lo P:=by
 let sub:∀k,aM A k->aM P k:=λk ⟨h1,m,h2,h3,h4⟩=>by
  rw[LP.c A hA]at h3;exact⟨LP.ks w hA h1,m,LP.ks w hA h2,h3,h4⟩
 let hpA:∀k∈A.ks,0<=A.c k:=λk hk=>by rw[LP.c A hA];exact hp k (LP.ks w hA hk)
 let nd:=(LP.wf A hA).nk
 by_cases h:∃m,aM A m
 ·exact FH (P:=mark A n) nd (λk hk=>sub k (eQ hpA hk).1) (sub n (hn h)) λz=>(eQ hpA z).2 rfl
 ·let⟨m,hm,_⟩:=LP.one A hA
  exact FH (P:=mark A n) nd (λk hk=>(h ⟨k,(eQ hpA hk).1⟩).elim) hm λz=>h ⟨m,(eQ hpA z).1⟩
end
end K22
namespace K22
open PySem L2 JP
variable[Md]
def dI (us:Qw Int) (g:Int->D):D:=.dK (us.map .inl) (us.map g)
def eW (n:Int) (us:Qw Int):Qw Int:=if n∈us then us else us++[n]
def unI (us vs:Qw Int):Qw Int:=vs.foldl (λa n=>eW n a) us
section
variable{us vs:Qw Int}{g h:Int->D}{n:Int}{d:D}{δ:DEnv}{i:Nat}
def eV (e:∀n∈us,g n=h n):dI us g=dI us h:=by unfold dI;rw[Jj e]
theorem rg:∀{us:Qw Int},aP (.inl n:Key) (us.map .inl) (us.map g)=if n∈us then U (g n) else B
 |[]=>rfl
 |m::us=>by
  rw[HP,HP];unfold aP
  by_cases e:m=n
  ·subst e;simp
  ·rw[if_neg (by simpa using e),rg]
   have:n≠m:=λz=>e z.symm
   simp[this]
def wu:mU (U (dI us g)) (U (.int n))=U (if n∈us then U (g n) else B):=by
 show U (aP (.inl n:Key) _ _)=_;rw[rg]
def p7 (e:n∈us):cM (U (dI us g)) (U (.int n))=U (g n):=by unfold cM;rw[wu,if_pos e]
def CT:sZ (U (.int n)) (U (dI us g))=U (decide (n∈us)):=by
 unfold sZ;rw[wu];by_cases e:n∈us<;>simp[e]
def CV:lB (U (dI us g)) (U (.int n)) (U d)=U (if n∈us then g n else d):=by
 unfold lB;rw[wu];by_cases e:n∈us<;>simp[e]
def xo:aC (.inl n:Key) (us.map .inl)=(eW n us).map .inl:=by
 unfold aC eW
 by_cases e:n∈us
 ·rw[if_pos e,if_pos (by simpa using e)]
 ·simp_all
theorem AQ:∀{us:Qw Int},bN (.inl n:Key) d (us.map .inl) (us.map g)=us.map λk=>if k=n then d else g k
 |[]=>rfl
 |m::us=>by
  rw[HP,HP];unfold bN;rw[AQ,HP];simp
def zL:bB (.inl n:Key) d (us.map .inl) (us.map g)=(eW n us).map λk=>if k=n then d else g k:=by
 unfold bB eW
 by_cases e:n∈us
 ·rw[if_pos e,if_pos (by simpa using e),AQ]
 ·rw[if_neg e,if_neg (by simpa using e),Ip]
  simp;lia
def Eg (hl:us.length<=1000):wy (dI us g) (.int n) d=U (dI (eW n us) λk=>if k=n then d else g k):=by
 show(if(us.map Nv).length<lim then U (D.dK (aC (.inl n:Key) (us.map .inl)) (bB (.inl n:Key) d (us.map .inl) (us.map g))) else B)=_
 rw[if_pos (by simp;lia),xo,zL];rfl
def CD {x y:Qq D}(h:δ[i]?=U (U (dI us g,V))) (hx:x=U (.int n)) (hy:y=U d) (hl:us.length<=1000):iM i x y δ=U (.next (δ.set i (U (dI (eW n us) λk=>if k=n then d else g k,V)))):=by
 subst hx hy;let e:bu i δ=U (dI us g):=by unfold bu;rw[h];rfl
 unfold iM;rw[e];simp![Eg hl]
nonrec theorem p9:∀{k},k∈eW n us↔k∈us\/k=n:=λ{k}=>by
 unfold eW;split
 ·rename_i h;exact⟨.inl,λz=>z.elim id λe=>e▸h⟩
 ·simp
nonrec theorem wW (nd:us.Nodup):(eW n us).Nodup:=by
 unfold eW;split
 ·exact nd
 ·rename_i h;rw[IS];exact⟨nd,by simp,λa ha b hb e=>h (by simp_all)⟩
def wp:(eW n us).length<=us.length+1:=by unfold eW;split<;>simp
theorem b9:∀{vs us:Qw Int}{k},k∈unI us vs↔k∈us\/k∈vs
 |[],us,k=>by simp[unI]
 |v::vs,us,k=>by
  show k∈unI (eW v us) vs↔_;rw[b9,p9,ID,or_assoc]
theorem tV:∀{vs us:Qw Int},us.Nodup->(unI us vs).Nodup
 |[],_,h=>h
 |v::vs,us,h=>tV (us:=eW v us) (wW h)
theorem o8:∀{vs us:Qw Int},(unI us vs).length<=us.length+vs.length
 |[],_=>by simp[unI]
 |v::vs,us=>by
  have:=o8 (vs:=vs) (us:=eW v us);have:=wp (n:=v) (us:=us);show(unI (eW v us) vs).length<=_;simp;lia
theorem CE:∀{vs us:Qw Int},(us++vs).Nodup->unI us vs=us++vs
 |[],us,_=>by simp[unI]
 |v::vs,us,h=>by
  let hv:v∉us:=λz=>by grind
  show unI (eW v us) vs=_;rw[show eW v us=us++[v] from if_neg hv,CE (by simpa using h)];simp
theorem AF:∀{ps:Qw (Int×D)}{us:Qw Int}{g:Int->D},∃h:Int->D,gS (ps.map λp=>((.inl p.1:Key),p.2)) (us.map .inl) (us.map g)=((unI us (ps.map (·.1))).map .inl,(unI us (ps.map (·.1))).map h)/\(∀k,(∀v,(k,v)∉ps)->h k=g k)/\∀k v,(k,v)∈ps->(∀v',(k,v')∈ps->v'=v)->h k=v
 |[],us,g=>⟨g,rfl,λ_ _=>rfl,λ_ _ h=>nomatch h⟩
 |(n,d)::ps,us,g=>by
  let⟨h,h1,h2,h3⟩:=AF (ps:=ps) (us:=eW n us) (g:=λk=>if k=n then d else g k)
  refine⟨h,?_,λk hk=>?_,λk v hk hu=>?_⟩
  ·show gS _ (aC (.inl n:Key) _) (bB (.inl n:Key) d _ _)=_
   rw[xo,zL,h1];rfl
  ·rw[h2 k λv hv=>hk v (by simp[hv]),if_neg λz=>hk d (by simp[z])]
  grind
theorem rZ:∀{ps:Qw (Int×D)},cH (ps.map λp=>D.tup [.int p.1,p.2])=U (ps.map λp=>((.inl p.1:Key),p.2))
 |[]=>rfl
 |p::ps=>by
  show(match oj (.tup [.int p.1,p.2]),cH (ps.map λp=>D.tup [.int p.1,p.2])with|some p,U ps=>U (p::ps)|_,_=>B)=_
  rw[rZ];rfl
def xH (ps:Qw (Int×D)) (hl:ps.length<=1000):∃h:Int->D,bv (U (.lst (ps.map λp=>D.tup [.int p.1,p.2])))=U (dI (unI [] (ps.map (·.1))) h)/\∀k v,(k,v)∈ps->(∀v',(k,v')∈ps->v'=v)->h k=v:=by
 let⟨h,h1,_,h3⟩:=AF (ps:=ps) (us:=[]) (g:=λ_=>.non)
 refine⟨h,?_,h3⟩
 unfold bv;simp![rZ];rw[if_pos (by simp;lia)]
 rw[show([]:Qw Key)=([]:Qw Int).map .inl from rfl,show([]:Qw D)=([]:Qw Int).map (λ_=>D.non) from rfl,h1];rfl
def CN {us:Qw Int}{g:Int->D}(nd:us.Nodup) (hl:us.length<=1000):bv (U (.lst (us.map λn=>D.tup [.int n,g n])))=U (dI us g):=by
 let⟨h,h1,h2⟩:=xH (us.map λn=>(n,g n)) (by simpa using hl)
 rw[Ix,Ix,show((λp:Int×D=>p.1) ∘ λn=>(n,g n))=id from rfl,List.map_id,CE (by trivial)]at h1
 refine h1.trans (congrArg U ?_)
 exact eV λn hn=>h2 n _ (mt.mpr ⟨n,hn,rfl⟩) λv' hv=>by
  grind
theorem Bh:∀{vs us:Qw Int}{g h:Int->D},vs.Nodup->cp (vs.map .inl) (vs.map h) (us.map .inl) (us.map g)=((unI us vs).map .inl,(unI us vs).map λk=>if k∈vs then h k else g k)
 |[],us,g,h,_=>by rfl
 |v::vs,us,g,h,nd=>by
  rw[J8]at nd;show cp _ _ (aC (.inl v:Key) _) (bB (.inl v:Key) (h v) _ _)=_;rw[xo,zL,Bh nd.2];refine Pq rfl ?_
  refine Jj λk _=>?_
  by_cases e:k=v
  ·subst e;simp[nd.1]
  ·simp[e]
def Fb (nd:vs.Nodup) (hl:us.length+vs.length<=1000):B5 (U (dI us g)) (U (dI vs h))=U (dI (unI us vs) λk=>if k∈vs then h k else g k):=by
 show(if(us.map Nv).length+(vs.map Nv).length<=lim then U (D.dK (cp (vs.map .inl) (vs.map h) (us.map .inl) (us.map g)).1 (cp (vs.map .inl) (vs.map h) (us.map .inl) (us.map g)).2) else B)=_
 rw[if_pos (by simp;lia),Bh nd];rfl
def m5:d8 (U (dI us g))=U (us.map λn=>D.tup [.int n,g n]):=by
 show U (LA _ ((us.map Nv).map kD) (us.map g))=_;congr 1
 induction us with
 |nil=>rfl
 |cons n us ih=>simp![HP,List.zipWith_cons_cons,ih];rfl
def vn:jF (U (dI us g))=U (us.map D.int):=by
 show U ((us.map Nv).map kD)=_;rw[Ix];rfl
def l6:fq (U (dI us g))=U (.lst (us.map D.int)):=by
 show U (D.lst ((us.map Nv).map kD))=_;rw[Ix];rfl
theorem EU:eY (U (dI us g))=U (us.map g):=rfl
end
end K22
namespace K22
open PySem L2 JP
variable[Md]
def bl (rs:Qw Row):Qw Int:=Classical.choose (Ej (f:=D.int) (λ_ _=>D.int.inj) (rs.flatMap λq=>bls q.2))
def Zr (rs:Qw Row):Prop:=rs.length<=12/\∀q∈rs,q.2.length<=4
def gQ (rs:Qw Row):aY (L2.G.uniqD ((rs.flatMap λq=>bls q.2).map D.int))=(bl rs).map D.int/\(bl rs).Nodup/\(∀n,n∈bl rs↔∃q∈rs,Ce.bk n∈q.2)/\(bl rs).length<=(rs.flatMap λq=>bls q.2).length:=by
 let⟨h1,h2,h3,h4⟩:=Classical.choose_spec (Ej (f:=D.int) (λ_ _=>D.int.inj) (rs.flatMap λq=>bls q.2))
 exact⟨h1,h2,λn=>(h3 n).trans (by simp[qao,jQ]),h4⟩
def jZ (rs:Qw Row):(bl rs).Nodup:=(gQ rs).2.1
def cV {rs:Qw Row}{n:Int}:n∈bl rs↔∃q∈rs,Ce.bk n∈q.2:=(gQ rs).2.2.1 n
def Bp {rs:Qw Row}(z:Zr rs):(rs.flatMap λq=>bls q.2).length<=48:=by
 have:=me (xs:=rs) (h:=λq:Row=>bls q.2) (k:=4) λq hq=>Ja (lY q.2) (z.2 q hq)
 have:=z.1;lia
def vQ {rs:Qw Row}(z:Zr rs):(bl rs).length<=48:=Ja (gQ rs).2.2.2 (Bp z)
def GQ {rs:Qw Row}(z:Zr rs):zA3 [.lst (rs.map rowD)]=U (.lst ((bl rs).map D.int),V):=by
 let hl:=Bp z;let⟨y,e⟩:=sN (γ:=Qq (D×Bool)×Qq (D×Bool)) (f:=rowD) (h:=λq:Row=>bls q.2) (xs:=rs) (acc:=[]) (y:=(B,B)) (PA:=60) (body:=λd δ=>ae ((bh (am (af 2) (am (af 3) (toNil)))) d δ) gH) (E:=λacc y=>[U (.lst (rs.map rowD),Y),U (.lst (acc.map D.int),V),y.1,y.2,B]) (by rw[Ku];lia) λq hq acc y hb=>by
  have:=z.2 q hq;refine⟨(U (.str q.1,Y),U (.tup (q.2.map ceD),Y)),az rfl ?_⟩
  rw[Ip];exact Hc (i5 (ds:=q.2.map ceD) rfl (by simp;lia) rfl (vr q.2) (by simp;lia)) rfl (by simp;lia)
 rw[Oi]at e;exact opn rfl (stF (d:=.lst []) (lstO_s _ (by simp)) (stN e (rF ((EX (λ_=>rfl) (λ_=>rfl) (λ_=>rfl) (gR (λ_=>rfl) λ_ _=>rfl) (by lia)).trans (by rw[(gQ rs).1])))))
def blG {x:Qq D}{rs:Qw Row}(h:x=U (.lst (rs.map rowD))) (z:Zr rs):frO (ae (aa x (U [])) zA3)=U (.lst ((bl rs).map D.int)):=by
 subst h;rw[consO_s,bindO_s,GQ z];rfl
theorem cmM {α:Type}{f g:α->D}{F:D->Qq (Qq D)}:∀{xs:Qw α},(∀x∈xs,F (f x)=U (U (g x)))->bD F (xs.map f)=U (xs.map g)
 |[],_=>rfl
 |x::xs,h=>by rw[HP];unfold bD;rw[h x (by simp),cmM λy hy=>h y (by simp[hy])];rfl
theorem cmF {α:Type}{f g:α->D}{p:α->Bool}{F:D->Qq (Qq D)}:∀{xs:Qw α},(∀x∈xs,F (f x)=U (if p x=V then U (g x) else B))->bD F (xs.map f)=U ((xs.filter p).map g)
 |[],_=>rfl
 |x::xs,h=>by
  rw[HP];unfold bD;rw[h x (by simp),cmF λy hy=>h y (by simp[hy])]
  by_cases e:p x=V
  ·simp[e]
  ·simp[e]
def obD (P:Pt):D:=.ob "Painted" ["rows","colours"] [.lst (P.rows.map rowD),dI P.ks λn=>.int (P.c n)]
def sub (P:Pt) (K:Qw Row):Pt:=⟨K,bl K,P.c⟩
def Hu {x y:Qq D}{a:Qw D}{us:Qw Int}{g:Int->D}(h:x=U (.lst a)) (h':y=U (dI us g)):Aq "Painted" zA5 (aa x (aa y (U [])))=U (.ob "Painted" ["rows","colours"] [.lst a,dI us g]):=by
 subst h h';rfl
def qQ {x:Qq D}{us:Qw Int}{g:Int->D}(h:x=U (.lst (us.map λn=>D.tup [.int n,g n]))) (nd:us.Nodup) (hl:us.length<=1000):bv x=U (dI us g):=by subst h;exact CN nd hl
def Bb {x y:Qq D}{us:Qw Int}{g:Int->D}{n:Int}(h:x=U (dI us g)) (h':y=U (.int n)) (e:n∈us):cM x y=U (g n):=by subst h h';exact p7 e
def iN {x:Qq D}{ds:Qw D}(h:x=U (.lst ds)):dj x=U ds:=by subst h;rfl
def tF {P:Pt}{K:Qw Row}(z:Zr K) (h:∀n∈bl K,n∈P.ks):zD9 [obD P,.lst (K.map rowD)]=U (obD (sub P K),V):=by
 let hl:=vQ z;exact opn rfl (rF (Hu (g:=λn=>.int (P.c n)) rfl (qQ (us:=bl K) (i5 (ds:=(bl K).map D.int) (iN (blG rfl z)) (by simp;lia) rfl (cmM λn hn=>itG (lO rfl (Bb (us:=P.ks) (g:=λn=>.int (P.c n)) rfl rfl (h n hn)))) (by simp;lia)) (jZ K) (by lia))))
def cn (l:Qw Int) (k:Int):D:=.int (l.count k)
theorem rV (a0:Qq (D×Bool)):∀(l pre:Qw Int) (x:Qq (D×Bool)),pre.length+l.length<=500->∃y,aq (λd δ=>ae ((af 2) d δ) dg) (l.map D.int) [a0,U (dI (unI [] pre) (cn pre),V),x]=U (.next [a0,U (dI (unI [] (pre++l)) (cn (pre++l)),V),y])
 |[],pre,x,_=>⟨x,by simp[aq]⟩
 |v::l,pre,x,hl=>by
  rw[H3]at hl;let⟨y,h⟩:=rV a0 l (pre++[v]) (U (.int v,Y)) (by simp;lia)
  refine⟨y,?_⟩
  let hk:(unI [] pre).length<=1000:=by have:=o8 (vs:=pre) (us:=[]);simp at this;lia
  let e:ae ((af 2) (.int v) [a0,U (dI (unI [] pre) (cn pre),V),x]) dg=U (.next [a0,U (dI (unI [] (pre++[v])) (cn (pre++[v])),V),U (.int v,Y)]):=by
   let hg:lB (U (dI (unI [] pre) (cn pre))) (U (.int v)) (U (.int 0))=U (.int (pre.count v:Nat)):=by
    rw[CV]
    by_cases z:v∈pre
    ·rw[if_pos (b9.mpr (.inr z))];rfl
    ·rw[if_neg λw=>z ((b9.mp w).elim (λq=>absurd q Je) id),KN z];rfl
   refine az rfl ((CD (i:=1) (us:=unI [] pre) (g:=cn pre) rfl rfl (vT (a:=(pre.count v:Nat)) hg rfl) hk).trans ?_)
   ·show U (Out.next [a0,U (dI (eW v (unI [] pre)) _,V),U (.int v,Y)])=_
    rw[show unI [] (pre++[v])=eW v (unI [] pre) by unfold unI;simp]
    congr 5;refine congrArg (·,V) (eV λk _=>?_)
    unfold cn
    by_cases z:k=v
    ·simp_all
    ·rw[if_neg z,qaI,KN (l:=[v]) (by simpa using z)];rfl
  rw[HP];unfold aq;rw[e];rw[Jg]at h;exact h
def wY {P:Pt}(hl:P.ks.length<=100):zB8 [obD P]=U (dI (unI [] (P.ks.map P.c)) (cn (P.ks.map P.c)),V):=by
 let⟨y,h⟩:=rV (U (obD P,Y)) (P.ks.map P.c) [] B (by simp;lia)
 refine opn rfl (stF (d:=dI [] (cn [])) rfl (stN (az (a:=(P.ks.map P.c).map D.int) ?_ h) rfl))
 show eY (U (dI P.ks λn=>.int (P.c n)))=_
 rw[EU,Ix];rfl
def qk {x:Qq D}{P:Pt}(h:x=U (obD P)) (hl:P.ks.length<=100):frO (ae (aa x (U [])) zB8)=U (dI (unI [] (P.ks.map P.c)) (cn (P.ks.map P.c))):=by
 subst h;rw[consO_s,bindO_s,wY hl];rfl
end K22
namespace K22
open PySem L2 JP
variable[Md]
section
variable{P Q:Pt}{n:Int}
def nR (hn:n∈P.ks) (hl:P.ks.length<=100):zD6 [obD P,.int n]=U (obD (mark P n),V):=by
 refine opn rfl (stF (d:=dI P.ks λm=>.int (P.c m)) rfl (stN (CD (i:=2) (us:=P.ks) (g:=λm=>.int (P.c m)) (n:=n) (d:=.int (-1)) rfl rfl rfl (by lia)) (rF ?_)))
 let e:dI (eW n P.ks) (λk=>if k=n then D.int (-1) else .int (P.c k))=dI (mark P n).ks λm=>.int ((mark P n).c m):=by
  rw[show eW n P.ks=P.ks from if_pos hn]
  refine eV λk _=>?_
  simp![mark];split<;>rfl
 rw[e];rfl
theorem oK {α:Type}{f:α->D}{k:α->Bool×Int}{fk:D->Qq D}:∀{xs:Qw α},(∀x∈xs,fk (f x)=U (.tup [.bl (k x).1,.int (k x).2]))->jc fk (xs.map f)=U (xs.map k)
 |[],_=>rfl
 |x::xs,h=>by
  rw[HP];unfold jc;rw[h x (by simp),oK λy hy=>h y (by simp[hy])];rfl
def F6 {x y:Bool×Int}(h:ltB x y=V) (e:y.1=Y):x.1=Y:=by
 unfold ltB at h;rw[e]at h;split at h
 ·assumption
 ·simp at h
nonrec theorem Gn {x y:Bool×Int}(h:¬ltB x y=V) (e:x.1=Y):y.1=Y:=by
 unfold ltB at h;rw[e]at h;split at h
 ·rename_i w;exact w.symm
 ·simpa using h
nonrec theorem lg {ks:Qw (Bool×Int)}:∀{k:Nat},(∃j,j<=k/\(ks.getD j (Y,0)).1=Y)->(ks.getD (argBest (btB ks) k) (Y,0)).1=Y
 |0,⟨j,hj,e⟩=>by
  obtain rfl:j=0:=by lia
  exact e
 |k+1,⟨j,hj,e⟩=>by
  simp![argBest]
  rcases NU j (k+1)with z|z
  ·let ih:=lg (ks:=ks) (k:=k) ⟨j,by lia,e⟩
   split
   ·rename_i h;exact F6 h ih
   ·exact ih
  ·obtain rfl:j=k+1:=by lia
   split
   ·exact e
   ·rename_i h;exact Gn h e
theorem vV (bt:Nat->Nat->Bool):∀k,argBest bt k<=k
 |0=>HQ _
 |k+1=>by simp![argBest];split;exact HQ _;exact Nat.le_succ_of_le (vV bt k)
def GR {x:Qq D}{fk:D->Qq D}{xs:Qw Int}{ks:Qw (Bool×Int)}(h:x=U (.lst (xs.map D.int))) (e:jc fk (xs.map D.int)=U ks) (hp:0<xs.length) (hb:argBest (btB ks) (xs.length - 1)<xs.length):xE x fk=U (.int xs[argBest (btB ks) (xs.length - 1)]):=by
 subst h;unfold xE
 simp_all
def wd (c:Int):zE6 [.int c]=U (.tup [.bl (decide (c=1)),.int c],Y):=opn rfl (rO (lO (congrArg ofB (eqO_int c 1)) rfl))
def vW (w:Wf P) (hl:P.ks.length<=100) (h0:P.ks≠[]):∃n∈P.ks,zC6 [obD P]=U (.int n,Y)/\((∃m,aM P m)->aM P n):=by
 let hp:=qam.mpr h0;let hb:argBest (btB (P.ks.map λn=>(decide (((P.ks.map P.c).count (P.c n):Int)=1),((P.ks.map P.c).count (P.c n):Int)))) (P.ks.length - 1)<P.ks.length:=Nat.lt_of_le_of_lt (vV _ _) (by lia)
 refine⟨P.ks[argBest (btB (P.ks.map λn=>(decide (((P.ks.map P.c).count (P.c n):Int)=1),((P.ks.map P.c).count (P.c n):Int)))) (P.ks.length - 1)],JR hb,opn rfl (stO (qk rfl hl) (rO ?_)),λ⟨m,hm⟩=>?_⟩
 ·let e:jc (F3 2 [V,V,Y] cZ [U (obD P,Y),U (dI (unI [] (P.ks.map P.c)) (cn (P.ks.map P.c)),Y),B]) (P.ks.map D.int)=U (P.ks.map λn=>(decide (((P.ks.map P.c).count (P.c n):Int)=1),((P.ks.map P.c).count (P.c n):Int))):=oK λn hn=>by
   refine az rfl (shG (b:=Y) ?_)
   have:cM (U (dI (unI [] (P.ks.map P.c)) (cn (P.ks.map P.c)))) (cM (U (dI P.ks λn=>.int (P.c n))) (U (.int n)))=U (.int ((P.ks.map P.c).count (P.c n):Nat)):=by
    exact Bb (g:=cn (P.ks.map P.c)) rfl (Bb (g:=λn=>.int (P.c n)) rfl rfl hn) (b9.mpr (.inr (H4 hn)))
   refine az (a:=[.int ((P.ks.map P.c).count (P.c n):Nat)]) ?_ (wd _)
   exact(congrArg (λx=>aa x (U [])) this).trans rfl
  exact GR l6 e hp hb
 ·let⟨j,hj,rfl⟩:=Nw hm.1
  let hc:=ba w.nk (JR hb);let hj1:¬(P.ks.map P.c).count (P.c P.ks[j])=1:=λz=>by
   have:=(ba w.nk hm.1).mp z;let⟨_,m',h1,h2,h3⟩:=hm;exact h3 (this m' h1 h2)
  have:=lg (ks:=P.ks.map λn=>(decide (((P.ks.map P.c).count (P.c n):Int)=1),((P.ks.map P.c).count (P.c n):Int))) (k:=P.ks.length - 1) ⟨j,by lia,by
   rw[J3,H8,JE hj]
   exact decide_eq_false λz=>hj1 (by lia)⟩
  rw[J3,H8,JE hb]at this
  let hn:¬(P.ks.map P.c).count (P.c (P.ks[argBest (btB (P.ks.map λn=>(decide (((P.ks.map P.c).count (P.c n):Int)=1),((P.ks.map P.c).count (P.c n):Int)))) (P.ks.length - 1)]))=1:=λz=>of_decide_eq_false this (by rw[z];rfl)
  exact(bw (JR hb)).resolve_left λz=>hn (hc.mpr z.2)
def qB (w:Wf P) (wq:Wf Q) (hl:P.ks.length<=100) (hq:Q.ks.length<=100) (hc:(P.ks.map P.c).Perm (Q.ks.map Q.c)):∃(vs:Qw Int) (g:Int->Int),zB9 [obD P,obD Q]=U (dI vs λn=>.int (g n),V)/\vs.Nodup/\(∀n,n∈vs↔iL P n)/\∀n∈vs,g n∈Q.ks/\Q.c (g n)=P.c n:=by
 let⟨h,h1,h2⟩:=xH (Q.ks.map λn=>(Q.c n,.int n)) (by simp;lia)
 rw[Ix,Ix]at h1;let one:∀n∈P.ks,(∀m∈P.ks,P.c m=P.c n->m=n)->∃m∈Q.ks,Q.c m=P.c n/\h (P.c n)=.int m:=λn hn hu=>by
  let e:=(ba w.nk hn).mpr hu;let⟨m,hm,em⟩:=mt.mp (hc.mem_iff.mp (H4 (f:=P.c) hn));refine⟨m,hm,em,h2 _ _ (mt.mpr ⟨m,hm,by rw[em]⟩) λv' hv=>?_⟩
  let⟨m',hm',e'⟩:=mt.mp hv;injection e' with e1 e2
  rw[<-e2,(ba wq.nk hm).mp (by rw[em,<-hc.count_eq];exact e) m' hm' (e1.trans em.symm)]
 letI p:Int->Bool:=λn=>decide ((P.ks.map P.c).count (P.c n)=1)
 let hp:∀n∈P.ks.filter p,n∈P.ks/\∀m∈P.ks,P.c m=P.c n->m=n:=λn hn=>by
  let⟨h1,h2⟩:=qaf.mp hn;exact⟨h1,(ba w.nk h1).mp (of_decide_eq_true h2)⟩
 letI g:Int->Int:=λn=>match h (P.c n)with|.int m=>m|_=>0
 let hg:∀n∈P.ks.filter p,h (P.c n)=.int (g n)/\g n∈Q.ks/\Q.c (g n)=P.c n:=λn hn=>by
  let⟨a,b⟩:=hp n hn;let⟨m,m1,m2,m3⟩:=one n a b;have:g n=m:=by show(match h (P.c n)with|.int m=>m|_=>0)=m;rw[m3]
  rw[this];exact⟨m3,m1,m2⟩
 refine⟨P.ks.filter p,g,opn rfl (stO (qk rfl hl) (stO (d:=dI (unI [] (Q.ks.map Q.c)) h) ?_ (rF (qQ (us:=P.ks.filter p) (g:=λn=>.int (g n)) (i5 (ds:=P.ks.map λn=>D.tup [.int n,.int (P.c n)]) (m5 (us:=P.ks) (g:=λn=>.int (P.c n))) (by simp;lia) rfl (cmF (p:=p) (g:=λn=>D.tup [.int n,.int (g n)]) λn hn=>?_) (by have:=JC p P.ks;simp;lia)) (w.nk.filter _) (by have:=JC p P.ks;lia))))),w.nk.filter _,λn=>?_,λn hn=>(hg n hn).2⟩
 ·refine O0 (congrArg bv (i5 (ds:=Q.ks.map λn=>D.tup [.int n,.int (Q.c n)]) (m5 (us:=Q.ks) (g:=λn=>.int (Q.c n))) (by simp;lia) rfl (cmM (g:=λn=>D.tup [.int (Q.c n),.int n]) λn hn=>?_) (by simp;lia))) h1
  rfl
 ·let e:cM (U (dI (unI [] (P.ks.map P.c)) (cn (P.ks.map P.c)))) (U (.int (P.c n)))=U (.int ((P.ks.map P.c).count (P.c n):Nat)):=p7 (b9.mpr (.inr (H4 hn)))
  show(match eqO (cM (U (dI (unI [] (P.ks.map P.c)) (cn (P.ks.map P.c)))) (U (.int (P.c n)))) (U (.int 1))with|some V=>(match dh (aa (U (.int n)) (aa (cM (U (dI (unI [] (Q.ks.map Q.c)) h)) (U (.int (P.c n)))) (U [])))with|some y=>U (U y)|none=>B)|some Y=>U B|none=>B)=_
  rw[e,eqO_int]
  by_cases z:p n=V
  ·let z':=of_decide_eq_true z
   let hn':=qaf.mpr ⟨hn,z⟩;rw[p7 (b9.mpr (.inr (hc.mem_iff.mp (H4 (f:=P.c) hn)))),(hg n hn').1,decide_eq_true (by lia),if_pos z]
   rfl
  ·let z':¬(P.ks.map P.c).count (P.c n)=1:=λy=>z (decide_eq_true y)
   rw[decide_eq_false (by lia),if_neg z]
 ·rw[L6]
  exact⟨λ⟨a,b⟩=>⟨a,(ba w.nk a).mp (of_decide_eq_true b)⟩,λh=>⟨h.1,decide_eq_true ((ba w.nk h.1).mpr h.2)⟩⟩
end
end K22
namespace K22
open PySem L2 JP
variable[Md]
abbrev Vw:=Ih×Qw Sh×Nat
def shD:Sh->D
 |(.inl w,i)=>.tup [.str "name",.str w,.int i]
 |(.inr k,i)=>.tup [.str "blank",.int k,.int i]
def cP (v:Vw):D:=.tup [.str v.1,.tup (v.2.1.map shD),.int v.2.2]
def zA0 (x:Int×Qw Vw):D:=.tup [.int x.1,.tup (aY (x.2.map cP))]
def CJ:∀{a b:Sh},shD a=shD b->a=b:=λ{a b} h=>by
 obtain⟨a|a,i⟩:=a<;>obtain⟨b|b,j⟩:=b<;>simp[shD]at h
 ·rw[h.1,Int.natCast_inj.mp h.2]
 ·rw[h.1,Int.natCast_inj.mp h.2]
def vj {v u:Vw}(h:cP v=cP u):v=u:=by
 let⟨a,b,c⟩:=v;simp![cP,D.tup.injEq,KH,D.str.injEq,D.int.injEq,Int.natCast_inj,and_true]at h;rw[h.1,mQ (f:=shD) (λ_ _=>CJ) h.2.1,h.2.2]
def GW (n:Nat) (a b:Sh):(ltD (n+1) (shD a) (shD b)).isSome=V:=by
 obtain⟨a|a,i⟩:=a<;>obtain⟨b|b,j⟩:=b<;>simp[shD,ltD,dw,bn,nb]<;>(repeat' split)<;>rfl
def Gh (n:Nat) (a:Sh):okD (n+1) (shD a)=V:=by obtain⟨a|a,i⟩:=a<;>simp[shD,okD]
def xU (n:Nat) (v u:Vw):(ltD (n+3) (cP v) (cP u)).isSome=V:=by
 show(dw (ltD (n+2)) _ _).isSome=V;unfold dw;split
 ·unfold dw;split
  ·unfold dw;split<;>rfl
  ·refine fR λx hx y hy=>?_
   let⟨a,_,rfl⟩:=mt.mp hx;let⟨b,_,rfl⟩:=mt.mp hy;exact GW n a b
 ·rfl
def xq (n:Nat) (v:Vw):okD (n+3) (cP v)=V:=by
 show([D.str v.1,.tup (v.2.1.map shD),.int v.2.2].all (okD (n+2)))=V;simp![Iw,Mh,KY,okD,KW,KO,Iz];exact λx _=>Gh n x
def nX (l:Qw Vw):eZ (l.map cP)=V:=gR (λv=>xq 12 v) (λv u=>xU 12 v u) l
def jD {l:Qw Vw}{x:D}(h:x∈aY (l.map cP)):∃v,x=cP v:=by
 let⟨v,_,e⟩:=mt.mp ((ax _).mem_iff.mp h);exact⟨v,e.symm⟩
def B9 (n:Nat) (x y:Int×Qw Vw):(ltD (n+5) (zA0 x) (zA0 y)).isSome=V:=by
 show(dw (ltD (n+4)) _ _).isSome=V;unfold dw;split
 ·unfold dw;split
  ·rfl
  ·refine fR λa ha b hb=>?_
   let⟨v,rfl⟩:=jD ha;let⟨u,rfl⟩:=jD hb;exact xU n v u
 ·rfl
def xc (n:Nat) (x:Int×Qw Vw):okD (n+5) (zA0 x)=V:=by
 show([D.int x.1,.tup (aY (x.2.map cP))].all (okD (n+4)))=V;simp![Iw,Mh,KY,okD,KW,Iz];intro a ha;let⟨v,rfl⟩:=jD ha;exact xq n v
def jC (l:Qw (Int×Qw Vw)):eZ (l.map zA0)=V:=gR (λv=>xc 10 v) (λv u=>B9 10 v u) l
def wQ {l m:Qw D}(hc:eZ l=V) (h:l.Perm m):aY l=aY m:=by
 let hm:eZ m=V:=by
  unfold eZ at hc⊢;rw[Iz]at hc⊢;intro x hx;have:=hc x (h.mem_iff.mpr hx);rw[HW,Iz]at this⊢;exact⟨this.1,λy hy=>this.2 y (h.mem_iff.mpr hy)⟩
 exact cY hc _ _ (λy hy=>(ax l).mem_iff.mp hy) (((ax l).trans h).trans (ax m).symm) (bp hc) (bp hm)
def aZ {x y:Int×Qw Vw}:zA0 x=zA0 y↔SL x y:=by
 constructor
 ·intro h
  simp![zA0,D.tup.injEq,KH,D.int.injEq,and_true]at h;refine⟨h.1,?_⟩
  have:=((ax (x.2.map cP)).symm.trans (.of_eq h.2)).trans (ax _);let⟨gs,h1,h2⟩:=eS this;rw[mQ (f:=cP) (λ_ _=>vj) h2];exact h1
 ·intro h
  unfold zA0;rw[h.1,wQ (nX _) (h.2.map cP)]
def jd (x:Int×Qw Vw):cT 8 (zA0 x)=V:=by
 show([D.int x.1,.tup (aY (x.2.map cP))].all (cT 7))=V;simp![Iw,Mh,KY,cT,KW,Iz];intro a ha;let⟨v,rfl⟩:=jD ha;show([D.str v.1,.tup (v.2.1.map shD),.int v.2.2].all (cT 5))=V;simp![Iw,Mh,KY,cT,KW,KO,Iz];intro s _;obtain⟨s|s,i⟩:=s<;>rfl
def Du (a:Sh):(shD a).flat=V:=by obtain⟨a|a,i⟩:=a<;>rfl
def xB (x:Int×Qw Vw):(zA0 x).flat=V:=by
 show(V&&(D.flats (aY (x.2.map cP))&&V))=V;rw[KW,KY,D.flats_all,Iz];intro a ha;let⟨v,rfl⟩:=jD ha;show(V&&(D.flats (v.2.1.map shD)&&(V&&V)))=V;rw[D.flats_all,KO,show((D.flat ∘ shD)=λ_=>V) from funext Du];simp
def qS (l:Qw (Int×Qw Vw)):D.flats (l.map zA0)=V:=by
 rw[D.flats_all,KO,show((D.flat ∘ zA0)=λ_=>V) from funext xB];simp
def zH {P:Pt}(cells:Qw Ce) (x:Ce) (h:∀n,x=.bk n->n∈P.ks):zF6 [ceD x,.int (cells.idxOf x:Nat),dI P.ks λn=>.int (P.c n)]=U (shD (sh P.c cells x),Y):=by
 cases x with
 |nm w=>rfl
 |bk m=>
  refine opn rfl (rO (Ht (a:=.str "blank") rfl ?_ rfl))
  exact p7 (us:=P.ks) (g:=λn=>.int (P.c n)) (h m rfl)
def Cu {cells:Qw Ce}{x:Ce}(h:x∈cells):wN (U (.tup (cells.map ceD))) (U (ceD x))=U (.int (cells.idxOf x:Nat)):=by
 show(if okD 16 (ceD x)=V/\(cells.map ceD).all (okD 16)=V/\(cells.map ceD).idxOf (ceD x)<(cells.map ceD).length then U (D.int ((cells.map ceD).idxOf (ceD x):Nat)) else B)=_
 rw[if_pos ⟨tL x,dr tL cells,qat.mpr (H4 h)⟩,qm λy _ e=>mh e]
def Hi {a b:Qq D}{cells:Qw Ce}{x:Ce}(h:a=U (.tup (cells.map ceD))) (h':b=U (ceD x)) (hx:x∈cells):wN a b=U (.int (cells.idxOf x:Nat)):=by subst h h';exact Cu hx
end K22
namespace K22
open PySem L2 JP
variable[Md]
def dLI (us:Qw Int) (g:Int->Qw D):D:=.dL (us.map .inl) (us.map λn=>.lst (g n))
def fS {us:Qw Int}{g h:Int->Qw D}(e:∀n∈us,g n=h n):dLI us g=dLI us h:=by
 unfold dLI;simp_all
def wT {us:Qw Int}{g:Int->Qw D}{n:Int}{d:D}{δ:DEnv}{i:Nat}{x y:Qq D}(h:δ[i]?=U (U (dLI us g,V))) (hx:x=U (.int n)) (hy:y=U d) (hn:n∈us) (hl:(g n).length<=1000):ky i x y δ=U (.next (δ.set i (U (dLI us (λk=>if k=n then g n++[d] else g k),V)))):=by
 subst hx hy;let hz:(g n).length<lim:=by simp;lia
 unfold ky;rw[h];simp![dLI,gG,rg (g:=λn=>D.lst (g n)),if_pos hn,if_pos hz,zL,show eW n us=us from if_pos hn]
 congr 6;exact Jj λk _=>by split<;>rfl
theorem w0:∀us:Qw Int,tA (us.map D.int)=U (us.map .inl)
 |[]=>rfl
 |n::us=>by rw[HP];unfold tA;rw[w0 us];rfl
def DQ {us:Qw Int}{δ:DEnv}{i:Nat}{x:Qq (Qw D)}(h:x=U (us.map D.int)) (nd:us.Nodup) (hl:us.length<=1000) (hi:MW i δ.length=V:=by rfl):uX i x δ=U (.next (δ.set i (U (dLI us λ_=>[],V)))):=by
 subst h;unfold uX;simp![w0];rw[if_pos ⟨aR (λa _ b _ e=>by injection e) nd,by simp_all,by simp;lia⟩,Ix]
 rfl
def tS {x:Qq D}{y:Qq (Qw D)}{d:D}{ds:Qw D}(h:x=U d) (h':y=U ds):aa x y=U (d::ds):=by subst h h';rfl
def Hn {bo:Bool}{bs:Qw Bool}{τ:D->DEnv->Qq DEnv}{ft:DEnv->Qq Bool}{fe:DEnv->Qq D}{δ ε:DEnv}{x:Qq (Qw D)}{ds es:Qw D}(hx:x=U ds) (hl:ds.length<=1000) (hm:cx bo bs δ=ε) (h:bD (cw τ ft fe ε) ds=U es):ae x (bA bo bs τ ft fe δ)=U es:=by
 subst hx hm;rw[bindO_s,sD (by simp;lia),h]
theorem kU {us:Qw Int}{r:Row}{c:Int->Int}(a0 y:Qq (D×Bool)):∀(l:Qw Int) (g:Int->Qw D) (x:Qq (D×Bool)),l.Nodup->(∀n∈l,n∈us/\Ce.bk n∈r.2)->(∀n∈l,(g n).length<=900)->∃x',aq (λd δ=>ae ((af 4) d δ) dW) (l.map D.int) [a0,U (dLI us g,V),U (rowD r,Y),U (.tup ((r.2.map (sh c r.2)).map shD),Y),x,y]=U (.next [a0,U (dLI us (λk=>if k∈l then g k++[cP (view c r k)] else g k),V),U (rowD r,Y),U (.tup ((r.2.map (sh c r.2)).map shD),Y),x',y])
 |[],g,x,_,_,_=>⟨x,by rfl⟩
 |n::l,g,x,nd,h,hl=>by
  rw[J8]at nd;let e:ae ((af 4) (.int n) [a0,U (dLI us g,V),U (rowD r,Y),U (.tup ((r.2.map (sh c r.2)).map shD),Y),x,y]) dW=U (.next [a0,U (dLI us (λk=>if k=n then g n++[cP (view c r n)] else g k),V),U (rowD r,Y),U (.tup ((r.2.map (sh c r.2)).map shD),Y),U (.int n,Y),y]):=by
   refine az rfl (wT (us:=us) (g:=g) (n:=n) rfl rfl (Ht (a:=.str r.1) rfl rfl (Hi (x:=.bk n) (cells:=r.2) rfl rfl (h n (by simp)).2)) (h n (by simp)).1 (by have:=hl n (by simp);lia))
  let⟨x',e2⟩:=kU a0 y l (λk=>if k=n then g n++[cP (view c r n)] else g k) (U (.int n,Y)) nd.2 (λk hk=>h k (by simp[hk])) λk hk=>by
   rw[if_neg λz:k=n=>nd.1 (z▸hk)];exact hl k (by simp[hk])
  refine⟨x',?_⟩
  rw[HP];unfold aq;rw[e];dsimp only;rw[e2];congr 6;refine fS λk _=>?_
  by_cases z:k=n
  ·simp;lia
  ·by_cases z2:k∈l<;>simp[z,z2]
def vw (c:Int->Int) (pre:Qw Row) (n:Int):Qw D:=((pre.filter λr=>decide (Ce.bk n∈r.2)).map λr=>view c r n).map cP
def D9 {c:Int->Int}{pre:Qw Row}{n:Int}:(vw c pre n).length<=pre.length:=by
 unfold vw;rw[HT,HT];exact JC _ _
theorem nP {P:Pt}(hc:∀r∈P.rows,∀n,Ce.bk n∈r.2->n∈P.ks):∀(l pre:Qw Row) (x y z:Qq (D×Bool)),(∀r∈l,r∈P.rows)->(∀r∈l,r.2.length<=4)->pre.length+l.length<=100->∃x' y' z',aq (λd δ=>ae ((af 2) d δ) dU) (l.map rowD) [U (obD P,Y),U (dLI P.ks (vw P.c pre),V),x,y,z,B]=U (.next [U (obD P,Y),U (dLI P.ks (vw P.c (pre++l)),V),x',y',z',B])
 |[],pre,x,y,z,_,_,_=>⟨x,y,z,by simp[aq]⟩
 |r::l,pre,x,y,z,hr,h4,hl=>by
  rw[H3]at hl;let hrP:=hr r (by simp)
  let h4r:=h4 r (by simp)
  let zr:Zr [r]:=⟨by simp,λq hq=>by rw[on.mp hq];exact h4r⟩
  let mb:∀n,n∈bl [r]↔Ce.bk n∈r.2:=λn=>by rw[cV];simp
  let⟨z1,e1⟩:=kU (us:=P.ks) (r:=r) (c:=P.c) (U (obD P,Y)) B (bl [r]) (vw P.c pre) z (jZ [r]) (λn hn=>⟨hc r hrP n ((mb n).mp hn),(mb n).mp hn⟩) λn _=>by have:=D9 (c:=P.c) (pre:=pre) (n:=n);lia
  let e:ae ((af 2) (rowD r) [U (obD P,Y),U (dLI P.ks (vw P.c pre),V),x,y,z,B]) dU=U (.next [U (obD P,Y),U (dLI P.ks (vw P.c (pre++[r])),V),U (rowD r,Y),U (.tup ((r.2.map (sh P.c r.2)).map shD),Y),z1,B]):=by
   refine az rfl (sqO (d:=.tup ((r.2.map (sh P.c r.2)).map shD)) ?_ (az (a:=(bl [r]).map D.int) (iN (blG (rs:=[r]) rfl zr)) (e1.trans ?_)))
   ·have:ar (ae (yp (U (.tup (r.2.map ceD)))) (bA Y [V,Y,V,Y,Y,Y] (af 5) (λδ=>U V) hV [U (obD P,Y),U (dLI P.ks (vw P.c pre),V),U (rowD r,Y),y,z,B]))=U (.lst (r.2.map λx=>shD (sh P.c r.2 x))):=
     i5 (ds:=r.2.map ceD) rfl (by simp;lia) rfl (cmM λx hx=>itG (shG (b:=Y) (az (a:=[ceD x,.int (r.2.idxOf x:Nat),dI P.ks λn=>.int (P.c n)]) (tS rfl (tS (Hi (x:=x) (cells:=r.2) rfl rfl hx) (tS rfl rfl))) (zH r.2 x λn e=>hc r hrP n (e▸hx))))) (by simp;lia)
    rw[Ix];exact congrArg hY this
   ·congr 6
    refine fS λk _=>?_
    unfold vw;rw[qaJ,Ip,Ip]
    by_cases w:Ce.bk k∈r.2
    ·simp_all
    ·simp_all
  let⟨x',y',z',e3⟩:=nP hc l (pre++[r]) (U (rowD r,Y)) (U (.tup ((r.2.map (sh P.c r.2)).map shD),Y)) z1 (λq hq=>hr q (by simp[hq])) (λq hq=>h4 q (by simp[hq])) (by simp;lia)
  refine⟨x',y',z',?_⟩
  rw[HP];unfold aq;rw[e];rw[Jg]at e3;exact e3
def yB {P:Pt}(w:Wf P) (z:Zr P.rows) (hl:P.ks.length<=100):zD0 [obD P]=U (dI P.ks λn=>zA0 (cC P n),V):=by
 let⟨x,y,u,e⟩:=nP (P:=P) (λr hr n hn=>w.row hr hn) P.rows [] B B B (λ_ h=>h) z.2 (by have:=z.1;simp;lia)
 refine opn rfl (stN (DQ (us:=P.ks) (Hn (ds:=P.ks.map D.int) (vn (us:=P.ks) (g:=λn=>.int (P.c n))) (by simp;lia) rfl (cmM λn _=>itG rfl)) w.nk (by lia)) (stN (az (a:=P.rows.map rowD) rfl e) (rF (qQ (us:=P.ks) (i5 (ds:=P.ks.map D.int) (vn (us:=P.ks) (g:=λn=>.lst (vw P.c ([]++P.rows) n))) (by simp;lia) rfl (cmM λn hn=>itG (lO rfl (lO (p7 (us:=P.ks) (g:=λn=>.int (P.c n)) hn) ?_))) (by simp;lia)) w.nk (by lia)))))
 let e1:cM (U (dI P.ks λn=>.lst (vw P.c ([]++P.rows) n))) (U (.int n))=U (.lst ((tX P n).map cP)):=p7 hn
 refine(congrArg (λx=>hY (dF .ts x)) e1).trans ?_
 rw[fZ (nX _) (.inr (dr (λ_=>rfl) _))];rfl
end K22
namespace K22
open PySem L2 JP
variable[Md]
theorem uR:∀(ps:Qw (D×D)) (ks vs:Qw D),(ks++ps.map (·.1)).Nodup->l8 ks vs ps=(ks++ps.map (·.1),vs++ps.map (·.2))
 |[],ks,vs,_=>by simp[l8]
 |p::ps,ks,vs,h=>by
  let hn:p.1∉ks:=λz=>by grind
  show l8 (aC p.1 ks) (bB p.1 p.2 ks vs) ps=_;unfold aC bB;rw[if_neg hn,if_neg hn,uR ps _ _ (by simpa using h)]
  simp
theorem oC {α:Type}{kf vf:α->D}(hk:∀q,(cT 8 (kf q)&&xN (kf q))=V):∀qs:Qw α,gY (qs.map λq=>.tup [kf q,vf q])=U (qs.map λq=>(kf q,vf q))
 |[]=>rfl
 |q::qs=>by
  rw[HP];unfold gY sP;rw[oC hk qs]
  simp_all
def zF {α:Type}{kf vf:α->D}(qs:Qw α) (hk:∀q,(cT 8 (kf q)&&xN (kf q))=V) (nd:(qs.map kf).Nodup) (hl:qs.length<1000):kN (U (.lst (qs.map λq=>.tup [kf q,vf q])))=U (.dD (qs.map kf) (qs.map vf)):=by
 unfold kN;simp![oC hk];rw[if_pos (by simp;lia),uR _ [] [] (by simpa[Pp]using nd)]
 simp[Pp]
abbrev Lk:=Int×Qw Vw
def yc (us:Qw Lk):D:=.dD (us.zipIdx.map λq=>zA0 q.1) (us.zipIdx.map λq=>.int (q.2:Nat))
theorem AK (d:D):∀(us:Qw Lk) (k:Nat),aP d ((us.zipIdx k).map λq=>zA0 q.1) ((us.zipIdx k).map λq=>D.int (q.2:Nat))=if d∈us.map zA0 then U (.int ((k+(us.map zA0).idxOf d:Nat):Int)) else B
 |[],_=>rfl
 |u::us,k=>by
  rw[N2,HP,HP,HP];unfold aP;rw[Ol]
  by_cases e:zA0 u=d
  ·rw[if_pos e,if_pos (by rw[e];exact .head _),beq_iff_eq.mpr e];rfl
  ·rw[if_neg e,AK d us (k+1),beq_eq_false_iff_ne.mpr e]
   grind
def cf (us:Qw Lk) (x:Lk):Int:=((us.map zA0).idxOf (zA0 x):Nat)
def xO {us:Qw Lk}{x:Lk}(h:zA0 x∈us.map zA0):cM (U (yc us)) (U (zA0 x))=U (.int (cf us x)):=by
 unfold cM mU yc;simp![jd,KW,show xN (zA0 x)=V from rfl,if_true,AK,if_pos h,KS]
 rfl
theorem sJ:∀(us:Qw Lk) (k:Nat),mY k (us.map zA0)=(us.zipIdx k).map λq=>D.tup [.int (q.2:Nat),zA0 q.1]
 |[],_=>rfl
 |u::us,k=>by
  rw[N2,HP,HP];show D.tup [.int k,zA0 u]::mY (k+1) (us.map zA0)=_;rw[sJ us (k+1)]
def lks (P:Pt):Qw Lk:=P.ks.map (cC P)
def rf (us:Qw Lk) (P:Pt):Pt:={P with c:=λn=>cf us (cC P n)}
def E (k:Int) (x3 x4 x5 x6:Qq (D×Bool)) (P Q:Pt):DEnv:=[U (.loc (U "Painted") 10,V),U (.loc (U "Painted") 11,V),U (.int k,Y),x3,x4,x5,x6,B,B,B,U (obD P,V),U (obD Q,V)]
def rq {x:Qq D}{P:Pt}(h:x=U (obD P)) (w:Wf P) (z:Zr P.rows) (hl:P.ks.length<=100):flO (ae (aa x (U [])) zD0)=U (dI P.ks λn=>zA0 (cC P n)):=by
 subst h;rw[consO_s,bindO_s,yB w z hl];show(if D.flats (P.ks.map λn=>zA0 (cC P n))=V then U (dI P.ks λn=>zA0 (cC P n)) else B)=_
 rw[if_pos (by have:=qS (lks P);rwa[lks,Ix]at this)]
def FU {x:Qq D}{P:Pt}(h:x=U (dI P.ks λn=>zA0 (cC P n))):dF .ti (jN (eY x))=U (.lst (aY ((lks P).map zA0))):=by
 subst h;show dF .ti (U (.lst (P.ks.map λn=>zA0 (cC P n))))=_
 rw[show(P.ks.map λn=>zA0 (cC P n))=(lks P).map zA0 by rw[lks,Ix];rfl,fZ (jC _) (.inr (dr (λ_=>rfl) _))]
def sw (l:Qw Lk):okD 16 (.lst (aY (l.map zA0)))=V:=by
 show(aY (l.map zA0)).all (okD 15)=V;rw[Iz];intro x hx;let⟨v,_,e⟩:=mt.mp ((ax _).mem_iff.mp hx);rw[<-e];exact xc 10 v
def GF {x:Qq D}{P:Pt}{us:Qw Lk}(h:x=U (dI P.ks λn=>zA0 (cC P n))) (hu:aY (L2.G.uniqD ((lks P).map zA0))=us.map zA0) (hl:P.ks.length<64):sortSetO .ti Y (jN (eY x))=U (.lst (us.map zA0)):=by
 subst h;show sortSetO .ti Y (U (.lst (P.ks.map λn=>zA0 (cC P n))))=_
 rw[show(P.ks.map λn=>zA0 (cC P n))=(lks P).map zA0 by rw[lks,Ix];rfl,<-hu]
 exact EX (λ_=>rfl) jd (λ_=>rfl) jC (by simp[lks,hl])
def G0 {x:Qq D}{us:Qw Int}{g:Int->D}(h:x=U (dI us g)) (k:Int) (x3 x4 x5 x6:Qq (D×Bool)) (a:Qw D) (b q:D):kB "Painted" "colours" 0 x [U (.loc (U "Painted") 10,V),U (.loc (U "Painted") 11,V),U (.int k,Y),x3,x4,x5,x6,B,B,B,U (.ob "Painted" ["rows","colours"] [.lst a,b],V),U (q,V)]=U (.next [U (.loc (U "Painted") 10,V),U (.loc (U "Painted") 11,V),U (.int k,Y),x3,x4,x5,x6,B,B,B,U (.ob "Painted" ["rows","colours"] [.lst a,dI us g],V),U (q,V)]):=by subst h;rfl
def GY {x:Qq D}{us:Qw Int}{g:Int->D}(h:x=U (dI us g)) (k:Int) (x3 x4 x5 x6:Qq (D×Bool)) (a:Qw D) (b q:D):kB "Painted" "colours" 1 x [U (.loc (U "Painted") 10,V),U (.loc (U "Painted") 11,V),U (.int k,Y),x3,x4,x5,x6,B,B,B,U (q,V),U (.ob "Painted" ["rows","colours"] [.lst a,b],V)]=U (.next [U (.loc (U "Painted") 10,V),U (.loc (U "Painted") 11,V),U (.int k,Y),x3,x4,x5,x6,B,B,B,U (q,V),U (.ob "Painted" ["rows","colours"] [.lst a,dI us g],V)]):=by subst h;rfl
end K22
namespace K22
open PySem L2 JP
variable[Md]
def itP {i j:Nat}{fe:DEnv->Qq D}{ε:DEnv}{a b y:D}(h:fe ((ε.set i (U (a,Y))).set j (U (b,Y)))=U y) (hi:MW i ε.length=V:=by rfl) (hj:MW j ε.length=V:=by rfl):cw (bh (am (af i) (am (af j) toNil))) (λδ=>U V) fe ε (.tup [a,b])=U (U y):=by
 simp![Nat.blt_eq]at hi hj;unfold cw;simp![bh,am,toNil,af,ae,Oj,hi,hj,if_true,h]
def Hz {x:Qq D}{us:Qw Lk}{δ ε:DEnv}(h:x=U (.lst (us.map zA0))) (nd:(us.map zA0).Nodup) (hl:us.length<=100) (hm:cx Y [Y,Y,Y,Y,Y,Y,Y,Y,Y,Y] δ=ε) (he:ε.length=10):kN (ar (ae (vM x) (bA Y [Y,Y,Y,Y,Y,Y,Y,Y,Y,Y] (bh (am (af 7) (am (af 8) toNil))) (λδ=>U V) fu δ)))=U (yc us):=by
 subst h;let hE:vM (U (.lst (us.map zA0)))=U (us.zipIdx.map λq=>D.tup [.int (q.2:Nat),zA0 q.1]):=congrArg U (sJ us 0)
 rw[i5 (es:=us.zipIdx.map λq=>D.tup [zA0 q.1,.int (q.2:Nat)]) hE (by simp;lia) hm (cmM λq _=>itP ?_ (by rw[he];rfl) (by rw[he];rfl)) (by simp;lia)]
 ·exact zF us.zipIdx (λq=>by rw[jd];rfl) (by rw[show(λq:Lk×Nat=>zA0 q.1)=zA0 ∘ Prod.fst from rfl,<-Ix,List.zipIdx_map_fst];exact nd) (by simp;lia)
 ·match ε,he with
  |[_,_,_,_,_,_,_,_,_,_],_=>rfl
def neG {x y:Qq D}{a b:D}(hx:x=U a) (hy:y=U b) (ok:ok2 a b=V):neO x y=U (!decide (a=b)):=by subst hx hy;exact CB a b ok
def zv {k:Int}{x3 x4 x5 x6:Qq (D×Bool)}{P Q:Pt}(w:Wf P) (wq:Wf Q) (z:Zr P.rows) (zq:Zr Q.rows) (hl:P.ks.length<=60) (hq:Q.ks.length<=60) (h:aY ((lks P).map zA0)≠aY ((lks Q).map zA0)):∃y3 y4,ay (E k x3 x4 x5 x6 P Q)=U (.ret (.bl Y) Y (E k y3 y4 x5 x6 P Q)):=
 ⟨_,_,sqO (rq rfl w z (by lia)) (sqO (rq rfl wq zq (by lia)) (ifT ((neG (FU (P:=P) rfl) (FU (P:=Q) rfl) (by unfold ok2;rw[sw,sw];rfl)).trans (by rw[decide_eq_false λe=>h (D.lst.inj e)];rfl)) rfl))⟩
def Dc {k:Int}{x3 x4 x5 x6:Qq (D×Bool)}{P Q:Pt}{us:Qw Lk}(w:Wf P) (wq:Wf Q) (z:Zr P.rows) (zq:Zr Q.rows) (hl:P.ks.length<=60) (hq:Q.ks.length<=60) (h:aY ((lks P).map zA0)=aY ((lks Q).map zA0)) (hu:aY (L2.G.uniqD ((lks P).map zA0))=us.map zA0) (nd:(us.map zA0).Nodup) (hul:us.length<=100) (hm:∀n∈P.ks,zA0 (cC P n)∈us.map zA0) (hmq:∀n∈Q.ks,zA0 (cC Q n)∈us.map zA0):
  (k=us.length->∃y3 y4 y5 y6,ay (E k x3 x4 x5 x6 P Q)=U (.ret (.bl V) Y (E k y3 y4 y5 y6 P Q)))/\(k≠us.length->∃y3 y4 y5 y6,ay (E k x3 x4 x5 x6 P Q)=U (.next (E us.length y3 y4 y5 y6 (rf us P) (rf us Q)))):=by
 let hne:neO (dF .ti (jN (eY (U (dI P.ks λn=>zA0 (cC P n)))))) (dF .ti (jN (eY (U (dI Q.ks λn=>zA0 (cC Q n))))))=U Y:=by
  rw[FU (P:=P) rfl,FU (P:=Q) rfl,CB _ _ (by unfold ok2;rw[sw,sw];rfl),decide_eq_true (congrArg D.lst h)];rfl
 let hlen:BP (U (yc us))=U (.int us.length):=by
  show U (D.int ((us.zipIdx.map λq=>zA0 q.1).length:Nat))=_
  rw[HT,List.length_zipIdx]
 let start:∀{r:Qq Out},(au (ifO (eqO (U (.int us.length)) (U (.int k))) (cG (U (.bl V)) (E k (U (dI P.ks λn=>zA0 (cC P n),Y)) (U (dI Q.ks λn=>zA0 (cC Q n),Y)) (U (.lst (us.map zA0),Y)) (U (yc us,Y)) P Q)) (nextO (E k (U (dI P.ks λn=>zA0 (cC P n),Y)) (U (dI Q.ks λn=>zA0 (cC Q n),Y)) (U (.lst (us.map zA0),Y)) (U (yc us,Y)) P Q))) λδ=>au (bj 2 (BP (rY 6 δ)) δ) (λδ=>au (kB "Painted" "colours" 0 (bv (ar (ae (d8 (rY 3 δ)) (bA Y [Y,Y,Y,Y,Y,Y,V,Y,Y,Y] (bh (am (af 9) (am (af 8) (toNil)))) (λδ=>U V) fE δ)))) δ) (λδ=>kB "Painted" "colours" 1 (bv (ar (ae (d8 (rY 4 δ)) (bA Y [Y,Y,Y,Y,Y,Y,V,Y,Y,Y] (bh (am (af 9) (am (af 8) (toNil)))) (λδ=>U V) fx δ)))) δ)))=r->ay (E k x3 x4 x5 x6 P Q)=r:=λ{r} e=>by
  refine sqO (rq rfl w z (by lia)) (sqO (rq rfl wq zq (by lia)) (ifF hne (sqN rfl (sqO (GF rfl hu (by lia)) (sqO (Hz rfl nd hul rfl rfl) ?_)))))
  refine O0 ?_ e
  show au (ifO (eqO (BP (U (yc us))) (U (.int k))) _ _) _=_;rw[hlen];rfl
 refine⟨λhk=>⟨U (dI P.ks λn=>zA0 (cC P n),Y),U (dI Q.ks λn=>zA0 (cC Q n),Y),U (.lst (us.map zA0),Y),U (yc us,Y),start ?_⟩,λhk=>⟨U (dI P.ks λn=>zA0 (cC P n),Y),U (dI Q.ks λn=>zA0 (cC Q n),Y),U (.lst (us.map zA0),Y),U (yc us,Y),start ?_⟩⟩
 ·rw[eqO_int,decide_eq_true hk.symm];rfl
 ·rw[eqO_int,decide_eq_false λe=>hk e.symm]
  refine sqN rfl (sqO (i:=2) hlen (sqN (G0 (us:=P.ks) (g:=λn=>.int (cf us (cC P n))) ?_ _ _ _ _ _ _ _ _) (GY (us:=Q.ks) (g:=λn=>.int (cf us (cC Q n))) ?_ _ _ _ _ _ _ _ _)))
  ·exact qQ (i5 (ds:=P.ks.map λn=>D.tup [.int n,zA0 (cC P n)]) (m5 (us:=P.ks) (g:=λn=>zA0 (cC P n))) (by simp;lia) rfl (cmM λn hn=>itP (lO rfl (xO (hm n hn)))) (by simp;lia)) w.nk (by lia)
  ·exact qQ (i5 (ds:=Q.ks.map λn=>D.tup [.int n,zA0 (cC Q n)]) (m5 (us:=Q.ks) (g:=λn=>zA0 (cC Q n))) (by simp;lia) rfl (cmM λn hn=>itP (lO rfl (xO (hmq n hn)))) (by simp;lia)) wq.nk (by lia)
end K22
namespace K22
open PySem L2 JP
variable[Md]
structure Rfd (P Q P' Q':Pt):Prop where
 rP:P'.rows=P.rows
 kP:P'.ks=P.ks
 rQ:Q'.rows=Q.rows
 kQ:Q'.ks=Q.ks
 fine:Fine P' Q'
 low:∀n∈P.ks,∀m∈P.ks,P'.c n=P'.c m->P.c n=P.c m
 across:∀n∈P.ks,∀m∈Q.ks,P'.c n=Q'.c m->P.c n=Q.c m
 iso:∀φ,Iso P Q φ->Iso P' Q' φ
def Rfd.back {P Q P' Q':Pt}{φ:Int->Int}(h:Rfd P Q P' Q') (i:Iso P' Q' φ):Iso P Q φ:=by
 refine⟨λn hn=>?_,λn hn m hm e=>i.inj n (by rw[h.kP];exact hn) m (by rw[h.kP];exact hm) e,λr hr=>?_,λr hr=>?_⟩
 ·let⟨h1,h2⟩:=i.ks n (by rw[h.kP];exact hn)
  rw[h.kQ]at h1;exact⟨h1,(h.across n hn _ h1 h2.symm).symm⟩
 ·have:=i.rows r (by rw[h.rP];exact hr);rwa[h.rQ]at this
 ·let⟨r',h1,h2⟩:=i.onto r (by rw[h.rQ];exact hr)
  rw[h.rP]at h1;exact⟨r',h1,h2⟩
def Rfd.wfP {P Q P' Q':Pt}(h:Rfd P Q P' Q') (w:Wf P):Wf P':=⟨by rw[h.rP];exact w.nr,by rw[h.kP];exact w.nk,λn=>by rw[h.kP,h.rP];exact w.mem n⟩
def Rfd.wfQ {P Q P' Q':Pt}(h:Rfd P Q P' Q') (w:Wf Q):Wf Q':=⟨by rw[h.rQ];exact w.nr,by rw[h.kQ];exact w.nk,λn=>by rw[h.kQ,h.rQ];exact w.mem n⟩
def ef {P:Pt}{n:Int}(h:n∈P.ks):zA0 (cC P n)∈(lks P).map zA0:=H4 (H4 h)
def Bc {P:Pt}{d:D}(h:d∈(lks P).map zA0):∃n∈P.ks,zA0 (cC P n)=d:=by
 let⟨x,hx,rfl⟩:=mt.mp h;let⟨n,hn,rfl⟩:=mt.mp hx;exact⟨n,hn,rfl⟩
def G9 (P:Pt):∃us:Qw Lk,aY (L2.G.uniqD ((lks P).map zA0))=us.map zA0/\(us.map zA0).Nodup/\(∀d,d∈us.map zA0↔d∈(lks P).map zA0)/\us.length<=P.ks.length:=by
 let hp:=ax (L2.G.uniqD ((lks P).map zA0));let⟨us,e,_⟩:=sq (F:=zA0) (P:=λ_=>True) (l:=aY (L2.G.uniqD ((lks P).map zA0))) λd hd=>by
  let⟨a,_,e⟩:=mt.mp ((L2.G.uniqD_mem _ _).mp (hp.mem_iff.mp hd));exact⟨a,trivial,e.symm⟩
 refine⟨us,e,e▸hp.nodup_iff.mpr (L2.G.uniqD_nodup _),λd=>by rw[<-e,hp.mem_iff,L2.G.uniqD_mem],?_⟩
 let h1:=hp.length_eq;rw[e,HT]at h1;let h2:=L2.G.uniqD_len ((lks P).map zA0);rw[HT,show(lks P).length=P.ks.length from HT _]at h2;lia
def Hj:D->Int|.tup (.int i::_)=>i|_=>0
def yq (P:Pt):Nat:=(unI [] (P.ks.map P.c)).length
def iU {P:Pt}{k:Int}:k∈unI [] (P.ks.map P.c)↔∃n∈P.ks,P.c n=k:=by rw[b9];simp
section
variable{P Q:Pt}{us:Qw Lk}
def Cb (hm:∀d,d∈us.map zA0↔d∈(lks P).map zA0):yq P<=us.length:=by
 have:=H2 (l₂:=us.map (·.1)) (tV (vs:=P.ks.map P.c) Jf) λk hk=>by
  let⟨n,hn,rfl⟩:=iU.mp hk;let⟨u,hu,e⟩:=mt.mp ((hm _).mpr (ef hn));exact mt.mpr ⟨u,hu,(aZ.mp e).1⟩
 simpa[yq]using this
def Ct (hm:∀d,d∈us.map zA0↔d∈(lks P).map zA0) (he:yq P=us.length) {n m:Int}(hn:n∈P.ks) (hk:m∈P.ks) (e:P.c n=P.c m):zA0 (cC P n)=zA0 (cC P m):=by
 let⟨u1,h1,e1⟩:=mt.mp ((hm _).mpr (ef hn));let⟨u2,h2,e2⟩:=mt.mp ((hm _).mpr (ef hk));refine J4 λz=>?_
 let c1:u1.1=P.c n:=(aZ.mp e1).1;let c2:u2.1=P.c m:=(aZ.mp e2).1;have:=H2 (l₂:=((us.map zA0).erase (zA0 u2)).map Hj) (tV (vs:=P.ks.map P.c) Jf) λk hk=>by
  let⟨j,hj,rfl⟩:=iU.mp hk;let⟨u,hu,eu⟩:=mt.mp ((hm _).mpr (ef hj));let cu:u.1=P.c j:=(aZ.mp eu).1
  by_cases y:zA0 u=zA0 u2
  ·exact mt.mpr ⟨zA0 u1,(K8 λq=>z (by rw[<-e1,<-e2,q])).mpr (H4 h1),by show u1.1=_;rw[c1,e,<-c2,<-(aZ.mp y).1,cu]⟩
  ·exact mt.mpr ⟨zA0 u,(K8 y).mpr (H4 hu),cu⟩
 rw[HT,OY (H4 h2),HT]at this;let p:=O9 h2;unfold yq at he;lia
def vm {x y:Lk}(hx:zA0 x∈us.map zA0) (hy:zA0 y∈us.map zA0) (e:cf us x=cf us y):zA0 x=zA0 y:=by
 let e':(us.map zA0).idxOf (zA0 x)=(us.map zA0).idxOf (zA0 y):=Int.natCast_inj.mp e;let h1:=List.getElem_idxOf (qat.mpr hx)
 simp_all
def C7 (hm:∀d,d∈us.map zA0↔d∈(lks P).map zA0) (nd:(us.map zA0).Nodup):yq (rf us P)=us.length:=by
 refine Nat.le_antisymm ?_ ?_
 ·have:=H2 (l₂:=(Iu us.length).map λi:Nat=>(i:Int)) (tV (vs:=(rf us P).ks.map (rf us P).c) Jf) λk hk=>by
   let⟨n,hn,rfl⟩:=iU.mp hk;have:=qat.mpr ((hm _).mpr (ef (P:=P) hn));exact mt.mpr ⟨_,qad.mpr (by simp_all),rfl⟩
  simpa[yq]using this
 ·have:=H2 (l₁:=us.map (cf us)) (l₂:=unI [] ((rf us P).ks.map (rf us P).c)) (aR (λx hx y hy e=>?_) (List.Pairwise.of_map zA0 (λ_ _ h z=>h (congrArg zA0 z)) nd)) λk hk=>by
   let⟨u,hu,rfl⟩:=mt.mp hk;let⟨n,hn,e⟩:=Bc ((hm _).mp (H4 hu));exact iU.mpr ⟨n,hn,by show cf us (cC P n)=cf us u;unfold cf;rw[e]⟩
  ·simpa[yq]using this
  ·have:=vm (H4 hx) (H4 hy) e
   let⟨i,hi,rfl⟩:=Nw hx;let⟨j,hj,rfl⟩:=Nw hy;have:i=j:=(qau nd (i:=i) (j:=j) (h₀:=by simpa using hi) (h₁:=by simpa using hj)).mp (by simpa using this)
   subst this;rfl
end
def Wf.rf {P:Pt}(w:Wf P) (us:Qw Lk):Wf (rf us P):=⟨w.nr,w.nk,w.mem⟩
def yR {P Q:Pt}{φ:Int->Int}(i:Iso P Q φ) (w:Wf P) (wq:Wf Q):((lks Q).map zA0).Perm ((lks P).map zA0):=by
 let h1:Q.ks.Perm (P.ks.map φ):=jI wq.nk (aR i.inj w.nk) λm=>by
  rw[NQ];exact⟨λh=>i.onk w wq h,λ⟨n,hn,e⟩=>e▸(i.ks n hn).1⟩
 let h2:=(h1.map (cC Q)).map zA0;refine h2.trans (.of_eq ?_)
 rw[Ix,Ix,lks,Ix];exact Jj λn hn=>aZ.mpr (sT i w wq hn)
theorem xm:∀(f k:Nat) (P Q:Pt) (x3 x4 x5 x6:Qq (D×Bool)),Wf P->Wf Q->Zr P.rows->Zr Q.rows->P.ks.length<=60->Q.ks.length<=60->(k=0\/(yq P=k/\∀n∈P.ks,0<=P.c n))->P.ks.length+2<=f+k->
  ∃(b:Bool) (k':Int) (y3 y4 y5 y6:Qq (D×Bool)) (P' Q':Pt),aK aV ay f (E k x3 x4 x5 x6 P Q)=U (.ret (.bl b) Y (E k' y3 y4 y5 y6 P' Q'))/\(b=Y->¬∃φ,Iso P Q φ)/\(b=V->Rfd P Q P' Q')
 |0,k,P,Q,_,_,_,_,_,_,_,_,_,_,hk,hf=>by
  exfalso
  rcases hk with rfl|⟨hk,_⟩
  ·lia
  ·have:=o8 (vs:=P.ks.map P.c) (us:=[])
   simp at this;unfold yq at hk;lia
 |f+1,k,P,Q,x3,x4,x5,x6,w,wq,z,zq,hl,hq,hk,hf=>by
  let step:aK aV ay (f+1) (E k x3 x4 x5 x6 P Q)=(match ay (E k x3 x4 x5 x6 P Q)with
   |some (.next δ')=>aK aV ay f δ'
   |some (.cont δ')=>aK aV ay f δ'
   |some (.brk δ')=>U (.next δ')
   |some (.ret e fr δ')=>U (.ret e fr δ')
   |none=>B):=rfl
  by_cases h:aY ((lks P).map zA0)=aY ((lks Q).map zA0)
  ·let⟨us,hu,nd,hm,hul⟩:=G9 P
   let hL:((lks P).map zA0).Perm ((lks Q).map zA0):=((ax _).symm.trans (.of_eq h)).trans (ax _);let hmq:∀n∈Q.ks,zA0 (cC Q n)∈us.map zA0:=λn hn=>(hm _).mpr (hL.mem_iff.mpr (ef hn))
   let hmp:∀n∈P.ks,zA0 (cC P n)∈us.map zA0:=λn hn=>(hm _).mpr (ef hn)
   let⟨t1,t2⟩:=Dc (k:=k) (x3:=x3) (x4:=x4) (x5:=x5) (x6:=x6) w wq z zq hl hq h hu nd (by lia) hmp hmq
   by_cases hku:(k:Int)=us.length
   ·let⟨y3,y4,y5,y6,e⟩:=t1 hku
    refine⟨V,k,y3,y4,y5,y6,P,Q,by rw[step,e],λz=>(nomatch z),λ_=>⟨rfl,rfl,rfl,rfl,⟨λn hn m hm' ec=>?_,?_,λn hn=>?_⟩,λ_ _ _ _ h=>h,λ_ _ _ _ h=>h,λ_ h=>h⟩⟩
    ·let⟨n',hn',e'⟩:=Bc (hL.mem_iff.mpr (ef hm'))
     let c':P.c n'=Q.c m:=(aZ.mp e').1
     rcases hk with rfl|⟨hk,_⟩
     ·have:us=[]:=qal.mp (by lia)
      have:=hmp n hn;subst us;cases this
     ·exact aZ.mp ((Ct hm (by lia) hn hn' (ec.trans c'.symm)).trans e')
    ·have:=hL.map Hj
     rw[Ix,Ix,lks,lks,Ix,Ix]at this;exact this
    ·rcases hk with rfl|⟨_,hp⟩
     ·have:us=[]:=qal.mp (by lia)
      have:=hmp n hn;subst us;cases this
     ·exact hp n hn
   ·let⟨y3,y4,y5,y6,e⟩:=t2 hku
    let hkl:k+1<=us.length:=by
     rcases hk with rfl|⟨hk,_⟩
     ·lia
     ·have:=Cb hm;lia
    let⟨b,k',u3,u4,u5,u6,P',Q',e2,g1,g2⟩:=xm f us.length (rf us P) (rf us Q) y3 y4 y5 y6 (w.rf us) (wq.rf us) z zq hl hq (.inr ⟨C7 hm nd,λn _=>NL _⟩) (by show P.ks.length+2<=_;lia)
    let ri:∀φ,Iso P Q φ->Iso (rf us P) (rf us Q) φ:=λφ i=>⟨λn hn=>⟨(i.ks n hn).1,by
     show cf us (cC Q (φ n))=cf us (cC P n);unfold cf;rw[aZ.mpr (sT i w wq hn)]⟩,i.inj,i.rows,i.onto⟩
    refine⟨b,k',u3,u4,u5,u6,P',Q',by rw[step,e];exact e2,λhb ⟨φ,i⟩=>g1 hb ⟨φ,ri φ i⟩,λhb=>?_⟩
    let R:=g2 hb;exact⟨R.rP,R.kP,R.rQ,R.kQ,R.fine,λn hn m hm' ec=>(aZ.mp (vm (hmp n hn) (hmp m hm') (R.low n hn m hm' ec))).1,λn hn m hm' ec=>(aZ.mp (vm (hmp n hn) (hmq m hm') (R.across n hn m hm' ec))).1,λφ i=>R.iso φ (ri φ i)⟩
  ·let⟨y3,y4,e⟩:=zv (k:=k) (x3:=x3) (x4:=x4) (x5:=x5) (x6:=x6) w wq z zq hl hq h
   refine⟨Y,k,y3,y4,x5,x6,P,Q,by rw[step,e],λ_ ⟨φ,i⟩=>h (wQ (jC _) (yR i w wq).symm),λz=>(nomatch z)⟩
def CR {P Q:Pt}(w:Wf P) (wq:Wf Q) (z:Zr P.rows) (zq:Zr Q.rows) (hl:P.ks.length<=60) (hq:Q.ks.length<=60):∃(b:Bool) (P' Q':Pt),zB3 [.loc (U "Painted") 0,.loc (U "Painted") 1] [obD P,obD Q]=U (.bl b,Y,[U (obD P',V),U (obD Q',V)])/\(b=Y->¬∃φ,Iso P Q φ)/\(b=V->Rfd P Q P' Q'):=by
 let⟨b,k',y3,y4,y5,y6,P',Q',e,h1,h2⟩:=xm 1000 0 P Q B B B B w wq z zq hl hq (.inl rfl) (by lia)
 refine⟨b,P',Q',?_,h1,h2⟩
 let e':aK aV ay 1000 (E 0 B B B B P Q)=U (.ret (.bl b) Y (E k' y3 y4 y5 y6 P' Q')):=e;show FX 10 (cy [U (.loc (U "Painted") 10,V),U (.loc (U "Painted") 11,V),B,B,B,B,B,B,B,B,U (obD P,V),U (obD Q,V)])=_;let e2:cy [U (.loc (U "Painted") 10,V),U (.loc (U "Painted") 11,V),B,B,B,B,B,B,B,B,U (obD P,V),U (obD Q,V)]=_:=sqO (i:=2) (d:=.int 0) rfl e';rw[e2];rfl
end K22
namespace K22
open PySem L2 JP
variable[Md]
def dR (rs:Qw Row) (g:Row->D):D:=.dD (rs.map rowD) (rs.map g)
section
variable{rs:Qw Row}{g:Row->D}{r:Row}{d:D}{δ:DEnv}{i:Nat}
theorem AO:∀{rs:Qw Row},aP (rowD r) (rs.map rowD) (rs.map g)=if r∈rs then U (g r) else B
 |[]=>rfl
 |m::rs=>by
  rw[HP,HP];unfold aP
  by_cases e:m=r
  ·subst e;simp
  ·rw[if_neg λz=>e (eP z),AO]
   have:r≠m:=λz=>e z.symm
   simp[this]
def Bg:mU (U (dR rs g)) (U (rowD r))=U (if r∈rs then U (g r) else B):=by
 show(if(cT 8 (rowD r)&&xN (rowD r))=V then U (aP (rowD r) (rs.map rowD) (rs.map g)) else B)=_
 rw[ro];exact congrArg U AO
def F7 (e:r∈rs):cM (U (dR rs g)) (U (rowD r))=U (g r):=by unfold cM;rw[Bg,if_pos e]
def Fp:sZ (U (rowD r)) (U (dR rs g))=U (decide (r∈rs)):=by
 unfold sZ;rw[Bg];by_cases e:r∈rs<;>simp[e]
def EV {x y:Qq D}(h:δ[i]?=U (U (dR rs g,V))) (hx:x=U (rowD r)) (hy:y=U (g r)) (hr:r∉rs) (hl:rs.length<=1000):iM i x y δ=U (.next (δ.set i (U (dR (rs++[r]) g,V)))):=by
 subst hx hy;let e:bu i δ=U (dR rs g):=by unfold bu;rw[h];rfl
 let hn:rowD r∉rs.map rowD:=λz=>by let⟨q,hq,e⟩:=mt.mp z;rw[eP e]at hq;exact hr hq
 have:wy (dR rs g) (rowD r) (g r)=U (dR (rs++[r]) g):=by
  show(if(cT 8 (rowD r)&&xN (rowD r)&&decide ((rs.map rowD).length<lim))=V then U (D.dD (aC (rowD r) (rs.map rowD)) (bB (rowD r) (g r) (rs.map rowD) (rs.map g))) else B)=_
  rw[ro,decide_eq_true (by simp;lia),if_pos (show(V&&xN (rowD r)&&V)=V from rfl)]
  unfold aC bB;rw[if_neg hn,if_neg hn];simp[dR]
 unfold iM;rw[e];simp![this]
end
def tt:Int->D:=λ_=>.bl V
section
variable{P:Pt}{L:Row->Qw Int}{us:Qw Int}
abbrev kx (P:Pt) (L:Row->Qw Int):D:=dR P.rows λr=>.lst ((L r).map D.int)
abbrev pG (P:Pt) (L:Row->Qw Int) (us:Qw Int):D:=dI us λn=>.lst ((P.rows.filter λr=>decide (n∈L r)).map rowD)
def EC (P:Pt) (L:Row->Qw Int) (us:Qw Int) (n0:Int) (C:Qw Row) (W S:Qw Int) (x6 x7 x8:Qq (D×Bool)):DEnv:=[U (.int n0,Y),U (kx P L,Y),U (pG P L us,Y),U (.loc B 10,V),U (dR C (λ_=>.bl V),V),U (.lst (W.map D.int),V),x6,x7,x8,B,U (dI S tt,V)]
def vh (L:Row->Qw Int) (s:Qw Row×Qw Int×Qw Int) (r:Row):Qw Row×Qw Int×Qw Int:=if r∈s.1 then s else(s.1++[r],s.2.1++(L r).filter (λn=>!decide (n∈s.2.2)),s.2.2++(L r).filter (λn=>!decide (n∈s.2.2)))
def Gk (hL:∀r∈P.rows,(L r).Nodup/\(L r).length<=50) {n0:Int}{C:Qw Row}{W S:Qw Int}{x6 x7 x8:Qq (D×Bool)}{r:Row}(hr:r∈P.rows) (hC:C.length<=100) (hW:W.length<=500) (hS:S.length<=500) (nS:S.Nodup):∃y8,ae ((af 7) (rowD r) (EC P L us n0 C W S x6 x7 x8)) bU=U (.next (EC P L us n0 (vh L (C,W,S) r).1 (vh L (C,W,S) r).2.1 (vh L (C,W,S) r).2.2 x6 (U (rowD r,Y)) y8)):=by
 let⟨ndr,lr⟩:=hL r hr
 by_cases h:r∈C
 ·refine⟨x8,az rfl (ifN (c:=be (sZ (U (rowD r)) (U (dR C λ_=>.bl V)))) (by rw[Fp,decide_eq_true h];rfl) ?_)⟩
  unfold vh;rw[if_pos h];rfl
 ·let hu:((L r).filter λn=>!decide (n∈S)).length<=50:=Ja (JC _ _) lr
  let hun:((L r).filter λn=>!decide (n∈S)).Nodup:=ndr.filter _
  refine⟨U (.lst (((L r).filter λn=>!decide (n∈S)).map D.int),Y),az rfl (ifG (c:=be (sZ (U (rowD r)) (U (dR C λ_=>.bl V)))) (by rw[Fp,decide_eq_false h];rfl) (sqN (EV (i:=4) (rs:=C) (g:=λ_=>.bl V) rfl rfl rfl h (by lia)) (sqF (i:=8) (d:=.lst (((L r).filter λn=>!decide (n∈S)).map D.int)) ?_ ?_)))⟩
  ·let e1:cM (U (kx P L)) (U (rowD r))=U (.lst ((L r).map D.int)):=F7 hr
   refine(congrArg (λx=>ar (nw x)) (Hn (ε:=[B,B,B,U (dI S tt,Y),B,B,B,B,B,B]) (iN e1) (by simp;lia) rfl (cmF (p:=λn=>!decide (n∈S)) (g:=D.int) λn hn=>?_))).trans ?_
   ·show(match be (sZ (U (.int n)) (U (dI S tt)))with|some V=>(match U (D.int n)with|some y=>U (U y)|none=>B)|some Y=>U B|none=>B)=_
    rw[CT]
    by_cases z:n∈S<;>simp[z,be]
   ·show ar (if D.flats (((L r).filter λn=>!decide (n∈S)).map D.int)=V then _ else B)=_
    rw[if_pos (by rw[D.flats_all,KO];exact qac.mpr λ_ _=>rfl)];rfl
  ·let e2:bv (ar (ae (dj (U (.lst (((L r).filter λn=>!decide (n∈S)).map D.int)))) (bA Y [Y,Y,Y,Y,Y,Y,Y,Y,Y,Y] (af 9) (λδ=>U V) bS (EC P L us n0 (C++[r]) W S x6 (U (rowD r,Y)) (U (.lst (((L r).filter λn=>!decide (n∈S)).map D.int),Y))))))=U (dI ((L r).filter λn=>!decide (n∈S)) tt):=
    qQ (i5 (ds:=((L r).filter λn=>!decide (n∈S)).map D.int) rfl (by simp;lia) rfl (cmM λn _=>itG (lO rfl rfl)) (by simp;lia)) hun (by lia)
   let hun2:unI S ((L r).filter λn=>!decide (n∈S))=S++(L r).filter λn=>!decide (n∈S):=CE (by
    rw[IS];exact⟨nS,hun,λa ha b hb e=>by simp_all⟩)
   let e3:B5 (U (dI S tt)) (U (dI ((L r).filter λn=>!decide (n∈S)) tt))=U (dI (S++(L r).filter λn=>!decide (n∈S)) tt):=by
    rw[Fb hun (by lia),hun2]
    exact congrArg U (eV λk _=>by split<;>rfl)
   let e4:FV 3 (bv (ar (ae (dj (U (.lst (((L r).filter λn=>!decide (n∈S)).map D.int)))) (bA Y [Y,Y,Y,Y,Y,Y,Y,Y,Y,Y] (af 9) (λδ=>U V) bS (EC P L us n0 (C++[r]) W S x6 (U (rowD r,Y)) (U (.lst (((L r).filter λn=>!decide (n∈S)).map D.int),Y))))))) (EC P L us n0 (C++[r]) W S x6 (U (rowD r,Y)) (U (.lst (((L r).filter λn=>!decide (n∈S)).map D.int),Y)))=U (.next (EC P L us n0 (C++[r]) W (S++(L r).filter λn=>!decide (n∈S)) x6 (U (rowD r,Y)) (U (.lst (((L r).filter λn=>!decide (n∈S)).map D.int),Y)))):=by
    rw[e2];show(match B5 (U (dI S tt)) (U (dI ((L r).filter λn=>!decide (n∈S)) tt))with|some d=>U (Out.next ((EC P L us n0 (C++[r]) W S x6 (U (rowD r,Y)) (U (.lst (((L r).filter λn=>!decide (n∈S)).map D.int),Y))).set 10 (U (d,V))))|none=>B)=_
    rw[e3];rfl
   refine sqN e4 ((Hc (i:=5) (ds:=W.map D.int) (es:=((L r).filter λn=>!decide (n∈S)).map D.int) rfl rfl (by simp;lia)).trans ?_)
   unfold vh;rw[if_neg h,<-Ip];rfl
end
end K22
namespace K22
open PySem L2 JP
variable[Md]
structure Ls (P:Pt) (L:Row->Qw Int) (us:Qw Int):Prop where
 w:Wf P
 z:Zr P.rows
 nd:∀r∈P.rows,(L r).Nodup
 len:∀r∈P.rows,(L r).length<=50
 mem:∀r∈P.rows,∀n,n∈L r↔aM P n/\Ce.bk n∈r.2
 un:us.Nodup
 ul:us.length<=100
 us:∀n,n∈us↔aM P n
structure CI (P:Pt) (L:Row->Qw Int) (us:Qw Int) (n0:Int) (S0:Qw Int) (n:Int) (Rem:Qw Row) (C:Qw Row) (W S:Qw Int):Prop where
 nC:C.Nodup
 cR:∀r∈C,Rc P n0 r
 nW:W.Nodup
 wS:∀k∈W,k∈S
 wR:∀k∈W,∃r,Rc P n0 r/\k∈L r
 nS:S.Nodup
 s0:∀k∈S0,k∈S
 s1:∀r∈C,∀k∈L r,k∈S
 s2:∀k∈S,k∈S0\/∃r∈C,k∈L r
 s3:∀k∈S,k∉S0\/k=n0->k∈W\/∀r∈P.rows,k∈L r->r∈C\/(k=n/\r∈Rem)
 su:∀k∈S,k∈us
section
variable{P:Pt}{L:Row->Qw Int}{us S0:Qw Int}{n0 n:Int}
def CI.sizes {Rem C:Qw Row}{W S:Qw Int}(H:Ls P L us) (h:CI P L us n0 S0 n Rem C W S):C.length<=12/\S.length<=us.length/\W.length<=S.length:=
 ⟨Ja (H2 h.nC λr hr=>(h.cR r hr).row) H.z.1,H2 h.nS h.su,H2 h.nW h.wS⟩
def CI.vis {r:Row}{Rem C:Qw Row}{W S:Qw Int}(H:Ls P L us) (h:CI P L us n0 S0 n (r::Rem) C W S) (hr:Rc P n0 r):CI P L us n0 S0 n Rem (vh L (C,W,S) r).1 (vh L (C,W,S) r).2.1 (vh L (C,W,S) r).2.2/\(vh L (C,W,S) r).2.1.length+S.length=W.length+(vh L (C,W,S) r).2.2.length:=by
 unfold vh
 by_cases hc:r∈C
 ·rw[if_pos hc]
  refine⟨⟨h.nC,h.cR,h.nW,h.wS,h.wR,h.nS,h.s0,h.s1,h.s2,λk hk e=>(h.s3 k hk e).imp id λg q hq hl=>(g q hq hl).elim .inl λ⟨a,b⟩=>?_,h.su⟩,rfl⟩
  rcases qaa.mp b with rfl|b
  ·exact .inl hc
  ·exact .inr ⟨a,b⟩
 ·rw[if_neg hc]
  let hm:∀k,k∈(L r).filter (λn=>!decide (n∈S))↔k∈L r/\k∉S:=λk=>by simp
  let dis:∀{a b},a∈S->b∈(L r).filter (λn=>!decide (n∈S))->a≠b:=λha hb e=>((hm _).mp hb).2 (e▸ha)
  let nd:=(H.nd r hr.row).filter λn=>!decide (n∈S)
  refine⟨⟨?_,λq hq=>?_,?_,λk hk=>?_,λk hk=>?_,?_,λk hk=>JQ _ (h.s0 k hk),λq hq k hk=>?_,λk hk=>?_,λk hk e=>?_,λk hk=>?_⟩,by simp;lia⟩
  ·rw[IS];exact⟨h.nC,by simp,λa ha b hb e=>hc (by simp_all)⟩
  ·rcases qab.mp hq with hq|hq
   ·exact h.cR q hq
   simp_all
  ·rw[IS];exact⟨h.nW,nd,λa ha b hb=>dis (h.wS a ha) hb⟩
  ·exact(qab.mp hk).elim (λz=>JQ _ (h.wS k z)) λz=>MZ _ z
  ·exact(qab.mp hk).elim (h.wR k) λz=>⟨r,hr,((hm k).mp z).1⟩
  ·rw[IS];exact⟨h.nS,nd,λa ha b hb=>dis ha hb⟩
  ·rcases qab.mp hq with hq|hq
   ·exact JQ _ (h.s1 q hq k hk)
   ·rw[on.mp hq]at hk
    by_cases z:k∈S
    ·exact JQ _ z
    ·exact MZ _ ((hm k).mpr ⟨hk,z⟩)
  ·rcases qab.mp hk with hk|hk
   ·exact(h.s2 k hk).imp id λ⟨q,hq,e⟩=>⟨q,JQ _ hq,e⟩
   ·exact .inr ⟨r,by simp,((hm k).mp hk).1⟩
  ·rcases qab.mp hk with hk|hk
   ·refine(h.s3 k hk e).imp (JQ _) λg q hq hl=>(g q hq hl).elim (λz=>.inl (JQ _ z)) λ⟨a,b⟩=>?_
    grind
   ·exact .inl (MZ _ hk)
  ·rcases qab.mp hk with hk|hk
   ·exact h.su k hk
   ·exact(H.us k).mpr ((H.mem r hr.row k).mp ((hm k).mp hk).1).1
theorem nZ (H:Ls P L us):∀(K:Qw Row) (C:Qw Row) (W S:Qw Int) (x6 x7 x8:Qq (D×Bool)),(∀r∈K,Rc P n0 r)->CI P L us n0 S0 n K C W S->
  ∃C' W' S' y7 y8,aq (λd δ=>ae ((af 7) d δ) bU) (K.map rowD) (EC P L us n0 C W S x6 x7 x8)=U (.next (EC P L us n0 C' W' S' x6 y7 y8))/\CI P L us n0 S0 n [] C' W' S'/\W'.length+S.length=W.length+S'.length
 |[],C,W,S,x6,x7,x8,_,h=>⟨C,W,S,x7,x8,rfl,h,rfl⟩
 |r::K,C,W,S,x6,x7,x8,hK,h=>by
  let⟨l1,l2,l3⟩:=h.sizes H;let hr:=hK r (by simp)
  have:=H.ul;let⟨y8,e⟩:=Gk (P:=P) (us:=us) (n0:=n0) (C:=C) (W:=W) (S:=S) (x6:=x6) (x7:=x7) (x8:=x8) (λr hr=>⟨H.nd r hr,H.len r hr⟩) hr.row (by lia) (by lia) (by lia) h.nS
  let⟨h1,hl⟩:=h.vis H hr;let⟨C',W',S',y7,y8',e2,h2,hl2⟩:=nZ H K _ _ _ x6 (U (rowD r,Y)) y8 (λq hq=>hK q (by simp[hq])) h1
  refine⟨C',W',S',y7,y8',?_,h2,by lia⟩
  rw[HP];unfold aq;rw[e];exact e2
theorem vX (H:Ls P L us) (h0:aM P n0):∀(f:Nat) (C:Qw Row) (W S:Qw Int) (x6 x7 x8:Qq (D×Bool)),CI P L us n0 S0 n0 [] C W S->us.length+W.length+1<=f+S.length->
  ∃C' S' y6 y7 y8,aK aS aI f (EC P L us n0 C W S x6 x7 x8)=U (.next (EC P L us n0 C' [] S' y6 y7 y8))/\CI P L us n0 S0 n0 [] C' [] S'
 |0,C,W,S,x6,x7,x8,h,hf=>by
  let⟨_,l2,_⟩:=h.sizes H;lia
 |f+1,C,W,S,x6,x7,x8,h,hf=>by
  let step:aK aS aI (f+1) (EC P L us n0 C W S x6 x7 x8)=(match U (!(W.map D.int).isEmpty)with
   |none=>B
   |some Y=>U (.next (EC P L us n0 C W S x6 x7 x8))
   |some V=>(match aI (EC P L us n0 C W S x6 x7 x8)with
    |some (.next δ')=>aK aS aI f δ'
    |some (.cont δ')=>aK aS aI f δ'
    |some (.brk δ')=>U (.next δ')
    |some (.ret e fr δ')=>U (.ret e fr δ')
    |none=>B)):=rfl
  rcases Pm W with rfl|⟨W0,k,rfl⟩
  ·exact⟨C,S,x6,x7,x8,step,h⟩
  ·rw[Po]at*
   let⟨l1,l2,l3⟩:=h.sizes H;have:=H.ul;let hkW:k∈W0++[k]:=by simp
   let⟨r0,hr0,hk0⟩:=h.wR k hkW;let hk:=((H.mem r0 hr0.row k).mp hk0);let hK:∀r∈P.rows.filter (λr=>decide (k∈L r)),Rc P n0 r:=λr hr=>by
    let⟨a,b⟩:=qaf.mp hr;exact hr0.step hk.1 hk.2 a ((H.mem r a k).mp (of_decide_eq_true b)).2
   let nW:=h.nW;rw[IS]at nW;let h1:CI P L us n0 S0 k (P.rows.filter (λr=>decide (k∈L r))) C W0 S:=by
    refine⟨h.nC,h.cR,nW.1,λj hj=>h.wS j (by simp[hj]),λj hj=>h.wR j (by simp[hj]),h.nS,h.s0,h.s1,h.s2,λj hj e=>?_,h.su⟩
    rcases h.s3 j hj e with z|z
    ·rcases qab.mp z with z|z
     ·exact .inl z
     ·rw[on.mp z]
      exact .inr λr hr hl=>.inr ⟨rfl,qaf.mpr ⟨hr,decide_eq_true hl⟩⟩
    ·exact .inr λr hr hl=>(z r hr hl).elim .inl λw=>nomatch w.2
   let⟨C',W',S',y7,y8,e,h2,hl⟩:=nZ H _ C W0 S (U (.lst ((P.rows.filter λr=>decide (k∈L r)).map rowD),Y)) x7 x8 hK h1
   let h3:CI P L us n0 S0 n0 [] C' W' S':=⟨h2.nC,h2.cR,h2.nW,h2.wS,h2.wR,h2.nS,h2.s0,h2.s1,h2.s2,λj hj e=>(h2.s3 j hj e).imp id λg r hr hl=>(g r hr hl).elim .inl λw=>(nomatch w.2),h2.su⟩
   let eb:aI (EC P L us n0 C (W0++[k]) S x6 x7 x8)=U (.next (EC P L us n0 C' W' S' (U (.lst ((P.rows.filter λr=>decide (k∈L r)).map rowD),Y)) y7 y8)):=by
    let ep:DC 5 (EC P L us n0 C (W0++[k]) S x6 x7 x8)=U (.int k,EC P L us n0 C W0 S x6 x7 x8):=by
     show(match((W0++[k]).map D.int)[((W0++[k]).map D.int).length - 1]? with|some d=>if((W0++[k]).map D.int).length<=lim then U (d,(EC P L us n0 C (W0++[k]) S x6 x7 x8).set 5 (U (.lst ((W0++[k]).map D.int).dropLast,V))) else B|none=>B)=_
     rw[show((W0++[k]).map D.int)[((W0++[k]).map D.int).length - 1]?=U (.int k) by simp]
     dsimp only;rw[if_pos (by simp at l3⊢;lia),Ip,HP,List.map_nil,List.dropLast_concat];rfl
    let ed:DD (λδ=>rY 2 δ) (DC 5) (EC P L us n0 C (W0++[k]) S x6 x7 x8)=U (.lst ((P.rows.filter λr=>decide (k∈L r)).map rowD),EC P L us n0 C W0 S x6 x7 x8):=by
     unfold DD;rw[ep];show(match cM (U (pG P L us)) (U (.int k))with|some d=>U (d,EC P L us n0 C W0 S x6 x7 x8)|none=>B)=_
     rw[p7 ((H.us k).mpr hk.1)]
    show au (FP 6 (DD (λδ=>rY 2 δ) (DC 5) (EC P L us n0 C (W0++[k]) S x6 x7 x8))) _=_
    rw[ed];exact e
   rw[IJ,Pl]at hf;let⟨C2,S2,z6,z7,z8,e2,h4⟩:=vX H h0 f C' W' S' _ y7 y8 h3 (by lia)
   refine⟨C2,S2,z6,z7,z8,?_,h4⟩
   rw[step,show(!((W0++[k]).map D.int).isEmpty)=V by simp]
   rw[eb];exact e2
def jE (H:Ls P L us) (h0:aM P n0) (nd:S0.Nodup) (hs:n0∈S0) (hu:∀k∈S0,k∈us) (hf:∀m∈S0,m≠n0->∀r,Rc P n0 r->m∉L r):∃(C:Qw Row) (S:Qw Int),zB0 [.int n0,kx P L,pG P L us,.loc B 0] [dI S0 tt]=U (.lst (C.map rowD),V,[U (dI S tt,V)])/\C.Nodup/\(∀r,r∈C↔Rc P n0 r)/\S.Nodup/\(∀k,k∈S↔k∈S0\/∃r∈C,k∈L r)/\∀k∈S,k∈us:=by
 let⟨r0,hr0,e0⟩:=(H.w.mem n0).mp h0.1;let start:CI P L us n0 S0 n0 [] [] [n0] S0:=⟨Jf,(λ_ h=>nomatch h),by simp,λk hk=>by simp_all,λk hk=>by rw[on.mp hk];exact⟨r0,.one hr0 e0,(H.mem r0 hr0 n0).mpr ⟨h0,e0⟩⟩,nd,λ_ h=>h,(λ_ h=>nomatch h),λk hk=>.inl hk,λk hk e=>by
  rcases e with e|e
  ·exact absurd hk e
  ·exact .inl (by simp[e]),hu⟩
 let⟨C,S,y6,y7,y8,e,h⟩:=vX H h0 1000 [] [n0] S0 B B B start (by have:=H.ul;simp;lia)
 let all:∀r,Rc P n0 r->r∈C:=λr h1=>by
  let key:∀k∈S,k∉S0\/k=n0->∀r∈P.rows,k∈L r->r∈C:=λk hk e r hr hl=>by
   rcases h.s3 k hk e with z|z
   ·cases z
   ·exact(z r hr hl).elim id λw=>nomatch w.2
  induction h1 with
  |one h2 h3=>exact key n0 (h.s0 n0 hs) (.inr rfl) _ h2 ((H.mem _ h2 n0).mpr ⟨h0,h3⟩)
  | @step r r' m h2 h3 h4 h5 h6 ih=>
   let hm:=(H.mem r h2.row m).mpr ⟨h3,h4⟩;refine key m (h.s1 r ih m hm) ?_ _ h5 ((H.mem _ h5 m).mpr ⟨h3,h6⟩)
   by_cases z:m=n0
   ·exact .inr z
   ·exact .inl λw=>hf m w z r h2 hm
 refine⟨C,S,?_,h.nC,λr=>⟨h.cR r,all r⟩,h.nS,λk=>⟨h.s2 k,λz=>z.elim (h.s0 k) λ⟨r,hr,hl⟩=>h.s1 r hr k hl⟩,h.su⟩
 show FX 10 (bM [U (.int n0,Y),U (kx P L,Y),U (pG P L us,Y),U (.loc B 10,V),B,B,B,B,B,B,U (dI S0 tt,V)])=_;let e2:bM [U (.int n0,Y),U (kx P L,Y),U (pG P L us,Y),U (.loc B 10,V),B,B,B,B,B,B,U (dI S0 tt,V)]=_:=sqF (i:=4) (d:=dR [] λ_=>.bl V) rfl (sqF (i:=5) (d:=.lst ([n0].map D.int)) (lstO_s _ (by simp)) (sqN e rfl))
 rw[e2];rfl
end
end K22
namespace K22
open PySem L2 JP
variable[Md]
def Eb {us:Qw Int}{g:Int->Qw D}{n:Int}{d:D}{δ:DEnv}{i:Nat}{fa:DEnv->Qq D}(h:δ[i]?=U (U (dLI us g,V))) (h1:fa δ=U d) (h2:∀x,fa (δ.set i x)=U d) (hg:n∉us->g n=[]) (hu:us.length<=900) (hl:(g n).length<=900):wP i (U (.int n)) fa δ=U (.next (δ.set i (U (dLI (eW n us) (λk=>if k=n then g n++[d] else g k),V)))):=by
 let hz:(us.map Nv:Qw Key).length<lim:=by simp;lia
 let hi:i<δ.length:=(List.getElem?_eq_some_iff.mp h).1
 unfold wP;rw[h];simp![dLI,gG,if_pos hz,rg (g:=λn=>D.lst (g n))]
 by_cases e:n∈us
 ·rw[if_pos e,if_pos (show(U (D.lst (g n))).isSome=V from rfl),h1,show eW n us=us from if_pos e]
  exact wT (us:=us) (g:=g) h rfl rfl e (by lia)
 ·let e1:D.dL (us.map Nv++[.inl n]) ((us.map λn=>D.lst (g n))++[.lst []])=dLI (us++[n]) g:=by
   unfold dLI;rw[Ip,Ip];simp[hg e]
  rw[if_neg e,if_neg (by simp),h2,e1,show eW n us=us++[n] from if_neg e]
  have:=wT (us:=us++[n]) (g:=g) (n:=n) (d:=d) (δ:=δ.set i (U (dLI (us++[n]) g,V))) (i:=i) (x:=U (.int n)) (y:=U d) (IE hi) rfl rfl (by simp) (by lia)
  rw[Mg]at this;exact this
section
variable{P:Pt}{L:Row->Qw Int}{us S0:Qw Int}{n0 n:Int}
def kg (L:Row->Qw Int) (pre:Qw Row) (n:Int):Qw D:=(pre.filter λr=>decide (n∈L r)).map rowD
theorem xg (a0 x5 x6:Qq (D×Bool)) (r:Row) (x3:Qq (D×Bool)):∀(l us:Qw Int) (g:Int->Qw D) (x:Qq (D×Bool)),l.Nodup->(∀k∈l,k∉us->g k=[])->us.length+l.length<=900->(∀k∈l,(g k).length<=800)->∃x',aq (λd δ=>ae ((af 4) d δ) d9) (l.map D.int) [a0,U (dLI us g,V),U (rowD r,Y),x3,x,x5,x6]=U (.next [a0,U (dLI (unI us l) (λk=>if k∈l then g k++[rowD r] else g k),V),U (rowD r,Y),x3,x',x5,x6])
 |[],us,g,x,_,_,_,_=>⟨x,by rfl⟩
 |n::l,us,g,x,nd,hg,hl,h8=>by
  rw[J8]at nd;rw[H3]at hl;let e:ae ((af 4) (.int n) [a0,U (dLI us g,V),U (rowD r,Y),x3,x,x5,x6]) d9=U (.next [a0,U (dLI (eW n us) (λk=>if k=n then g n++[rowD r] else g k),V),U (rowD r,Y),x3,U (.int n,Y),x5,x6]):=
   az rfl (Eb (i:=1) (us:=us) (g:=g) (d:=rowD r) rfl rfl (λ_=>rfl) (hg n (by simp)) (by lia) (by have:=h8 n (by simp);lia))
  let ne:∀k∈l,k≠n:=λk hk z=>nd.1 (z▸hk)
  let⟨x',e2⟩:=xg a0 x5 x6 r x3 l (eW n us) (λk=>if k=n then g n++[rowD r] else g k) (U (.int n,Y)) nd.2 (λk hk hn=>by rw[if_neg (ne k hk)];exact hg k (by simp[hk]) λz=>hn (p9.mpr (.inl z))) (by have:=wp (n:=n) (us:=us);lia) λk hk=>by rw[if_neg (ne k hk)];exact h8 k (by simp[hk])
  refine⟨x',?_⟩
  rw[HP];unfold aq;rw[e];dsimp only;rw[e2];show U (Out.next [a0,U (dLI (unI (eW n us) l) _,V),_,_,_,_,_])=U (Out.next [a0,U (dLI (unI (eW n us) l) _,V),_,_,_,_,_]);congr 6;refine fS λk _=>?_
  by_cases z:k=n
  ·subst z;simp[nd.1]
  ·by_cases z2:k∈l<;>simp[z,z2]
def FC (L:Row->Qw Int) (pre:Qw Row) (n:Int):(kg L pre n).length<=pre.length:=by unfold kg;rw[HT];exact JC _ _
theorem vA (a0 x5 x6:Qq (D×Bool)) (hn:∀r∈P.rows,(L r).Nodup/\(L r).length<=50):∀(l pre:Qw Row) (x2 x3 x4:Qq (D×Bool)),(∀r∈l,r∈P.rows)->pre.length+l.length<=12->(unI [] (pre.flatMap L)).length<=50*pre.length->∃y2 y3 y4,aq (λd δ=>ae ((bh (am (af 2) (am (af 3) (toNil)))) d δ) dZ) (l.map λr=>D.tup [rowD r,.lst ((L r).map D.int)]) [a0,U (dLI (unI [] (pre.flatMap L)) (kg L pre),V),x2,x3,x4,x5,x6]=U (.next [a0,U (dLI (unI [] ((pre++l).flatMap L)) (kg L (pre++l)),V),y2,y3,y4,x5,x6])
 |[],pre,x2,x3,x4,_,_,_=>⟨x2,x3,x4,by simp[aq]⟩
 |r::l,pre,x2,x3,x4,hr,hl,hu=>by
  rw[H3]at hl;let⟨n1,n2⟩:=hn r (hr r (by simp))
  let eu:unI [] ((pre++[r]).flatMap L)=unI (unI [] (pre.flatMap L)) (L r):=by
   rw[List.flatMap_append];unfold unI;rw[List.foldl_append];simp
  let⟨y4,e1⟩:=xg a0 x5 x6 r (U (.lst ((L r).map D.int),Y)) (L r) (unI [] (pre.flatMap L)) (kg L pre) x4 n1 (λk _ hk=>by
   unfold kg;rw[List.filter_eq_nil_iff.mpr λq hq z=>hk (b9.mpr (.inr (qao.mpr ⟨q,hq,of_decide_eq_true z⟩)))];rfl) (by lia) λk _=>by have:=FC L pre k;lia
  let eg:dLI (unI (unI [] (pre.flatMap L)) (L r)) (λk=>if k∈L r then kg L pre k++[rowD r] else kg L pre k)=dLI (unI [] ((pre++[r]).flatMap L)) (kg L (pre++[r])):=by
   rw[eu];refine fS λk _=>?_
   unfold kg;rw[qaJ,Ip]
   by_cases z:k∈L r<;>simp[z]
  rw[eg]at e1;let⟨y2,y3,y4',e2⟩:=vA a0 x5 x6 hn l (pre++[r]) (U (rowD r,Y)) (U (.lst ((L r).map D.int),Y)) y4 (λq hq=>hr q (by simp[hq])) (by simp;lia) (by
   rw[eu];have:=o8 (us:=unI [] (pre.flatMap L)) (vs:=L r);simp;lia)
  refine⟨y2,y3,y4',?_⟩
  rw[HP];unfold aq;rw[show ae ((bh (am (af 2) (am (af 3) (toNil)))) (D.tup [rowD r,.lst ((L r).map D.int)]) [a0,U (dLI (unI [] (pre.flatMap L)) (kg L pre),V),x2,x3,x4,x5,x6]) dZ=_ from az rfl (az (a:=(L r).map D.int) rfl e1)]
  rw[Jg]at e2;exact e2
end
end K22
namespace K22
open PySem L2 JP
variable[Md]
structure KI (P:Pt) (L:Row->Qw Int) (us:Qw Int) (Ks:Qw (Qw Row)) (S:Qw Int):Prop where
 nS:S.Nodup
 su:∀k∈S,k∈us
 kk:∀K∈Ks,K.Nodup/\∃n,aM P n/\∀r,r∈K↔Rc P n r
 dis:Ks.Pairwise λA PA=>∀r∈A,r∉PA
 sm:∀k,k∈S↔∃K∈Ks,∃r∈K,k∈L r
section
variable{P:Pt}{L:Row->Qw Int}{us:Qw Int}
abbrev rsD (K:Qw Row):D:=.lst (K.map rowD)
def KI.new {Ks:Qw (Qw Row)}{S:Qw Int}{n:Int}(H:Ls P L us) (h:KI P L us Ks S) (hn:aM P n) (hs:n∉S) {K:Qw Row}(hK:K∈Ks) {r:Row}(hr:r∈K):¬Rc P n r:=λhc=>by
 let⟨_,m,hm,hKm⟩:=h.kk K hK;let⟨r0,h1,h2⟩:=(H.w.mem n).mp hn.1;let key:∀q,Rc P n q->q∈K->r0∈K:=λq hq=>by
  induction hq with
  |one h3 h4=>exact λz=>(hKm r0).mpr (((hKm _).mp z).step hn h4 h1 h2)
  |step h3 h4 h5 h6 h7 ih=>exact λz=>ih ((hKm _).mpr (((hKm _).mp z).step h4 h7 h3.row h5))
 exact hs ((h.sm n).mpr ⟨K,hK,r0,key r hc hr,(H.mem r0 h1 n).mpr ⟨hn,h2⟩⟩)
theorem lZ (H:Ls P L us) (x2 x3:Qq (D×Bool)):∀(l:Qw Int) (Ks:Qw (Qw Row)) (S:Qw Int) (x4:Qq (D×Bool)),(∀k∈l,k∈us)->KI P L us Ks S->Ks.length+l.length<=200->
  ∃Ks' S' y4,aq (λd δ=>ae ((af 4) d δ) cF) (l.map D.int) [U (kx P L,Y),U (pG P L us,Y),x2,x3,x4,U (.lst (Ks.map rsD),V),U (dI S tt,V)]=U (.next [U (kx P L,Y),U (pG P L us,Y),x2,x3,y4,U (.lst (Ks'.map rsD),V),U (dI S' tt,V)])/\KI P L us Ks' S'/\(∀k∈l,k∈S')/\(∀k∈S,k∈S')/\Ks'.length<=Ks.length+l.length
 |[],Ks,S,x4,_,h,_=>⟨Ks,S,x4,rfl,h,(λ_ z=>nomatch z),λ_ z=>z,HQ _⟩
 |n::l,Ks,S,x4,hl,h,hz=>by
  rw[H3]at hz;let hnu:=hl n (by simp)
  let hln:=(H.us n).mp hnu;let hsl:S.length<=100:=Ja (H2 h.nS h.su) H.ul
  by_cases hs:n∈S
  ·let⟨Ks',S',y4,e,g1,g2,g3,g4⟩:=lZ H x2 x3 l Ks S (U (.int n,Y)) (λk hk=>hl k (by simp[hk])) h (by lia)
   refine⟨Ks',S',y4,?_,g1,λk hk=>?_,g3,by simp;lia⟩
   ·rw[HP];unfold aq
    rw[show ae ((af 4) (.int n) [U (kx P L,Y),U (pG P L us,Y),x2,x3,x4,U (.lst (Ks.map rsD),V),U (dI S tt,V)]) cF=U (.next [U (kx P L,Y),U (pG P L us,Y),x2,x3,U (.int n,Y),U (.lst (Ks.map rsD),V),U (dI S tt,V)]) from az rfl (ifN (c:=be (sZ (U (.int n)) (U (dI S tt)))) (by rw[CT,decide_eq_true hs];rfl) rfl)]
    exact e
   grind
  ·let hins:eW n S=S++[n]:=if_neg hs
   let nd1:(S++[n]).Nodup:=hins▸wW h.nS;let⟨C,S1,e1,c1,c2,c3,c4,c5⟩:=jE (S0:=S++[n]) H hln nd1 (by simp) (λk hk=>(qab.mp hk).elim (h.su k) λz=>by simp_all) λm hm ne r hr hml=>by
    rcases qab.mp hm with hm|hm
    ·let⟨K,hK,q,hq,hmq⟩:=(h.sm m).mp hm
     let⟨_,n',_,hKn⟩:=h.kk K hK;let hq1:=(hKn q).mp hq;let lm:=(H.mem q hq1.row m).mp hmq;exact h.new H hln hs hK ((hKn r).mpr (hq1.step lm.1 lm.2 hr.row ((H.mem r hr.row m).mp hml).2)) hr
    ·exact ne (on.mp hm)
   let hC:KI P L us (Ks++[C]) S1:=by
    refine⟨c3,c5,λK hK=>?_,?_,λk=>?_⟩
    ·rcases qab.mp hK with hK|hK
     ·exact h.kk K hK
     ·rw[on.mp hK];exact⟨c1,n,hln,c2⟩
    ·rw[JO]
     exact⟨h.dis,MK _ _,λK hK PA hB r hr z=>by rw[on.mp hB]at z;exact h.new H hln hs hK hr ((c2 r).mp z)⟩
    ·rw[c4,MX,h.sm,Km]
     constructor
     ·rintro((⟨K,hK,z⟩|rfl)|⟨r,hr,z⟩)
      ·exact⟨K,by simp[hK],z⟩
      ·let⟨r0,h1,h2⟩:=(H.w.mem k).mp hln.1
       exact⟨C,by simp,r0,(c2 r0).mpr (.one h1 h2),(H.mem r0 h1 k).mpr ⟨hln,h2⟩⟩
      ·exact⟨C,by simp,r,hr,z⟩
     ·rintro⟨K,hK,r,hr,z⟩
      rcases qab.mp hK with hK|hK
      ·exact .inl (.inl ⟨K,hK,r,hr,z⟩)
      ·rw[on.mp hK]at hr;exact .inr ⟨r,hr,z⟩
   let eb:ae ((af 4) (.int n) [U (kx P L,Y),U (pG P L us,Y),x2,x3,x4,U (.lst (Ks.map rsD),V),U (dI S tt,V)]) cF=U (.next [U (kx P L,Y),U (pG P L us,Y),x2,x3,U (.int n,Y),U (.lst ((Ks++[C]).map rsD),V),U (dI S1 tt,V)]):=by
    let ed:iM 6 (U (.int n)) (U (.bl V)) [U (kx P L,Y),U (pG P L us,Y),x2,x3,U (.int n,Y),U (.lst (Ks.map rsD),V),U (dI S tt,V)]=U (.next [U (kx P L,Y),U (pG P L us,Y),x2,x3,U (.int n,Y),U (.lst (Ks.map rsD),V),U (dI (S++[n]) tt,V)]):=by
     rw[CD (i:=6) (us:=S) (g:=tt) rfl rfl rfl (by lia),hins]
     exact congrArg (λx=>U (Out.next [_,_,_,_,_,_,U (x,V)])) (eV λk _=>by split<;>rfl)
    let ec:wE 6 (λδ=>rY 4 δ) (λδ=>rY 0 δ) (λδ=>rY 1 δ) zB0 [U (kx P L,Y),U (pG P L us,Y),x2,x3,U (.int n,Y),U (.lst (Ks.map rsD),V),U (dI (S++[n]) tt,V)]=U (rsD C,[U (kx P L,Y),U (pG P L us,Y),x2,x3,U (.int n,Y),U (.lst (Ks.map rsD),V),U (dI S1 tt,V)]):=by
     show(match zB0 [.int n,kx P L,pG P L us,.loc B 0] [dI (S++[n]) tt]with
      |some (r,_,[U (e,V)])=>if nx e=V/\nx r=V then U (r,qar _ 6 (U (e,V))) else B
      |_=>B)=_
     rw[e1];rfl
    refine az rfl (ifG (c:=be (sZ (U (.int n)) (U (dI S tt)))) (by rw[CT,decide_eq_false hs];rfl) (sqN ed ?_))
    show(match U (D.lst (Ks.map rsD)),wE 6 (λδ=>rY 4 δ) (λδ=>rY 0 δ) (λδ=>rY 1 δ) zB0 [U (kx P L,Y),U (pG P L us,Y),x2,x3,U (.int n,Y),U (.lst (Ks.map rsD),V),U (dI (S++[n]) tt,V)]with
     |some (.lst ds),U (d,δ')=>if ds.length<lim then U (Out.next (δ'.set 5 (U (.lst (ds++[d]),V)))) else B
     |_,_=>B)=_
    rw[ec];dsimp only;rw[if_pos (by simp;lia),Ip];rfl
   let⟨Ks',S',y4,e,g1,g2,g3,g4⟩:=lZ H x2 x3 l (Ks++[C]) S1 (U (.int n,Y)) (λk hk=>hl k (by simp[hk])) hC (by simp;lia)
   refine⟨Ks',S',y4,?_,g1,λk hk=>?_,λk hk=>g3 k ((c4 k).mpr (.inl (by simp[hk]))),by simp at g4⊢;lia⟩
   ·rw[HP];unfold aq;rw[eb];exact e
   grind
def qN (w:Wf P) (z:Zr P.rows) (nd:∀r∈P.rows,(L r).Nodup) (len:∀r∈P.rows,(L r).length<=4) (mem:∀r∈P.rows,∀n,n∈L r↔aM P n/\Ce.bk n∈r.2):∃Ks:Qw (Qw Row),zD5 [kx P L]=U (.lst (Ks.map rsD),V)/\(∀K∈Ks,K.Nodup/\∃n,aM P n/\∀r,r∈K↔Rc P n r)/\(Ks.Pairwise λA PA=>∀r∈A,r∉PA)/\(∀r∈P.rows,∀n,aM P n->Ce.bk n∈r.2->∃K∈Ks,r∈K)/\Ks.length<=100:=by
 let fl:(P.rows.flatMap L).length<=48:=by
  have:=me (xs:=P.rows) (h:=L) (k:=4) len;have:=z.1;lia
 let ul:(unI [] (P.rows.flatMap L)).length<=48:=by have:=o8 (us:=[]) (vs:=P.rows.flatMap L);simp at this;simp at fl;lia
 let hus:∀n,n∈unI [] (P.rows.flatMap L)↔aM P n:=λn=>by
  rw[b9,qao];constructor
  ·rintro(h|⟨r,hr,h⟩)
   ·cases h
   ·exact((mem r hr n).mp h).1
  ·intro h
   let⟨r,hr,e⟩:=(w.mem n).mp h.1;exact .inr ⟨r,hr,(mem r hr n).mpr ⟨h,e⟩⟩
 let H:Ls P L (unI [] (P.rows.flatMap L)):=⟨w,z,nd,λr hr=>by have:=len r hr;lia,mem,tV Jf,by lia,hus⟩
 let⟨y2,y3,y4,e1⟩:=vA (P:=P) (L:=L) (U (kx P L,Y)) B B (λr hr=>⟨nd r hr,by have:=len r hr;lia⟩) P.rows [] B B B (λ_ h=>h) (by have:=z.1;simp;lia) (by simp[unI])
 let⟨Ks,S,y,e2,g1,g2,_,g4⟩:=lZ H y2 y3 (unI [] (P.rows.flatMap L)) [] [] y4 (λ_ h=>h) ⟨Jf,(λ_ h=>nomatch h),(λ_ h=>nomatch h),L3,λk=>by simp⟩ (by simp at ul⊢;lia)
 refine⟨Ks,opn rfl (stN (δ:=[U (kx P L,Y),U (dLI [] λ_=>[],V),B,B,B,B,B]) rfl (stN (az (a:=P.rows.map λr=>D.tup [rowD r,.lst ((L r).map D.int)]) ?_ e1) (stF (i:=5) (d:=.lst []) rfl (stF (i:=6) (d:=dI [] tt) rfl (stN (az (a:=(unI [] (P.rows.flatMap L)).map D.int) (vn (us:=unI [] (P.rows.flatMap L)) (g:=λn=>.lst (kg L ([]++P.rows) n))) e2) rfl))))),g1.kk,g1.dis,λr hr n hn e=>?_,by simp at g4 ul⊢;lia⟩
 ·show U (LA _ (P.rows.map rowD) (P.rows.map λr=>D.lst ((L r).map D.int)))=_
  simp
 ·let⟨K,hK,q,hq,hnq⟩:=(g1.sm n).mp (g2 n ((hus n).mpr hn))
  let⟨_,m,hm,hKm⟩:=g1.kk K hK;let hq1:=(hKm q).mp hq;exact⟨K,hK,(hKm r).mpr (hq1.step hn ((mem q hq1.row n).mp hnq).2 hr e)⟩
end
end K22
namespace K22
open PySem L2 JP
variable[Md]
section
variable{P:Pt}
def lsB (P:Pt) (r:Row):Qw Int:=(bl [r]).filter λn=>decide (1<((P.ks.map P.c).count (P.c n):Int))
def mK {r:Row}{n:Int}:n∈bl [r]↔Ce.bk n∈r.2:=by rw[cV];simp
def Bx (w:Wf P) {r:Row}(hr:r∈P.rows) (n:Int):n∈lsB P r↔aM P n/\Ce.bk n∈r.2:=by
 unfold lsB;rw[L6,mK,decide_eq_true_iff];constructor
 ·rintro⟨h1,h2⟩
  refine⟨(bw (w.row hr h1)).resolve_left λz=>?_,h1⟩
  have:=(ba w.nk z.1).mpr z.2;lia
 ·rintro⟨h1,h2⟩
  let h0:0<(P.ks.map P.c).count (P.c n):=qaK.mpr (H4 h1.1);have:¬(P.ks.map P.c).count (P.c n)=1:=λz=>iR ⟨h1.1,(ba w.nk h1.1).mp z⟩ h1
  exact⟨h2,by lia⟩
def w8 {r:Row}(h:r.2.length<=4):(lsB P r).length<=4:=by
 let h1:(lsB P r).length<=(bl [r]).length:=JC _ _;let h2:(bl [r]).length<=([r].flatMap λq=>bls q.2).length:=(gQ [r]).2.2.2
 let h3:=lY r.2;simp at h2;lia
theorem wI (w:Wf P) (hl:P.ks.length<=100):∀(l pre:Qw Row) (x3:Qq (D×Bool)),(∀r∈l,r∈P.rows/\r.2.length<=4)->(pre++l).Nodup->pre.length+l.length<=100->∃y3,aq (λd δ=>ae ((af 3) d δ) b8) (l.map rowD) [U (obD P,Y),U (dI (unI [] (P.ks.map P.c)) (cn (P.ks.map P.c)),Y),U (dR pre λr=>.lst ((lsB P r).map D.int),V),x3,B,B]=U (.next [U (obD P,Y),U (dI (unI [] (P.ks.map P.c)) (cn (P.ks.map P.c)),Y),U (dR (pre++l) λr=>.lst ((lsB P r).map D.int),V),y3,B,B])
 |[],pre,x3,_,_,_=>⟨x3,by simp[aq]⟩
 |r::l,pre,x3,hr,nd,hz=>by
  rw[H3]at hz;let⟨hrP,h4⟩:=hr r (by simp)
  let zr:Zr [r]:=⟨by simp,λq hq=>by rw[on.mp hq];exact h4⟩
  let hn:r∉pre:=λz=>by rw[IS]at nd;exact nd.2.2 r z r (by simp) rfl
  let bl4:=vQ zr;let ll:(lsB P r).length<=4:=w8 h4;let ec:ar (ae (dj (frO (ae (aa (dC (aa (U (rowD r)) (U []))) (U [])) zA3))) (bA Y [V,V,Y,Y,Y,Y] (af 5) (λδ=>cI gGt (cM (rY 1 δ) (cM (bP "Painted" "colours" (rd V 0 δ)) (rY 5 δ))) (U (.int 1))) eA [U (obD P,Y),U (dI (unI [] (P.ks.map P.c)) (cn (P.ks.map P.c)),Y),U (dR pre λr=>.lst ((lsB P r).map D.int),V),U (rowD r,Y),B,B]))=U (.lst ((lsB P r).map D.int)):=by
   refine i5 (ds:=(bl [r]).map D.int) (iN (blG (rs:=[r]) (lstO_s _ (by simp)) zr)) (by simp;lia) rfl (cmF (p:=λn=>decide (1<((P.ks.map P.c).count (P.c n):Int))) (g:=D.int) λn hn=>?_) (by simp;lia)
   let hk:=w.row hrP (mK.mp hn);let e:cM (U (dI (unI [] (P.ks.map P.c)) (cn (P.ks.map P.c)))) (cM (U (dI P.ks λn=>.int (P.c n))) (U (.int n)))=U (.int ((P.ks.map P.c).count (P.c n):Nat)):=Bb (g:=cn (P.ks.map P.c)) rfl (Bb (g:=λn=>.int (P.c n)) rfl rfl hk) (b9.mpr (.inr (H4 hk)))
   refine az rfl ?_
   show(match cI gGt (cM (U (dI (unI [] (P.ks.map P.c)) (cn (P.ks.map P.c)))) (cM (U (dI P.ks λn=>.int (P.c n))) (U (.int n)))) (U (.int 1))with|some V=>(match U (D.int n)with|some y=>U (U y)|none=>B)|some Y=>U B|none=>B)=_
   rw[e,cI_s,show gGt (((P.ks.map P.c).count (P.c n):Nat):Int) 1=decide (1<((P.ks.map P.c).count (P.c n):Int)) from rfl]
   by_cases z:1<((P.ks.map P.c).count (P.c n):Int)<;>simp[z]
  let⟨y3,e2⟩:=wI w hl l (pre++[r]) (U (rowD r,Y)) (λq hq=>hr q (by simp[hq])) (by simpa using nd) (by simp;lia)
  refine⟨y3,?_⟩
  rw[HP];unfold aq;rw[show ae ((af 3) (rowD r) [U (obD P,Y),U (dI (unI [] (P.ks.map P.c)) (cn (P.ks.map P.c)),Y),U (dR pre λr=>.lst ((lsB P r).map D.int),V),x3,B,B]) b8=_ from az rfl (EV (i:=2) (rs:=pre) (g:=λr=>.lst ((lsB P r).map D.int)) rfl rfl ec hn (by lia))]
  rw[Jg]at e2;exact e2
def fH (w:Wf P) (z:Zr P.rows) (hl:P.ks.length<=100):∃Ks:Qw (Qw Row),zB7 [obD P]=U (.lst ((Ks.map (sub P)).map obD),V)/\Parts P (Ks.map (sub P))/\Ks.length<=100:=by
 let⟨Ks,e,g1,g2,g3,g4⟩:=qN (L:=lsB P) w z (λr _=>(jZ [r]).filter _) (λr hr=>w8 (z.2 r hr)) λr hr n=>Bx w hr n
 let sub':∀K∈Ks,∀r∈K,r∈P.rows:=λK hK r hr=>by let⟨_,n,_,h⟩:=g1 K hK;exact((h r).mp hr).row
 let zK:∀K∈Ks,Zr K:=λK hK=>⟨Ja (H2 (g1 K hK).1 (sub' K hK)) z.1,λq hq=>z.2 q (sub' K hK q hq)⟩
 let⟨y3,e1⟩:=wI w hl P.rows [] B (λr hr=>⟨hr,z.2 r hr⟩) (by simpa using w.nr) (by have:=z.1;simp;lia)
 refine⟨Ks,opn rfl (stO (qk rfl hl) (stF (i:=2) (d:=dR [] λr=>.lst ((lsB P r).map D.int)) rfl (stN (az (a:=P.rows.map rowD) rfl e1) (rF ?_)))),⟨λA hA=>?_,λA hA=>?_,λA hA=>?_,λr hr n hn hb=>?_,?_⟩,g4⟩
 ·rw[Ix]
  refine i5 (ds:=Ks.map rsD) (iN (x:=frO (ae (aa (U (kx P (lsB P))) (U [])) zD5)) ?_) (by simp;lia) rfl (cmM λK hK=>itG ?_) (by simp;lia)
  ·simp_all
  ·show obO (ae (aa (U (obD P)) (aa (U (.lst (K.map rowD))) (U []))) zD9)=_
   rw[consO_s,consO_s,bindO_s,tF (zK K hK) λn hn=>by let⟨q,hq,e⟩:=cV.mp hn;exact w.row (sub' K hK q hq) e];rfl
 ·let⟨K,_,rfl⟩:=mt.mp hA;rfl
 ·let⟨K,hK,rfl⟩:=mt.mp hA
  exact⟨(g1 K hK).1,jZ K,λn=>cV⟩
 ·let⟨K,hK,rfl⟩:=mt.mp hA
  exact(g1 K hK).2
 ·let⟨K,hK,h⟩:=g3 r hr n hn hb
  exact⟨sub P K,H4 hK,h⟩
 ·exact qak.mpr g2
end
end K22
namespace K22
open PySem L2 JP
variable[Md]
def Ans (P Q:Pt) (d:D):Prop:=(d=.non/\¬∃φ,Iso P Q φ)\/∃us g,d=dI us (λn=>.int (g n))/\us.Nodup/\(∀n,n∈us↔n∈P.ks)/\Iso P Q g
def Nmr (P Q:Pt):Prop:=∀r:Row,(∀n,Ce.bk n∉r.2)->(r∈P.rows↔r∈Q.rows)
def Sp (f:Nat):Prop:=∀P Q:Pt,Wf P->Wf Q->Zr P.rows->Zr Q.rows->P.ks.length<=60->Q.ks.length<=60->Nmr P Q->lo P<f->∃r b σ,aD f [.loc (U "Painted") 0,.loc (U "Painted") 1] [obD P,obD Q]=U (r,b,σ)/\Ans P Q r
def obG {x:Qq (D×Bool)}{P:Pt}(h:x=U (obD P,V)):obO x=U (obD P):=by subst h;rfl
def Fj {x y:Qq D}{A PA:Pt}{f:Qw D->Qw D->Qq (D×Bool×DEnv)}{r:D}{b:Bool}{σ:DEnv}(hx:x=U (obD A)) (hy:y=U (obD PA)) (e:f [.loc (U "Painted") 0,.loc (U "Painted") 1] [obD A,obD PA]=U (r,b,σ)):lw f x y=U r:=by
 subst hx hy;show(match f [.loc (U "Painted") 0,.loc (U "Painted") 1] [obD A,obD PA]with|some (r,_,_)=>U r|_=>B)=_
 rw[e]
def wJ:kt (U .non)=U V:=by rfl
def Fh (us:Qw Int) (g:Int->D):kt (U (dI us g))=U Y:=by rfl
section
variable{A PA:Pt}{n:Nat}{m:Int}
theorem jw (ih:Sp n) (w:Wf A) (wq:Wf PA) (z:Zr A.rows) (zq:Zr PA.rows) (hl:A.ks.length<=60) (hq:PA.ks.length<=60) (nm:Nmr A PA) (hp:∀k∈A.ks,0<=A.c k) (hpq:∀k∈PA.ks,0<=PA.c k) (hm:m∈A.ks) (hlo:lo (mark A m)<n):∀(l:Qw Int) (x3 x4:Qq (D×Bool)),(∀k∈l,k∈PA.ks)->
  (∃y3 y4,aq (λd δ=>ae ((af 3) d δ) (aQ (aD n))) (l.map D.int) [U (obD A,Y),U (obD PA,Y),U (.int m,Y),x3,x4]=U (.next [U (obD A,Y),U (obD PA,Y),U (.int m,Y),y3,y4])/\∀k∈l,PA.c k=A.c m->¬∃φ,Iso (mark A m) (mark PA k) φ)
  \/∃δ us g,aq (λd δ=>ae ((af 3) d δ) (aQ (aD n))) (l.map D.int) [U (obD A,Y),U (obD PA,Y),U (.int m,Y),x3,x4]=U (.ret (dI us λn=>.int (g n)) Y δ)/\us.Nodup/\(∀n,n∈us↔n∈A.ks)/\Iso A PA g
 |[],x3,x4,_=>.inl ⟨x3,x4,by rfl,λk h=>nomatch h⟩
 |k::l,x3,x4,hk=>by
  let hkB:=hk k (by simp)
  let hc:eqO (cM (bP "Painted" "colours" (U (obD PA))) (U (.int k))) (cM (bP "Painted" "colours" (U (obD A))) (U (.int m)))=U (decide (PA.c k=A.c m)):=eqG (Bb (g:=λn=>.int (PA.c n)) rfl rfl hkB) (Bb (g:=λn=>.int (A.c n)) rfl rfl hm)
  rw[HP];unfold aq
  by_cases e:PA.c k=A.c m
  ·rw[decide_eq_true e]at hc
   let⟨r,b,σ,e1,an⟩:=ih (mark A m) (mark PA k) (w.mark m) (wq.mark k) z zq hl hq nm hlo;let s4:lw (aD n) (obO (ae (aa (U (obD A)) (aa (U (.int m)) (U []))) zD6)) (obO (ae (aa (U (obD PA)) (aa (U (.int k)) (U []))) zD6))=U r:=Fj (obG (az rfl (nR hm (by lia)))) (obG (az rfl (nR hkB (by lia)))) e1
   rcases an with⟨rfl,no⟩|⟨us,g,rfl,nd,hu,i⟩
   ·rw[show ae ((af 3) (.int k) [U (obD A,Y),U (obD PA,Y),U (.int m,Y),x3,x4]) (aQ (aD n))=_ from az rfl (ifG hc (sqO (i:=4) s4 (ifN (c:=be (kt (U .non))) (by rfl) rfl)))]
    rcases jw ih w wq z zq hl hq nm hp hpq hm hlo l (U (.int k,Y)) (U (.non,Y)) (λq h=>hk q (by simp[h]))with⟨y3,y4,e2,h2⟩|h2
    ·exact .inl ⟨y3,y4,e2,λq hq'=>by
      grind⟩
    ·exact .inr h2
   ·rw[show ae ((af 3) (.int k) [U (obD A,Y),U (obD PA,Y),U (.int m,Y),x3,x4]) (aQ (aD n))=_ from az rfl (ifG hc (sqO (i:=4) s4 (ifG (c:=be (kt (U (dI us λn=>.int (g n))))) (by rfl) (rtG (d:=dI us λn=>.int (g n)) rfl))))]
    exact .inr ⟨_,us,g,rfl,nd,hu,tI hp hpq hm e i⟩
  ·rw[decide_eq_false e]at hc
   rw[show ae ((af 3) (.int k) [U (obD A,Y),U (obD PA,Y),U (.int m,Y),x3,x4]) (aQ (aD n))=_ from az rfl (ifN hc rfl)]
   rcases jw ih w wq z zq hl hq nm hp hpq hm hlo l (U (.int k,Y)) x4 (λq h=>hk q (by simp[h]))with⟨y3,y4,e2,h2⟩|h2
   ·exact .inl ⟨y3,y4,e2,λq hq'=>by
     rcases qaa.mp hq' with rfl|hq'
     ·exact λy=>(e y).elim
     ·exact h2 q hq'⟩
   ·exact .inr h2
def Dk (ih:Sp n) (w:Wf A) (wq:Wf PA) (z:Zr A.rows) (zq:Zr PA.rows) (hl:A.ks.length<=60) (hq:PA.ks.length<=60) (nm:Nmr A PA) (hp:∀k∈A.ks,0<=A.c k) (hpq:∀k∈PA.ks,0<=PA.c k) (h0:A.ks≠[]) (hlo:∀m,((∃k,aM A k)->aM A m)->lo (mark A m)<n):∃r b,bW 5 2 (aE (aD n)) [obD A,obD PA]=U (r,b)/\Ans A PA r:=by
 let len:neO (cS (U (.lst (A.rows.map rowD)))) (cS (U (.lst (PA.rows.map rowD))))=U (!decide ((A.rows.length:Int)=PA.rows.length)):=by
  rw[ug rfl,ug rfl];simp[neO,eqO_int]
 by_cases e:A.rows.length=PA.rows.length
 ·let⟨m,hm,e1,h1⟩:=vW w (by lia) h0
  rcases jw ih w wq z zq hl hq nm hp hpq hm (hlo m h1) PA.ks B B (λ_ h=>h)with⟨y3,y4,e2,h2⟩|⟨δ,us,g,e2,nd,hu,i⟩
  ·refine⟨.non,Y,opn rfl (stI (len.trans (by simp[e])) (stO (shG (az rfl e1)) (stN (az (a:=PA.ks.map D.int) (iN (x:=fq (U (dI PA.ks λn=>.int (PA.c n)))) l6) e2) (rO rfl)))),.inl ⟨rfl,λ⟨φ,i⟩=>?_⟩⟩
   let⟨g1,g2⟩:=i.ks m hm;exact h2 _ g1 g2 ⟨φ,zf hm i⟩
  ·refine⟨_,Y,opn rfl (stI (len.trans (by simp[e])) (stO (shG (az rfl e1)) ?_)),.inr ⟨us,g,rfl,nd,hu,i⟩⟩
   refine(congrArg (λx=>lN (au x _)) (az (a:=PA.ks.map D.int) (iN (x:=fq (U (dI PA.ks λn=>.int (PA.c n)))) l6) e2)).trans rfl
 ·refine⟨.non,Y,opn rfl (stR (len.trans (by simp;lia)) rfl),.inl ⟨rfl,λ⟨φ,i⟩=>e ?_⟩⟩
  have:=(nJ i w wq).length_eq
  simp_all
end
end K22
namespace K22
open PySem L2 JP
variable[Md]
def wG {α:Type}{f:α->D}{xs:Qw α}{k:Nat}{x:α}(h:xs[k]?=U x):atI (xs.map f) (k:Int)=U (f x):=by
 let⟨hk,rfl⟩:=List.getElem?_eq_some_iff.mp h
 unfold atI ixN;simp[hk]
abbrev EP (P Q:Pt) (us:Qw Int) (g:Int->Int) (cs:Qw D) (x4 x5 x6:Qq (D×Bool)):DEnv:=[U (obD P,Y),U (obD Q,Y),U (dI us λn=>.int (g n),V),U (.lst cs,Y),x4,x5,x6,B,B]
section
variable{P Q A:Pt}{us:Qw Int}{g:Int->Int}{Fr:Qw D->Qq (D×Bool)}
def Hk (cs:Qw D) (x4:Qq (D×Bool)) (p:Nat) (d:D) (b:Bool) (h:kt (U d)=U b):bH Fr (EP P Q us g cs x4 (U (.int p,Y)) (U (d,Y)))=U (b&&decide ((p:Int)<cs.length)):=by
 show vN (kt (U d)) (cI gLt (U (.int p)) (cS (U (.lst cs))))=_;rw[h,ug rfl,cI_s];cases b<;>rfl
theorem wZ:∀(Bs pre:Qw Pt) (f:Nat),(∀PA∈Bs,∃r b,Fr [obD A,obD PA]=U (r,b)/\Ans A PA r)->Bs.length+2<=f->
  (aK (bH Fr) (bE Fr) f (EP P Q us g ((pre++Bs).map obD) (U (obD A,Y)) (U (.int pre.length,Y)) (U (.non,Y)))=U (.next (EP P Q us g ((pre++Bs).map obD) (U (obD A,Y)) (U (.int (pre.length+Bs.length:Nat),Y)) (U (.non,Y))))/\∀PA∈Bs,¬∃φ,Iso A PA φ)
  \/∃(i:Nat) (PA:Pt) (vs:Qw Int) (h:Int->Int),Bs[i]?=U PA/\aK (bH Fr) (bE Fr) f (EP P Q us g ((pre++Bs).map obD) (U (obD A,Y)) (U (.int pre.length,Y)) (U (.non,Y)))=U (.next (EP P Q us g ((pre++Bs).map obD) (U (obD A,Y)) (U (.int (pre.length+i+1:Nat),Y)) (U (dI vs λn=>.int (h n),Y))))/\vs.Nodup/\(∀n,n∈vs↔n∈A.ks)/\Iso A PA h
 |[],pre,f,_,hf=>by
  obtain⟨f,rfl⟩:∃k,f=k+1:=⟨f - 1,by simp at hf;lia⟩
  refine .inl ⟨?_,λPA h=>nomatch h⟩
  unfold aK;rw[Hk _ _ _ _ _ wJ];simp
 |PA::Bs,pre,f,hF,hf=>by
  rw[H3]at hf;obtain⟨f,rfl⟩:∃k,f=k+2:=⟨f - 2,by lia⟩
  let⟨r,b,e1,an⟩:=hF PA (by simp)
  let hB:(pre++PA::Bs)[pre.length]?=U PA:=by simp
  let body:bE Fr (EP P Q us g ((pre++PA::Bs).map obD) (U (obD A,Y)) (U (.int pre.length,Y)) (U (.non,Y)))=U (.next (EP P Q us g ((pre++PA::Bs).map obD) (U (obD A,Y)) (U (.int (pre.length+1:Nat),Y)) (U (r,Y)))):=by
   refine sqO (i:=6) (d:=r) (shG (az (a:=[obD A,obD PA]) (tS rfl (tS (ixG rfl rfl (wG hB)) rfl)) e1)) ?_
   rfl
  let step:aK (bH Fr) (bE Fr) (f+2) (EP P Q us g ((pre++PA::Bs).map obD) (U (obD A,Y)) (U (.int pre.length,Y)) (U (.non,Y)))=aK (bH Fr) (bE Fr) (f+1) (EP P Q us g ((pre++PA::Bs).map obD) (U (obD A,Y)) (U (.int (pre.length+1:Nat),Y)) (U (r,Y))):=by
   rw[aK,Hk _ _ _ _ _ wJ,body];have:decide ((pre.length:Int)<(((pre++PA::Bs).map obD).length:Nat))=V:=by simp;lia
   rw[this];rfl
  rw[step]
  rcases an with⟨rfl,no⟩|⟨vs,h,rfl,nd,hu,i⟩
  ·let e3:pre++PA::Bs=(pre++[PA])++Bs:=by simp
   let l3:(pre++[PA]).length=pre.length+1:=by simp
   let ih:=wZ Bs (pre++[PA]) (f+1) (λC hC=>hF C (by simp[hC])) (by lia)
   rw[<-e3,l3]at ih
   rcases ih with⟨e2,h2⟩|⟨i,C,vs,h,hi,e2,h2⟩
   ·refine .inl ⟨by rw[e2,H3,show pre.length+1+Bs.length=pre.length+(Bs.length+1) from by lia],λC hC=>?_⟩
    rcases qaa.mp hC with rfl|hC
    ·exact no
    ·exact h2 C hC
   ·exact .inr ⟨i+1,C,vs,h,hi,by rw[e2,show pre.length+1+i+1=pre.length+(i+1)+1 from by lia],h2⟩
  ·refine .inr ⟨0,PA,vs,h,rfl,?_,nd,hu,i⟩
   rfl
end
def DL {ds:Qw D}{i:Nat}(hi:i<ds.length) (hz:ds.length<=1000):gO (bq (U (.lst ds)) (U B) (aX (Fw (U (.int (i+1:Nat))) (U (.int 1))))) (bq (U (.lst ds)) (aX (U (.int (i+1:Nat)))) (U B))=U (.lst (ds.take i++ds.drop (i+1))):=by
 let e1:Fw (U (.int (i+1:Nat))) (U (.int 1))=U (.int (i:Nat)):=by
  show U (D.int (((i+1:Nat):Int) - 1))=_;congr 2;lia
 rw[e1];show gO (U (.lst (fP ds B (U (i:Int))))) (U (.lst (fP ds (U ((i+1:Nat):Int)) B)))=_;let a1:fP ds B (U (i:Int))=ds.take i:=by
  unfold fP;rw[eO,fO];simp
 let a2:fP ds (U ((i+1:Nat):Int)) B=ds.drop (i+1):=by
  unfold fP;rw[eO,fO];rw[Me (by lia)];rw[J2];simp
 rw[a1,a2,catO_s _ _ (by simp[lim];lia)]
theorem rT {α:Type}[DecidableEq α]:∀{l:Qw α}{i:Nat}{a:α},l.Nodup->l[i]?=U a->l.take i++l.drop (i+1)=l.erase a
 |[],_,_,_,h=>nomatch h
 |b::l,0,a,_,h=>by cases h;simp
 |b::l,i+1,a,nd,h=>by
  let h':l[i]?=U a:=h;let ne:b≠a:=λz=>by subst z;exact(qae.mp nd).1 (HR h')
  rw[List.erase_cons_tail (by simpa using ne),<-rT (qae.mp nd).2 h'];rfl
end K22
namespace K22
open PySem L2 JP
structure Iv (P Q:Pt) (L M:Qw Pt) (k:Nat) (js0 js:Qw Nat) (us:Qw Int) (g:Int->Int):Prop where
 nd:us.Nodup
 im:∀n∈us,n∈P.ks/\g n∈Q.ks/\Q.c (g n)=P.c n
 who:∀n∈us,iL P n\/∃i A,i<k/\L[i]?=U A/\n∈A.ks
 al:∀n,iL P n->n∈us
 hB:∀i A,i<k->L[i]?=U A->∃j PA,js0[i]?=U j/\M[j]?=U PA/\Iso A PA g/\∀n∈A.ks,n∈us
 len:js0.length=k
 ndj:(js0++js).Nodup
 lt:∀j∈js,j<M.length
 mat:∀φ,Iso P Q φ->Mat L M k js
variable[Md]
section
variable{P Q A PA:Pt}{L M:Qw Pt}{k:Nat}{js0 js:Qw Nat}{us vs:Qw Int}{g h:Int->Int}
theorem Iv.step (Pz:Iv P Q L M k js0 js us g) (w:Wf P) (wq:Wf Q) (F:Fine P Q) (LP:Parts P L) (LQ:Parts Q M) (hA:L[k]?=U A) {j:Nat}(hj:j∈js) (hB:M[j]?=U PA) (hv:∀n,n∈vs↔n∈A.ks) (hI:Iso A PA h):Iv P Q L M (k+1) (js0++[j]) (js.erase j) (unI us vs) (λn=>if n∈vs then h n else g n):=by
 let mA:=HR hA;let mB:=HR hB;let ih:∀n∈A.ks,h n∈Q.ks/\Q.c (h n)=P.c n:=λn hn=>by
  let⟨h1,h2⟩:=hI.ks n hn;rw[LP.c A mA,LQ.c PA mB]at h2;exact⟨LQ.ks wq mB h1,h2⟩
 let agree:∀n∈us,n∈A.ks->g n=h n:=λn hn hnA=>by
  let⟨h1,h2,h3⟩:=Pz.im n hn;let⟨h4,h5⟩:=ih n hnA
  rcases bw h1 with a|a
  ·exact(((gu w wq F h1 h2 h3).mp a).2 (h n) h4 (h5.trans h3.symm)).symm
  ·rcases Pz.who n hn with b|⟨i,A',hi,hA',hn'⟩
   ·exact(iR b a).elim
   ·let mA':=HR hA'
    let⟨r',g1,g2⟩:=((LP.wf A' mA').mem n).mp hn';let⟨r,g3,g4⟩:=((LP.wf A mA).mem n).mp hnA;have:=LP.eq hA' hA (LP.clo mA' g1 a g2 (LP.sub mA g3) g4) g3;lia
 let im':∀n∈unI us vs,n∈P.ks/\(if n∈vs then h n else g n)∈Q.ks/\Q.c (if n∈vs then h n else g n)=P.c n:=λn hn=>by
  by_cases z:n∈vs
  ·have:=(hv n).mp z
   rw[if_pos z];exact⟨LP.ks w mA this,ih n this⟩
  ·rw[if_neg z]
   exact Pz.im n ((b9.mp hn).resolve_right z)
 refine⟨tV Pz.nd,im',λn hn=>?_,λn hn=>b9.mpr (.inl (Pz.al n hn)),λi A' hi hA'=>?_,by rw[IJ,Pz.len];rfl,?_,λj' hj'=>Pz.lt j' (List.mem_of_mem_erase hj'),λφ i=>xX (Pz.mat φ i) LP.wf LQ.wf hA hj hB hI⟩
 ·rcases b9.mp hn with z|z
  ·rcases Pz.who n z with a|⟨i,A',hi,h2⟩
   ·exact .inl a
   ·exact .inr ⟨i,A',by lia,h2⟩
  ·exact .inr ⟨k,A,by lia,hA,(hv n).mp z⟩
 ·rcases NU i k with z|z
  ·let⟨j',B',h1,h2,h3,h4⟩:=Pz.hB i A' z hA'
   refine⟨j',B',by rw[Jz (by rw[Pz.len];exact z)];exact h1,h2,h3.congr (LP.wf A' (HR hA')) λn hn=>?_,λn hn=>b9.mpr (.inl (h4 n hn))⟩
   simp_all
  ·obtain rfl:i=k:=by lia
   rw[hA]at hA';cases hA';refine⟨j,PA,by simp[Pz.len],hB,hI.congr (LP.wf A mA) λn hn=>by simp_all,λn hn=>b9.mpr (.inr ((hv n).mpr hn))⟩
 ·let p:(js0++[j]++js.erase j).Perm (js0++js):=by
   rw[Jg];exact MI _ (List.perm_cons_erase hj).symm
  exact p.nodup_iff.mpr Pz.ndj
def Iv.done (Pz:Iv P Q L M L.length js0 js us g) (w:Wf P) (wq:Wf Q) (F:Fine P Q) (nm:∀r:Row,(∀n,Ce.bk n∉r.2)->(r∈P.rows↔r∈Q.rows)) (LP:Parts P L) (LQ:Parts Q M):(∀n,n∈us↔n∈P.ks)/\Iso P Q g:=by
 refine⟨λn=>⟨λh=>(Pz.im n h).1,λh=>?_⟩,G6 w wq F nm LP LQ (λn hn=>(Pz.im n (Pz.al n hn)).2) Pz.len (qan.mp Pz.ndj).1 λi A hA=>?_⟩
 ·rcases bw h with a|a
  ·exact Pz.al n a
  ·let⟨r,hr,e⟩:=(w.mem n).mp h
   let⟨A,hA,hrA⟩:=LP.cov r hr n a e;let⟨i,hi⟩:=List.mem_iff_getElem?.mp hA;let⟨_,_,_,_,_,h4⟩:=Pz.hB i A (List.getElem?_eq_some_iff.mp hi).1 hi
   exact h4 n ((LP.wf A hA).row hrA e)
 ·let⟨j,PA,h1,h2,h3,_⟩:=Pz.hB i A (List.getElem?_eq_some_iff.mp hA).1 hA
  exact⟨j,PA,h1,h2,h3⟩
end
end K22
namespace K22
open PySem L2 JP
variable[Md]
def HA {δ:DEnv}{i:Nat}{us vs:Qw Int}{g h:Int->Int}{x:Qq D}(e:δ[i]?=U (U (dI us λn=>.int (g n),V))) (hx:x=U (dI vs λn=>.int (h n))) (nd:vs.Nodup) (hl:us.length+vs.length<=1000):EZ i x δ=U (.next (δ.set i (U (dI (unI us vs) λn=>.int (if n∈vs then h n else g n),V)))):=by
 let r:bu i δ=U (dI us λn=>.int (g n)):=by unfold bu;rw[e];rfl
 unfold EZ;rw[r,hx,Fb nd hl];dsimp only;rw[eV (us:=unI us vs) (g:=λk=>if k∈vs then D.int (h k) else .int (g k)) (h:=λn=>.int (if n∈vs then h n else g n)) λn _=>by split<;>rfl]
def Gz {js:Qw Nat}{m:Nat}(nd:js.Nodup) (h:∀j∈js,j<m):js.length<=m:=by
 have:=H2 nd (l₂:=Iu m) λj hj=>qad.mpr (h j hj)
 simp_all
section
variable{P Q:Pt}{L M:Qw Pt}{Fr:Qw D->Qq (D×Bool)}
abbrev cs (P:Pt) (M:Qw Pt) (js:Qw Nat):Qw D:=(js.map λj=>M.getD j P).map obD
theorem kR (w:Wf P) (wq:Wf Q) (F:Fine P Q) (hl:P.ks.length<=60) (LP:Parts P L) (LQ:Parts Q M) (hM:M.length<=100) (hF:∀A∈L,∀PA∈M,∃r b,Fr [obD A,obD PA]=U (r,b)/\Ans A PA r):∀(Ls pre:Qw Pt) (js0 js:Qw Nat) (us:Qw Int) (g:Int->Int) (x4 x5 x6:Qq (D×Bool)),L=pre++Ls->Iv P Q L M pre.length js0 js us g->
  (∃δ,aq (λd δ=>ae ((af 4) d δ) (cW Fr)) (Ls.map obD) (EP P Q us g (cs P M js) x4 x5 x6)=U (.ret .non Y δ)/\¬∃φ,Iso P Q φ)
  \/∃us' g' js0' js' y4 y5 y6,aq (λd δ=>ae ((af 4) d δ) (cW Fr)) (Ls.map obD) (EP P Q us g (cs P M js) x4 x5 x6)=U (.next (EP P Q us' g' (cs P M js') y4 y5 y6))/\Iv P Q L M L.length js0' js' us' g'
 |[],pre,js0,js,us,g,x4,x5,x6,e,Pz=>by
  refine .inr ⟨us,g,js0,js,x4,x5,x6,by rfl,?_⟩
  simp_all
 |A::Ls,pre,js0,js,us,g,x4,x5,x6,e,Pz=>by
  let hA:L[pre.length]?=U A:=by rw[e];simp
  let mA:=HR hA;let jl:js.length<=100:=Ja (Gz (qan.mp Pz.ndj).2.1 Pz.lt) hM;let get:∀{j PA},j∈js->M.getD j P=PA->M[j]?=U PA:=λ{j PA} hj hB=>by
   have:=Pz.lt j hj
   simp_all
  let hF':∀PA∈js.map λj=>M.getD j P,∃r b,Fr [obD A,obD PA]=U (r,b)/\Ans A PA r:=λPA hB=>by
   let⟨j,hj,e⟩:=mt.mp hB;exact hF A mA PA (HR (get hj e))
  rw[HP];unfold aq
  rcases wZ (P:=P) (Q:=Q) (us:=us) (g:=g) (js.map λj=>M.getD j P) [] 1000 hF' (by rw[HT];lia)with⟨e1,no⟩|⟨i,PA,vs,h,hi,e1,nd,hv,hI⟩
  ·rw[show ae ((af 4) (obD A) (EP P Q us g (cs P M js) x4 x5 x6)) (cW Fr)=_ from az rfl (sqO (i:=5) (d:=.int 0) rfl (sqO (i:=6) (d:=.non) rfl (sqN e1 (ifT (c:=kt (U .non)) wJ rfl))))]
   refine .inl ⟨_,rfl,λ⟨φ,i⟩=>?_⟩
   let⟨gg,g1,_⟩:=Pz.mat φ i;let⟨h1,PA,h2,ψ,h3⟩:=g1 pre.length A (HQ _) hA;refine no PA (mt.mpr ⟨gg pre.length,h1,?_⟩) ⟨ψ,h3⟩
   rw[J3,h2];rfl
  ·rw[H8,Option.map_eq_some_iff]at hi
   let⟨j,hj,hB⟩:=hi;let mj:=HR hj;let ij:=(List.getElem?_eq_some_iff.mp hj).1
   let V':=Pz.step w wq F LP LQ hA mj (get mj hB) hv hI;let hul:us.length<=60:=Ja (H2 Pz.nd λn hn=>(Pz.im n hn).1) hl
   let hvl:vs.length<=60:=Ja (H2 nd λn hn=>LP.ks w mA ((hv n).mp hn)) hl
   let ec:gO (bq (U (.lst (cs P M js))) (U B) (aX (Fw (U (.int (i+1:Nat))) (U (.int 1))))) (bq (U (.lst (cs P M js))) (aX (U (.int (i+1:Nat)))) (U B))=U (.lst (cs P M (js.erase j))):=by
    rw[DL (by simpa using ij) (by simp;lia),<-rT (qan.mp Pz.ndj).2.1 hj]
    simp[cs,MC,NB]
   let e1':aK (bH Fr) (bE Fr) 1000 (EP P Q us g (cs P M js) (U (obD A,Y)) (U (.int 0,Y)) (U (.non,Y)))=U (.next (EP P Q us g (cs P M js) (U (obD A,Y)) (U (.int (i+1:Nat),Y)) (U (dI vs λn=>.int (h n),Y)))):=by
    rw[show i+1=0+i+1 from by lia];exact e1
   rw[show ae ((af 4) (obD A) (EP P Q us g (cs P M js) x4 x5 x6)) (cW Fr)=_ from az rfl (sqO (i:=5) (d:=.int 0) rfl (sqO (i:=6) (d:=.non) rfl (sqN e1' (ifF (c:=kt (U (dI vs λn=>.int (h n)))) (Fh _ _) (sqO (i:=3) ec (HA (i:=2) (us:=us) (vs:=vs) (g:=g) (h:=h) rfl rfl nd (by lia)))))))]
   refine kR w wq F hl LP LQ hM hF Ls (pre++[A]) (js0++[j]) (js.erase j) _ _ _ _ _ (by rw[e];simp) ?_
   rw[IJ];exact V'
end
end K22
namespace K22
open PySem L2 JP
variable[Md]
def Hv {x:Qq (D×Bool)}{us:Qw Int}{g:Int->D}(h:x=U (dI us g,V)):frO x=U (dI us g):=by subst h;rfl
def wn {M:Qw Pt}{P:Pt}:(Iu M.length).map (λj=>M.getD j P)=M:=by
 refine List.ext_getElem (by simp) λi h1 h2=>?_
 simp_all
section
variable{P Q A PA:Pt}{L M:Qw Pt}
def Parts.z (LP:Parts P L) (w:Wf P) (z:Zr P.rows) (hA:A∈L):Zr A.rows:=⟨Ja (H2 (LP.wf A hA).nr λr hr=>LP.sub hA hr) z.1,λq hq=>z.2 q (LP.sub hA hq)⟩
def Parts.kl (LP:Parts P L) (w:Wf P) (hA:A∈L):A.ks.length<=P.ks.length:=H2 (LP.wf A hA).nk λn hn=>LP.ks w hA hn
def Parts.bk (LP:Parts P L) (hA:A∈L) {r:Row}(h:∀n,Ce.bk n∉r.2):r∉A.rows:=λhr=>by
 let⟨n,_,h2⟩:=LP.one A hA;have:∃m,Ce.bk m∈r.2:=by
  cases (h2 r).mp hr with
  |one _ e=>exact⟨_,e⟩
  |step _ _ _ _ e=>exact⟨_,e⟩
 simp_all
def Parts.ne (LP:Parts P L) (w:Wf P) (hA:A∈L):A.ks≠[]:=λe=>by
 let⟨n,hn,h2⟩:=LP.one A hA;let⟨r,hr,h⟩:=(w.mem n).mp hn.1;have:=(LP.wf A hA).row ((h2 r).mpr (.one hr h)) h
 simp_all
def yO {vs:Qw Int}{g:Int->Int}(w:Wf P) (wq:Wf Q) (LP:Parts P L) (LQ:Parts Q M) (nd:vs.Nodup) (hv:∀n,n∈vs↔iL P n) (hg:∀n∈vs,g n∈Q.ks/\Q.c (g n)=P.c n):Iv P Q L M 0 [] (Iu M.length) vs g:=
 ⟨nd,λn hn=>⟨((hv n).mp hn).1,hg n hn⟩,λn hn=>.inl ((hv n).mp hn),λn hn=>(hv n).mpr hn,λi A h=>absurd h (KT i),rfl,by simpa using ML,λj hj=>qad.mp hj,λφ i=>wz i w wq LP LQ⟩
def Rfd.lo {P' Q':Pt}(R:Rfd P Q P' Q') (w:Wf P):K22.lo P'<=K22.lo P:=GK (by rw[R.kP];exact w.nk) λn ⟨h1,m,h2,h3,h4⟩=>by
 rw[R.kP]at h1 h2;exact⟨h1,m,h2,R.low m h2 n h1 h3,h4⟩
def Fine.posQ (F:Fine P Q):∀k∈Q.ks,0<=Q.c k:=λk hk=>by
 let⟨n,hn,e⟩:=mt.mp (F.cnt.mem_iff.mpr (H4 (f:=Q.c) hk));rw[<-e];exact F.pos n hn
end
theorem qf {n:Nat}(ih:Sp n):Sp (n+1):=λP Q w wq z zq hl hq nm hlo=>by
 let⟨b,P',Q',e0,h1,h2⟩:=CR w wq z zq hl hq;let hs:kW 0 1 zB3 [U (.loc (U "Painted") 7,V),U (.loc (U "Painted") 8,V),B,B,B,B,B,U (obD P,V),U (obD Q,V)]=U (.bl b,[U (.loc (U "Painted") 7,V),U (.loc (U "Painted") 8,V),B,B,B,B,B,U (obD P',V),U (obD Q',V)]):=by
  show(if(7:Nat)≠8 then(match zB3 [.loc (U "Painted") 0,.loc (U "Painted") 1] [obD P,obD Q]with
   |some (r,Y,[U (e1,V),U (e2,V)])=>U (r,[U (.loc (U "Painted") 7,V),U (.loc (U "Painted") 8,V),B,B,B,B,B,U (e1,V),U (e2,V)])
   |_=>B) else B)=_
  rw[e0];rfl
 let open':∀{r b δ},gI (bW 5 2 (aE (aD n))) [U (.loc (U "Painted") 7,V),U (.loc (U "Painted") 8,V),B,B,B,B,B,U (obD P,V),U (obD Q,V)]=U (.ret r b δ)->aD (n+1) [.loc (U "Painted") 0,.loc (U "Painted") 1] [obD P,obD Q]=U (r,b,δ.drop 7):=λ{r b δ} e=>by
  show FX 7 (gI (bW 5 2 (aE (aD n))) [U (.loc (U "Painted") 7,V),U (.loc (U "Painted") 8,V),B,B,B,B,B,U (obD P,V),U (obD Q,V)])=_;rw[e];rfl
 cases b with
 |false=>
  refine⟨.non,Y,_,open' (δ:=[U (.loc (U "Painted") 7,V),U (.loc (U "Painted") 8,V),B,B,B,B,B,U (obD P',V),U (obD Q',V)]) ?_,.inl ⟨rfl,h1 rfl⟩⟩
  show au (ifX (EB (tyX (kW 0 1 zB3 _))) _ _) _=_;rw[hs];rfl
 |true=>
  let R:=h2 rfl;let w':=R.wfP w;let wq':=R.wfQ wq;let F:=R.fine;let hl':P'.ks.length<=60:=by rw[R.kP];exact hl
  let hq':Q'.ks.length<=60:=by rw[R.kQ];exact hq
  let z':Zr P'.rows:=by rw[R.rP];exact z
  let zq':Zr Q'.rows:=by rw[R.rQ];exact zq
  let nm':Nmr P' Q':=λr hr=>by rw[R.rP,R.rQ];exact nm r hr
  let⟨vs,g,e1,nd,hv,hg⟩:=qB w' wq' (by lia) (by lia) F.cnt
  let⟨Ks,e2,LP,_⟩:=fH w' z' (by lia)
  let⟨Js,e3,LQ,hJ⟩:=fH wq' zq' (by lia)
  let go:gI (bW 5 2 (aE (aD n))) [U (.loc (U "Painted") 7,V),U (.loc (U "Painted") 8,V),B,B,B,B,B,U (obD P,V),U (obD Q,V)]=kX (bW 5 2 (aE (aD n))) [U (obD P',Y),U (obD Q',Y),B,B,B,B,B,B,B]:=by
   show au (ifX (EB (tyX (kW 0 1 zB3 _))) _ _) _=_;rw[hs];rfl
  let hF:∀A∈Ks.map (sub P'),∀PA∈Js.map (sub Q'),∃r b,bW 5 2 (aE (aD n)) [obD A,obD PA]=U (r,b)/\Ans A PA r:=λA hA PA hB=>by
   refine Dk ih (LP.wf A hA) (LQ.wf PA hB) (LP.z w' z' hA) (LQ.z wq' zq' hB) (Ja (LP.kl w' hA) hl') (Ja (LQ.kl wq' hB) hq') (λr hr=>⟨λy=>(LP.bk hA hr y).elim,λy=>(LQ.bk hB hr y).elim⟩) (λk hk=>?_) (λk hk=>?_) (LP.ne w' hA) λm hm=>?_
   ·rw[LP.c A hA];exact F.pos k (LP.ks w' hA hk)
   ·rw[LQ.c PA hB];exact F.posQ k (LQ.ks wq' hB hk)
   ·let y1:=Cw w' LP F.pos hA hm
    let y2:=R.lo w;lia
  let s2:frO (ae (aa (U (obD P')) (aa (U (obD Q')) (U []))) zB9)=U (dI vs λn=>.int (g n)):=Hv (az rfl e1)
  let s3:frO (ae (aa (U (obD Q')) (U [])) zB7)=U (.lst (cs P' (Js.map (sub Q')) (Iu (Js.map (sub Q')).length))):=by
   unfold cs;rw[wn];exact frG (az rfl e3)
  let s4:dj (frO (ae (aa (U (obD P')) (U [])) zB7))=U ((Ks.map (sub P')).map obD):=iN (frG (az rfl e2))
  rcases kR w' wq' F hl' LP LQ (by rw[HT];exact hJ) hF (Ks.map (sub P')) [] [] _ vs g B B B rfl (yO w' wq' LP LQ nd hv hg)with⟨δ,e4,no⟩|⟨us',g',js0,js',y4,y5,y6,e4,Pz⟩
  ·refine⟨.non,Y,_,open' (δ:=δ) ?_,.inl ⟨rfl,λ⟨φ,i⟩=>no ⟨φ,R.iso φ i⟩⟩⟩
   rw[go];refine sqF (i:=2) s2 (sqO (i:=3) s3 ?_)
   exact(congrArg (λx=>au x _) (az (a:=(Ks.map (sub P')).map obD) s4 e4)).trans rfl
  ·let⟨hu,i⟩:=Pz.done w' wq' F nm' LP LQ
   refine⟨dI us' λn=>.int (g' n),V,_,open' (δ:=EP P' Q' us' g' (cs P' (Js.map (sub Q')) js') y4 y5 y6) ?_,.inr ⟨us',g',rfl,Pz.nd,λn=>by rw[hu,R.kP],R.back i⟩⟩
   rw[go];exact sqF (i:=2) s2 (sqO (i:=3) s3 (sqN (az (a:=(Ks.map (sub P')).map obD) s4 e4) rfl))
theorem pK:∀f,Sp f
 |0=>λP Q _ _ _ _ _ _ _ h=>absurd h (KT _)
 |f+1=>qf (pK f)
end K22
namespace K22
open PySem L2 JP
variable[Md]
def FY {i:Nat}{x:Qq D}{d:D}{δ:DEnv}(h:x=U d) (hi:MW i δ.length=V:=by rfl):bj i x δ=U (.next (δ.set i (U (d,Y)))):=by
 simp_all
def Dm {α:Type}{p:α->Bool}{a b:Qw α}(e:a.filter p=b.filter p) (r:α) (h:p r=V):r∈a↔r∈b:=by
 let h1:r∈a.filter p↔r∈a:=by rw[L6];exact⟨λx=>x.1,λx=>⟨x,h⟩⟩
 simp_all
def pl (rs:Qw Row):Pt:=⟨rs,bl rs,λ_=>0⟩
def Ev {rs:Qw Row}(nd:rs.Nodup):Wf (pl rs):=⟨nd,jZ rs,λn=>cV⟩
def qJ (a b:Qw Row):eqO (U (.lst (a.map rowD))) (U (.lst (b.map rowD)))=U (decide (a=b)):=by
 let h:ok2 (.lst (a.map rowD)) (.lst (b.map rowD))=V:=by
  unfold ok2;rw[wg,wg];rfl
 rw[uV _ _ h];have:(D.lst (a.map rowD)=.lst (b.map rowD))↔a=b:=by
  rw[D.lst.injEq];exact qaH λ_ _=>eP
 simp![this]
def nB (r:Row):Bool:=decide (bl [r]=[])
def sK {r:Row}:nB r=V↔∀n,Ce.bk n∉r.2:=by
 unfold nB;rw[decide_eq_true_eq];refine⟨λh n e=>?_,λh=>List.eq_nil_iff_forall_not_mem.mpr λn hn=>?_⟩
 ·have:=mK.mpr e
  simp_all
 ·exact h n (mK.mp hn)
def rD {rs:Qw Row}(z:Zr rs):zA9 [.lst (rs.map rowD)]=U (.lst ((rs.filter nB).map rowD),V):=by
 refine opn rfl (rF (i5 (ds:=rs.map rowD) rfl (by have:=z.1;simp;lia) rfl (cmF (p:=nB) λr hr=>?_) (by have:=z.1;have:=JC nB rs;simp;lia)))
 let zr:Zr [r]:=⟨by simp,λq hq=>by rw[on.mp hq];exact z.2 r hr⟩
 let e:be (AH (frO (ae (aa (dC (aa (U (rowD r)) (U []))) (U [])) zA3)))=U (nB r):=by
  refine(congrArg (λx=>be (AH x)) (blG (rs:=[r]) (lstO_s _ (by simp)) zr)).trans ?_
  show U (!(!((bl [r]).map D.int).isEmpty))=_;unfold nB;cases bl [r]<;>simp
 show(match be (AH (frO (ae (aa (dC (aa (U (rowD r)) (U []))) (U [])) zA3)))with|some V=>(match U (rowD r)with|some y=>U (U y)|none=>B)|some Y=>U B|none=>B)=_
 rw[e];cases nB r<;>rfl
def Ax {rs:Qw Row}(z:Zr rs):zB1 [.lst (rs.map rowD)]=U (dI (bl rs) λ_=>.int 0,V):=by
 let hl:=vQ z;exact opn rfl (rF (qQ (us:=bl rs) (g:=λ_=>.int 0) (i5 (ds:=(bl rs).map D.int) (iN (blG rfl z)) (by simp;lia) rfl (cmM λn hn=>itG (lO rfl rfl)) (by simp;lia)) (jZ rs) (by lia)))
def D7 {rs:Qw Row}(z:Zr rs):Aq "Painted" zA5 (aa (U (.lst (rs.map rowD))) (aa (frO (ae (aa (U (.lst (rs.map rowD))) (U [])) zB1)) (U [])))=U (obD (pl rs)):=
 Hu (g:=λ_=>.int 0) rfl (Hv (az rfl (Ax z)))
def v6 {us:Qw Int}{rs:Qw Row}(nd:us.Nodup) (h:∀n,n∈us↔n∈bl rs):aY (us.map D.int)=(bl rs).map D.int:=by
 rw[<-(gQ rs).1];refine wQ (gR (λ_=>rfl) (λ_ _=>rfl) us) ((K7 (aR (λ_ _ _ _ e=>D.int.inj e) nd) (L2.G.uniqD_nodup _)).mpr λd=>?_)
 rw[L2.G.uniqD_mem];refine⟨λhd=>?_,λhd=>?_⟩
 ·let⟨n,hn,rfl⟩:=mt.mp hd
  have:=cV.mp ((h n).mp hn);let⟨q,hq,e⟩:=this;exact H4 (qao.mpr ⟨q,hq,(jQ).mpr e⟩)
 ·let⟨n,hn,rfl⟩:=mt.mp hd
  let⟨q,hq,e⟩:=qao.mp hn;exact H4 ((h n).mpr (cV.mpr ⟨q,hq,jQ.mp e⟩))
def zu (rs:Qw Row):Prop:=Zr rs/\Cn rs/\(bl rs).length<=10
def xI {as bs:Qw Row}{φ:Int->Int}(ca:Cn as) (cb:Cn bs) (i:Iso (pl as) (pl bs) φ):as.filter nB=bs.filter nB:=by
 let key:∀r,nB r=V->rR φ r=r:=λr hr=>pg λn hn=>(sK.mp hr n hn).elim
 refine Cn.eq ⟨ca.nd.filter _,ca.so.sublist ((qaL).map _)⟩ ⟨cb.nd.filter _,cb.so.sublist ((qaL).map _)⟩ λr=>?_
 rw[L6,L6];refine⟨λ⟨h1,h2⟩=>⟨?_,h2⟩,λ⟨h1,h2⟩=>⟨?_,h2⟩⟩
 ·have:=i.rows r h1;rwa[key r h2]at this
 ·let⟨r',h3,h4⟩:=i.onto r h1
  have:nB r'=V:=sK.mpr λn hn=>by
   have:=fD (φ:=φ) hn;rw[h4]at this;exact sK.mp h2 _ this
  rw[key r' this]at h4;rw[<-h4];exact h3
def mw (as:Qw Row) (g:Int->Int):D:=.tup [.str "same",.lst ((bl as).map λn=>.tup [.int n,.tup [.str "blank",.int (g n)]])]
def lM {as bs:Qw Row}(ha:zu as) (hb:zu bs):(zC0 [.lst (as.map rowD),.lst (bs.map rowD)]=U (.tup [.str "apart"],Y)/\¬∃φ,Iso (pl as) (pl bs) φ)\/∃g,zC0 [.lst (as.map rowD),.lst (bs.map rowD)]=U (mw as g,Y)/\Iso (pl as) (pl bs) g:=by
 let wa:=Ev ha.2.1.nd;let wb:=Ev hb.2.1.nd;let la:=ha.2.2;let lb:=hb.2.2;let hc:eqO (frO (ae (aa (U (.lst (as.map rowD))) (U [])) zA9)) (frO (ae (aa (U (.lst (bs.map rowD))) (U [])) zA9))=U (decide (as.filter nB=bs.filter nB)):=by
  refine O0 ?_ (qJ _ _)
  exact congr (congrArg eqO (frG (az rfl (rD ha.1)))) (frG (az rfl (rD hb.1)))
 by_cases e:as.filter nB=bs.filter nB
 ·rw[decide_eq_true e]at hc
  let nm:Nmr (pl as) (pl bs):=λr hr=>by
   have:nB r=V:=sK.mpr hr;let h1:=(Dm e r this);exact h1
  let hlo:lo (pl as)<12:=by
   have:lo (pl as)<=(bl as).length:=JC _ _;lia
  let⟨r,b,σ,e1,an⟩:=pK 12 (pl as) (pl bs) wa wb ha.1 hb.1 (by show(bl as).length<=60;lia) (by show(bl bs).length<=60;lia) nm hlo
  let s2:=Fj (D7 ha.1) (D7 hb.1) e1
  rcases an with⟨rfl,no⟩|⟨us,g,rfl,nd,hu,i⟩
  ·exact .inl ⟨opn rfl (stO (d:=.non) rfl (stN (ifG hc (FY (i:=2) s2)) (stR (c:=kt (U .non)) wJ rfl))),no⟩
  ·let hs:rj .it (U (dI us λn=>.int (g n)))=U (.lst ((bl as).map D.int)):=by
    unfold rj;rw[l6,fZ (gR (λ_=>rfl) (λ_ _=>rfl) us) (.inr (dr (λ_=>rfl) us)),v6 nd hu]
   refine .inr ⟨g,opn rfl (stO (d:=.non) rfl (stN (ifG hc (FY (i:=2) s2)) (stI (c:=kt (U (dI us λn=>.int (g n)))) (Fh _ _) (rO (lO rfl (i5 (ds:=(bl as).map D.int) (iN hs) (by simp;lia) rfl (cmM λn hn=>itG (lO rfl (lO rfl (Bb (g:=λn=>.int (g n)) rfl rfl ((hu n).mpr hn))))) (by simp;lia))))))),i⟩
 ·rw[decide_eq_false e]at hc
  exact .inl ⟨opn rfl (stO (d:=.non) rfl (stI hc (stR (c:=kt (U .non)) wJ rfl))),λ⟨φ,i⟩=>e (xI ha.2.1 hb.2.1 i)⟩
end K22
namespace K22
open PySem L2 JP
variable[Md]
def mvR (mv:Mv) (q:Row):Row:=(q.1,q.2.map λc=>mvC c mv c)
def sI {rs:Qw Row}(hl:rs.length<=60) (h4:∀q∈rs,q.2.length<=4) (mv:Mv):∃fs:Qw Row,Cn fs/\(∀r,r∈fs↔∃q∈rs,r=mvR mv q)/\fs.length<=rs.length/\zA4 [.lst (rs.map rowD),.lst (mv.map mvD)]=U (.lst (fs.map rowD),V):=by
 let⟨fs,f0,f1,f2,f4⟩:=sL (x:=U (.lst ((rs.map (mvR mv)).map rowD))) rfl (by simpa using hl)
 refine⟨fs,f0,λr=>?_,by simp_all,?_⟩
 ·rw[f1,NQ]
  exact⟨λ⟨q,hq,e⟩=>⟨q,hq,e.symm⟩,λ⟨q,hq,e⟩=>⟨q,hq,e.symm⟩⟩
 let⟨⟨x3,x4,x5,x6,x7,x8,x9⟩,e⟩:=l7 (γ:=Qq (D×Bool)×Qq (D×Bool)×Qq (D×Bool)×Qq (D×Bool)×Qq (D×Bool)×Qq (D×Bool)×Qq (D×Bool)) (f:=rowD) (h:=mvR mv) (xs:=rs) (acc:=[]) (y:=(B,B,B,B,B,B,B))
  (body:=λd δ=>ae ((bh (am (af 3) (am (af 4) (toNil)))) d δ) fy)
  (E:=λacc y=>[U (.lst (rs.map rowD),Y),U (.lst (mv.map mvD),Y),U (.lst (acc.map rowD),V),y.1,y.2.1,y.2.2.1,y.2.2.2.1,y.2.2.2.2.1,y.2.2.2.2.2.1,y.2.2.2.2.2.2]) (by simp;lia) λq hq acc ⟨x3,x4,x5,x6,x7,x8,x9⟩ ha=>by
   let⟨⟨y6,y7,y8,y9⟩,e⟩:=l7 (γ:=Qq (D×Bool)×Qq (D×Bool)×Qq (D×Bool)×Qq (D×Bool)) (f:=ceD) (h:=λc=>mvC c mv c) (xs:=q.2) (acc:=[]) (y:=(x6,x7,x8,x9))
    (body:=λd δ=>ae ((af 6) d δ) fA)
    (E:=λcs y=>[U (.lst (rs.map rowD),Y),U (.lst (mv.map mvD),Y),U (.lst (acc.map rowD),V),U (.str q.1,Y),U (.tup (q.2.map ceD),Y),U (.lst (cs.map ceD),V),y.1,y.2.1,y.2.2.1,y.2.2.2]) (by have:=h4 q hq;simp;lia) λc hc cs ⟨x6,x7,x8,x9⟩ hcs=>by
     let⟨y8,y9,e⟩:=DM (U (.lst (rs.map rowD),Y)) (U (.lst (mv.map mvD),Y)) (U (.lst (acc.map rowD),V)) (U (.str q.1,Y)) (U (.tup (q.2.map ceD),Y)) (U (.lst (cs.map ceD),V)) c mv c x8 x9;refine⟨(U (ceD c,Y),U (ceD (mvC c mv c),Y),y8,y9),?_⟩
     show au (aq _ _ _) _=_;refine(congrArg (λz=>au z _) e).trans ?_
     rw[seqO_n];show ui 5 (U (ceD (mvC c mv c))) _=_;rw[sE (ds:=cs.map ceD) _ rfl (by simp;lia),Ip];rfl
   rw[Oi]at e;refine⟨(U (.str q.1,Y),U (.tup (q.2.map ceD),Y),U (.lst ((q.2.map λc=>mvC c mv c).map ceD),Y),y6,y7,y8,y9),?_⟩
   show au (aq _ _ _) _=_;refine(congrArg (λz=>au z _) e).trans ?_
   rw[seqO_n];show ui 2 (dh (aa (U (.str q.1)) (aa (U (.tup ((q.2.map λc=>mvC c mv c).map ceD))) (U [])))) _=_
   rw[lO rfl rfl,sE (ds:=acc.map rowD) _ rfl (by simp;lia),Ip];rfl
 exact stF (d:=.lst []) (lstO_s _ (by simp)) (stN e (rF f4))
nonrec theorem q9:∀{cs:Qw Ce}{T:Qw Int},T.Nodup->(cs.foldl qY T).Nodup
 |[],_,h=>h
 |c::cs,T,h=>by
  rw[L7];refine q9 ?_
  cases c with
  |nm w=>exact h
  |bk k=>
   unfold qY;dsimp only;split
   ·exact h
   ·rename_i z;exact qan.mpr ⟨h,by simp,λa ha b hb e=>by simp_all⟩
def ki {rs:Qw Row}(hrs:rs.length<=20) (h4:∀q∈rs,q.2.length<=4):zA6 [.lst (rs.map rowD)]=U (.lst ((bl rs).map D.int),V):=by
 let⟨hlen,⟨y2,y3,y4⟩,e⟩:=j4 (γ:=Qq (D×Bool)×Qq (D×Bool)×Qq (D×Bool)) (f:=rowD) (F:=λ(T:Qw Int) (q:Row)=>q.2.foldl qY T) (m:=J9) (k:=4) (PA:=500) (xs:=rs) (s:=[]) (y:=(B,B,B)) (body:=λd δ=>ae ((bh (am (af 2) (am (af 3) (toNil)))) d δ) dG)
  (E:=λT y=>[U (.lst (rs.map rowD),Y),U (.lst (T.map D.int),V),y.1,y.2.1,y.2.2]) (by simp;lia) λq hq T ⟨y2,y3,y4⟩ hT=>by
   let hq4:=h4 q hq;let⟨hl,z4,e⟩:=j4 (γ:=Qq (D×Bool)) (f:=ceD) (F:=qY) (m:=J9) (k:=1) (PA:=600) (xs:=q.2) (s:=T) (y:=y4) (body:=λd δ=>ae ((af 4) d δ) dN)
    (E:=λT y=>[U (.lst (rs.map rowD),Y),U (.lst (T.map D.int),V),U (.str q.1,Y),U (.tup (q.2.map ceD),Y),y]) (by lia) λc hc T y hT=>by
     refine⟨zD T c,U (ceD c,Y),az rfl ?_⟩
     cases c with
     |nm w=>
      rfl
     |bk n=>
      let c1:=lV "blank";let c2:o4 (U (.int n)) (U (.lst (T.map D.int)))=U (!decide (n∈T)):=Ex (λ_ _=>D.int.inj) (λ_=>rfl) n T
      unfold qY;dsimp only
      by_cases h:n∈T
      ·rw[decide_eq_true h]at c2;rw[if_pos h];exact ifN (DK c1 c2) rfl
      ·rw[decide_eq_false h]at c2;rw[if_neg h,Ip]
       exact ifG (DK c1 c2) (Ho (ds:=T.map D.int) (d:=.int n) rfl rfl (by simp;lia))
   exact⟨by lia,(U (.str q.1,Y),U (.tup (q.2.map ceD),Y),z4),az rfl e⟩
 let hm:∀(xs:Qw Row) (T:Qw Int) (n:Int),n∈xs.foldl (λT q=>q.2.foldl qY T) T↔n∈T\/∃q∈xs,Ce.bk n∈q.2:=by
  intro xs
  induction xs with
  |nil=>intro T n;simp
  |cons q xs ih=>simp[L7,ih,pu,or_assoc]
 let nd:∀(xs:Qw Row) (T:Qw Int),T.Nodup->(xs.foldl (λT q=>q.2.foldl qY T) T).Nodup:=by
  intro xs
  induction xs with
  |nil=>simp
  |cons q xs ih=>exact λT h=>ih _ (q9 h)
 refine opn rfl (stF (d:=.lst []) (lstO_s _ (by simp)) (stN e (rF ?_)))
 have:=fZ (c:=.it) (ds:=(rs.foldl (λT q=>q.2.foldl qY T) []).map D.int) (gR (λ_=>rfl) (λ_ _=>rfl) _) (.inr (dr (λ_=>rfl) _))
 rw[v6 (rs:=rs) (nd rs [] Jf) λn=>by rw[hm,cV];simp]at this
 exact this
theorem A3 (w:Ih):∀(mv:Mv) (t:Ce),mvC (.nm w) mv t=t
 |[],t=>rfl
 |q::mv,t=>by
  show mvC (.nm w) mv (if Ce.nm w=.bk q.1 then q.2 else t)=t
  exact A3 w mv t
theorem AN (φ:Int->Int) (n:Int):∀(us:Qw Int) (t:Ce),mvC (.bk n) (us.map λk=>(k,Ce.bk (φ k))) t=if n∈us then .bk (φ n) else t
 |[],t=>rfl
 |k::us,t=>by
  show mvC (.bk n) (us.map λk=>(k,Ce.bk (φ k))) (if Ce.bk n=.bk k then .bk (φ k) else t)=_
  rw[AN φ n us];simp;lia
def B8 {φ:Int->Int}{us:Qw Int}{q:Row}(h:∀n,Ce.bk n∈q.2->n∈us):mvR (us.map λk=>(k,Ce.bk (φ k))) q=rR φ q:=by
 refine Pq rfl (Jj λc hc=>?_)
 cases c with
 |nm w=>rw[A3];rfl
 |bk n=>rw[AN,if_pos (h n hc)];rfl
def jo {rs:Qw Row}(hl:rs.length<=60) (h4:∀q∈rs,q.2.length<=4) {us:Qw Int}(hu:∀n∈bl rs,n∈us) (φ:Int->Int):∃fs:Qw Row,Cn fs/\(∀r,r∈fs↔∃q∈rs,r=rR φ q)/\fs.length<=rs.length/\zA4 [.lst (rs.map rowD),.lst (us.map λn=>.tup [.int n,.tup [.str "blank",.int (φ n)]])]=U (.lst (fs.map rowD),V):=by
 let⟨fs,h1,h2,h3,e⟩:=sI hl h4 (us.map λk=>(k,Ce.bk (φ k)))
 let key:∀q∈rs,mvR (us.map λk=>(k,Ce.bk (φ k))) q=rR φ q:=λq hq=>B8 λn hn=>hu n (cV.mpr ⟨q,hq,hn⟩)
 refine⟨fs,h1,λr=>?_,h3,?_⟩
 ·rw[h2]
  exact⟨λ⟨q,hq,e⟩=>⟨q,hq,by rw[<-key q hq];exact e⟩,λ⟨q,hq,e⟩=>⟨q,hq,by rw[key q hq];exact e⟩⟩
 ·rw[Ix]at e;exact e
def pM {as fs:Qw Row}{φ:Int->Int}(hi:∀n∈bl as,∀m∈bl as,φ n=φ m->n=m) (h:∀r,r∈fs↔∃q∈as,r=rR φ q):Iso (pl as) (pl fs) φ:=
 ⟨λn hn=>by
  let⟨q,hq,e⟩:=cV.mp hn;exact⟨cV.mpr ⟨rR φ q,(h _).mpr ⟨q,hq,rfl⟩,fD e⟩,rfl⟩,hi,λr hr=>(h _).mpr ⟨r,hr,rfl⟩,λr hr=>by
  let⟨q,hq,e⟩:=(h r).mp hr;exact⟨q,hq,e.symm⟩⟩
def wl {as bs fs:Qw Row}{φ:Int->Int}(i:Iso (pl as) (pl bs) φ) (cb:Cn bs) (cf:Cn fs) (h:∀r,r∈fs↔∃q∈as,r=rR φ q):fs=bs:=
 Cn.eq cf cb λr=>by
  rw[h];exact⟨λ⟨q,hq,e⟩=>by rw[e];exact i.rows q hq,λhr=>by let⟨q,hq,e⟩:=i.onto r hr;exact⟨q,hq,e.symm⟩⟩
end K22
namespace K22
open PySem L2 JP
variable[Md]
abbrev mI (g:Int->Int) (n:Int):D:=.tup [.int n,.tup [.str "blank",.int (g n)]]
def BQ (a b:D):neO (cS (U (.tup [a,b]))) (U (.int 2))=U Y:=(congrArg be (eqO_int 2 2)).trans (by simp)
def uK (a b:Int):neO (U (.int a)) (U (.int b))=U (!decide (a=b)):=(congrArg be (eqO_int a b)).trans rfl
def BB {k:Int}(h:0<=k):zC2 [.tup [.str "blank",.int k]]=U (.bl V,Y):=by
 refine opn rfl (stI (c:=orO (be (tyB (dE "tuple" (U (.tup [.str "blank",.int k]))))) (orO (neO (cS (U (.tup [.str "blank",.int k]))) (U (.int 2))) (be (tyB (dE "str" (U (.str "blank"))))))) ?_ (stI (c:=eqO (U (.str "blank")) (U (.str "name"))) ?_ (rO (x:=A4 (ofB (eqO (U (.str "blank")) (U (.str "blank")))) (A4 (U (.bl V)) (U (.bl (decide (0<=k)))))) ?_)))
 ·rfl
 ·rfl
 ·rw[lV,decide_eq_true h];rfl
theorem wi {g:Int->Int}(a0 a1:Qq (D×Bool)):∀(us:Qw Int) (x2 x3:Qq (D×Bool)),(∀n∈us,0<=g n)->∃y2 y3,aq (λd δ=>ae ((bh (am (af 2) (am (af 3) (toNil)))) d δ) bG) (us.map λn=>.tup [mI g n,.int n]) [a0,a1,x2,x3]=U (.next [a0,a1,y2,y3])
 |[],x2,x3,_=>⟨x2,x3,by rfl⟩
 |n::us,x2,x3,h=>by
  let⟨y2,y3,e⟩:=wi a0 a1 us (U (mI g n,Y)) (U (.int n,Y)) λm hm=>h m (by simp[hm])
  refine⟨y2,y3,?_⟩
  rw[HP];unfold aq;let e1:orO (be (tyB (dE "tuple" (U (mI g n))))) (orO (neO (cS (U (mI g n))) (U (.int 2))) (orO (be (tyB (shO (ae (aa (U (.int n)) (U [])) zC5)))) (neO (U (.int n)) (U (.int n)))))=U Y:=by
   rw[BQ,uK];simp;rfl
  let e2:be (tyB (shO (ae (aa (U (.tup [.str "blank",.int (g n)])) (U [])) zC2)))=U Y:=by
   rw[consO_s,bindO_s,BB (h n (by simp))];rfl
  rw[show ae ((bh (am (af 2) (am (af 3) (toNil)))) (.tup [mI g n,.int n]) [a0,a1,x2,x3]) bG=U (.next [a0,a1,U (mI g n,Y),U (.int n,Y)]) from az rfl (ifF e1 (ifN e2 rfl))]
  exact e
theorem EM {g:Int->Int}:∀us:Qw Int,iJ (us.map (mI g)) (us.map D.int)=us.map λn=>.tup [mI g n,.int n]
 |[]=>rfl
 |n::us=>by rw[HP,HP,HP,<-EM us];rfl
def zn {g:Int->Int}{us:Qw Int}(h:∀n∈us,0<=g n):zB2 [.lst (us.map (mI g)),.lst (us.map D.int)]=U (.bl V,Y):=by
 let⟨y2,y3,e⟩:=wi (U (.lst (us.map (mI g)),Y)) (U (.lst (us.map D.int),Y)) us B B h;refine opn rfl (stI (c:=orO (be (tyB (dE "list" (U (.lst (us.map (mI g))))))) (neO (cS (U (.lst (us.map (mI g))))) (cS (U (.lst (us.map D.int)))))) ?_ (stN (az (a:=us.map λn=>.tup [mI g n,.int n]) ?_ e) (rO rfl)))
 ·rw[ug rfl,ug rfl,uK];simp;rfl
 ·show U (iJ (us.map (mI g)) (us.map D.int))=_
  rw[EM]
theorem uN {g:Int->Int}{all:Qw Int}(hi:∀n∈all,∀m∈all,g n=g m->n=m) (nd:all.Nodup) (a0 a1 a2 a5:Qq (D×Bool)):∀(us:Qw Int) (x4:Qq (D×Bool)),(∀n∈us,n∈all)->∃y4,aq (λd δ=>ae ((af 4) d δ) dt) (us.map λn=>ceD (.bk (g n))) [a0,a1,a2,U (.lst (all.map λn=>ceD (.bk (g n))),Y),x4,a5]=U (.next [a0,a1,a2,U (.lst (all.map λn=>ceD (.bk (g n))),Y),y4,a5])
 |[],x4,_=>⟨x4,by rfl⟩
 |n::us,x4,h=>by
  let⟨y4,e⟩:=uN hi nd a0 a1 a2 a5 us (U (ceD (.bk (g n)),Y)) λm hm=>h m (by simp[hm])
  refine⟨y4,?_⟩
  rw[HP];unfold aq;let nd':(all.map λn=>ceD (.bk (g n))).Nodup:=aR (λx hx y hy e=>hi x hx y hy (Ce.bk.inj (mh e))) nd
  let c1:FN (U (.lst (all.map λn=>ceD (.bk (g n))))) (U (ceD (.bk (g n))))=U (.int 1):=by
   have:(all.map λn=>ceD (.bk (g n))).count (ceD (.bk (g n)))=1:=by
    let h1:=List.nodup_iff_count.mp nd' (ceD (.bk (g n)));let h2:=qaK.mpr (H4 (f:=λn=>ceD (.bk (g n))) (h n (by simp)))
    lia
   show(if okD 16 (ceD (.bk (g n)))=V/\(all.map λn=>ceD (.bk (g n))).all (okD 16)=V then U (D.int ((all.map λn=>ceD (.bk (g n))).count (ceD (.bk (g n))):Nat)) else B)=_
   rw[if_pos ⟨tL _,dr (λn=>tL _) all⟩,this];rfl
  let e1:orO (neO (U (.str "blank")) (U (.str "blank"))) (cI gGt (FN (U (.lst (all.map λn=>ceD (.bk (g n))))) (U (ceD (.bk (g n))))) (U (.int 1)))=U Y:=by
   rw[c1,show neO (U (.str "blank")) (U (.str "blank"))=U Y from(congrArg be (lV "blank")).trans rfl];rfl
  rw[show ae ((af 4) (ceD (.bk (g n))) [a0,a1,a2,U (.lst (all.map λn=>ceD (.bk (g n))),Y),x4,a5]) dt=U (.next [a0,a1,a2,U (.lst (all.map λn=>ceD (.bk (g n))),Y),U (ceD (.bk (g n)),Y),a5]) from az rfl (ifN e1 rfl)]
  exact e
def uM {as bs:Qw Row}{g:Int->Int}(ha:zu as) (hb:Cn bs) (h0:∀n∈bl bs,0<=n) (i:Iso (pl as) (pl bs) g):zB6 [.lst (as.map rowD),.lst (bs.map rowD),mw as g]=U (.bl V,Y):=by
 let z:=ha.1;let la:=ha.2.2;let⟨fs,cf,hf,_,e1⟩:=jo (rs:=as) (by have:=z.1;lia) z.2 (us:=bl as) (λ_ h=>h) g
 have:fs=bs:=wl i hb cf hf;subst this;let bk:frO (ae (aa (U (.lst (as.map rowD))) (U [])) zA6)=U (.lst ((bl as).map D.int)):=frG (az rfl (ki (by have:=z.1;lia) z.2))
 let⟨y4,e4⟩:=uN (g:=g) (all:=bl as) i.inj (jZ as) (U (.lst (as.map rowD),Y)) (U (.lst (fs.map rowD),Y)) (U (mw as g,Y)) B (bl as) B (λ_ h=>h)
 refine opn rfl (stI (c:=orO (be (tyB (dE "tuple" (U (mw as g))))) (orO (neO (cS (U (mw as g))) (U (.int 2))) (orO (be (tyB (dE "str" (U (.str "same"))))) (neO (U (.str "same")) (U (.str "same")))))) ?_ (stI (c:=be (tyB (shO (ae (aa (U (.lst ((bl as).map (mI g)))) (aa (frO (ae (aa (U (.lst (as.map rowD))) (U [])) zA6)) (U []))) zB2)))) ?_ (stF (i:=3) (d:=.lst ((bl as).map λn=>ceD (.bk (g n)))) ?_ (stN (az (a:=(bl as).map λn=>ceD (.bk (g n))) rfl e4) (rO ?_)))))
 ·rfl
 ·refine(congrArg (λx=>be (tyB (shO (ae (aa (U (.lst ((bl as).map (mI g)))) (aa x (U []))) zB2)))) bk).trans ?_
  rw[consO_s,consO_s,bindO_s,zn (us:=bl as) λn hn=>h0 _ (i.ks n hn).1];rfl
 ·exact i5 (ds:=(bl as).map (mI g)) rfl (by simp;lia) rfl (cmM (g:=λn=>ceD (.bk (g n))) λn hn=>itP rfl) (by simp;lia)
 ·refine O0 (congrArg (λx=>ofB (eqO x (U (.lst (fs.map rowD))))) (frG (az rfl e1))) ?_
  simp[qJ]
end K22
namespace K22
open PySem L2 JP
variable[Md]
def wD {ds:Qw D}{i:Nat}(hi:i<ds.length) (hz:ds.length<=1000):gO (bq (U (.lst ds)) (U B) (aX (U (.int (i:Nat))))) (bq (U (.lst ds)) (aX (dY (U (.int (i:Nat))) (U (.int 1)))) (U B))=U (.lst (ds.take i++ds.drop (i+1))):=by
 let e1:dY (U (.int (i:Nat))) (U (.int 1))=U (.int (i+1:Nat)):=by
  show U (D.int ((i:Int)+1))=_;congr 2
 show gO (U (.lst (fP ds B (U (i:Int))))) (U (.lst (fP ds (U ((i+1:Nat):Int)) B)))=_;let a1:fP ds B (U (i:Int))=ds.take i:=by
  unfold fP;rw[eO,fO];simp
 let a2:fP ds (U ((i+1:Nat):Int)) B=ds.drop (i+1):=by
  unfold fP;rw[eO,fO];rw[Me (by lia)];rw[J2];simp
 rw[a1,a2,catO_s _ _ (by simp[lim];lia)]
def FR {c:Qq Bool}{x:Qq D}{d:D}{y:Qq Out}{δ:DEnv}{g:DEnv->Qq Out}(h:c=U V) (k:x=U d):lN (au (ifO c (dz x δ) y) g)=U (d,V):=by
 subst h k;rfl
abbrev lsD (o:Qw Int):D:=.lst (o.map D.int)
theorem E4 {Fr:Qw D->Qq (D×Bool)}{us:Qw Int}{i:Nat}{n:Int}(hn:us[i]?=U n):∀(rs os:Qw (Qw Int)) (x3:Qq (D×Bool)),os.length+rs.length<=1000->(∀r∈rs,r.length<=1000)->∃y3,aq (λd δ=>ae ((af 3) d δ) (bY Fr)) (rs.map lsD) [U (lsD us,Y),U (.lst (os.map lsD),V),U (.int (i:Nat),Y),x3]=U (.next [U (lsD us,Y),U (.lst ((os++rs.map (n::·)).map lsD),V),U (.int (i:Nat),Y),y3])
 |[],os,x3,_,_=>⟨x3,by simp[aq]⟩
 |r::rs,os,x3,hl,h3=>by
  rw[H3]at hl;let⟨y3,e⟩:=E4 hn rs (os++[n::r]) (U (lsD r,Y)) (by simp;lia) λq hq=>h3 q (by simp[hq])
  refine⟨y3,?_⟩
  rw[HP];unfold aq;let c:gO (dC (aa (ixO (U (lsD us)) (U (.int (i:Nat)))) (U []))) (U (lsD r))=U (lsD (n::r)):=by
   refine(congrArg (λx=>gO (dC (aa x (U []))) (U (lsD r))) (ixG rfl rfl (wG (f:=D.int) hn))).trans ?_
   rw[consO_s,lstO_s _ (by simp),catO_s _ _ (by have:=h3 r (by simp);simp[lim];lia)];rfl
  rw[show ae ((af 3) (lsD r) [U (lsD us,Y),U (.lst (os.map lsD),V),U (.int (i:Nat),Y),x3]) (bY Fr)=U (.next [U (lsD us,Y),U (.lst ((os++[n::r]).map lsD),V),U (.int (i:Nat),Y),U (lsD r,Y)]) from by
   rw[Ip];exact az rfl (Ho (i:=1) (ds:=os.map lsD) c rfl (by simp;lia))]
  rw[HP,show os++(n::r)::rs.map (n::·)=(os++[n::r])++rs.map (n::·) from by simp];exact e
theorem pY:∀{us:Qw Int}{i:Nat}{n:Int},us[i]?=U n->(n::(us.take i++us.drop (i+1))).Perm us
 |[],_,_,h=>nomatch h
 |a::us,0,n,h=>by cases h;simp
 |a::us,i+1,n,h=>by
  let h':us[i]?=U n:=h;have:=pY h';show(n::a::(us.take i++us.drop (i+1))).Perm (a::us);exact(NW _ _ _).trans (this.cons a)
theorem AG {Fr:Qw D->Qq (D×Bool)}{us:Qw Int}{c:Nat}(hl:us.length<=3) (hc:c<=100) (hF:∀i,i<us.length->∃rs:Qw (Qw Int),Fr [lsD (us.take i++us.drop (i+1))]=U (.lst (rs.map lsD),V)/\(∀r∈rs,r.Perm (us.take i++us.drop (i+1)))/\rs.length<=c):∀(k:Nat) (is:Qw Nat) (os:Qw (Qw Int)) (x2 x3:Qq (D×Bool)),is.length<=k->(∀i∈is,i<us.length)->(∀o∈os,o.Perm us)->os.length+c*is.length<=1000->∃(os':Qw (Qw Int)) (y2 y3:Qq (D×Bool)),aq (λd δ=>ae ((af 2) d δ) (bZ Fr)) (is.map λ(i:Nat)=>.int (0+(i:Int))) [U (lsD us,Y),U (.lst (os.map lsD),V),x2,x3]=U (.next [U (lsD us,Y),U (.lst (os'.map lsD),V),y2,y3])/\(∀o∈os',o.Perm us)/\os'.length<=os.length+c*is.length
 |_,[],os,x2,x3,_,_,ho,_=>⟨os,x2,x3,by rfl,ho,by simp⟩
 |0,i::is,os,x2,x3,h,_,_,_=>absurd h (by simp)
 |k+1,i::is,os,x2,x3,hk,hi,ho,hz=>by
  rw[H3,NT]at hz;rw[H3]at hk;let⟨rs,e1,h1,h2⟩:=hF i (hi i (by simp))
  let hlt:=hi i (by simp)
  let hn:us[i]?=U us[i]:=by simp[hlt]
  let⟨y3,e2⟩:=E4 (Fr:=Fr) hn rs os x3 (by lia) λr hr=>by
   rw[(h1 r hr).length_eq];simp;lia
  let⟨os',z2,z3,e3,h3,h4⟩:=AG hl hc hF k is (os++rs.map (us[i]::·)) (U (.int (i:Nat),Y)) y3 (by lia) (λj hj=>hi j (by simp[hj])) (λo h=>by
   rcases qab.mp h with h|h
   ·exact ho o h
   ·let⟨r,hr,rfl⟩:=mt.mp h
    exact((h1 r hr).cons _).trans (pY hn)) (by simp;lia)
  refine⟨os',z2,z3,?_,h3,by simp at h4;rw[H3,NT];lia⟩
  rw[HP];unfold aq;let ec:dj (frO (ae (aa (gO (bq (U (lsD us)) (U B) (aX (U (.int (i:Nat))))) (bq (U (lsD us)) (aX (dY (U (.int (i:Nat))) (U (.int 1)))) (U B))) (U [])) Fr))=U (rs.map lsD):=by
   refine iN (frG (az (a:=[lsD (us.take i++us.drop (i+1))]) (tS ?_ rfl) e1))
   rw[wD (by simpa using hlt) (by simp;lia)]
   simp[lsD,MC,NB]
  rw[NX];rw[show ae ((af 2) (.int (i:Nat)) [U (lsD us,Y),U (.lst (os.map lsD),V),x2,x3]) (bZ Fr)=U (.next [U (lsD us,Y),U (.lst ((os++rs.map (us[i]::·)).map lsD),V),U (.int (i:Nat),Y),y3]) from az rfl (az (a:=rs.map lsD) ec e2)]
  exact e3
theorem nL:∀(f:Nat) (us:Qw Int),us.length<f->us.length<=3->∃os:Qw (Qw Int),aO f [lsD us]=U (.lst (os.map lsD),V)/\(∀o∈os,o.Perm us)/\os.length<=[1,1,2,6].getD us.length 0
 |0,us,h,_=>absurd h (by simp)
 |f+1,us,hf,h3=>by
  let hq:eqO (cS (U (lsD us))) (U (.int 0))=U (decide ((us.length:Int)=0)):=by
   rw[ug rfl,eqO_int];simp
  match us,hf,h3,hq with
  |[],_,_,hq=>exact⟨[[]],opn rfl (FR (c:=eqO (cS (U (lsD []))) (U (.int 0))) (hq.trans (by simp)) (x:=dC (aa (dC (U [])) (U []))) (by rfl)),by simp,by simp⟩
  |n::us,hf,h3,hq=>
   let hF:∀i,i<(n::us).length->∃rs:Qw (Qw Int),aO f [lsD ((n::us).take i++(n::us).drop (i+1))]=U (.lst (rs.map lsD),V)/\(∀r∈rs,r.Perm ((n::us).take i++(n::us).drop (i+1)))/\rs.length<=[1,1,2,6].getD us.length 0:=λi hi=>by
    let hl:=(pY (us:=n::us) (i:=i) (n:=(n::us)[i]) (by simp[hi])).length_eq
    rw[H3]at hl;let hl':((n::us).take i++(n::us).drop (i+1)).length=us.length:=by simpa using hl
    rw[H3]at hf h3;have:=nL f ((n::us).take i++(n::us).drop (i+1)) (by lia) (by lia)
    rw[hl']at this;exact this
   let hc:[1,1,2,6].getD us.length 0<=6:=by
    rw[H3]at h3
    match us.length,h3 with
    |0,_=>decide
    |1,_=>decide
    |2,_=>decide
    |k+3,h=>exact absurd h (by lia)
   let hs:[1,1,2,6].getD us.length 0*(us.length+1)=[1,1,2,6].getD (us.length+1) 0:=by
    rw[H3]at h3
    match us.length,h3 with
    |0,_=>decide
    |1,_=>decide
    |2,_=>decide
    |k+3,h=>exact absurd h (by lia)
   let⟨os',y2,y3,e,h1,h2⟩:=AG (us:=n::us) h3 (by lia) hF (n::us).length (Iu (n::us).length) [] B B (by simp) (λi hi=>qad.mp hi) (by simp) (by rw[LB,Ku,KS];exact Ja (Nat.mul_le_mul hc h3) (by decide))
   refine⟨os',opn rfl (stI (c:=eqO (cS (U (lsD (n::us)))) (U (.int 0))) (hq.trans (by rfl)) (stF (i:=1) (d:=.lst []) (lstO_s _ (by simp)) (stN (az (a:=jK 0 (n::us).length) ?_ e) (rF rfl)))),h1,?_⟩
   ·exact Hr (x:=cS (U (lsD (n::us)))) (j:=((n::us).length:Int)) (by simp) (by lia)
   simp_all
end K22
namespace K22
open PySem L2 JP
variable[Md]
theorem xj:∀{us vs:Qw Int},us.Nodup->us.length=vs.length->∃φ:Int->Int,us.map φ=vs
 |[],[],_,_=>⟨λn=>n,rfl⟩
 |[],_::_,_,h=>nomatch h
 |_::_,[],_,h=>nomatch h
 |n::us,v::vs,nd,h=>by
  rw[H3,H3]at h;let⟨hn,nd'⟩:=qae.mp nd;let⟨φ,e⟩:=xj (us:=us) (vs:=vs) nd' (by lia)
  refine⟨λk=>if k=n then v else φ k,?_⟩
  rw[HP,if_pos rfl,<-e];congr 1;exact Jj λk hk=>if_neg λz=>hn (by rw[<-z];exact hk)
theorem vY {φ:Int->Int}:∀us:Qw Int,iJ (us.map D.int) ((us.map φ).map D.int)=us.map λn=>.tup [.int n,.int (φ n)]
 |[]=>rfl
 |n::us=>by rw[HP,HP,HP,HP,<-vY us];rfl
def A5 {φ:Int->Int}{us vs:Qw Int}(e:us.map φ=vs) (nd:vs.Nodup):∀n∈us,∀m∈us,φ n=φ m->n=m:=by
 subst e;intro n hn m hm h;exact J4 λne=>by
  induction us with
  |nil=>cases hn
  |cons a us ih=>
   grind
theorem v8 {as bs:Qw Row}(z:Zr as) (la:(bl as).length<=3) (nd:(bl bs).Nodup) (hl:(bl as).length=(bl bs).length) (a3:Qq (D×Bool)):∀(os:Qw (Qw Int)) (x4:Qq (D×Bool)),(∀o∈os,o.Perm (bl bs))->
  (∃y4,aq (λd δ=>ae ((af 4) d δ) aT) (os.map lsD) [U (.lst (as.map rowD),Y),U (.lst (bs.map rowD),Y),U (lsD (bl as),Y),a3,x4,B,B]=U (.next [U (.lst (as.map rowD),Y),U (.lst (bs.map rowD),Y),U (lsD (bl as),Y),a3,y4,B,B]))
  \/((∃δ,aq (λd δ=>ae ((af 4) d δ) aT) (os.map lsD) [U (.lst (as.map rowD),Y),U (.lst (bs.map rowD),Y),U (lsD (bl as),Y),a3,x4,B,B]=U (.ret (.bl V) Y δ))/\∃φ,Iso (pl as) (pl bs) φ)
 |[],x4,_=>.inl ⟨x4,by rfl⟩
 |o::os,x4,ho=>by
  let po:=ho o (by simp)
  let⟨φ,eφ⟩:=xj (jZ as) (vs:=o) (by rw[po.length_eq];exact hl)
  let⟨fs,cf,hf,_,e1⟩:=jo (rs:=as) (by have:=z.1;lia) z.2 (us:=bl as) (λ_ h=>h) φ
  let ec:ar (ae (DH Y Y (U (lsD (bl as))) (U (lsD o))) (bA Y [Y,Y,Y,Y,Y,Y,Y] (bh (am (af 5) (am (af 6) (toNil)))) (λδ=>U V) bR [U (.lst (as.map rowD),Y),U (.lst (bs.map rowD),Y),U (lsD (bl as),Y),a3,U (lsD o,Y),B,B]))=U (.lst ((bl as).map (mI φ))):=by
   refine i5 (ds:=(bl as).map λn=>.tup [.int n,.int (φ n)]) ?_ (by simp;lia) rfl (cmM (g:=mI φ) λn hn=>itP (lO rfl (lO rfl rfl))) (by simp;lia)
   show U (iJ ((bl as).map D.int) (o.map D.int))=_;rw[<-eφ,vY]
  let hc:eqO (frO (ae (aa (U (.lst (as.map rowD))) (aa (ar (ae (DH Y Y (U (lsD (bl as))) (U (lsD o))) (bA Y [Y,Y,Y,Y,Y,Y,Y] (bh (am (af 5) (am (af 6) (toNil)))) (λδ=>U V) bR [U (.lst (as.map rowD),Y),U (.lst (bs.map rowD),Y),U (lsD (bl as),Y),a3,U (lsD o,Y),B,B]))) (U []))) zA4)) (U (.lst (bs.map rowD)))=U (decide (fs=bs)):=by
   rw[ec];refine O0 (congrArg (λx=>eqO x (U (.lst (bs.map rowD)))) (frG (az rfl e1))) (qJ _ _)
  rw[HP];unfold aq
  by_cases e:fs=bs
  ·rw[decide_eq_true e]at hc
   rw[show ae ((af 4) (lsD o) [U (.lst (as.map rowD),Y),U (.lst (bs.map rowD),Y),U (lsD (bl as),Y),a3,x4,B,B]) aT=_ from az rfl (ifG hc (rtG (d:=.bl V) rfl))]
   refine .inr ⟨⟨_,rfl⟩,φ,e▸pM (A5 eφ (po.nodup_iff.mpr nd)) hf⟩
  ·rw[decide_eq_false e]at hc
   rw[show ae ((af 4) (lsD o) [U (.lst (as.map rowD),Y),U (.lst (bs.map rowD),Y),U (lsD (bl as),Y),a3,x4,B,B]) aT=_ from az rfl (ifN hc rfl)]
   exact v8 z la nd hl a3 os _ λq hq=>ho q (by simp[hq])
def C3 {as bs:Qw Row}(z:Zr as) (zb:Zr bs) (h3:(bl as).length<=3\/(bl bs).length<=3):∃b,zC3 [.lst (as.map rowD),.lst (bs.map rowD)]=U (.bl b,Y)/\(b=V->∃φ,Iso (pl as) (pl bs) φ):=by
 let e1:frO (ae (aa (U (.lst (as.map rowD))) (U [])) zA6)=U (lsD (bl as)):=frG (az rfl (ki (by have:=z.1;lia) z.2))
 let e2:frO (ae (aa (U (.lst (bs.map rowD))) (U [])) zA6)=U (lsD (bl bs)):=frG (az rfl (ki (by have:=zb.1;lia) zb.2))
 let hc:neO (cS (U (lsD (bl as)))) (cS (U (lsD (bl bs))))=U (!decide (((bl as).length:Int)=(bl bs).length)):=by
  rw[ug rfl,ug rfl,uK];simp
 by_cases e:(bl as).length=(bl bs).length
 ·let⟨os,e3,po,_⟩:=nL 8 (bl bs) (by lia) (by lia)
  let e4:dj (frO (ae (aa (U (lsD (bl bs))) (U [])) (aO 8)))=U (os.map lsD):=iN (frG (az rfl e3))
  rcases v8 z (by lia) (jZ bs) e (U (lsD (bl bs),Y)) os B po with⟨y4,e5⟩|⟨⟨δ,e5⟩,i⟩
  ·exact⟨Y,opn rfl (stO e1 (stO e2 (stI (hc.trans (by simp[e])) (stN (az (a:=os.map lsD) e4 e5) (rO rfl))))),λh=>nomatch h⟩
  ·refine⟨V,opn rfl (stO e1 (stO e2 (stI (hc.trans (by simp[e])) ?_))),λ_=>i⟩
   exact(congrArg (λx=>lN (au x _)) (az (a:=os.map lsD) e4 e5)).trans rfl
 ·exact⟨Y,opn rfl (stO e1 (stO e2 (stR (hc.trans (by simp;lia)) rfl))),λh=>nomatch h⟩
def vE (a b:Qw Row):neO (U (.lst [.lst (a.map rowD),.lst (b.map rowD)])) (dC (aa (U (.lst (a.map rowD))) (aa (U (.lst (b.map rowD))) (U []))))=U Y:=by
 rw[consO_s,consO_s,lstO_s _ (by simp)]
 let h:ok2 (.lst [.lst (a.map rowD),.lst (b.map rowD)]) (.lst [.lst (a.map rowD),.lst (b.map rowD)])=V:=by
  let k:∀rs:Qw Row,okD 15 (.lst (rs.map rowD))=V:=λrs=>by
   simp![okD,KO,Iz];intro r _;exact nt r 11
  have:okD 16 (.lst [.lst (a.map rowD),.lst (b.map rowD)])=V:=by
   show([.lst (a.map rowD),.lst (b.map rowD)]:Qw D).all (okD 15)=V;simp[k]
  unfold ok2;rw[this];rfl
 rw[neG rfl rfl h];simp
def HG (a b:D):atI [a,b] 0=U a/\atI [a,b] 1=U b:=⟨rfl,rfl⟩
def Gy {a b:Qq Bool}(h:a=U Y):vN a b=U Y:=by subst h;rfl
theorem Ed {ds:Qw D}:tz (U (.lst ds))=U (.lst ds):=rfl
def mD {as bs:Qw Row}(ha:zu as) (hb:zu bs) (h0:∀n∈bl bs,0<=n) (h3:(bl as).length<=3\/(bl bs).length<=3):zB4 [.lst (as.map rowD),.lst (bs.map rowD)]=U (.bl V,Y):=by
 let hd:dC (aa (tz (U (.lst (as.map rowD)))) (aa (tz (U (.lst (bs.map rowD)))) (U [])))=U (.lst [.lst (as.map rowD),.lst (bs.map rowD)]):=by
  rw[Ed,Ed,consO_s,consO_s,lstO_s _ (by simp)]
 let e3:∀{t:D},zC0 [.lst (as.map rowD),.lst (bs.map rowD)]=U (t,Y)->shO (ae (aa (ixO (U (.lst [.lst (as.map rowD),.lst (bs.map rowD)])) (U (.int 0))) (aa (ixO (U (.lst [.lst (as.map rowD),.lst (bs.map rowD)])) (U (.int 1))) (U []))) zC0)=U t:=λ{t} e=>by
  let h:=HG (.lst (as.map rowD)) (.lst (bs.map rowD))
  simp_all
 rcases lM ha hb with⟨e,no⟩|⟨g,e,i⟩
 ·let l1:=eqO_int 1 1
  refine opn rfl (stO (i:=2) hd (stO (i:=3) (e3 e) (stI (vE as bs) ?_)))
  let⟨b,e1,hb1⟩:=C3 ha.1 hb.1 h3;let hbf:b=Y:=by
   cases b with
   |false=>rfl
   |true=>exact(no (hb1 rfl)).elim
  subst hbf;let e8:ofB (be (tyB (shO (ae (aa (U (.lst (as.map rowD))) (aa (U (.lst (bs.map rowD))) (U []))) zC3))))=U (.bl V):=by
   rw[consO_s,consO_s,bindO_s,e1];rfl
  exact stR (DK rfl (DK (l1.trans (by simp)) (DK rfl (lV "apart")))) e8
 ·let e9:shO (ae (aa (U (.lst (as.map rowD))) (aa (U (.lst (bs.map rowD))) (aa (U (mw as g)) (U [])))) zB6)=U (.bl V):=by
   rw[consO_s,consO_s,consO_s,bindO_s,uM ha hb.2.1 h0 i,shO_s]
  exact opn rfl (stO (i:=2) hd (stO (i:=3) (e3 e) (stI (vE as bs) (stI (DK rfl (Gy ((eqO_int 2 1).trans (by simp)))) (rO e9)))))
end K22
namespace K22
open PySem L2 JP
variable[Md]
structure Dv (tb:Qw (Ih×Int)) (ns:Qw Ih) (nu:Qw Int):Prop where
 tn:tb≠[]
 ta:∀t∈tb,1<=t.2/\t.2<=3
 nl:ns≠[]
 ul:nu.length=3
 u0:∀n∈nu,0<=n
 nd:nu.Nodup
section
variable{tb:Qw (Ih×Int)}{ns:Qw Ih}{nu:Qw Int}(Pz:Dv tb ns nu)
include Pz
theorem Dv.un:nu≠[]:=λe=>by have:=Pz.ul;simp_all
theorem A6 {x y z:Qq D}{k:Int}(h:x=U (.int k)) (h':y=U (.lst (ns.map D.str))) (h2:z=U (.lst (nu.map D.int))):∃e:Ce,(∀n,e=.bk n->n∈nu)/\shO (ae (aa x (aa y (aa z (U [])))) zA8)=U (ceD e):=by
 subst h h' h2;let⟨e,h0,he⟩:=AE Pz.nl Pz.un k;exact⟨e,h0,by simp_all⟩
theorem AJ (c:Int):∃r:Row,(r.2.length<=4/\∀n,Ce.bk n∈r.2->n∈nu)/\zC9 [.int c,.lst (tb.map tbD),.lst (ns.map .str),.lst (nu.map .int)]=U (rowD r,Y):=by
 let⟨t,ht,et⟩:=yF (f:=tbD) Pz.tn (mx c 1);let⟨t1,t2⟩:=Pz.ta t ht;let l:=qam.mpr Pz.tn;let e4:c9 (shO (ae (aa (U (.int c)) (aa (U (.int 1)) (U []))) zA1)) (cS (U (.lst (tb.map tbD))))=U (.int (mx c 1%(tb.length:Int))):=by
  have:=ni (AU (x:=U (.int c)) (y:=U (.int 1)) rfl rfl (by decide) (by decide)) (ug (x:=U (.lst (tb.map tbD))) rfl) (by rw[HT];lia)
  rw[HT]at this;exact this
 let e5:ixO (ixO (U (.lst (tb.map tbD))) (U (.int (mx c 1%(tb.length:Int))))) (U (.int 1))=U (.int t.2):=(ixA (ixG (d:=tbD t) rfl rfl et)).2;let e0:ixO (ixO (U (.lst (tb.map tbD))) (U (.int (mx c 1%(tb.length:Int))))) (U (.int 0))=U (.str t.1):=(ixA (ixG (d:=tbD t) rfl rfl et)).1;let last:∀m:Int,1<=m->m<=3->∃r:Row,(r.2.length<=4/\∀n,Ce.bk n∈r.2->n∈nu)/\lN (au (gN 6 (ar (ae (nG (U (.int m))) (bA Y [V,Y,V,V,Y,Y,Y,Y] (af 7) (λδ=>U V) eH [U (.int c,Y),U (.lst (tb.map tbD),Y),U (.lst (ns.map .str),Y),U (.lst (nu.map .int),Y),U (.int (mx c 1%(tb.length:Int)),Y),U (.int m,Y),B,B]))) [U (.int c,Y),U (.lst (tb.map tbD),Y),U (.lst (ns.map .str),Y),U (.lst (nu.map .int),Y),U (.int (mx c 1%(tb.length:Int)),Y),U (.int m,Y),B,B]) (λδ=>ie (pN 6 δ)))=U (rowD r,Y):=λm m1 m2=>by
  let⟨cs,h1,h2,h3⟩:=sd (n:=m.toNat) (g:=ceD) (P:=λe=>∀n,e=.bk n->n∈nu) (F:=cw (af 7) (λδ=>U V) eH [U (.int c,Y),B,U (.lst (ns.map .str),Y),U (.lst (nu.map .int),Y),B,B,B,B]) λk hk=>by
   let⟨e,h0,he⟩:=A6 Pz (x:=shO (ae (aa (U (.int c)) (aa (dY (U (.int 2)) (U (.int (0+(k:Int))))) (U []))) zA1)) (AU rfl (vT rfl rfl) (by lia) (by lia)) rfl rfl
   exact⟨e,h0,itG he⟩
  exact⟨(t.1,cs),⟨by show cs.length<=4;lia,λn hn=>h2 _ hn n rfl⟩,stF (i:=6) (i5 (jq m (by lia)) (by rw[fQ];lia) rfl h3 (by simp;lia)) (rO (lO (a:=.str t.1) e0 (tupleO_l _)))⟩
 let hc:eqO (c9 (shO (ae (aa (U (.int c)) (aa (U (.int 7)) (U []))) zA1)) (U (.int 3))) (U (.int 0))=U (decide (mx c 7%3=0)):=eqG (ni (AU rfl rfl (by decide) (by decide)) rfl (by decide)) rfl
 by_cases h:mx c 7%3=0
 ·rw[decide_eq_true h]at hc
  let hm:dY (U (.int 1)) (c9 (shO (ae (aa (U (.int c)) (aa (U (.int 8)) (U []))) zA1)) (U (.int t.2)))=U (.int (1+mx c 8%t.2)):=vT rfl (ni (AU rfl rfl (by decide) (by decide)) rfl (by lia))
  let y1:=Kv (mx c 8) (b:=t.2) (by lia)
  let y2:=NM (mx c 8) (b:=t.2) (by lia)
  let⟨r,hr,e⟩:=last (1+mx c 8%t.2) (by lia) (by lia)
  exact⟨r,hr,opn rfl (stO (i:=4) e4 (stO (i:=5) e5 (stN (ifG hc (FY (i:=5) hm)) e)))⟩
 ·rw[decide_eq_false h]at hc
  let⟨r,hr,e⟩:=last t.2 t1 t2;exact⟨r,hr,opn rfl (stO (i:=4) e4 (stO (i:=5) e5 (stI hc e)))⟩
end
end K22
namespace K22
open PySem L2 JP
variable[Md]
def Hb {x y:Qq D}{as:Qw Row}{r:Row}(h:x=U (.lst (as.map rowD))) (h':y=U (rowD r)) (hl:as.length<=1000):gO x (dC (aa y (U [])))=U (.lst ((as++[r]).map rowD)):=by
 subst h h';rw[consO_s,lstO_s _ (by simp),catO_s _ _ (by simp[lim];lia),Ip];rfl
def ym {as:Qw Row}{i:Nat}(hi:i<as.length) (hz:as.length<=1000):gO (bq (U (.lst (as.map rowD))) (U B) (aX (U (.int (i:Nat))))) (bq (U (.lst (as.map rowD))) (aX (dY (U (.int (i:Nat))) (U (.int 1)))) (U B))=U (.lst ((as.take i++as.drop (i+1)).map rowD)):=by
 rw[wD (by simpa using hi) (by simp;lia)];simp
def Bd (S:Int->Prop) (rs:Qw Row):Prop:=∀q∈rs,q.2.length<=4/\∀n,Ce.bk n∈q.2->S n
section
variable{tb:Qw (Ih×Int)}{ns:Qw Ih}{nu:Qw Int}(Pz:Dv tb ns nu)
include Pz
theorem BM {as:Qw Row}(ca:Cn as) (hl:as.length<=10) {S:Int->Prop}(hS:Bd S as) (hn:∀n∈nu,S n) {r:Row}(hr:r.2.length<=4/\∀n,Ce.bk n∈r.2->n∈nu) (c:Int):∃fs:Qw Row,Cn fs/\fs.length<=as.length+1/\Bd S fs/\zD3 [.lst (as.map rowD),.int c,rowD r,.lst (ns.map .str),.lst (nu.map .int)]=U (.lst (fs.map rowD),V):=by
 let rS:r.2.length<=4/\∀n,Ce.bk n∈r.2->S n:=⟨hr.1,λn h=>hn n (hr.2 n h)⟩
 let bd:∀{rs fs:Qw Row},(∀q∈rs,q∈as\/q=r)->(∀q,q∈fs↔q∈rs)->Bd S fs:=λ{rs fs} h h' q hq=>by
  rcases h q ((h' q).mp hq)with z|rfl
  ·exact hS q z
  ·exact rS
 let e5:c9 (U (.int c)) (U (.int 4))=U (.int (c%4)):=ni rfl rfl (by decide)
 let hc:orO (eqO (cS (U (.lst (as.map rowD)))) (U (.int 0))) (eqO (U (.int (c%4))) (U (.int 0)))=U (decide (as.length=0)||decide (c%4=0)):=by
  rw[ug rfl,eqO_int,eqO_int,HT]
  by_cases z:as.length=0
  ·simp[z,orO]
  ·simp_all
 by_cases h:(decide (as.length=0)||decide (c%4=0))=V
 ·rw[h]at hc
  let⟨fs,f1,f2,f3,e⟩:=sL (x:=gO (U (.lst (as.map rowD))) (dC (aa (U (rowD r)) (U [])))) (Hb (as:=as) (r:=r) rfl rfl (by lia)) (by simp;lia)
  exact⟨fs,f1,by simp_all,bd (λq hq=>by simp_all) f2,opn rfl (stO (i:=5) e5 (FR hc e))⟩
 ·let h':=Bool.eq_false_iff.mpr h
  rw[h']at hc;let hl0:as.length≠0:=λz=>by rw[z]at h';simp at h'
  let⟨i,hi⟩:=Lv (Kv (c / 4) (b:=(as.length:Int)) (by lia))
  let hlt:i<as.length:=by have:=NM (c / 4) (b:=(as.length:Int)) (by lia);lia
  let e6:c9 (iS (U (.int c)) (U (.int 4))) (cS (U (.lst (as.map rowD))))=U (.int (i:Nat)):=by
   have:=ni (vS (x:=U (.int c)) (y:=U (.int 4)) rfl rfl (by decide)) (ug (x:=U (.lst (as.map rowD))) rfl) (by rw[HT];lia)
   rw[HT,hi]at this;exact this
  let eo:=ym (as:=as) hlt (by lia)
  let sl:(as.take i++as.drop (i+1)).Sublist as:=by
   rw[<-NV];exact List.eraseIdx_sublist ..
  let ll:(as.take i++as.drop (i+1)).length<=as.length:=sl.length_le;let c1:eqO (U (.int (c%4))) (U (.int 1))=U (decide (c%4=1)):=eqO_int _ _;let c2:eqO (U (.int (c%4))) (U (.int 2))=U (decide (c%4=2)):=eqO_int _ _
  by_cases h1:c%4=1
  ·rw[decide_eq_true h1]at c1
   exact⟨as.take i++as.drop (i+1),⟨ca.nd.sublist sl,ca.so.sublist (sl.map _)⟩,by lia,λq hq=>hS q (sl.subset hq),opn rfl (stO (i:=5) e5 (stI hc (stO (i:=6) e6 (FR c1 eo))))⟩
  ·rw[decide_eq_false h1]at c1
   by_cases h2:c%4=2
   ·rw[decide_eq_true h2]at c2
    let⟨fs,f1,f2,f3,e⟩:=sL (Hb (y:=U (rowD r)) eo rfl (by lia)) (by rw[IJ];simp![H3,Ku];lia)
    refine⟨fs,f1,by rw[IJ]at f3;simp![H3,Ku]at f3;lia,bd (λq hq=>?_) f2,opn rfl (stO (i:=5) e5 (stI hc (stO (i:=6) e6 (stI c1 (FR c2 e)))))⟩
    rcases qab.mp hq with z|z
    ·exact .inl (sl.subset z)
    ·exact .inr (on.mp z)
   ·rw[decide_eq_false h2]at c2
    let⟨n,hnu,en⟩:=yF (f:=D.int) Pz.un (c / 4);rw[Pz.ul,show((3:Nat):Int)=3 from rfl]at en
    let⟨e,he,ee⟩:=A6 Pz (x:=shO (ae (aa (U (.int c)) (aa (U (.int 60)) (U []))) zA1)) (AU rfl rfl (by decide) (by decide)) rfl rfl
    let⟨fs,f1,f2,f3,e1⟩:=sI (rs:=as) (by lia) (λq hq=>(hS q hq).1) [(n,e)]
    let em:dC (aa (dh (aa (ixO (U (.lst (nu.map .int))) (c9 (iS (U (.int c)) (U (.int 4))) (U (.int 3)))) (aa (shO (ae (aa (shO (ae (aa (U (.int c)) (aa (U (.int 60)) (U []))) zA1)) (aa (U (.lst (ns.map .str))) (aa (U (.lst (nu.map .int))) (U [])))) zA8)) (U [])))) (U []))=U (.lst ([(n,e)].map mvD)):=by
     rw[lO (ixG rfl (ni (vS rfl rfl (by decide)) rfl (by decide)) en) ee,consO_s,lstO_s _ (by simp)];rfl
    let e9:frO (ae (aa (U (.lst (as.map rowD))) (aa (dC (aa (dh (aa (ixO (U (.lst (nu.map .int))) (c9 (iS (U (.int c)) (U (.int 4))) (U (.int 3)))) (aa (shO (ae (aa (shO (ae (aa (U (.int c)) (aa (U (.int 60)) (U []))) zA1)) (aa (U (.lst (ns.map .str))) (aa (U (.lst (nu.map .int))) (U [])))) zA8)) (U [])))) (U []))) (U []))) zA4)=U (.lst (fs.map rowD)):=by
     rw[em,consO_s,consO_s,bindO_s,e1];rfl
    refine⟨fs,f1,by lia,λq hq=>?_,opn rfl (stO (i:=5) e5 (stI hc (stO (i:=6) e6 (stI c1 (stI c2 (rF e9))))))⟩
    let⟨p,hp,rfl⟩:=(f2 q).mp hq;refine⟨by show(p.2.map _).length<=4;rw[HT];exact(hS p hp).1,λm hm=>?_⟩
    let⟨x,hx,ex⟩:=mt.mp hm;let ex':(if x=.bk n then e else x)=.bk m:=ex
    split at ex'
    ·exact hn m (he m ex')
    ·exact(hS p hp).2 m (ex'▸hx)
end
def CS {S:Qw Int}{rs:Qw Row}(h:Bd (· ∈S) rs) (c:Cn rs) (hl:rs.length<=12) (hS:S.length<=10):zu rs:=
 ⟨⟨hl,λq hq=>(h q hq).1⟩,c,Ja (H2 (jZ rs) λn hn=>by let⟨q,hq,e⟩:=cV.mp hn;exact(h q hq).2 n e) hS⟩
def qH {S:Qw Int}{rs:Qw Row}(h:Bd (· ∈S) rs):∀n∈bl rs,n∈S:=λn hn=>by let⟨q,hq,e⟩:=cV.mp hn;exact(h q hq).2 n e
end K22
namespace K22
open PySem L2 JP
variable[Md]
def Ef {x:Qq D}{i:Int}(h:x=U (.int i)):aX x=U (U i):=by subst h;rfl
def HD {x:Qq D}{l u:Qq (Qq Int)}{ds:Qw D}{a b:Qq Int}(h:x=U (.lst ds)) (h1:l=U a) (h2:u=U b):dj (bq x l u)=U (fP ds a b):=by subst h h1 h2;rfl
def yV (cs:Qw Int) {lo hi:Int}(h0:0<=lo) (h1:lo<=hi) {k:Nat}(hk:hi<=lo+k):∃xs:Qw Int,xs.length<=k/\fP (cs.map D.int) (U lo) (U hi)=xs.map D.int:=by
 let⟨a,rfl⟩:=Lv h0;let⟨b,rfl⟩:=Lv (Int.le_trans h0 h1);refine⟨(cs.drop (min a cs.length)).take (min b cs.length - min a cs.length),?_,?_⟩
 ·simp;lia
 ·unfold fP
  simp[fO,HT,MC,NB]
def Bj {ds:Qw D}(k:Nat):fP ds B (U ((k:Nat):Int))=ds.take k:=by
 unfold fP;rw[eO,fO];simp
def D6 {ds:Qw D}(k:Nat):fP ds (U ((k:Nat):Int)) B=ds.drop k:=by
 unfold fP;simp_all [eO,fO,J2,Me,Nat.min_eq_right,List.drop_eq_nil_of_le,HQ]
def AR {vs:Qw Int}(hl:vs.length=3) {k:Nat}:gO (bq (U (.lst (vs.map D.int))) (aX (U (.int (k:Nat)))) (U B)) (bq (U (.lst (vs.map D.int))) (U B) (aX (U (.int (k:Nat)))))=U (.lst ((vs.drop k++vs.take k).map D.int)):=by
 show gO (U (.lst (fP (vs.map D.int) (U ((k:Nat):Int)) B))) (U (.lst (fP (vs.map D.int) B (U ((k:Nat):Int)))))=_;rw[Bj,D6,catO_s _ _ (by simp[lim,hl];lia)];simp
def m6 (vs:Qw Int) (k:Nat):(vs.drop k++vs.take k).Perm vs:=by
 refine qaz.trans ?_
 rw[Ko]
structure Tv (vs:Qw Int):Prop where
 l:vs.length=3
 p:∀n∈vs,0<=n
 nd:vs.Nodup
def Tv.rot {vs:Qw Int}(h:Tv vs) (k:Nat):Tv (vs.drop k++vs.take k):=
 ⟨by rw[(m6 vs k).length_eq];exact h.l,λn hn=>h.p n ((m6 vs k).mem_iff.mp hn),(m6 vs k).nodup_iff.mpr h.nd⟩
def vq {v d:Int}(hv:0<=v) (hd:0<d):Tv ((Iu 3).map λ(i:Nat)=>v+d*(i:Int)):=by
 refine⟨by simp,λn hn=>?_,aR (λi hi j hj e=>?_) ML⟩
 ·let⟨i,_,rfl⟩:=mt.mp hn
  have:=Int.mul_nonneg (Int.le_of_lt hd) (NL i);lia
 ·have:d*(i:Int)=d*(j:Int):=by lia
  have:=Int.eq_of_mul_eq_mul_left (by lia) this
  lia
def CY (c:Int):∃nu:Qw Int,Tv nu/\zC1 [.int c,.int 3]=U (.lst (nu.map D.int),V):=by
 rw[jn (f:=zC1) (δ:=[U (.int c,Y),U (.int 3,Y),B]) rfl rfl rfl];unfold cN;rw[eqG (ni (rfl:rd Y 0 _=U (.int c)) rfl (by decide)) rfl]
 cases decide (c%3=0)with
 |true=>exact⟨[0,1,2],⟨rfl,by decide,by decide⟩,rfl⟩
 |false=>
  let v0:0<=mx c 30%999900:=Kv _ (by decide)
  let hc:bD (cw (af 2) (λδ=>U V) dy [U (.int c,Y),B,B]) (jK 0 3)=U ((Iu 3).map λ(i:Nat)=>D.int (mx c 30%999900+7*(i:Int))):=by
   refine cmM (xs:=Iu 3) (f:=λ(i:Nat)=>D.int (0+(i:Int))) λi hi=>?_
   have:=qad.mp hi;let e:=ni (vT (ni (AU (x:=U (.int c)) (y:=U (.int 30)) rfl rfl (by decide) (by decide)) (rfl:U (D.int 999900)=_) (by decide)) (mulI_s 7 (0+(i:Int)) (by lia))) (rfl:U (D.int 1000000)=_) (by decide)
   rw[show(mx c 30%999900+7*(0+(i:Int)))%1000000=mx c 30%999900+7*(i:Int) from by rw[NX];exact Int.emod_eq_of_lt (by lia) (by lia)]at e
   exact itG e
  refine⟨(Iu 3).map λ(i:Nat)=>mx c 30%999900+7*(i:Int),vq v0 (by decide),stI rfl (rF ((i5 (jq 3 (by decide)) (by trivial) rfl hc (by simp)).trans ?_))⟩
  rfl
def Gi {vs:Qw Int}(h:vs.length=3):∃a b c,vs=[a,b,c]:=by
 match vs,h with
 |[a,b,c],_=>exact⟨a,b,c,rfl⟩
abbrev eL (a0:Qq (D×Bool)) (cs:Qw Int) (tb:Qw (Ih×Int)) (ns:Qw Ih) (nu ot:Qw Int) (at':Int) (x7 x8 x9 x10 x11 x12 x13 x14 x15:Qq (D×Bool)):DEnv:=[a0,U (lsD cs,Y),U (.lst (tb.map tbD),Y),U (.lst (ns.map .str),Y),U (lsD nu,Y),U (lsD ot,Y),U (.int at',Y),x7,x8,x9,x10,x11,x12,x13,x14,x15]
def yP {nu tv:Qw Int}(hn:Tv nu) (ht:Tv tv) {a0 x7 x8 x9 x10 x12 x13 x14 x15:Qq (D×Bool)}{cs:Qw Int}{tb:Qw (Ih×Int)}{ns:Qw Ih}{ot:Qw Int}{at':Int}:∃φ:Int->Int,nu.map φ=tv/\ar (ae (nG (U (.int 3))) (bA Y [Y,Y,Y,Y,V,Y,Y,Y,Y,Y,Y,V,Y,Y,Y,Y] (af 15) (λδ=>U V) pT (eL a0 cs tb ns nu ot at' x7 x8 x9 x10 (U (lsD tv,Y)) x12 x13 x14 x15)))=U (.lst (nu.map (mI φ))):=by
 let⟨φ,e⟩:=xj hn.nd (vs:=tv) (by rw[hn.l,ht.l])
 refine⟨φ,e,i5 (jq 3 (by decide)) (by trivial) rfl (es:=nu.map (mI φ)) ?_ (by rw[HT,hn.l];decide)⟩
 subst e;let⟨a,b,c,rfl⟩:=Gi hn.l;rfl
end K22
namespace K22
open PySem L2 JP
variable[Md]
def Hs {a b:Qq Bool}(h:a=U Y) (k:b=U Y):orO a b=U Y:=by subst h k;rfl
def xS {as bs:Qw Row}(h:zB4 [.lst (as.map rowD),.lst (bs.map rowD)]=U (.bl V,Y)):be (tyB (shO (ae (aa (U (.lst (as.map rowD))) (aa (U (.lst (bs.map rowD))) (U []))) zB4)))=U Y:=by
 simp_all
def F4 {as bs:Qw Row}{g:Int->Int}(hr:zC0 [.lst (as.map rowD),.lst (bs.map rowD)]=U (mw as g,Y)) (h:zB6 [.lst (as.map rowD),.lst (bs.map rowD),mw as g]=U (.bl V,Y)):be (tyB (shO (ae (aa (U (.lst (as.map rowD))) (aa (U (.lst (bs.map rowD))) (aa (shO (ae (aa (U (.lst (as.map rowD))) (aa (U (.lst (bs.map rowD))) (U []))) zC0)) (U [])))) zB6)))=U Y:=by
 simp_all
section
variable{tb:Qw (Ih×Int)}{ns:Qw Ih}{nu:Qw Int}(Pz:Dv tb ns nu)
include Pz
theorem xW (a0:Qq (D×Bool)) {cs ot:Qw Int}(hot:Tv ot) {at':Int}(h0:0<=at') (h1:at'<cs.length) (x7 x8 x9 x10 x11 x12 x13 x14 x15:Qq (D×Bool)):∃(e:Int) (y7 y8 y9 y10 y11 y12 y13 y14 y15:Qq (D×Bool)),at'<e/\pW (eL a0 cs tb ns nu ot at' x7 x8 x9 x10 x11 x12 x13 x14 x15)=U (.next (eL a0 cs tb ns nu ot e y7 y8 y9 y10 y11 y12 y13 y14 y15)):=by
 let hnu:Tv nu:=⟨Pz.ul,Pz.u0,Pz.nd⟩;let⟨c,_,ec⟩:=Bt (f:=D.int) h0 h1;let c8:0<=c%8:=Kv _ (by decide)
 let⟨xs,x1,ex⟩:=yV cs (lo:=at'+1) (hi:=at'+1+c%8) (k:=7) (by lia) (by lia) (by lia)
 let⟨k,hk⟩:=Lv (Kv (c / 8) (b:=3) (by decide))
 let e7:ixO (U (lsD cs)) (U (.int at'))=U (.int c):=ixG rfl rfl ec;let e8:dY (dY (U (.int at')) (U (.int 1))) (c9 (U (.int c)) (U (.int 8)))=U (.int (at'+1+c%8)):=vT (vT rfl rfl) (ni rfl rfl (by decide))
 let⟨qs,q1,q2,eq⟩:=qg (f:=D.int) (g:=rowD) (P:=λr:Row=>r.2.length<=4/\∀n,Ce.bk n∈r.2->n∈nu) (xs:=xs) (F:=cw (af 15) (λδ=>U V) p0 [B,B,U (.lst (tb.map tbD),Y),U (.lst (ns.map .str),Y),U (lsD nu,Y),B,B,B,B,B,B,B,B,B,B,B]) λk _=>by
  let⟨r,hr,e⟩:=AJ Pz k;exact⟨r,hr,itG (show shO (zC9 [.int k,.lst (tb.map tbD),.lst (ns.map .str),.lst (nu.map .int)])=_ by rw[e];rfl)⟩
 let eqs:ar (ae (dj (bq (U (lsD cs)) (aX (dY (U (.int at')) (U (.int 1)))) (aX (U (.int (at'+1+c%8)))))) (bA Y [Y,Y,V,V,V,Y,Y,Y,Y,Y,Y,Y,Y,Y,Y,Y] (af 15) (λδ=>U V) p0 (eL a0 cs tb ns nu ot at' (U (.int c,Y)) (U (.int (at'+1+c%8),Y)) x9 x10 x11 x12 x13 x14 x15)))=U (.lst (qs.map rowD)):=
  i5 ((HD rfl (Ef (vT rfl rfl)) (Ef rfl)).trans (congrArg U ex)) (by simp;lia) rfl eq (by simp;lia)
 let⟨rs,cr,s1,s2,e9⟩:=sL eqs (by lia)
 let bo:Bd (· ∈nu) rs:=λq hq=>q2 q ((s1 q).mp hq)
 let ok1:zu rs:=CS bo cr (by lia) (by rw[Pz.ul];decide)
 let bl1:(bl rs).length<=3:=Ja (H2 (jZ rs) (qH bo)) (by rw[Pz.ul];decide)
 let e10:c9 (iS (U (.int c)) (U (.int 8))) (U (.int 3))=U (.int (k:Nat)):=by
  rw[<-hk];exact ni (vS rfl rfl (by decide)) rfl (by decide)
 let e11:=AR hot.l (k:=k);let e11':=AR hnu.l (k:=k);let cc:eqO (c9 (iS (U (.int c)) (U (.int 24))) (U (.int 2))) (U (.int 1))=U (decide (c / 24%2=1)):=eqG (ni (vS rfl rfl (by decide)) rfl (by decide)) rfl
 let⟨r,hr,e13⟩:=AJ Pz (c / 3);let e13':shO (ae (aa (iS (U (.int c)) (U (.int 3))) (aa (U (.lst (tb.map tbD))) (aa (U (.lst (ns.map .str))) (aa (U (lsD nu)) (U []))))) zC9)=U (rowD r):=by
  rw[vS (x:=U (.int c)) (y:=U (.int 3)) rfl rfl (by decide),consO_s,consO_s,consO_s,consO_s,bindO_s,e13,shO_s]
 obtain⟨tv,ht,hx⟩:∃tv,Tv tv/\(c / 24%2=1/\tv=nu.drop k++nu.take k\/¬c / 24%2=1/\tv=ot.drop k++ot.take k):=by
  by_cases h:c / 24%2=1
  ·exact⟨_,hnu.rot k,.inl ⟨h,rfl⟩⟩
  ·exact⟨_,hot.rot k,.inr ⟨h,rfl⟩⟩
 let⟨φ,eφ,ep⟩:=yP hnu ht (a0:=a0) (cs:=cs) (tb:=tb) (ns:=ns) (ot:=ot) (at':=at') (x7:=U (.int c,Y)) (x8:=U (.int (at'+1+c%8),Y)) (x9:=U (.lst (rs.map rowD),Y)) (x10:=U (.int (k:Nat),Y)) (x12:=x12) (x13:=x13) (x14:=x14) (x15:=x15);let⟨fs,cf,hf,fl,em⟩:=jo (rs:=rs) (by lia) (λq hq=>(bo q hq).1) (us:=nu) (qH bo) φ
 let inj:=A5 eφ ht.nd;let bf:Bd (· ∈tv) fs:=λq hq=>by
  let⟨p,hp,rfl⟩:=(hf q).mp hq;refine⟨by show(p.2.map _).length<=4;rw[HT];exact(bo p hp).1,λm hm=>?_⟩
  let⟨n,hn,rfl⟩:=uL hm;show φ n∈tv;rw[<-eφ];exact H4 ((bo p hp).2 n hn)
 let ok2:zu fs:=CS bf cf (by lia) (by rw[ht.l];decide)
 let pos2:∀n∈bl fs,0<=n:=λn hn=>ht.p n (qH bf n hn)
 let i:Iso (pl rs) (pl fs) φ:=pM (λn hn m hm=>inj n (qH bo n hn) m (qH bo m hm)) hf
 let r1:=mD ok1 ok2 pos2 (.inl bl1);obtain⟨g,er,ig⟩:∃g,zC0 [.lst (rs.map rowD),.lst (fs.map rowD)]=U (mw rs g,Y)/\Iso (pl rs) (pl fs) g:=by
  rcases lM ok1 ok2 with⟨_,no⟩|h
  ·exact(no ⟨φ,i⟩).elim
  ·exact h
 let r2:=uM ok1 ok2.2.1 pos2 ig;let⟨gs,cg,gl,bg,eb⟩:=BM Pz cf (by lia) (S:=(· ∈tv++nu)) (λq hq=>⟨(bf q hq).1,λn hn=>qab.mpr (.inl ((bf q hq).2 n hn))⟩) (λn hn=>qab.mpr (.inr hn)) hr (c / 48)
 let ok3:zu gs:=CS bg cg (by lia) (by rw[IJ,ht.l,Pz.ul];decide)
 let pos3:∀n∈bl gs,0<=n:=λn hn=>by
  rcases qab.mp (qH bg n hn)with z|z
  ·exact ht.p n z
  ·exact Pz.u0 n z
 let pos1:∀n∈bl rs,0<=n:=λn hn=>Pz.u0 n (qH bo n hn)
 let r3:=mD ok1 ok3 pos3 (.inl bl1);let r4:=mD ok3 ok1 pos1 (.inr bl1);let e12:frO (ae (aa (U (.lst (rs.map rowD))) (aa (ar (ae (nG (U (.int 3))) (bA Y [Y,Y,Y,Y,V,Y,Y,Y,Y,Y,Y,V,Y,Y,Y,Y] (af 15) (λδ=>U V) pT (eL a0 cs tb ns nu ot at' (U (.int c,Y)) (U (.int (at'+1+c%8),Y)) (U (.lst (rs.map rowD),Y)) (U (.int (k:Nat),Y)) (U (lsD tv,Y)) x12 x13 x14 x15)))) (U []))) zA4)=U (.lst (fs.map rowD)):=by
  rw[ep,consO_s,consO_s,bindO_s,em];rfl
 let e14:frO (ae (aa (U (.lst (fs.map rowD))) (aa (iS (U (.int c)) (U (.int 48))) (aa (U (rowD r)) (aa (U (.lst (ns.map .str))) (aa (U (lsD nu)) (U [])))))) zD3)=U (.lst (gs.map rowD)):=by
  rw[vS (x:=U (.int c)) (y:=U (.int 48)) rfl rfl (by decide),consO_s,consO_s,consO_s,consO_s,consO_s,bindO_s,eb];rfl
 refine⟨at'+1+c%8,U (.int c,Y),U (.int (at'+1+c%8),Y),U (.lst (rs.map rowD),Y),U (.int (k:Nat),Y),U (lsD tv,Y),U (.lst (fs.map rowD),Y),U (rowD r,Y),U (.lst (gs.map rowD),Y),x15,by lia,sqO (i:=7) e7 (sqO (i:=8) e8 (sqO (i:=9) e9 (sqO (i:=10) e10 (sqO (i:=11) e11 (sqN (δ:=eL a0 cs tb ns nu ot at' (U (.int c,Y)) (U (.int (at'+1+c%8),Y)) (U (.lst (rs.map rowD),Y)) (U (.int (k:Nat),Y)) (U (lsD tv,Y)) x12 x13 x14 x15) ?_ (sqO (i:=12) e12 (ifF (Hs (xS r1) (F4 er r2)) (sqO (i:=13) e13' (sqO (i:=14) e14 (ifF (Hs (xS r3) (xS r4)) rfl))))))))))⟩
 rcases hx with⟨h,rfl⟩|⟨h,rfl⟩
 ·rw[decide_eq_true h]at cc;exact ifG cc (FY (i:=11) e11')
 ·rw[decide_eq_false h]at cc;exact ifN cc rfl
end
end K22
namespace K22
open PySem L2 JP
variable[Md]
def whF {t:DEnv->Qq Bool}{b:DEnv->Qq Out}{n:Nat}{δ:DEnv}(h:t δ=U Y):aK t b (n+1) δ=U (.next δ):=by
 unfold aK;rw[h]
def whT {t:DEnv->Qq Bool}{b:DEnv->Qq Out}{n:Nat}{δ δ':DEnv}(h:t δ=U V) (k:b δ=U (.next δ')):aK t b (n+1) δ=aK t b n δ':=by
 conv=>lhs;unfold aK
 rw[h,k]
section
variable{tb:Qw (Ih×Int)}{ns:Qw Ih}{nu:Qw Int}(Pz:Dv tb ns nu)
def BL (a0:Qq (D×Bool)) (cs ot:Qw Int) (at':Int) (x7 x8 x9 x10 x11 x12 x13 x14 x15:Qq (D×Bool)):qx (eL a0 cs tb ns nu ot at' x7 x8 x9 x10 x11 x12 x13 x14 x15)=U (decide (at'<cs.length)):=by
 show cI gLt (U (.int at')) (cS (U (lsD cs)))=_;simp
include Pz
theorem yU (a0:Qq (D×Bool)) {cs ot:Qw Int}(hot:Tv ot) (m:Nat):∀(fuel:Nat) (at':Int) (x7 x8 x9 x10 x11 x12 x13 x14 x15:Qq (D×Bool)),0<=at'->(cs.length:Int)<=at'+m->m<fuel->∃δ,aK qx pW fuel (eL a0 cs tb ns nu ot at' x7 x8 x9 x10 x11 x12 x13 x14 x15)=U (.next δ):=by
 induction m with
 |zero=>
  intro fuel at' x7 x8 x9 x10 x11 x12 x13 x14 x15 h0 hm hf;obtain⟨f,rfl⟩:∃f,fuel=f+1:=⟨fuel - 1,by lia⟩
  exact⟨_,whF ((BL ..).trans (congrArg U (decide_eq_false (by lia))))⟩
 |succ m ih=>
  intro fuel at' x7 x8 x9 x10 x11 x12 x13 x14 x15 h0 hm hf;obtain⟨f,rfl⟩:∃f,fuel=f+1:=⟨fuel - 1,by lia⟩
  by_cases h:at'<cs.length
  ·let⟨e,y7,y8,y9,y10,y11,y12,y13,y14,y15,he,eb⟩:=xW Pz a0 hot h0 h x7 x8 x9 x10 x11 x12 x13 x14 x15
   rw[whT ((BL ..).trans (congrArg U (decide_eq_true h))) eb];exact ih f e y7 y8 y9 y10 y11 y12 y13 y14 y15 (by lia) (by lia) (by lia)
  ·exact⟨_,whF ((BL ..).trans (congrArg U (decide_eq_false h)))⟩
end
def pure (ns:Qw Int) (hn:ns.length<=63):f_law [.lst (ns.map D.int)]=U (.bl V,Y):=by
 obtain⟨cs,hcs⟩:∃cs:Qw Int,cs=ns.take 41++[0,0]:=⟨_,rfl⟩;let hl:cs.length<=43:=by rw[hcs];simp;lia
 obtain⟨c,cr,hcr⟩:∃c cr,cs=c::cr:=by
  cases h:cs with
  |nil=>simp_all
  |cons c cr=>exact⟨c,cr,rfl⟩
 let ec:ixO (U (lsD cs)) (U (.int 0))=U (.int c):=by
  refine ixG (i:=0) rfl rfl ?_
  exact wG (f:=D.int) (k:=0) (by rw[hcr];rfl)
 let e1:gO (bq (U (.lst (ns.map D.int))) (U B) (aX (U (.int 41)))) (dC (aa (U (.int 0)) (aa (U (.int 0)) (U []))))=U (lsD cs):=by
  rw[consO_s,consO_s,lstO_s _ (by simp)]
  show gO (U (.lst (fP (ns.map D.int) B (U ((41:Nat):Int))))) (U (.lst [.int 0,.int 0]))=_;rw[Bj,catO_s _ _ (by simp[lim];lia),hcs]
  simp[lsD,MC]
 let⟨tb,t1,t2,et⟩:=vv c;let⟨ws,n1,en⟩:=wX (x:=iS (ixO (U (lsD cs)) (U (.int 0))) (U (.int 7))) (y:=U (.int 4)) (vS ec rfl (by decide)) rfl (by decide) (by decide)
 let⟨nu,hnu,eu⟩:=CY (c / 5);let Pz:Dv tb ws nu:=⟨t1,t2,λe=>by simp_all,hnu.l,hnu.p,hnu.nd⟩
 let e2:frO (ae (aa (ixO (U (lsD cs)) (U (.int 0))) (aa (U (.int 3)) (U []))) zC8)=U (.lst (tb.map tbD)):=by
  rw[ec,consO_s,consO_s,bindO_s,et];rfl
 let e4:frO (ae (aa (iS (ixO (U (lsD cs)) (U (.int 0))) (U (.int 5))) (aa (U (.int 3)) (U []))) zC1)=U (lsD nu):=by
  rw[vS ec rfl (by decide),consO_s,consO_s,bindO_s,eu];rfl
 let v0:0<=mx c 70%999000:=Kv _ (by decide)
 let hot:=vq v0 (d:=300) (by decide)
 let e5:ar (ae (nG (U (.int 3))) (bA Y [Y,V,Y,Y,Y,Y,Y,Y,Y,Y,Y,Y,Y,Y,Y,Y] (af 15) (λδ=>U V) qU [U (.lst (ns.map D.int),Y),U (lsD cs,Y),U (.lst (tb.map tbD),Y),U (.lst (ws.map .str),Y),U (lsD nu,Y),B,B,B,B,B,B,B,B,B,B,B]))=U (lsD ((Iu 3).map λ(i:Nat)=>mx c 70%999000+300*(i:Int))):=by
  let hc:bD (cw (af 15) (λδ=>U V) qU [B,U (lsD cs,Y),B,B,B,B,B,B,B,B,B,B,B,B,B,B]) (jK 0 3)=U ((Iu 3).map λ(i:Nat)=>D.int (mx c 70%999000+300*(i:Int))):=by
   refine cmM (xs:=Iu 3) (f:=λ(i:Nat)=>D.int (0+(i:Int))) λi hi=>?_
   have:=qad.mp hi;let e:=vT (ni (AU (x:=ixO (U (lsD cs)) (U (.int 0))) (y:=U (.int 70)) ec rfl (by decide) (by decide)) (rfl:U (D.int 999000)=_) (by decide)) (mulI_s 300 (0+(i:Int)) (by lia))
   rw[NX]at e;exact itG (by rw[NX];exact e)
  refine(i5 (jq 3 (by decide)) (by trivial) rfl hc (by simp)).trans ?_
  rw[lsD,Ix];rfl
 let⟨δ,ew⟩:=yU Pz (U (.lst (ns.map D.int),Y)) (cs:=cs) hot 43 1000 1 B B B B B B B B B (by decide) (by lia) (by decide)
 exact opn rfl (stO (i:=1) e1 (stO (i:=2) e2 (stO (i:=3) en (stO (i:=4) e4 (stF (i:=5) e5 (stO (i:=6) (d:=.int 1) rfl (stN ew (rO rfl))))))))
end K22
namespace K22
open PySem L2 Md
def all_mk [Md] {zD8 zC7:HZ}(S:Seen klK defsK blK [("blank_to_mark",zD8)] K) (X:K.In base) (G:base.Ns mainGlobals mg) (hLP_blank_to_mark:((zC7,("blank_to_mark.<locals>.<lambda>":Ih)):HZ×Ih)∈tb) (hTu_blank_to_mark:∀q∈tb,q.1=zC7->q=(zC7,("blank_to_mark.<locals>.<lambda>":Ih))) (hLC_blank_to_mark:PySem.W.codeHdIn K zD8 zC7=V):FnM 37 "law" f_law:=by
 let T:=S.txt X G;let DPainted:=S.dfI X G 0 (c:="Painted") (q:="Painted.__init__") (ns:=bO) (st:=cm) rfl;let zA2:=DPainted.cls;let zD1:=p8 T zA2 (S.df X G 0 rfl);let zF2:=kC T zA2 (S.df X G 1 rfl);let zG6:=uC T zA2 (S.df X G 2 rfl) zF2;let zE8:=jk T zA2 (S.df X G 3 rfl) zD1;let zE0:=qA T zA2 (S.df X G 4 rfl);let zE5:=iF T zA2 (S.df X G 5 rfl) zE0;let zD2:=jb DPainted;let zG7:=xK T zA2 (S.df X G 6 rfl) zD2 zD1;let zF8:=mS T zA2 (S.df X G 7 rfl) zD1 zG6 zE0 zG7;let zH1:=Di T zA2 (S.df X G 8 rfl);let zG4:=tM T zA2 (S.df X G 9 rfl) zD1 zH1;let zG1:=nD T zA2 (S.df X G 10 rfl) zG4;let zG8:=zM T zA2 (S.df X G 11 rfl);let zE7:=j5 T zA2 (S.dfC X G 12 0 rfl rfl) hLP_blank_to_mark hTu_blank_to_mark (PySem.W.codeHd_of_K X hLC_blank_to_mark) zE0 zG8;let zH0:=yr T zA2 (S.df X G 13 rfl) zD2;let zG9:=sS T zA2 (S.df X G 15 rfl) (S.df X G 14 rfl) zE7 zH0 zF8 zE5 zG1 12;let zF0:=jm T zA2 (S.df X G 16 rfl) zD1;let zG2:=xl T zA2 (S.df X G 17 rfl) zD2 zG9 zF0 zE8;let zE2:=ph T zA2 (S.df X G 18 rfl);let zC4:=oF T zA2 (S.df X G 19 rfl);let zE3:=pq T zA2 (S.df X G 20 rfl) zC4;let zF4:=kz T zA2 (S.df X G 21 rfl) zC4;let zE4:=om T zA2 (S.df X G 22 rfl);let zG5:=uk T zA2 (S.df X G 23 rfl) zE4 zC4;let zF9:=mZ T zA2 (S.df X G 24 rfl) zC4 zE3;let zD7:=ny T zA2 (S.df X G 25 rfl);let zF5:=kH T zA2 (S.df X G 26 rfl) zE2;let zD4:=pE T zA2 (S.df X G 27 rfl) zD7;let zE1:=mE T zA2 (S.df X G 28 rfl);let zF1:=jh T zA2 (S.df X G 29 rfl) zF5 zE2;let zE9:=qE T zA2 (S.df X G 30 rfl) zE1 zF1 zD4;let zF7:=gA T zA2 (S.df X G 31 rfl) 8;let zF3:=km T zA2 (S.df X G 32 rfl) zE1 zD4 zF7;let zG0:=oS T zA2 (S.df X G 33 rfl) zF3 zE9 zG2;let zG3:=qi T zA2 (S.df X G 34 rfl) zE4 zC4 zD4 zD7;let zH2:=Gp T zA2 (S.df X G 35 rfl) zG3 zC4 zD4 zF4 zG0 zG5 zE9 zD7 zF9 zE3 zG2;exact zH2
end K22
open PySem
set_option maxRecDepth 100000 in
set_option maxHeartbeats 0 in
theorem PySem.Challenge.cw_mustrows_k22_renamed_holds : PySem.Challenge.rw_mustrows_k22_renamed.Holds := by
 refine PySem.W.holds_law K22.hl1 λsaid=>?_
 refine PySem.W.holds_open (d:=PySem.DefRec.mk "law" (L2.defArgs K22.s_law) (L2.defBody K22.s_law) (L2.defScope K22.s_law) K22.s_law.pos) (kwd:=[]) (q:=OO PySem.Challenge.pw_mustrows_k22_renamed BU) (loose:=[]) (Xt:=λ_=>V) (XP:=λ_ _=>True) (Yf:=L2.YfH tbK K22.klK K22.defsK K22.blK csK) (Ya:=L2.YaH tbK K22.klK K22.defsK K22.blK csK) (YP:=L2.YH tbK K22.klK K22.defsK K22.blK csK) (N:=2000) ?hl L2.yh_of L2.yh_keeps (λ_ _=>trivial) (λ_ _ _ _ _=>trivial) (by kernel_rfl) (by kernel_rfl) (by kernel_rfl) (λs _=>PySem.W.recFacts_of (by kernel_rfl)) (by kernel_rfl) said K22.hl7 ⟨rfl,rfl,rfl,rfl,rfl,by decide +kernel⟩ ?hw ?hc
 case hl=>exact K22.hl0
 case hw=>w_witness2
 case hc=>
  refine L2.walk_N (l:=PySem.Challenge.rw_mustrows_k22_renamed) (n:=63) (k:=37) (f:=K22.f_law) rfl (by decide) rfl ⟨rfl,by decide,by decide⟩ rfl (λI ht _ S L X G=>?_) (λ_ ns hl=>K22.pure ns hl)
  let h0:((83,("blank_to_mark.<locals>.<lambda>":Ih)):HZ×Ih)∈tbK:=.head _;exact K22.all_mk S X G (ht▸h0) (λq hq _=>on.mp (ht▸hq:q∈tbK)) (L2.map_mem L.1 (.head _))
