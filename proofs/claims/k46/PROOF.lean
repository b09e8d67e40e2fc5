import PyProof.Rows.All
import Wide.All
import OpenK.AllK
import Wide.FinOn
import Lean
import PyProof.EqAt
import PyProof.EqKinds
import PyProof.TupleCall
import PyProof.NeKinds
import PyProof.WalksMore
import PyProof.Rows.SetFrom
import PyProof.FString5
import PyProof.FactsLen
import KE.KSortTup
import KE.KMinKey
import PyProof.SetKind
import PyProof.TupleKey
import KE.KItemsList
import PySem.Challenge.RW_boxmoves_k46_whole_sums_in_areas
local macro_rules|`(tactic|nofun)=>`(tactic|(intros;rfl))
local macro_rules|`(tactic|nofun)=>`(tactic|(rintro _ _ _ _ h;(repeat obtain⟨_,h⟩:=h)<;>subst_vars<;>rfl))
local macro_rules|`(tactic|exists $t,*)=>`(tactic|refine⟨$t,*, ?_⟩)
local macro_rules|`(tactic|rfl')=>`(tactic|decide+kernel)
local macro_rules|`(tactic|lia)=>`(tactic|decide)
set_option Elab.async false
set_option linter.all false
set_option maxRecDepth 100000
set_option maxHeartbeats 0
def Z{α:Sort _}{a:α}:a=a:=rfl
def Zz0{α:Sort _}{a:α}{q:Prop}:a=a\/q:=.inl rfl
def tJ{α:Type}{a b:List α}:(a++b).length=a.length+b.length:=List.length_append
def tK{α β:Type}{l:List α}(f:α->β):(l.map f).length=l.length:=List.length_map f
def tL[Decidable p](h:¬p):decide p=false:=decide_eq_false h
def tM[Decidable p](h:p):decide p=true:=decide_eq_true h
def tN(n:Nat):n<=n:=Nat.le_refl n
def tO{α:Type}{a b:α}(h:some a=some b):a=b:=Option.some.inj h
def tP{α:Type}{a:α}:[a].length=1:=rfl
def tQ{α:Type}{a:α}{l:List α}:(a::l).length=l.length+1:=rfl
def tR{α:Type}{a:α}(l:List α){m:List α}(h:a∈m):a∈l++m:=List.mem_append_right l h
def tT{α:Type}{a:α}{l:List α}(m:List α)(h:a∈l):a∈l++m:=List.mem_append_left m h
def tU{α:Type}(b:α){a:α}{l:List α}(h:a∈l):a∈b::l:=List.mem_cons_of_mem b h
def tW{α:Type}{a:α}{l:List α}:a∈a::l:=List.mem_cons_self
def tX{α:Type}{i:Nat}{l:List α}:(l.take i).length=min i l.length:=List.length_take
def tY{α:Type}{i:Nat}{l:List α}:(l.drop i).length=l.length-i:=List.length_drop
def tZ{α:Type}{l:List α}:l.reverse.length=l.length:=List.length_reverse
def lg{α β:Type}{f:α->β}{l:List α}{i:Nat}:(l.map f)[i]?=Option.map f l[i]?:=List.getElem?_map
def lh{α:Type}{l:List α}{i:Nat}{a:α}(h:l[i]?=some a):a∈l:=List.mem_of_getElem? h
def lj{α:Type}{a:α}:(List.replicate n a).length=n:=List.length_replicate
def lq{α β:Type}{l m:List α}{f:α->β}:(l++m).map f=l.map f++m.map f:=List.map_append
def lr{α:Type}(a b c:List α):a++b++c=a++(b++c):=List.append_assoc a b c
def lu{α:Type}{a:α}{l m:List α}:a::l++m=a::(l++m):=rfl
def lz{α:Type}(l:List α):[]++l=l:=rfl
def lA{α:Type}(l:List α):l++[]=l:=List.append_nil l
def lB{α β γ:Type}{g:β->γ}{f:α->β}{l:List α}:(l.map f).map g=l.map (g∘f):=List.map_map
def lC{α β:Type}{f:α->β}{a:α}{l:List α}:(a::l).map f=f a::l.map f:=rfl
def lD{α:Type}{a:Array α}:a.toList.length=a.size:=Array.length_toList
def lE{α:Type}{l:List α}:l.toArray.size=l.length:=List.size_toArray
def lF(n:Nat):0<=n:=Nat.zero_le n
def lG(n:Nat):¬n<n:=Nat.lt_irrefl n
def lH(n:Nat):(n:Int).toNat=n:=rfl
open PySem.W (Frag InitBack KitX any_some bind_fn callWith_K callWith_K0 callWith_KW cellsFrom_some codeIn codeRec_of emptyDict eq_bytes excIn findIn findObj_own fnOf funFrames_hide get_value handedIn hasDictIn hideAll hideAll_get hideAll_none hideAll_size instObj isFn isNs_of_in kIn_of keepIn ki_setAt ki_setBack kia_one kitOne kitx_bool kitx_dict kitx_float kitx_int kitx_list kitx_none kitx_own kitx_str kitx_tuple lookIn looks_clsIn looks_findIn make_core makesIn makes_of mem_of_lookupK methodCall_KW methodObj method_fn mg_none_of mg_of mroIn ne_bytes nsIn nsMap_none_of_in nsOkIn of_hideAll osa_open plainGet plainGet_of plainOver set_plain specialIn tail_of_in takerIn takesIn truthy_bytes typeIn)
open PySem.F (args_dict_get_3 args_tuple_add_2 entry_dict_get entry_tuple_add excBase_ValueError plainAttrs_dict plainAttrs_list plainAttrs_str slot_dict_get slot_list_extend slot_list_pop slot_str_find slot_str_join slot_str_ljust slot_str_rjust slot_str_startswith slot_str_strip slot_str_zfill slot_tuple_add type_dict_get type_list_extend type_list_pop type_str_find type_str_join type_str_ljust type_str_rjust type_str_startswith type_str_strip type_str_zfill)
abbrev yaa:=@PySem.wpAny_bind
abbrev yab:=@PySem.Heap.get?_push_of_some
abbrev yac:=@PySem.wpAny_pure
abbrev yad:=@List.getElem?_eq_getElem
abbrev yae:=@Nat.le_of_ble_eq_true
abbrev yaf:=@List.getElem?_eq_some_iff
abbrev yag:=@if_neg
abbrev yah:=@PySem.Heap.get?_push_size
abbrev yai:=@if_pos
abbrev yaj:=@PySem.Heap.lt_size
abbrev yak:=@List.mem_cons
abbrev yal:=@Bool.false_ne_true
abbrev yam:=@Nat.lt_of_lt_of_le
abbrev yan:=@Bool.false_eq_true
abbrev yao:=@List.mem_singleton
abbrev yap:=@Nat.le_trans
abbrev yaq:=@List.mem_append
abbrev yar:=@Nat.ne_of_lt
abbrev yas:=@List.replicate_succ
abbrev yat:=@List.take_of_length_le
abbrev yau:=@beq_eq_false_iff_ne
abbrev yav:=@PyProof.Rows.callWith_type1
abbrev yaw:=@List.drop_eq_nil_of_le
abbrev yax:=@Bool.and_eq_true
abbrev yay:=@List.contains_iff_mem
abbrev yaz:=@List.eq_of_mem_replicate
abbrev yaA:=@PySem.F.plainAttrs_str
abbrev yaB:=@PySem.PassesOwn.never
abbrev yaC:=@PySem.F.plainAttrs_list
abbrev yaD:=@PySem.F.slot_list_append
abbrev yaE:=@PySem.F.type_list_append
abbrev yaF:=@congrArg
abbrev yaG:=@PySem.sizeLine_eq
abbrev yaH:=@PySem.wpAny_field
abbrev yaI:=@List.drop_eq_getElem_cons
abbrev yaJ:=@List.flatten_cons
abbrev yaK:=@List.take_add_one
abbrev yaL:=@List.not_mem_nil
abbrev yaM:=@if_false
abbrev yaN:=@PySem.wpAny_call_entry
abbrev yaO:=@PySem.wpAny_specialOf
abbrev yaP:=@PySem.builtinLookup_eq_fast
abbrev yaQ:=@PySem.wpAny_callSpecial?_slot
abbrev yaR:=@PySem.Heap.size_push
abbrev yaS:=@Array.getElem?_eq_getElem
abbrev yaT:=@List.concat_eq_append
abbrev yaU:=@PySem.wpAny_mono
abbrev yaV:=@PySem.wpAny_truthy_bool
abbrev yaW:=@PySem.wpAny_newObj_type
abbrev yaX:=@PySem.wpAny_Call_Name_kw
abbrev yaY:=@List.mem_map
abbrev yaZ:=@Nat.lt_or_ge
abbrev yba:=@Int.emod_lt_of_pos
abbrev ybb:=@PySem.boot_len
abbrev ybc:=@List.length_nil
abbrev ybd:=@Nat.min_eq_left
abbrev ybe:=@PySem.wpAny_seqItems
abbrev ybf:=@PySem.wpAny_holding
abbrev ybg:=@beq_self_eq_true
abbrev ybh:=@List.eq_nil_or_concat
abbrev ybi:=@of_decide_eq_true
abbrev ybj:=@List.length_filter_le
abbrev ybk:=@List.length_eq_zero_iff
abbrev ybl:=@beq_iff_eq
abbrev ybm:=@Nat.pow_le_pow_right
abbrev ybn:=@List.mem_of_mem_drop
abbrev ybo:=@PySem.W.mg_none_of
abbrev ybp:=@List.filter_cons
abbrev ybq:=@Option.map_eq_some_iff
abbrev ybr:=@PyProof.Rows.slot_tuple_getitem
abbrev ybs:=@PySem.wpAny_loadPart'
abbrev ybt:=@PySem.Heap.get?_update_self
abbrev ybu:=@Nat.lt_trans
abbrev ybv:=@PySem.typeLookup_type
abbrev ybw:=@Int.emod_nonneg
abbrev ybx:=@PySem.Calls.spliced_cons
abbrev yby:=@PySem.wpAny_setField_rec
abbrev ybz:=@of_decide_eq_false
abbrev ybA:=@List.filter_append
abbrev ybB:=@List.lookup_cons
abbrev ybC:=@PySem.wpAny_of_eq
abbrev ybD:=@List.eq_nil_of_length_eq_zero
abbrev ybE:=@PySem.Around.under_plainId
abbrev ybF:=@List.mem_iff_getElem
abbrev ybG:=@List.getLast?_concat
abbrev ybH:=@List.ext_getElem?
abbrev ybI:=@decide_eq_true_eq
abbrev ybJ:=@List.reverse_cons
abbrev ybK:=@PySem.codeAny_builtin
abbrev ybL:=@PySem.Heap.get?_update_other
abbrev ybM:=@List.getElem?_append_right
abbrev ybN:=@if_true
abbrev ybO:=@PySem.F.slot_tuple_iterator_next
abbrev ybP:=@Nat.mul_comm
abbrev ybQ:=@Int.ne_of_gt
abbrev ybR:=@PySem.F.slot_str_join
abbrev ybS:=@PySem.F.type_str_join
abbrev ybT:=@List.getElem?_eq_none
abbrev ybU:=@Nat.zero_add
abbrev ybV:=@List.mem_iff_getElem?
abbrev ybW:=@List.take_append_drop
abbrev ybX:=@List.getElem?_append_left
abbrev ybY:=@Int.mul_neg_of_neg_of_pos
abbrev ybZ:=@List.length_dropLast
abbrev yca:=@PySem.codeAny_call_builtin
abbrev ycb:=@List.dropLast_concat
abbrev ycc:=@PySem.wpAny_passesOwn
abbrev ycd:=@PySem.Calls.spliced_nil
abbrev yce:=@List.find?_cons
abbrev ycf:=@Bool.not_eq_true'
abbrev ycg:=@PySem.wpAny_ite_split
abbrev ych:=@PySem.sizeLine_eq
abbrev yci:=@PySem.mem_of_lookup
abbrev ycj:=@List.take_succ_cons
abbrev yck:=@PySem.F.sub_reversed_self
abbrev ycl:=@Nat.lt_succ_self
abbrev ycm:=@List.take_length
abbrev ycn:=@List.drop_length
abbrev yco:=@List.drop_zero
abbrev ycp:=@PySem.Calls.callWith_builtin
abbrev ycq:=@List.drop_of_length_le
abbrev ycr:=@List.getElem?_drop
abbrev ycs:=@or_false
abbrev yct:=@Nat.ne_of_gt
abbrev ycu:=@Nat.le_of_eq
abbrev ycv:=@PySem.PadOk.parts
abbrev ycw:=@List.takeWhile_prefix
abbrev ycx:=@List.take_left'
abbrev ycy:=@List.drop_left'
abbrev ycz:=@PySem.wpAny_loadPart_at
abbrev ycA:=@PySem.plainId_quiet
abbrev ycB:=@Nat.lt_succ_of_lt
abbrev ycC:=@List.cons.inj
abbrev ycD:=@List.take_nil
abbrev ycE:=@PySem.wpAny_setState_of
abbrev ycF:=@Int.fdiv_eq_ediv_of_nonneg
abbrev ycG:=@Array.mem_toList_iff
abbrev ycH:=@PySem.Calls.evalArgs_plain
abbrev ycI:=@Nat.mul_le_mul_right
abbrev ycJ:=@List.mem_of_mem_take
abbrev ycK:=@List.take_zero
abbrev ycL:=@List.drop_drop
abbrev ycM:=@PySem.Draws.strAscii
abbrev ycN:=@Classical.byContradiction
abbrev ycO:=@PySem.post_val_or_made
abbrev ycP:=@PySem.wpAny_isInstance
abbrev ycQ:=@Nat.le_add_right
abbrev ycR:=@PySem.wpAny_forIn_list
abbrev ycS:=@List.map_reverse
abbrev ycT:=@List.filterMap_cons
abbrev ycU:=@List.takeWhile_cons
abbrev ycV:=@List.reverse_append
abbrev ycW:=@Nat.le_of_lt
abbrev ycX:=@PySem.wpAny_rule
abbrev ycY:=@PySem.codeAny_mono
abbrev ycZ:=@Int.le_of_lt
abbrev yda:=@Bool.eq_iff_iff
abbrev ydb:=@List.nodup_cons
abbrev ydc:=@List.any_cons
abbrev ydd:=@List.foldl_cons
abbrev yde:=@List.map_replicate
abbrev ydf:=@Int.eq_ofNat_of_zero_le
abbrev ydg:=@PySem.wpAny_attempt
abbrev ydh:=@Array.forIn_toList
abbrev ydi:=@Bool.not_true
abbrev ydj:=@PyProof.Rows.F.plain_set_update_loop
abbrev ydk:=@PyProof.Rows.boot_isinstance
abbrev ydl:=@PySem.wpAny_pyIter_rangeiter
abbrev ydm:=@PyProof.noPylong_small
abbrev ydn:=@PySem.wpAny_pyIter_list
abbrev ydo:=@PySem.call_gives
abbrev ydp:=@List.takeWhile_append_dropWhile
abbrev ydq:=@PySem.wpAny_pyIter_enum
abbrev ydr:=@PySem.eqIsQuiet_byValue
abbrev yds:=@PySem.isSubtype_type
abbrev ydt:=@Int.ediv_one
abbrev ydu:=@PySem.wpAny_typeOf
abbrev ydv:=@List.map_nil
abbrev ydw:=@PySem.F.typeOf_object_class
abbrev ydx:=@List.getElem?_reverse
abbrev ydy:=@PySem.StrLaws.glued_eq_join
abbrev ydz:=@List.IsPrefix.eq_of_length_le
abbrev ydA:=@List.drop_append_of_le_length
abbrev ydB:=@List.take_append_of_le_length
abbrev ydC:=@List.mem_reverse
abbrev ydD:=@PySem.F.slot_list_extend
abbrev ydE:=@PySem.F.type_list_extend
abbrev ydF:=@PySem.wpAny_updateSeq_pair
abbrev ydG:=@PySem.F.plain_reversed_new
abbrev ydH:=@List.reverse_reverse
abbrev ydI:=@PySem.wpAny_standAt
abbrev ydJ:=@PyProof.Rows.boot_reversed
abbrev ydK:=@PySem.F.args_tuple_iterator_next_1
abbrev ydL:=@PySem.typeIs_str
abbrev ydM:=@Int.not_lt
abbrev ydN:=@Sum.inr.inj
abbrev ydO:=@PySem.wpAny_execs_nil
abbrev ydP:=@PySem.W.kia_one
abbrev ydQ:=@List.of_mem_zip
abbrev ydR:=@PySem.F.plain_extend_loop
abbrev ydS:=@List.head?_cons
abbrev ydT:=@List.toList_toArray
abbrev ydU:=@PySem.F.slot_zip_next
abbrev ydV:=@PySem.F.entry_tuple_iterator_next
abbrev ydW:=@PySem.Heap.SameBut.update
abbrev ydX:=@List.length_zip
abbrev ydY:=@List.getElem?_range
abbrev ydZ:=@PySem.Calls.Name_function_global
abbrev yea:=@Int.fmod_eq_emod_of_nonneg
abbrev yeb:=@PySem.wpAny_letOwnedTupleGo_enum
abbrev yec:=@Array.getElem?_eq_some_iff
abbrev yed:=@PySem.SeqAt.EqAt.int_str
abbrev yee:=@PySem.SeqAt.EqAt.str_int
abbrev yef:=@PyProof.Rows.assignInOrder_cons
abbrev yeg:=@PySem.wpAny_pyIter_tuple
abbrev yeh:=@List.mem_filterMap
abbrev yei:=@PySem.tupleKind_room_in1
abbrev yej:=@List.contains_cons
abbrev yek:=@PySem.wpAny_pyIter_ascii
abbrev yel:=@Array.foldl_toList
abbrev yem:=@Int.natAbs_natCast
abbrev yen:=@List.getElem?_take
abbrev yeo:=@Bool.and_false
abbrev yep:=@Int.mul_nonneg
abbrev yeq:=@Decidable.byContradiction
abbrev yer:=@PySem.wpAny_call
abbrev yet:=@List.getElem?_take_of_lt
abbrev yeu:=@PySem.call_meets
abbrev yev:=@PySem.Paired.length
abbrev yew:=@List.getElem?_replicate
abbrev yex:=@List.all_cons
abbrev yey:=@Nat.mul_assoc
abbrev yez:=@List.IsPrefix.length_le
abbrev yeA:=@PySem.wpAny_onRaise
abbrev yeB:=@List.map_take
abbrev yeC:=@List.map_drop
abbrev yeD:=@PySem.F.slot_list_pop
abbrev yeE:=@PySem.F.type_list_pop
abbrev yeF:=@PySem.noFill_tuple_add
abbrev yeG:=@PySem.F.args_tuple_add_2
abbrev yeH:=@PySem.W.Looks.at
abbrev yeI:=@List.getElem_mem
abbrev yeJ:=@Nat.min_eq_right
abbrev yeK:=@List.getElem?_set_self
abbrev yeL:=@UInt32.le_iff_toNat_le
abbrev yeM:=@List.takeWhile_sublist
abbrev yeN:=@List.mem_filter
abbrev yeO:=@PySem.W.looks_findIn
abbrev yeP:=@LawfulBEq.eq_of_beq
abbrev yeQ:=@Array.getElem?_toList
abbrev yeR:=@List.forIn_cons
abbrev yeS:=@List.singleton_append
abbrev yeT:=@Nat.zero_min
abbrev yeU:=@PySem.codeAny_of_tree
abbrev yeV:=@PySem.wpAny_updateSeq
abbrev yeW:=@Nat.mul_div_mul_right
abbrev yeX:=@PyProof.Rows.boot_abs
abbrev yeY:=@List.getElem?_set_ne
abbrev yeZ:=@PySem.intText_digits
abbrev yfa:=@Bool.false_and
abbrev yfb:=@PySem.wpAny_letGo
abbrev yfc:=@Bool.false_or
abbrev yfd:=@Nat.add_assoc
abbrev yfe:=@Nat.lt_min
abbrev yff:=@Nat.mod_lt
abbrev yfg:=@Nat.succ_pos
abbrev yfh:=@Nat.add_zero
def zza:1000<=PySem.sizeLine:=by lia
open List (replicate)
namespace L2
open PySem PySem.Spec PyProof.Rows
noncomputable abbrev Key:=Sum Int Str
noncomputable def kX:Key->Value->Bool
 | .inl k,v=>Value.isInt k v
 | .inr x,v=>Value.isStrOf x v
noncomputable def eZ(w:World):Key->Int
 | .inl k=>hashInt k
 | .inr x=>hashStr w x
theorem Jt:∀{k:Key}{v:Value},kX k v=true->(∃i t,k=Sum.inl i/\v=Value.int i t)\/(∃x t,k=Sum.inr x/\v=Value.str x t)
 | .inl i,v,h=>by
  obtain⟨t,e⟩:=Value.isInt_shape (k:=i) (v:=v) h;exact .inl ⟨i,t,Z,e⟩
 | .inr x,v,h=>by
  obtain⟨t,e⟩:=Value.isStrOf_shape (x:=x) (v:=v) h;exact .inr ⟨x,t,Z,e⟩
def VG(i:Int)(t:Tok):kX (.inl i) (.int i t)=true:=by simp[kX,Value.isInt]
def VH(x:Str)(t:Tok):kX (.inr x) (.str x t)=true:=by simp[kX,Value.isStrOf]
def Oy(a b:Int):decide ((Sum.inl a:Key)=Sum.inl b)=(a==b):=by
 by_cases e:a=b
 .subst e;simp
 .have h:¬ (Sum.inl a:Key)=Sum.inl b:=λq=>e (Sum.inl.inj q);rw[tL h];exact(yau.mpr e).symm
def Oz(a b:Str):decide ((Sum.inr a:Key)=Sum.inr b)=decide (a=b):=by
 by_cases e:a=b
 .subst e;simp
 .have h:¬ (Sum.inr a:Key)=Sum.inr b:=λq=>e (ydN q);rw[tL h,tL e]
def OA(a:Int)(b:Str):decide ((Sum.inl a:Key)=Sum.inr b)=false:=tL (λq=>nomatch q)
def OB(a:Str)(b:Int):decide ((Sum.inr a:Key)=Sum.inl b)=false:=tL (λq=>nomatch q)
noncomputable def QY(prog:Program)(w:World):PySem.KeyKind prog w Key where
 is:=kX
 hash:=eZ w
 inj:=λv a b ha hb=>by
  rcases Jt ha with⟨i,t,rfl,rfl⟩|⟨x,t,rfl,rfl⟩
  .rcases Jt hb with⟨j,u,rfl,e⟩|⟨y,u,rfl,e⟩
   .injection e with e1 _;rw[e1]
   .exact nomatch e
  .rcases Jt hb with⟨j,u,rfl,e⟩|⟨y,u,rfl,e⟩
   .exact nomatch e
   .injection e with e1 _;rw[e1]
 byValue:=λk v h=>by
  rcases Jt h with⟨i,t,rfl,rfl⟩|⟨x,t,rfl,rfl⟩<;>rfl
 pyHash:=λhv h=>by
  rcases Jt hv with⟨i,t,rfl,rfl⟩|⟨x,t,rfl,rfl⟩
  .exact wpAny_pyHash_int h
  .exact wpAny_pyHash_str h
 eqBool:=λhu hv h=>by
  rcases Jt hu with⟨i,t,rfl,rfl⟩|⟨x,t,rfl,rfl⟩
  .rcases Jt hv with⟨j,u,rfl,rfl⟩|⟨y,u,rfl,rfl⟩
   .rw[Oy]at h;exact wpAny_eqBool_int h
   .rw[OA]at h;exact yed i t y u _ _ _ _ h
  .rcases Jt hv with⟨j,u,rfl,rfl⟩|⟨y,u,rfl,rfl⟩
   .rw[OB]at h;exact yee x t j u _ _ _ _ h
   .rw[Oz]at h;exact wpAny_eqBool_str h
 «strs»:=λk x t v h=>by
  rcases Jt h with⟨i,u,rfl,e⟩|⟨y,u,rfl,e⟩
  .exact nomatch e
  .injection e with e1 _;subst e1;cases v<;>rfl
def zp(prog:Program)(w:World)(i:Int)(t:Tok):(QY prog w).is (.inl i) (.int i t)=true:=VG i t
def Ju(prog:Program)(w:World)(x:Str)(t:Tok):(QY prog w).is (.inr x) (.str x t)=true:=VH x t
inductive V where
 |aq|bl (b:Bool)|int (i:Int)|str (x:Str)|cx (b:Array UInt8)|ik (b:UInt64)|ref (a:Addr)|ty (n:String)
 deriving DecidableEq
def RelV:V->Value->Prop
 | .aq,u=>u=Value.none
 | .bl b,u=>u=Value.bool b
 | .int i,u=>∃t,u=Value.int i t
 | .str x,u=>∃t,u=Value.str x t
 | .cx b,u=>∃t,u=Value.bytes b t
 | .ik b,u=>∃t,u=Value.float b t
 | .ref a,u=>u=Value.ref a
 | .ty n,u=>u=Value.type n
abbrev Vals:List V->List Value->Prop:=Paired RelV
theorem Vals.length{xs:List V}{us:List Value}(r:Vals xs us):xs.length=us.length:=yev r
theorem Vals.get:∀{xs:List V}{us:List Value}{i:Nat}{x:V},Vals xs us->xs[i]? =some x->∃u,us[i]? =some u/\RelV x u
 |_,_,_,_,.nil,e=>by simp at e
 |_,_,0,_,.cons r _,e=>by simp at e;subst e;exact⟨_,Z,r⟩
 |_,_,i+1,x,.cons _ t,e=>by
  obtain⟨u,h1,h2⟩:=Vals.get (i:=i) (x:=x) t (by simpa using e);exact⟨u,by simpa using h1,h2⟩
theorem Vals.set(r:RelV x u):∀{xs:List V}{us:List Value}(i:Nat),Vals xs us->Vals (xs.set i x) (us.set i u)
 |_,_,_,.nil=>.nil
 |_,_,0,.cons _ t=>.cons r t
 |_,_,i+1,.cons q t=>.cons q (Vals.set r i t)
theorem Vals.append:∀{xs ys:List V}{us ws:List Value},Vals xs us->Vals ys ws->Vals (xs++ys) (us++ws)
 |_,_,_,_,.nil,s=>s
 |_,_,_,_,.cons r t,s=>.cons r (Vals.append t s)
theorem Vals.take:∀{xs:List V}{us:List Value}(n:Nat),Vals xs us->Vals (xs.take n) (us.take n)
 |_,_,0,_=>.nil
 |_,_,_+1,.nil=>.nil
 |_,_,n+1,.cons r t=>.cons r (Vals.take n t)
theorem Vals.drop:∀{xs:List V}{us:List Value}(n:Nat),Vals xs us->Vals (xs.drop n) (us.drop n)
 |_,_,0,r=>r
 |_,_,_+1,.nil=>.nil
 |_,_,n+1,.cons _ t=>Vals.drop n t
def Uq:Option V->Option Value->Prop
 |some v,some u=>RelV v u
 |none,none=>True
 |_,_=>False
def KV{κ:Type}:List (κ × V)->List (κ × Value)->Prop:=Paired λ(p:κ × V)(q:κ × Value)=>p.1=q.1/\RelV p.2 q.2
noncomputable def kV:Key->V
 | .inl i=>.int i
 | .inr x=>.str x
inductive HO where
 |lst (xs:List V)
 |tup (xs:List V)
 |dK (al:List (Key × V))|dT (al:List (List Key × V))
 |set (S:Int->Bool) (n:Nat)
 |ins (C dx:Addr) (fs:List (Str × V))
 |own (x:Addr)
 |xd (fs:List (Str × V))
 |met (f x:Addr)
 |Ck (lo hi:Int)
 |bY (o:Obj) (u:HO)
 |il (ps:Array Value)
 |ext (φ:Heap->Prop)
noncomputable abbrev Hp:=Addr->Option HO
noncomputable def upd(H:Hp)(a:Addr)(o:HO):Hp:=λb=>if b=a then some o else H b
def Qf:upd H a o a=some o:=by unfold upd;rw[yai rfl]
def Qo(h:b≠a):upd H a o b=H b:=by unfold upd;rw[yag h]
def Ei{H:Hp}(h:H a=some o)(h':H b=some u)(d:o≠u):a≠b:=by
 intro e;subst e;rw[h]at h';exact d (tO h')
def QB{H:Hp}(h:H a=some o)(h':H b=none):a≠b:=by
 intro e;subst e;rw[h]at h';cases h'
def VI(h:Heap)(a:Addr)(items:Array Value):Prop:=∃o,h.get? a=some o/\o.cls=.type "tuple"/\∃n,o.data=.seq items n/\o.dict=none
def VI.tup{h:Heap}{a:Addr}{items:Array Value}(p:VI h a items):IsTup h a items:=let ⟨o,h1,h2,n,h3,_⟩:=p;⟨o,h1,h2,n,h3⟩
def VI.new(h:Heap)(items:Array Value):VI (h.push {cls:=.type "tuple",data:=.seq items}) h.objs.size items:=⟨_,yah _ rfl,Z,_,Z,Z⟩
section
variable (P:Program)(w:World)
def JJ(H:Hp)(h:Heap)(a:Addr):HO->Prop
 | .lst xs=>xs.length<=sizeLine/\∃(its:List Value)(n:Nat),Vals xs its/\h.get? a=some {cls:=.type "list",data:=.seq its.toArray n}
 | .tup xs=>xs.length<=sizeLine/\∃its:List Value,Vals xs its/\VI h a its.toArray
 | .dK al=>al.length<=sizeLine/\(a==sysModules)=false/\∃vs,KV al vs/\h.DictOf (QY P w) a vs
 | .dT al=>al.length<=sizeLine/\(a==sysModules)=false/\∃xs:List (List Key × Addr × Value),
   Paired (λ(p:List Key × V)(q:List Key × Addr × Value)=>p.1=q.1/\H q.2.1=some (.tup (p.1.map kV))/\RelV p.2 q.2.2) al xs/\
   ∃o es ep,h.get? a=some o/\o.ExactDict/\o.data=.dict es ep/\es.toList=xs.map (entryOfKey (tupleKind (QY P w)))/\(xs.map (·.1)).Nodup
 | .set S n=>h.SetOf (intKind P w) a S n
 | .ins C dx fs=>H dx=some (.own a)/\fs.length<=1000/\dx≠a/\h.get? a=some (instObj C dx)/\
   ∃mA,h.Ns1 dx mA/\(∀f,Uq (fs.lookup f) (mA f))/\PySem.Within mA (fs.map (·.1))
 | .own _=>∃o,h.get? a=some o
 | .xd fs=>∃mA,h.Ns1 a mA/\∀f,Uq (fs.lookup f) (mA f)
 | .Ck lo hi=>∃t u v,h.get? a=some {cls:=.type "range",data:=.fields #[.int lo t,.int hi u,.int 1 v]}
 | .bY o u=>h.get? a=some o/\JJ H h a u
 | .il ps=>h.get? a=some {cls:=.none,data:=.fields ps}
 | .met f x=>h.get? a=some (methodObj (.ref f) (.ref x))
 | .ext φ=>φ h/\(∃o,h.get? a=some o)/\∀h1 h2:Heap,φ h1->(∀o,h1.get? a=some o->h2.get? a=some o)->φ h2
def bo(H:Hp)(h:Heap):Prop:=∀a o,H a=some o->JJ P w H h a o
end
section
variable {P:Program}{w:World}{H:Hp}{h h':Heap}{a:Addr}{o:HO}
theorem JJ.lt(x:JJ P w H h a o):a<h.objs.size:=by
 cases o with
 |lst xs=>obtain⟨_,_,_,_,e⟩:=x;exact yaj e
 |tup xs=>obtain⟨_,_,_,p⟩:=x;exact p.tup.lt
 |dK al=>obtain⟨_,_,_,_,o,_,_,e,_⟩:=x;exact yaj e
 |dT al=>obtain⟨_,_,_,_,o,_,_,e,_⟩:=x;exact yaj e
 |set S n=>obtain⟨o,_,_,_,e,_⟩:=x;exact yaj e
 |ins C dx fs=>obtain⟨_,_,_,e,_⟩:=x;exact yaj e
 |own y=>obtain⟨_,e⟩:=x;exact yaj e
 |xd fs=>obtain⟨_,⟨_,_,_,e,_⟩,_⟩:=x;exact yaj e
 |Ck lo hi=>obtain⟨_,_,_,e⟩:=x;exact yaj e
 |bY ob u=>obtain⟨e,_⟩:=x;exact yaj e
 |il ps=>exact yaj (show h.get? a=some _ from x)
 |met f y=>exact yaj (show h.get? a=some _ from x)
 |ext φ=>obtain⟨_,⟨_,e⟩,_⟩:=x;exact yaj e
theorem Paired.Ej:∀{l₁:List α}{l₂:List β},Paired F l₁ l₂->(∀a b,F a b->G a b)->Paired G l₁ l₂
 |_,_,.nil,_=>.nil
 |_,_,.cons r t,f=>.cons (f _ _ r) (Paired.Ej t f)
def JJ.d6(x:JJ P w H h a o)(k:∀b u,(b=a\/H b=some (.own a))->h.get? b=some u->h'.get? b=some u)(ho:∀b,H b=some (.own a)->H' b=some (.own a))(ht:∀b xs,H b=some (.tup xs)->H' b=some (.tup xs)):JJ P w H' h' a o:=by
 induction o with
 |lst xs=>obtain⟨z,its,n,r,e⟩:=x;exact⟨z,its,n,r,k _ _ (.inl Z) e⟩
 |tup xs=>obtain⟨z,its,r,ob,e,c⟩:=x;exact⟨z,its,r,ob,k _ _ (.inl Z) e,c⟩
 |dK al=>obtain⟨z,y,vs,r,ob,es,ep,e,c⟩:=x;exact⟨z,y,vs,r,ob,es,ep,k _ _ (.inl Z) e,c⟩
 |dT al=>
  obtain⟨z,y,xs,r,ob,es,ep,e,c⟩:=x;exact⟨z,y,xs,Paired.Ej r λp q z=>⟨z.1,ht _ _ z.2.1,z.2.2⟩,ob,es,ep,k _ _ (.inl Z) e,c⟩
 |set S n=>obtain⟨ob,es,ep,t,e,c⟩:=x;exact⟨ob,es,ep,t,k _ _ (.inl Z) e,c⟩
 |ins C dx fs=>
  obtain⟨d,z,ne,e,mA,⟨od,es,ep,e2,c⟩,r⟩:=x;exact⟨ho _ d,z,ne,k _ _ (.inl Z) e,mA,⟨od,es,ep,k _ _ (.inr d) e2,c⟩,r⟩
 |own y=>obtain⟨ob,e⟩:=x;exact⟨ob,k _ _ (.inl Z) e⟩
 |xd fs=>obtain⟨mA,⟨od,es,ep,e,c⟩,r⟩:=x;exact⟨mA,⟨od,es,ep,k _ _ (.inl Z) e,c⟩,r⟩
 |Ck lo hi=>obtain⟨t,u,v,e⟩:=x;exact⟨t,u,v,k _ _ (.inl Z) e⟩
 |bY ob u ih=>obtain⟨e,q⟩:=x;exact⟨k _ _ (.inl Z) e,ih q⟩
 |il ps=>
  have e:h.get? a=some {cls:=.none,data:=.fields ps}:=x;show h'.get? a=some {cls:=.none,data:=.fields ps};exact k a _ (.inl Z) e
 |met f y=>
  have e:h.get? a=some (methodObj (.ref f) (.ref y)):=x;show h'.get? a=some (methodObj (.ref f) (.ref y));exact k a _ (.inl Z) e
 |ext φ=>obtain⟨p,⟨o,e⟩,st⟩:=x;exact⟨st _ _ p λo q=>k _ _ (.inl Z) q,⟨o,k _ _ (.inl Z) e⟩,st⟩
theorem bo.lt(x:bo P w H h)(e:H a=some o):a<h.objs.size:=(x a o e).lt
def bo.fresh(x:bo P w H h)(e:h.objs.size<=a):H a=none:=by
 cases q:H a with
 |none=>rfl
 |some u=>exact absurd (yam (x.lt q) e) (lG _)
def bo.kept(x:bo P w H h)(k:∀b u,h.get? b=some u->h'.get? b=some u):bo P w H h':=λa o e=>
 (x a o e).d6 (λb u _ q=>k b u q) (λ_ q=>q) λ_ _ q=>q
def bo.laid(x:bo P w H h)(k:∀b u,h.get? b=some u->h'.get? b=some u)(hp:h.objs.size<=a)(new:JJ P w (upd H a o) h' a o):bo P w (upd H a o) h':=λb u e=>by
 have hn:=x.fresh hp
 by_cases hb:b=a
 .subst hb;rw[Qf]at e;cases e;exact new
 .rw[Qo hb]at e;exact(x b u e).d6 (λc v _ q=>k c v q) (λc q=>by rw[Qo (QB q hn)];exact q) λc xs q=>by rw[Qo (QB q hn)];exact q
end
def Rd(H:Hp)(a:Addr)(u:HO):Prop:=H a=some u\/∃o,H a=some (.bY o u)
def Rd.ok(r:Rd H a u)(x:bo P w H h):JJ P w H h a u:=by
 rcases r with r|⟨o,r⟩
 .exact x a u r
 .obtain⟨_,q⟩:=x a _ r;exact q
def Ad:Option HO->Prop
 |some (.lst _)=>True
 |some (.dK _)=>True
 |some (.dT _)=>True
 |some (.set _ _)=>True
 |some (.ins _ _ _)=>True
 |some (.ext _)=>True
 |_=>False
section
def bo.write(ok:bo P w H h)(mu:Ad (H x))(he:e=x\/H e=some (.own x))(k:∀b u,b≠e->h.get? b=some u->h'.get? b=some u)(o3:∃u,h'.get? e=some u)(new:JJ P w (upd H x o') h' x o'):bo P w (upd H x o') h':=λb u q=>by
 have Ae:∀c y,H c=some (.own y)->c≠x:=λc y r z=>by subst z;rw[r]at mu;exact mu
 have Ek:∀c xs,H c=some (.tup xs)->c≠x:=λc xs r z=>by subst z;rw[r]at mu;exact mu
 by_cases hb:b=x
 .subst hb;rw[Qf]at q;cases q;exact new
 .rw[Qo hb]at q
  by_cases FM:b=e
  .have q':H b=some (.own x):=by
    rcases he with z|z
    .exact absurd (FM.trans z) hb
    .rw[FM];exact z
   rw[q]at q';cases q';obtain⟨v,hv⟩:=o3;exact⟨v,by rw[FM];exact hv⟩
  .refine(ok b u q).d6 (λc v hc r=>k c v ?_ r) (λc r=>by rw[Qo (Ae c b r)];exact r) λc xs r=>by rw[Qo (Ek c xs r)];exact r
   rcases hc with rfl|hc
   .exact FM
   .rintro rfl;rcases he with z|z
    .exact Ae c b hc z
    .rw[hc]at z;cases z;exact hb rfl
end
structure Un(fs ex:List Addr)(H H':Hp)(h h':Heap):Prop where
 keep:∀b o,h.get? b=some o->H b=none->b∉fs->b∉ex->h'.get? b=some o
 slot:∀b o,h.get? b=some o->H b=none->b∈fs->b∉ex->∃sl,h'.get? b=some {o with slots:=sl}
 free:∀b o,h.get? b=some o->H b=none->b∉ex->H' b=none
 there:∀b o,h.get? b=some o->b∉ex->∃o',h'.get? b=some o'
 qK:∀b xs,H b=some (.tup xs)->H' b=some (.tup xs)
 bL:∀b o u,H b=some (.bY o u)->H' b=some (.bY o u)
 bV:∀b ps,H b=some (.il ps)->∃more,H' b=some (.il (ps++more))
section
variable {fs ex:List Addr}{H H1:Hp}{h h':Heap}{a:Addr}{o:HO}
def Un.any(u:Un fs ex H H1 h h1)(q:h.get? b=some ob)(n:H b=none)(hx:b∉ex):∃sl,h1.get? b=some {ob with slots:=sl}:=by
 by_cases hb:b∈fs
 .exact u.slot b ob q n hb hx
 .exact⟨ob.slots,u.keep b ob q n hb hx⟩
def Un.kept(k:∀b u,h.get? b=some u->h'.get? b=some u):Un fs ex H H h h':=
 ⟨λb ob q _ _ _=>k b ob q,λb ob q _ _ _=>⟨ob.slots,k b ob q⟩,λ_ _ _ n _=>n,λb ob q _=>⟨ob,k b ob q⟩,λ_ _ q=>q,λ_ _ _ q=>q,λ_ ps q=>⟨#[],by rw[q];simp⟩⟩
def Un.refl:Un fs ex H H h h:=Un.kept λ_ _ q=>q
def Un.laid(k:∀b u,h.get? b=some u->h'.get? b=some u)(hp:h.objs.size<=a)(hn:H a=none):Un fs ex H (upd H a o) h h' where
 keep:=λb u q _ _ _=>k b u q
 slot:=λb u q _ _ _=>⟨u.slots,k b u q⟩
 free:=λb u q n _=>by rw[Qo (yar (yam (yaj q) hp))];exact n
 there:=λb u q _=>⟨u,k b u q⟩
 qK:=λb xs q=>by rw[Qo (QB q hn)];exact q
 bL:=λb u xs q=>by rw[Qo (QB q hn)];exact q
 bV:=λb ps q=>⟨#[],by rw[Qo (QB q hn),q];simp⟩
def Un.write(mu:Ad (H x))(he:e=x\/H e=some (.own x))(k:∀b u,b≠e->h.get? b=some u->h'.get? b=some u)(o3:∃u,h'.get? e=some u):Un fs ex H (upd H x o) h h':=by
 have hx:∀b,H b=none->b≠x:=λb n z=>by subst z;rw[n]at mu;exact mu
 have hb:∀b,H b=none->b≠e:=λb n z=>by
  subst z;rcases he with r|r
  .exact hx b n r
  .rw[n]at r;cases r
 have hm:∀b u,H b=some u->¬ Ad (some u)->b≠x:=λb u q nm z=>by subst z;rw[q]at mu;exact nm mu
 refine⟨λb u q n _ _=>k b u (hb b n) q,λb u q n _ _=>⟨u.slots,k b u (hb b n) q⟩,λb u q n _=>by rw[Qo (hx b n)];exact n,λb u q _=>?_,
  λb xs q=>by rw[Qo (hm b _ q λz=>z)];exact q,λb u xs q=>by rw[Qo (hm b _ q λz=>z)];exact q,λb ps q=>⟨#[],by rw[Qo (hm b _ q λz=>z),q];simp⟩⟩
 by_cases FM:b=e
 .subst FM;exact o3
 .exact⟨u,k b u FM q⟩
end
noncomputable def Cm(h:Heap)(H:Hp):List Addr:=(List.range h.objs.size).filter λa=>(H a).isSome
noncomputable def e5(h:Heap)(H:Hp):Heap:=hideAll h (Cm h H)
def vo(h:Heap)(H:Hp):(e5 h H).objs.size=h.objs.size:=hideAll_size _ _
def OD(e:h.get? b=some o)(n:H b=none):(e5 h H).get? b=some o:=
 hideAll_get _ e λhm=>by
  have q:(H b).isSome=true:=(yeN.mp hm).2;rw[n]at q;simp at q
def OF(e:(e5 h H).get? b=some o):h.get? b=some o/\H b=none:=by
 have e':h.get? b=some o:=of_hideAll (Cm h H) e;exists e';cases q:H b with
 |none=>rfl
 |some x=>
  have hm:b∈Cm h H:=yeN.mpr ⟨List.mem_range.mpr (yaj e'),by simp[q]⟩;have z:(e5 h H).get? b=none:=hideAll_none (Cm h H) hm;rw[z]at e;cases e
structure Mod(K:Frag)(mg:Str->Option Value)(Y:Heap):Prop where
 i5:K.In Y
 glob:Y.Ns mainGlobals mg
 blt:∃mb,Y.Ns builtinsNs mb/\∀x:Str,x≠"__name__"->mb x=bootBuiltins x
 nolimit:Y.NoLimit
structure Cx where
 prog:Program
 w:World
 K:Frag
 mg:Str->Option Value
 Y:Heap
 A:Around
 N:List Str
 s₀:Shared
 H₀:Hp
 env:Env
 L:List Env
 stack:List Env
 ex:List Addr
 fn:Str->Bool
 calm:Bool
 pn:List (Addr × Obj)
 xe:Value->Shared->Prop
noncomputable def bz(l:List Env):List Addr:=l.filterMap (·.frame)
noncomputable abbrev Cx.fs(X:Cx):List Addr:=bz X.L
def Cn(sc:Scope)(x:Str):Prop:=sc.names.lookup x=some .local\/sc.names.lookup x=some .cell\/sc.names.lookup x=some .free
def Loc(sc:Scope)(x:Str):Prop:=sc.names.lookup x=some .local\/sc.names.lookup x=some .cell
def Look(env:Env)(h:Heap)(m:Str->Option Value)(x:Str)(u:Value):Prop:=
 (env.kindOf x=some .local/\m x=some u)\/((env.kindOf x=some .cell\/env.kindOf x=some .free)/\∃c,env.cells.lookup x=some c/\h.IsCell c (some u))
structure Cx.Ok(X:Cx):Prop where
 mod:Mod X.K X.mg X.Y
 kind:X.env.scope.kind=.function
 glob:X.env.globals=mainGlobals
 blt:X.env.builtins=builtinsNs
 above:X.s₀.heap.objs.size<=X.env.locals
 inj:∀x y c,X.env.cells.lookup x=some c->X.env.cells.lookup y=some c->x=y
 has:∀x,(X.env.kindOf x=some .cell\/X.env.kindOf x=some .free)->∃c,X.env.cells.lookup x=some c
 Af:∀x c,X.fn x=true->X.env.cells.lookup x=some c->X.s₀.heap.objs.size<=c
 hd:X.calm=true->X.A.handled=none
 frames:X.A.frames=some X.stack
 dm:X.stack=X.L\/(X.stack=X.env::X.L/\X.env.frame=some X.env.locals)
 Ij:∀b∈X.ex,b≠X.env.locals/\∀x c,X.env.cells.lookup x=some c->c≠b
 bs:∀b o,X.Y.get? b=some o->X.s₀.heap.get? b=some o/\X.H₀ b=none
 ip:X.Y.objs.size<=X.s₀.heap.objs.size
 dy:∀b o,X.Y.get? b=some o->b∉X.ex
 e6:∀b∈X.ex,b∉X.fs
 vk:X.s₀.heap.FunFrames X.Y X.L
 i6:∀b∈X.fs,X.H₀ b=none
structure Inv(X:Cx)(U:List (Addr × Obj))(σ:List (Option V))(H:Hp)(s:Shared):Prop where
 ok:X.Ok
 os:s.os=X.s₀.os
 bare:AllBare s.gens
 Y:Un X.fs X.ex X.H₀ H X.s₀.heap s.heap
 loc:∃m,s.heap.Ns X.env.locals m/\∀(i:Nat)(x:Str)(v:V),X.N[i]? =some x->σ[i]? =some (some v)->Cn X.env.scope x->∃u,RelV v u/\Look X.env s.heap m x u
 cell:∀x c,X.env.cells.lookup x=some c->∃v,s.heap.IsCell c v
 free:H X.env.locals=none
 aP:∀x c,X.env.cells.lookup x=some c->H c=none
 pin:∀p∈X.pn++U,s.heap.get? p.1=some p.2/\H p.1=none/\p.1≠X.env.locals/\p.1∉X.fs/\∀v,p.2.data≠ .cell v
 ao:bo X.prog X.w H s.heap
 len:σ.length=X.N.length
section
variable {X:Cx}{U:List (Addr × Obj)}{σ:List (Option V)}{H:Hp}{s:Shared}{h':Heap}
def Cx.Ok.OG(ok:X.Ok)(e:X.Y.get? b=some o):b∉X.fs:=λhb=>by
 have:=(ok.vk.mem hb).1;rw[e]at this;cases this
theorem Inv.bs(I:Inv X U σ H s):∀b o,X.Y.get? b=some o->s.heap.get? b=some o/\H b=none:=λb o e=>
 ⟨I.Y.keep b o (I.ok.bs b o e).1 (I.ok.bs b o e).2 (I.ok.OG e) (I.ok.dy b o e),I.Y.free b o (I.ok.bs b o e).1 (I.ok.bs b o e).2 (I.ok.dy b o e)⟩
def Inv.bk(I:Inv X U σ H s):∀b o,X.Y.get? b=some o->s.heap.get? b=some o:=λb o e=>(I.bs b o e).1
theorem Inv.mod(I:Inv X U σ H s):Mod X.K X.mg X.Y:=I.ok.mod
def Inv.bq(I:Inv X U σ H s):X.K.In s.heap:=I.ok.mod.i5.keeps I.bk
theorem Inv.lt(I:Inv X U σ H s):X.env.locals<s.heap.objs.size:=let ⟨_,hn,_⟩:=I.loc;hn.lt
def Inv.sz(I:Inv X U σ H s):X.s₀.heap.objs.size<=s.heap.objs.size:=yap I.ok.above (ycW I.lt)
def Inv.OH(I:Inv X U σ H s){a:Addr}(h:s.heap.objs.size<=a):a∉X.fs:=λhb=>by
 obtain⟨_,o,ho,_⟩:=I.ok.vk.mem hb;exact absurd (yam (yaj ho) (yap I.sz h)) (lG _)
def Inv.i7(I:Inv X U σ H s):∀x c,X.env.cells.lookup x=some c->c≠X.env.locals:=λx c e z=>by
 obtain⟨v,o,ho,hd⟩:=I.cell x c e;obtain⟨m,⟨o',es,ep,e7,Rs,_⟩,_⟩:=I.loc;rw[z,e7]at ho;cases ho;rw[Rs]at hd;cases hd
theorem Inv.vk(I:Inv X U σ H s):s.heap.FunFrames X.Y X.L:=by
 have all:∀(l:List Env),(∀b∈bz l,b∈X.fs)->X.s₀.heap.FunFrames X.Y l->s.heap.FunFrames X.Y l:=by
  intro l
  induction l with
  |nil=>intro _ _;trivial
  |cons env r ih=>
   intro hs hl;obtain⟨hk,⟨qLa,o,hf,hn,ho,hd⟩,hr⟩:=hl;have hL:qLa∈X.fs:=hs qLa (by unfold bz;rw[ycT,hf];exact tW);obtain⟨sl,e⟩:=I.Y.slot qLa o ho (I.ok.i6 qLa hL) hL λz=>I.ok.e6 qLa z hL;exact⟨hk,⟨qLa,_,hf,hn,e,hd⟩,ih (λb hb=>hs b (by unfold bz;rw[ycT,hf];exact tU _ hb)) hr⟩
 exact all X.L (λ_ hb=>hb) I.ok.vk
theorem Inv.stack(I:Inv X U σ H s):s.heap.FunFrames X.Y X.stack:=by
 rcases I.ok.dm with e|⟨e,hf⟩
 .rw[e];exact I.vk
 .rw[e];obtain⟨m,hn,_⟩:=I.loc;refine .cons (by rw[I.ok.kind];lia) hf hn ?_ I.vk;exact Heap.get?_none_of_le (yap I.ok.ip I.ok.above)
def Inv.xy(I:Inv X U σ H s):∀b∈bz X.stack,b∈X.env.locals::X.fs:=λb hb=>by
 rcases I.ok.dm with e|⟨e,hf⟩
 .rw[e]at hb;exact tU _ hb
 .rw[e]at hb;unfold bz at hb;rw[ycT,hf]at hb;exact hb
def Inv.zq(I:Inv X U σ H s):∀b∈bz X.stack,H b=none:=λb hb=>by
 rcases yak.mp (I.xy b hb)with e|hb
 .rw[e];exact I.free
 .obtain⟨_,o,ho,_⟩:=I.ok.vk.mem hb;exact I.Y.free b o ho (I.ok.i6 b hb) λz=>I.ok.e6 b z hb
def Inv.step{ch:List Addr}(I:Inv X U σ H s)(NE:∀b∈ch,(b∈X.ex\/X.s₀.heap.objs.size<=b)/\b≠X.env.locals/\(∀x c,X.env.cells.lookup x=some c->c≠b)/\∀p∈X.pn++U,p.1≠b)(keep:∀b o,b≠X.env.locals->b∉X.fs->b∉ch->s.heap.get? b=some o->H b=none->h'.get? b=some o)(slot:∀b o,b≠X.env.locals->b∈X.fs->b∉ch->s.heap.get? b=some o->H b=none->∃sl,h'.get? b=some {o with slots:=sl})(free:∀b o,b∉ch->s.heap.get? b=some o->H b=none->H' b=none)(there:∀b o,b∉ch->s.heap.get? b=some o->∃o',h'.get? b=some o')(qK:∀b xs,H b=some (.tup xs)->H' b=some (.tup xs))(bL:∀b o u,H b=some (.bY o u)->H' b=some (.bY o u))(bV:∀b ps,H b=some (.il ps)->∃more,H' b=some (.il (ps++more)))(ns:∀m,s.heap.Ns X.env.locals m->h'.Ns X.env.locals m)(ao:bo X.prog X.w H' h')(hg:AllBare g'):Inv X U σ H' {s with heap:=h',gens:=g',drawn:=d',toks:=t'}:=by
 have Co:∀b o,X.s₀.heap.get? b=some o->b≠X.env.locals:=λb o e=>yar (yam (yaj e) I.ok.above);have Cp:∀b o,X.s₀.heap.get? b=some o->b∉X.ex->b∉ch:=λb o e hx hb=>by
  rcases(NE b hb).1 with z|z
  .exact hx z
  .exact absurd (yam (yaj e) z) (lG _)
 have cellK:∀x c,X.env.cells.lookup x=some c->∀v,s.heap.IsCell c v->h'.IsCell c v:=λx c e v⟨o,ho,hd⟩=>by
  have Ag:c∉ch:=λz=>(NE c z).2.2.1 x c e rfl
  by_cases hc:c∈X.fs
  .obtain⟨sl,q⟩:=slot c o (I.i7 x c e) hc Ag ho (I.aP x c e);exact⟨_,q,hd⟩
  .exact⟨o,keep c o (I.i7 x c e) hc Ag ho (I.aP x c e),hd⟩
 refine⟨I.ok,I.os,hg,⟨λb o e n hb hx=>?_,λb o e n hb hx=>?_,λb o e n hx=>?_,λb o e hx=>?_,λb xs e=>qK b xs (I.Y.qK b xs e),λb o xs e=>bL b o xs (I.Y.bL b o xs e),λb ps e=>?_⟩,?_,λx c e=>?_,?_,λx c e=>?_,λp hp=>?_,ao,I.len⟩
 .exact keep b o (Co b o e) hb (Cp b o e hx) (I.Y.keep b o e n hb hx) (I.Y.free b o e n hx)
 .obtain⟨sl,e1⟩:=I.Y.slot b o e n hb hx;obtain⟨Ah,e2⟩:=slot b _ (Co b o e) hb (Cp b o e hx) e1 (I.Y.free b o e n hx);exact⟨Ah,e2⟩
 .obtain⟨o',e1⟩:=I.Y.there b o e hx;exact free b o' (Cp b o e hx) e1 (I.Y.free b o e n hx)
 .obtain⟨o',e1⟩:=I.Y.there b o e hx;exact there b o' (Cp b o e hx) e1
 .obtain⟨m1,e1⟩:=I.Y.bV b ps e;obtain⟨m2,e2⟩:=bV b _ e1;exact⟨m1++m2,by rw[e2,Array.append_assoc]⟩
 .obtain⟨m,hn,hl⟩:=I.loc;refine⟨m,ns m hn,λi x v e1 e2 e3=>?_⟩;obtain⟨u,r,l⟩:=hl i x v e1 e2 e3;exists u,r;rcases l with l|⟨k,c,e,z⟩
  .exact .inl l
  .exact .inr ⟨k,c,e,cellK x c e _ z⟩
 .obtain⟨v,z⟩:=I.cell x c e;exact⟨v,cellK x c e v z⟩
 .obtain⟨m,⟨o,_,_,ho,_⟩,_⟩:=I.loc;exact free _ o (λz=>(NE _ z).2.1 Z) ho I.free
 .obtain⟨v,o,ho,hd⟩:=I.cell x c e;exact free c o (λz=>(NE c z).2.2.1 x c e Z) ho (I.aP x c e)
 .obtain⟨e,n,ne,nf,d⟩:=I.pin p hp;have Ag:p.1∉ch:=λz=>(NE p.1 z).2.2.2 p hp rfl;exact⟨keep p.1 p.2 ne nf Ag e n,free p.1 p.2 Ag e n,ne,nf,d⟩
def Inv.un(I:Inv X U σ H s)(u:Un X.fs [] H H' s.heap h')(ao:bo X.prog X.w H' h'):Inv X U σ H' {s with heap:=h',toks:=t'}:=by
 obtain⟨m,⟨o,es,ep,ho,r⟩,_⟩:=id I.loc;obtain⟨sl,hL⟩:=u.any ho I.free (by simp);exact I.step (g':=s.gens) (d':=s.drawn) (ch:=[]) (λ_ z=>nomatch z) (λb o _ hb _ e n=>u.keep b o e n hb (by simp)) (λb o _ hb _ e n=>u.slot b o e n hb (by simp)) (λb o _ e n=>u.free b o e n (by simp)) (λb o _ e=>u.there b o e (by simp)) u.qK u.bL u.bV (λm' hm=>by
  obtain⟨o',sB,El,e7,r'⟩:=hm;rw[ho]at e7;cases e7;exact⟨_,sB,El,hL,r'⟩) ao I.bare
def Inv.call{ch:List Addr}(I:Inv X U σ H s)(u:Un (bz X.stack) ch H H' s.heap h')(ao:bo X.prog X.w H' h')(hg:AllBare g')(NE:∀b∈ch,(b∈X.ex\/X.s₀.heap.objs.size<=b)/\b≠X.env.locals/\(∀x c,X.env.cells.lookup x=some c->c≠b)/\∀p∈X.pn++U,p.1≠b):Inv X U σ H' {s with heap:=h',gens:=g',drawn:=d',toks:=t'}:=by
 obtain⟨m,⟨o,es,ep,ho,r⟩,_⟩:=id I.loc;obtain⟨sl,hL⟩:=u.any ho I.free λz=>(NE _ z).2.1 rfl;exact I.step (ch:=ch) NE (λb o hL hb hc e n=>u.keep b o e n (λz=>(yak.mp (I.xy b z)).elim hL hb) hc) (λb o _ _ hc e n=>u.any e n hc) (λb o hc e n=>u.free b o e n hc) (λb o hc e=>u.there b o e hc) u.qK u.bL u.bV (λm' hm=>by
  obtain⟨o',sB,El,e7,r'⟩:=hm;rw[ho]at e7;cases e7;exact⟨_,sB,El,hL,r'⟩) ao hg
def Inv.turned{it:Addr}(I:Inv X U σ H s)(k:∀b o,b≠it->s.heap.get? b=some o->h'.get? b=some o)(hn:H it=none)(hL:it≠X.env.locals)(h1:it∈X.ex\/X.s₀.heap.objs.size<=it)(h2:∀x c,X.env.cells.lookup x=some c->c≠it)(h3:∀p∈X.pn++U,p.1≠it):Inv X U σ H {s with heap:=h',toks:=t'}:=by
 have dA:∀b u,H b=some u->b≠it:=λb u e z=>by rw[z,hn]at e;cases e
 refine I.step (g':=s.gens) (d':=s.drawn) (ch:=[it]) (λb hb=>?_) (λb o _ _ hc e _=>k b o (λz=>hc (by simp[z])) e) (λb o _ _ hc e _=>⟨o.slots,k b o (λz=>hc (by simp[z])) e⟩) (λ_ _ _ _ n=>n)
  (λb o hc e=>⟨o,k b o (λz=>hc (by simp[z])) e⟩) (λ_ _ e=>e) (λ_ _ _ e=>e) (λb ps e=>⟨#[],by rw[e];simp⟩) (λm hm=>?_) (λb u e=>?_) I.bare
 .have e:b=it:=by simpa using hb
  subst e;exact⟨h1,hL,h2,h3⟩
 .obtain⟨o,es,ep,ho,r⟩:=hm;exact⟨o,es,ep,k _ o (Ne.symm hL) ho,r⟩
 .refine(I.ao b u e).d6 (λc v hc q=>k c v ?_ q) (λ_ q=>q) λ_ _ q=>q;rcases hc with z|z
  .rw[z];exact dA b u e
  .exact dA c _ z
def Inv.tok(I:Inv X U σ H s)(t:Nat):Inv X U σ H {s with toks:=t}:=I.un (h':=s.heap) (t':=t) Un.refl I.ao
theorem Inv.kept(I:Inv X U σ H s)(k:∀b u,s.heap.get? b=some u->h'.get? b=some u):Inv X U σ H {s with heap:=h',toks:=t'}:=I.un (Un.kept k) (I.ao.kept k)
theorem Inv.laid{a:Addr}{o:HO}{t':Nat}(I:Inv X U σ H s)(k:∀b u,s.heap.get? b=some u->h'.get? b=some u)(hp:s.heap.objs.size<=a)(new:JJ X.prog X.w (upd H a o) h' a o):Inv X U σ (upd H a o) {s with heap:=h',toks:=t'}:=I.un (Un.laid k hp (I.ao.fresh hp)) (I.ao.laid k hp new)
theorem Inv.write(I:Inv X U σ H s)(mu:Ad (H x))(he:e=x\/H e=some (.own x))(k:∀b u,b≠e->s.heap.get? b=some u->h'.get? b=some u)(o3:∃u,h'.get? e=some u)(new:JJ X.prog X.w (upd H x o) h' x o):Inv X U σ (upd H x o) {s with heap:=h',toks:=t'}:=I.un (Un.write mu he k o3) (I.ao.write mu he k o3 new)
def Inv.weak(I:Inv X U σ H s)(hl:σ'.length=σ.length)(w:∀(i:Nat) v,σ'[i]? =some (some v)->σ[i]? =some (some v)):Inv X U σ' H s:=
 ⟨I.ok,I.os,I.bare,I.Y,let ⟨m,hn,OI⟩:=I.loc;⟨m,hn,λi x v e1 e2 e3=>OI i x v e1 (w i v e2) e3⟩,I.cell,I.free,I.aP,I.pin,I.ao,hl.trans I.len⟩
def Inv.Ur(I:Inv X U σ H s)(h:∀p∈iq,s.heap.get? p.1=some p.2/\H p.1=none/\p.1≠X.env.locals/\p.1∉X.fs/\∀v,p.2.data≠ .cell v):Inv X iq σ H s:=
 ⟨I.ok,I.os,I.bare,I.Y,I.loc,I.cell,I.free,I.aP,λp hp=>(yaq.mp hp).elim (λz=>I.pin p (tT _ z)) (h p),I.ao,I.len⟩
def xz{N:List Str}(hN:N.Nodup){i j:Nat}{x:Str}(a:N[i]? =some x)(b:N[j]? =some x):i=j:=by
 obtain⟨h1,e1⟩:=yaf.mp a;obtain⟨h2,e2⟩:=yaf.mp b;exact(List.getElem_inj hN).mp (e1.trans e2.symm)
def jf(I:Inv X U σ H s)(hN:X.N.Nodup)(hi:X.N[i]? =some x)(hx:Loc X.env.scope x)(r:RelV v u)(h:∀s',Inv X U (σ.set i (some v)) H s'->(∃a,Heap.SameBut a s.heap s'.heap/\(a=X.env.locals\/X.env.cells.lookup x=some a))->Q () s')(hf:X.fn x=true\/X.env.scope.names.lookup x=some .local:=by first|exact .inl rfl|exact .inr rfl|assumption):wpAny qMa A (storeName X.env x u) Q E s:=by
 obtain⟨m,hn,hl⟩:=id I.loc;have Em:(X.env.scope.kind==.class||(X.env.scope.kind==.module&&X.env.locals !=X.env.globals))=false:=by rw[I.ok.kind];rfl
 have Ik:i<σ.length:=by rw[I.len];exact(yaf.mp hi).1
 have i7:=I.i7;have tracked:∀{a:Addr}{h':Heap},(∃o,s.heap.get? a=some o/\H a=none)->Heap.SameBut a s.heap h'->bo X.prog X.w H h':=λ{a h'} ha hs b ob e=>by
  obtain⟨_,_,Fr⟩:=ha;refine(I.ao b ob e).d6 (λc w' hc q=>(hs.2 c ?_).trans q) (λ_ q=>q) λ_ _ q=>q;rintro rfl;rcases hc with rfl|hc
  .rw[Fr]at e;cases e
  .rw[Fr]at hc;cases hc
 rcases hx with hk|hk
 .refine wpAny_storeName_local hk hn (λh' OJ hs=>?_) Em;obtain⟨oL,_,_,OK,_⟩:=id hn;refine h _ ⟨I.ok,I.os,I.bare,⟨λb o e n hb hx=>?_,λb o e n hb hx=>?_,I.Y.free,λb o e hx=>?_,I.Y.qK,I.Y.bL,I.Y.bV⟩,⟨_,OJ,λj y v' e1 e2 e3=>?_⟩,λy c e=>?_,I.free,I.aP,λp hp=>?_,tracked ⟨oL,OK,I.free⟩ hs,by simpa using I.len⟩ ⟨_,hs,.inl rfl⟩
  .exact(hs.2 b (yar (yam (yaj e) I.ok.above))).trans (I.Y.keep b o e n hb hx)
  .obtain⟨sl,e1⟩:=I.Y.slot b o e n hb hx;exact⟨sl,(hs.2 b (yar (yam (yaj e) I.ok.above))).trans e1⟩
  .obtain⟨o',e1⟩:=I.Y.there b o e hx;exact⟨o',(hs.2 b (yar (yam (yaj e) I.ok.above))).trans e1⟩
  .by_cases hj:j=i
   .subst hj;rw[hi]at e1;cases e1;rw[yeK Ik]at e2;cases e2;exact⟨u,r,.inl ⟨hk,by simp⟩⟩
   .rw[yeY (Ne.symm hj)]at e2;obtain⟨u',r',q⟩:=hl j y v' e1 e2 e3;exists u',r';rcases q with⟨k,e⟩|⟨k,c,e,z⟩
    .refine .inl ⟨k,?_⟩;have:y≠x:=λe=>hj (xz hN e1 (e▸hi));simp[this,e]
    .exact .inr ⟨k,c,e,z.sameBut hs (i7 y c e)⟩
  .obtain⟨w',z⟩:=I.cell y c e;exact⟨w',z.sameBut hs (i7 y c e)⟩
  .obtain⟨e,n,ne,nf,d⟩:=I.pin p hp;exact⟨(hs.2 p.1 ne).trans e,n,ne,nf,d⟩
 .have En:X.fn x=true:=by
   rcases hf with z|z
   .exact z
   .rw[z]at hk;cases hk
  obtain⟨c,hc⟩:=I.ok.has x (.inl hk);obtain⟨w',z⟩:=I.cell x c hc;refine wpAny_storeName_cell I.ok.kind hk hc z (λh' d7 hs=>?_);obtain⟨oc,Il,Eo⟩:=id z;refine h {s with heap:=h'} ⟨I.ok,I.os,I.bare,⟨λb o e n hb hx=>?_,λb o e n hb hx=>?_,I.Y.free,λb o e hx=>?_,I.Y.qK,I.Y.bL,I.Y.bV⟩,⟨m,hn.sameBut hs (Ne.symm (i7 x c hc)),λj y v' e1 e2 e3=>?_⟩,λy c' e=>?_,I.free,I.aP,λp hp=>?_,tracked ⟨oc,Il,I.aP x c hc⟩ hs,by simpa using I.len⟩ ⟨c,hs,.inr hc⟩
  .exact(hs.2 b (yar (yam (yaj e) (I.ok.Af x c En hc)))).trans (I.Y.keep b o e n hb hx)
  .obtain⟨sl,e1⟩:=I.Y.slot b o e n hb hx;exact⟨sl,(hs.2 b (yar (yam (yaj e) (I.ok.Af x c En hc)))).trans e1⟩
  .obtain⟨o',e1⟩:=I.Y.there b o e hx;exact⟨o',(hs.2 b (yar (yam (yaj e) (I.ok.Af x c En hc)))).trans e1⟩
  .by_cases hj:j=i
   .subst hj;rw[hi]at e1;cases e1;rw[yeK Ik]at e2;cases e2;exact⟨u,r,.inr ⟨.inl hk,c,hc,d7⟩⟩
   .rw[yeY (Ne.symm hj)]at e2;obtain⟨u',r',q⟩:=hl j y v' e1 e2 e3;exists u',r';rcases q with q|⟨k,c',e,z'⟩
    .exact .inl q
    .refine .inr ⟨k,c',e,z'.sameBut hs ?_⟩;rintro rfl;exact hj (xz hN e1 (I.ok.inj _ _ _ e hc▸hi))
  .by_cases Im:c'=c
   .subst Im;exact⟨_,d7⟩
   .obtain⟨w2,z2⟩:=I.cell y c' e;exact⟨w2,z2.sameBut hs Im⟩
  .obtain⟨e,n,ne,nf,d⟩:=I.pin p hp;refine⟨(hs.2 p.1 ?_).trans e,n,ne,nf,d⟩;intro q;rw[q,Il]at e;have q':oc=p.2:=tO e;exact d w' (by rw[<-q'];exact Eo)
def We(I:Inv X U σ H s)(hN:X.N.Nodup)(hi:X.N[i]? =some x)(hx:Loc X.env.scope x)(r:RelV v u)(h:∀s',Inv X U (σ.set i (some v)) H s'->Q () s')(hf:X.fn x=true\/X.env.scope.names.lookup x=some .local:=by first|exact .inl rfl|exact .inr rfl|assumption):wpAny qMa A (storeName X.env x u) Q E s:=
 jf I hN hi hx r (λs' I' _=>h s' I') hf
def Inv.Io{ch:List Addr}(I:Inv X U σ H s)(ho:s'.os=s.os)(u:Un (bz X.stack) ch H H' s.heap s'.heap)(ao:bo X.prog X.w H' s'.heap)(hg:AllBare s'.gens)(NE:∀b∈ch,(b∈X.ex\/X.s₀.heap.objs.size<=b)/\b≠X.env.locals/\(∀x c,X.env.cells.lookup x=some c->c≠b)/\∀p∈X.pn++U,p.1≠b):Inv X U σ H' s':=by
 obtain⟨h',g',d',t',o'⟩:=s';have e:o'=s.os:=ho;subst e;exact I.call (g':=g') (t':=t') (d':=d') u ao hg NE
end
noncomputable abbrev XK:=Value->Option Addr->Hp->Prop
noncomputable abbrev St:=List (Option V)
noncomputable abbrev VK:=V->Hp->Prop
noncomputable abbrev TE:=St->Hp->VK->Prop
noncomputable abbrev TT:=St->Hp->(Bool->Hp->Prop)->Prop
noncomputable abbrev TA:=St->Hp->(List V->Hp->Prop)->Prop
structure Ends where
 nx:St->Hp->Prop
 rt:VK
 bk:St->Hp->Prop:=λ_ _=>False
 ct:St->Hp->Prop:=λ_ _=>False
noncomputable abbrev TS:=Ends->St->Hp->Prop
def EP(X:Cx)(U:List (Addr × Obj))(σ:St)(Q:VK)(u:Value)(s':Shared):Prop:=∃v H',Inv X U σ H' s'/\RelV v u/\Q v H'
def TP(X:Cx)(U:List (Addr × Obj))(σ:St)(Q:Bool->Hp->Prop)(b:Bool)(s':Shared):Prop:=∃H',Inv X U σ H' s'/\Q b H'
def AP(X:Cx)(U:List (Addr × Obj))(σ:St)(Q:List V->Hp->Prop)(us:List Value)(s':Shared):Prop:=∃vs H',Inv X U σ H' s'/\Vals vs us/\Q vs H'
def SP(X:Cx)(U:List (Addr × Obj))(D:Ends)(f:Flow)(s':Shared):Prop:=
 match f with
 | .next=>∃σ' H',Inv X U σ' H' s'/\D.nx σ' H'
 | .brk=>∃σ' H',Inv X U σ' H' s'/\D.bk σ' H'
 | .cont=>∃σ' H',Inv X U σ' H' s'/\D.ct σ' H'
 | .ret u=>∃v σ' H',Inv X U σ' H' s'/\RelV v u/\D.rt v H'
def PE(X:Cx)(e:Expr)(t:TE):Prop:=
 ∀(U:List (Addr × Obj))(s:Shared)(σ:St)(H:Hp)(Q:VK),Inv X U σ H s->t σ H Q->wpAny (model X.prog X.w) X.A (eval e X.env) (EP X U σ Q) X.xe s
def PT(X:Cx)(e:Expr)(t:TT):Prop:=
 ∀(U:List (Addr × Obj))(s:Shared)(σ:St)(H:Hp)(Q:Bool->Hp->Prop),Inv X U σ H s->t σ H Q->wpAny (model X.prog X.w) X.A (isTrue e X.env (eval e X.env)) (TP X U σ Q) X.xe s
def PW(X:Cx)(e:Expr)(t:TT):Prop:=
 ∀(whole:Sem Value)(U:List (Addr × Obj))(s:Shared)(σ:St)(H:Hp)(Q:Bool->Hp->Prop),Inv X U σ H s->t σ H Q->wpAny (model X.prog X.w) X.A (isTrue e X.env whole) (TP X U σ Q) X.xe s
def PW.pt(h:PW X e t):PT X e t:=h _
def PA(X:Cx)(es:List Expr)(t:TA):Prop:=
 ∀(pos:Pos)(U:List (Addr × Obj))(s:Shared)(σ:St)(H:Hp)(Q:List V->Hp->Prop),Inv X U σ H s->t σ H Q->wpAny (model X.prog X.w) X.A (spliced (backTo pos (starEach es X.env))) (AP X U σ Q) X.xe s
def PS(X:Cx)(st:Stmt)(t:TS):Prop:=
 ∀(U:List (Addr × Obj))(s:Shared)(σ:St)(H:Hp)(D:Ends),Inv X U σ H s->t D σ H->wpAny (model X.prog X.w) X.A (exec st X.env) (SP X U D) X.xe s
def cq(X:Cx)(st:List Stmt)(t:TS):Prop:=
 ∀(U:List (Addr × Obj))(s:Shared)(σ:St)(H:Hp)(D:Ends),Inv X U σ H s->t D σ H->wpAny (model X.prog X.w) X.A (execs st X.env) (SP X U D) X.xe s
def ay{α:Type}{t:Sem α}{Q Q':α->Shared->Prop}{qMa:Model}{A:Around}{s:Shared}(h:wpAny qMa A t Q E s)(hQ:∀a s,Q a s->Q' a s):wpAny qMa A t Q' E s:=yaU h hQ λ_ _ x=>x
section
variable {X:Cx}
def Kz(i:Nat):TE:=λσ H Q=>∃v,σ[i]? =some (some v)/\Q v H
def tC(v:V):TE:=λ_ H Q=>Q v H
def OM{pos:Pos}(hN:X.N[i]? =some x)(hv:Cn X.env.scope x)(hd:(x==("__debug__":Str))=false:=by lia)(cM:(x==("__classdict__":Str))=false:=by lia):PE X (.Name x pos) (Kz i):=by
 intro U s σ H Q I h;obtain⟨v,e,h⟩:=h;obtain⟨m,hn,hl⟩:=I.loc;obtain⟨u,r,l⟩:=hl i x v hN e hv;have fin:EP X U σ Q u s:=⟨v,H,I,r,h⟩;rcases l with⟨hk,hm⟩|⟨hk,c,hc,Sc⟩
 .exact wpAny_Name (wpAny_loadName_local I.ok.kind hk hn hm fin) hd
 .rcases hk with hk|hk
  .exact wpAny_Name (wpAny_loadName_cell I.ok.kind hk hc Sc fin) hd
  .exact wpAny_Name (wpAny_loadName_free I.ok.kind hk hc Sc fin cM) hd
def Qj{i j pos}:PE X (.Constant (.int i) j pos) (tC (.int i)):=λ_ _ _ H _ I h=>wpAny_Constant_int ⟨.int i,H,I.tok _,⟨_,Z⟩,h⟩
def Xu{b j pos}:PE X (.Constant (.bool b) j pos) (tC (.bl b)):=λ_ _ _ H _ I h=>Constant_bool ⟨.bl b,H,I,Z,h⟩
def Zw{j pos}:PE X (.Constant .none j pos) (tC .aq):=λ_ _ _ H _ I h=>Constant_none ⟨.aq,H,I,Z,h⟩
def Qk{x j pos}:PE X (.Constant (.str x) j pos) (tC (.str x)):=λ_ _ _ H _ I h=>Calls.Constant_str ⟨.str x,H,I.tok _,⟨_,Z⟩,h⟩
def Gl(X:Cx)(x:Str):Prop:=X.env.kindOf x=some .globalImplicit
def WK{U:List (Addr × Obj)}{σ:St}{x:Str}{pos:Pos}(I:Inv X U σ H s)(hg:Gl X x)(hm:X.mg x=some u)(h:Q u s)(hd:(x==("__debug__":Str))=false:=by lia):wpAny (model X.prog X.w) X.A (eval (.Name x pos) X.env) Q E s:=
 ydZ I.ok.kind hg (Calls.loadGlobal_global (by rw[I.ok.glob];exact I.mod.glob.keeps I.bk) hm h) hd
def ZV{E:Value->Shared->Prop}{U:List (Addr × Obj)}{s:Shared}{σ:St}{H:Hp}{x:Str}{u:Value}{pos:Pos}(I:Inv X U σ H s)(hg:Gl X x)(hm:X.mg x=none)(hv:bootBuiltins x=some u)(h:Q u s)(hn:x≠"__name__":=by lia)(hd:(x==("__debug__":Str))=false:=by lia):wpAny (model X.prog X.w) X.A (eval (.Name x pos) X.env) Q E s:=by
 obtain⟨mb,h1,h2⟩:=I.mod.blt;exact ydZ I.ok.kind hg (Calls.loadGlobal_builtin (by rw[I.ok.glob];exact I.mod.glob.keeps I.bk) hm (by rw[I.ok.blt];exact h1.keeps I.bk) ((h2 x hn).trans hv) h) hd
def QK{pos:Pos}(hg:Gl X x)(hm:X.mg x=some u)(r:RelV v u)(hd:(x==("__debug__":Str))=false:=by lia):PE X (.Name x pos) (tC v):=
 λ_ _ _ H _ I h=>WK I hg hm ⟨v,H,I,r,h⟩ hd
def VJ{pos:Pos}(hg:Gl X x)(hm:X.mg x=none)(hv:bootBuiltins x=some u)(r:RelV v u)(hn:x≠"__name__":=by lia)(hd:(x==("__debug__":Str))=false:=by lia):PE X (.Name x pos) (tC v):=
 λ_ _ _ H _ I h=>ZV I hg hm hv ⟨v,H,I,r,h⟩ hn hd
variable {pos:Pos}
def PC(X:Cx)(op:CmpOp)(a b:Expr)(t:TE):Prop:=
 ∀(U:List (Addr × Obj))(s:Shared)(σ:St)(H:Hp)(Q:VK),Inv X U σ H s->t σ H Q->
  wpAny (model X.prog X.w) X.A (eval a X.env) (λv s₁=>wpAny (model X.prog X.w) X.A (eval b X.env) (λu s₂=>wpAny (model X.prog X.w) X.A (compareOp op v u) (EP X U σ Q) X.xe s₂) X.xe s₁) X.xe s
def xA(b:Expr){op:CmpOp}(h:op≠ .In)(h2:op≠ .NotIn):behindInMarks op b=false:=by
 have e1:(op==CmpOp.In)=false:=by cases op<;>first|rfl|exact absurd rfl h
 have e2:(op==CmpOp.NotIn)=false:=by cases op<;>first|rfl|exact absurd rfl h2
 cases b<;>simp[behindInMarks,e1,e2]
def ON(ta:TE):TE:=λσ H Q=>ta σ H λx H1=>Q (.bl (decide (x=.aq))) H1
def OO(ta:TE):TE:=λσ H Q=>ta σ H λx H1=>Q (.bl (!decide (x=.aq))) H1
def RelV.xB(r:RelV x v):(v==Value.none)=decide (x=.aq):=by
 cases x with
 |aq=>cases r;rfl
 |bl _=>cases r;rfl
 |int _=>obtain⟨t,rfl⟩:=r;rfl
 |str _=>obtain⟨t,rfl⟩:=r;rfl
 |cx _=>obtain⟨t,rfl⟩:=r;rfl
 |ik _=>obtain⟨t,rfl⟩:=r;rfl
 |ref _=>cases r;rfl
 |ty _=>cases r;rfl
def XU{j pos'}(ha:PE X a ta):PC X .Is a (.Constant .none j pos') (ON ta):=by
 intro U s σ H Q I h;refine ay (ha U s σ H _ I h) λv s1⟨x,H1,I1,r1,q1⟩=>?_;exact Constant_none (is_none_gen ⟨.bl _,H1,I1,by rw[r1.xB];rfl,q1⟩)
def zr{j pos'}(ha:PE X a ta):PC X .IsNot a (.Constant .none j pos') (OO ta):=by
 intro U s σ H Q I h;refine ay (ha U s σ H _ I h) λv s1⟨x,H1,I1,r1,q1⟩=>?_;exact Constant_none (isnot_none_gen ⟨.bl _,H1,I1,by rw[r1.xB];rfl,q1⟩)
def tB(t:TE):TT:=λσ H Q=>t σ H λx H1=>∃c,x=.bl c/\Q c H1
def OP{op:CmpOp}(h:PC X op a b t)(h1:behindInMarks op b=false:=by first|exact xA _ (by lia) (by lia)|rfl):PE X (.Compare a [op] [b] pos) t:=λU s σ H Q I hw=>wpAny_Compare1 (h U s σ H Q I hw) h1
def JZ{op:CmpOp}(h:PC X op a b t)(h1:behindInMarks op b=false:=by first|exact xA _ (by lia) (by lia)|rfl):PT X (.Compare a [op] [b] pos) (tB t):=by
 intro U s σ H Q I hw;refine wpAny_isTrue_Compare1 (ay (h U s σ H _ I hw) λv s1 h1=>ay h1 λu s2 h2=>ay h2 λc s3⟨x,H1,I1,r1,q1⟩=>?_) h1;obtain⟨d,rfl,q⟩:=q1;cases r1;exact yaV ⟨H1,I1,q⟩
def XX(h:PE X e t)(he:∀whole,isTrue e X.env whole=(do let v<-whole;standAt e.pos;holding [v] (truthy v)):=by intro _;rfl):PT X e (tB t):=by
 intro U s σ H Q I hw;refine isTrue_plain (ay (h U s σ H _ I hw) λv s1⟨x,H1,I1,r1,q1⟩=>?_) (he _);obtain⟨d,rfl,q⟩:=q1;cases r1;exact yaV ⟨H1,I1,q⟩
variable {rest:List Expr}
def OQ(t u:TT):TT:=λσ H Q=>t σ H λc H1=>if c=true then u σ H1 Q else Q false H1
def Ip(t u:TT):TT:=λσ H Q=>t σ H λc H1=>if c=true then Q true H1 else u σ H1 Q
def Iq(t:TT):TT:=λσ H Q=>t σ H λc H1=>Q (!c) H1
def J0(ha:PT X a tA):PW X (.BoolOp .And [a] pos) tA:=by
 intro wh U s σ H Q I h;refine isTrue_and (ay (ha U s σ H Q I h) λc s1 e=>?_);cases c with
 |true=>exact isTrue_and_nil e
 |false=>exact e
def JW(ha:PT X a tA):PW X (.BoolOp .Or [a] pos) tA:=by
 intro wh U s σ H Q I h;refine isTrue_or (ay (ha U s σ H Q I h) λc s1 e=>?_);cases c with
 |false=>exact isTrue_or_nil e
 |true=>exact e
def Zx(ha:PT X a tA)(hb:PW X (.BoolOp .And (b::rest) pos) Cq):PW X (.BoolOp .And (a::b::rest) pos) (OQ tA Cq):=by
 intro wh U s σ H Q I h;refine isTrue_and (ay (ha U s σ H _ I h) λc s1⟨H1,I1,q1⟩=>?_);cases c with
 |true=>exact hb wh U s1 σ H1 Q I1 q1
 |false=>exact⟨H1,I1,q1⟩
def ZU(ha:PT X a tA)(hb:PW X (.BoolOp .Or (b::rest) pos) Cq):PW X (.BoolOp .Or (a::b::rest) pos) (Ip tA Cq):=by
 intro wh U s σ H Q I h;refine isTrue_or (ay (ha U s σ H _ I h) λc s1⟨H1,I1,q1⟩=>?_);cases c with
 |true=>exact⟨H1,I1,q1⟩
 |false=>exact hb wh U s1 σ H1 Q I1 q1
def Wf(ha:PT X a tA):PT X (.UnaryOp .Not a pos) (Iq tA):=by
 intro U s σ H Q I h;exact isTrue_not (ha U s σ H (λc H1=>Q (!c) H1) I h)
def Ep(ta tb:TE):TE:=λσ H Q=>ta σ H λx H1=>∃c,x=.bl c/\if c=true then tb σ H1 Q else Q (.bl false) H1
def OR(ta:TE):TE:=λσ H Q=>ta σ H λx H1=>∃c,x=.bl c/\Q (.bl (!c)) H1
def Y5{op}(h:PE X a t):PE X (.BoolOp op [a] pos) t:=λU s σ H Q I hw=>BoolOp_one (h U s σ H Q I hw)
def Y6(ha:PE X a ta)(hb:PE X (.BoolOp .And (b::rest) pos) tb):PE X (.BoolOp .And (a::b::rest) pos) (Ep ta tb):=by
 intro U s σ H Q I h;refine BoolOp_and (ay (ha U s σ H _ I h) λv s1⟨x,H1,I1,r1,q1⟩=>?_);obtain⟨c,rfl,q1⟩:=q1;cases r1;refine yaV ?_;cases c with
 |true=>exact hb U s1 σ H1 Q I1 q1
 |false=>exact⟨.bl false,H1,I1,Z,q1⟩
def OU(ha:PE X a ta):PE X (.UnaryOp .Not a pos) (OR ta):=by
 intro U s σ H Q I h;refine UnaryOp_ (ay (ha U s σ H _ I h) λv s1⟨x,H1,I1,r1,q1⟩=>?_);obtain⟨c,rfl,q1⟩:=q1;cases r1;exact not_of (yaV ⟨.bl (!c),H1,I1,Z,q1⟩)
def Ir(t:TT)(ta tb:TE):TE:=λσ H Q=>t σ H λc H1=>if c=true then ta σ H1 Q else tb σ H1 Q
def Jd(hc:PT X c tA)(ha:PE X a ta)(hb:PE X b tb):PE X (.IfExp c a b pos) (Ir tA ta tb):=by
 intro U s σ H Q I h;refine wpAny_IfExp (ay (hc U s σ H _ I h) λd s1⟨H1,I1,q1⟩=>?_);cases d with
 |true=>exact ha U s1 σ H1 Q I1 q1
 |false=>exact hb U s1 σ H1 Q I1 q1
end
def aC(K:Frag)(H:Hp)(a:Addr)(xs:List V):Prop:=
 Rd H a (.lst xs)\/
  ∃(o:Obj)(its:Array Value)(n:Nat),K.lookup a=some o/\o.cls=.type "list"/\o.dict=none/\o.data=.seq its n/\its.size<=sizeLine/\Vals xs its.toList
def aw(K:Frag)(H:Hp)(a:Addr)(xs:List V):Prop:=
 Rd H a (.tup xs)\/
  ∃(o:Obj)(its:Array Value)(n:Nat),K.lookup a=some o/\o.cls=.type "tuple"/\o.data=.seq its n/\its.size<=sizeLine/\Vals xs its.toList
noncomputable def OV:Value->Option V
 | .none=>some .aq
 | .bool b=>some (.bl b)
 | .int i _=>some (.int i)
 | .str x _=>some (.str x)
 | .bytes b _=>some (.cx b)
 | .float b _=>some (.ik b)
 | .ref a=>some (.ref a)
 | .type n=>some (.ty n)
 |_=>none
def RelV.abs(r:RelV x u):OV u=some x:=by
 cases x with
 |aq=>cases r;rfl
 |bl _=>cases r;rfl
 |int _=>obtain⟨t,rfl⟩:=r;rfl
 |str _=>obtain⟨t,rfl⟩:=r;rfl
 |cx _=>obtain⟨t,rfl⟩:=r;rfl
 |ik _=>obtain⟨t,rfl⟩:=r;rfl
 |ref _=>cases r;rfl
 |ty _=>cases r;rfl
def RelV.inj(r:RelV x u)(q:RelV y u):x=y:=tO (r.abs.symm.trans q.abs)
theorem Vals.inj:∀{xs ys:List V}{us:List Value},Vals xs us->Vals ys us->xs=ys
 |_,_,_,.nil,.nil=>rfl
 |_,_,_,.cons r t,.cons r' t'=>by rw[r.inj r',Vals.inj t t']
section
variable {X:Cx}{U:List (Addr × Obj)}{σ:St}{H:Hp}{s:Shared}{a:Addr}{xs ys:List V}
def aC.of{K:Frag}(h:H a=some (.lst xs)):aC K H a xs:=.inl (.inl h)
def aw.of{K:Frag}(h:H a=some (.tup xs)):aw K H a xs:=.inl (.inl h)
def Inv.list(I:Inv X U σ H s)(h:aC X.K H a xs):∃its:List Value,Vals xs its/\PlainL s.heap a its.toArray/\xs.length<=sizeLine:=by
 rcases h with h|⟨o,its,n,hk,hc,hd,hs,hz,r⟩
 .obtain⟨z,its,n,r,e⟩:=h.ok I.ao;exact⟨its,r,⟨_,n,e,Z,Z,Z⟩,z⟩
 .refine⟨its.toList,r,⟨o,n,I.bq a o hk,hc,hd,by simpa using hs⟩,?_⟩;have e:=r.length;simp only[lD]at e;lia
def Inv.tuple(I:Inv X U σ H s)(h:aw X.K H a xs):∃its:List Value,Vals xs its/\IsTup s.heap a its.toArray/\xs.length<=sizeLine:=by
 rcases h with h|⟨o,its,n,hk,hc,hs,hz,r⟩
 .obtain⟨z,its,r,p⟩:=h.ok I.ao;exact⟨its,r,p.tup,z⟩
 .refine⟨its.toList,r,⟨o,I.bq a o hk,hc,n,by simpa using hs⟩,?_⟩;have e:=r.length;simp only[lD]at e;lia
def Inv.OW(I:Inv X U σ H s)(h:aC X.K H a xs)(h':aC X.K H a ys):xs=ys:=by
 obtain⟨its,r,⟨o,n,e,_,_,d⟩,_⟩:=I.list h;obtain⟨its',r',⟨o',n',e',_,_,d'⟩,_⟩:=I.list h';rw[e]at e';cases e';rw[d]at d';injection d' with d1 _;have:its=its':=by simpa using yaF Array.toList d1
 subst this;exact r.inj r'
def Inv.VL(I:Inv X U σ H s)(h:aw X.K H a xs)(h':aw X.K H a ys):xs=ys:=by
 obtain⟨its,r,⟨o,e,_,n,d⟩,_⟩:=I.tuple h;obtain⟨its',r',⟨o',e',_,n',d'⟩,_⟩:=I.tuple h';rw[e]at e';cases e';rw[d]at d';injection d' with d1 _;have:its=its':=by simpa using yaF Array.toList d1
 subst this;exact r.inj r'
end
noncomputable abbrev Cx.d8(X:Cx)(E:Value->Shared->Prop):Cx:={X with xe:=E}
noncomputable abbrev Cx.ir(X:Cx):Cx:=X.d8 λ_ _=>False
theorem Cx.Ok.d8{X:Cx}(ok:X.Ok)(E:Value->Shared->Prop):(X.d8 E).Ok:=
 ⟨ok.mod,ok.kind,ok.glob,ok.blt,ok.above,ok.inj,ok.has,ok.Af,ok.hd,ok.frames,ok.dm,ok.Ij,ok.bs,ok.ip,ok.dy,ok.e6,ok.vk,ok.i6⟩
def Cx.Ok.Vh{X:Cx}(ok:(X.d8 E).Ok):X.Ok:=
 ⟨ok.mod,ok.kind,ok.glob,ok.blt,ok.above,ok.inj,ok.has,ok.Af,ok.hd,ok.frames,ok.dm,ok.Ij,ok.bs,ok.ip,ok.dy,ok.e6,ok.vk,ok.i6⟩
section
variable {X:Cx}{U:List (Addr × Obj)}{σ:St}{H:Hp}{s:Shared}{E:Value->Shared->Prop}
theorem Inv.d8(I:Inv X U σ H s)(E:Value->Shared->Prop):Inv (X.d8 E) U σ H s:=⟨I.ok.d8 E,I.os,I.bare,I.Y,I.loc,I.cell,I.free,I.aP,I.pin,I.ao,I.len⟩
theorem Inv.Vh(I:Inv (X.d8 E) U σ H s):Inv X U σ H s:=⟨I.ok.Vh,I.os,I.bare,I.Y,I.loc,I.cell,I.free,I.aP,I.pin,I.ao,I.len⟩
theorem SP.Vh(h:SP (X.d8 E) U D f s'):SP X U D f s':=by
 cases f with
 |next=>obtain⟨σ',H',I,q⟩:=h;exact⟨σ',H',I.Vh,q⟩
 |brk=>obtain⟨σ',H',I,q⟩:=h;exact⟨σ',H',I.Vh,q⟩
 |cont=>obtain⟨σ',H',I,q⟩:=h;exact⟨σ',H',I.Vh,q⟩
 |ret u=>obtain⟨v,σ',H',I,r,q⟩:=h;exact⟨v,σ',H',I.Vh,r,q⟩
theorem cq.ir{st:List Stmt}(h:cq X.ir st t):cq X st t:=λU s σ H D I hw=>
 yaU (h U s σ H D (I.d8 _) hw) (λ_ _ q=>q.Vh) λ_ _ z=>False.elim z
end
section
variable {st:Stmt}{rest:List Stmt}{pos:Pos}
def Q1:TS:=λD σ H=>D.nx σ H
def Zb(t u:TS):TS:=λD σ H=>t {D with nx:=u D} σ H
def Qw:cq X [] Q1:=λ_ _ σ H _ I h=>ydO ⟨σ,H,I,h⟩
def Qd(h1:PS X st t)(h2:cq X rest u):cq X (st::rest) (Zb t u):=by
 intro U s σ H D I h;refine wpAny_execs_cons (ay (h1 U s σ H {D with nx:=u D} I h) λf s1 q=>?_);cases f with
 |next=>
  obtain⟨σ',H',I',q⟩:=q;exact h2 U s1 σ' H' D I' q
 |ret v=>exact q
 |brk=>exact q
 |cont=>exact q
def Qg(h1:PS X st t):cq X [st] t:=by
 intro U s σ H D I h;refine wpAny_execs_cons (ay (h1 U s σ H D I h) λf s1 q=>?_);cases f with
 |next=>exact ydO q
 |ret v=>exact q
 |brk=>exact q
 |cont=>exact q
def Inv.quiet{U:List (Addr × Obj)}{σ:St}(I:Inv X U σ H s):interactive X.env=false:=by simp[interactive,I.ok.kind]
def Iu(te:TE):TS:=λD σ H=>te σ H λ_ H1=>D.nx σ H1
def Q7(he:PE X e te)(hs:swapsWith e none pos.line X.env=pure false:=by rfl):PS X (.Expr e pos) (Iu te):=by
 intro U s σ H D I h;exact wpAny_Expr_any (ay (he U s σ H _ I h) λv s1⟨x,H1,I1,r1,q1⟩=>⟨σ,H1,I1,q1⟩) I.quiet hs
def i8(te:TE):TS:=λD σ H=>te σ H D.rt
def Qp(he:PE X e te):PS X (.Return (some e) pos) (i8 te):=by
 intro U s σ H D I h;exact wpAny_Return_some (ay (he U s σ H _ I h) λv s1⟨x,H1,I1,r1,q1⟩=>⟨x,σ,H1,I1,r1,q1⟩)
def Ai(c:TT)(t u:TS):TS:=λD σ H=>c σ H λb H1=>if b=true then t D σ H1 else u D σ H1
def QN(hc:PT X c tc)(ha:cq X a t)(hb:cq X b u):PS X (.If c a b pos) (Ai tc t u):=by
 intro U s σ H D I h;refine wpAny_If (ay (hc U s σ H _ I h) λd s1⟨H1,I1,q1⟩=>?_);cases d with
 |true=>exact ha U s1 σ H1 D I1 q1
 |false=>exact hb U s1 σ H1 D I1 q1
end
noncomputable abbrev TG:=V->St->Hp->(St->Hp->Prop)->Prop
noncomputable abbrev iu:=List V->St->Hp->(St->Hp->Prop)->Prop
def PG(X:Cx)(target:Expr)(t:TG):Prop:=
 ∀(U:List (Addr × Obj))(s:Shared)(σ:St)(H:Hp)(v:V)(u:Value)(Q:St->Hp->Prop),Inv X U σ H s->RelV v u->t v σ H Q->
  wpAny (model X.prog X.w) X.A (assign target X.env u) (λ_ s'=>∃σ' H',Inv X U σ' H' s'/\Q σ' H') X.xe s
def Aj(X:Cx)(ts:List Expr)(t:iu):Prop:=
 ∀(U:List (Addr × Obj))(s:Shared)(σ:St)(H:Hp)(vs:List V)(us:List Value)(Q:St->Hp->Prop),Inv X U σ H s->Vals vs us->t vs σ H Q->
  wpAny (model X.prog X.w) X.A (assignInOrder ((assignEach ts X.env).map (·.2)) us) (λ_ s'=>∃σ' H',Inv X U σ' H' s'/\Q σ' H') X.xe s
noncomputable abbrev Er:=V->V->V->Hp->(Hp->Prop)->Prop
def Iv(X:Cx)(t:Er):Prop:=
 ∀(U:List (Addr × Obj))(s:Shared)(σ:St)(H:Hp)(o i v:V)(ov iv u:Value)(Q:Hp->Prop),Inv X U σ H s->RelV o ov->RelV i iv->RelV v u->t o i v H Q->
  wpAny (model X.prog X.w) X.A (setItem ov iv u) (λ_ s'=>∃H',Inv X U σ H' s'/\Q H') X.xe s
noncomputable abbrev Cr:=V->V->Hp->VK->Prop
def Es(X:Cx)(op:Operator)(t:Cr):Prop:=
 ∀(U:List (Addr × Obj))(s:Shared)(σ:St)(H:Hp)(x y:V)(v u:Value)(Q:VK),Inv X U σ H s->RelV x v->RelV y u->t x y H Q->
  wpAny (model X.prog X.w) X.A (inplaceOp op v u) (EP X U σ Q) X.xe s
section
variable {pos:Pos}
def QL(i:Nat):TG:=λv σ H Q=>Q (σ.set i (some v)) H
def Qi(hN:X.N.Nodup)(hi:X.N[i]? =some x)(hx:Loc X.env.scope x)(hf:X.fn x=true\/X.env.scope.names.lookup x=some .local:=by first|exact .inl rfl|exact .inr rfl|assumption):PG X (.Name x pos) (QL i):=by
 intro U s σ H v u Q I r h;exact wpAny_assign_Name (We I hN hi hx r (λs' I'=>⟨_,H,I',h⟩) hf)
def Ak:iu:=λvs σ H Q=>vs=[]/\Q σ H
def Us(t:TG)(u:iu):iu:=λvs σ H Q=>∃v r,vs=v::r/\t v σ H λσ' H'=>u r σ' H' Q
def Qz:Aj X [] Ak:=by
 intro U s σ H vs us Q I r h;obtain⟨e,h⟩:=h;subst e;cases r;exact assignInOrder_nil ⟨σ,H,I,h⟩
def Qh(h1:PG X e t)(h2:Aj X es u)(hs:(assignEach (e::es) X.env).map (·.2)=assign e X.env::(assignEach es X.env).map (·.2):=by rfl):Aj X (e::es) (Us t u):=by
 intro U s σ H vs us Q I r h;obtain⟨v,vr,e1,h⟩:=h;subst e1;cases r with
 |cons r rr=>
  rw[hs];refine yef (ay (h1 U s σ H _ _ _ I r h) λ_ s1⟨σ1,H1,I1,q1⟩=>?_);exact h2 U s1 σ1 H1 _ _ Q I1 rr q1
def o4(K:Frag)(n:Nat)(t:iu):TG:=λv σ H Q=>∃a xs,v=.ref a/\aw K H a xs/\xs.length=n/\t xs σ H Q
def QM{k:Nat}(hc:X.calm=true)(h:Aj X es t)(hn:(assignEach es X.env).length=n:=by rfl)(f8:(assignEach es X.env).findIdx? (·.1)=none:=by rfl):PG X (.Tuple es k pos) (o4 X.K n t):=by
 intro U s σ H v u Q I r hw;obtain⟨a,xs,e1,hq,hl,hw⟩:=hw;subst e1;cases r;obtain⟨its,rv,ht,hz⟩:=I.tuple hq;refine assign_Tuple_tuple (I.ok.hd hc) ht (by simp[hn, <-hl,rv.length]) f8 λh' hx=>?_;have I1:Inv X U σ H {s with heap:=h'}:=I.kept (t':=s.toks) λb o e=>hx b o (yar (yaj e)) e;exact h U _ σ H xs _ Q I1 (by simpa using rv) hw
def OX(to ti:TE)(t:Er):TG:=λv σ H Q=>to σ H λo H1=>ti σ H1 λi H2=>t o i v H2 λH3=>Q σ H3
def OY{to ti:TE}(ho:PE X o to)(hi:PE X i ti)(hs:Iv X t)(ha:∀v,assign (.Subscript o i pos) X.env v=(do
   let ov<-holding [v] (eval o X.env)
   let iv<-holding [v,ov] (eval i X.env)
   standAt pos
   holding [v,ov,iv] (setItem ov iv v)
   release [v,ov,iv] []):=by intro _;rfl):PG X (.Subscript o i pos) (OX to ti t):=by
 intro U s σ H v u Q I r h;rw[ha];refine yaa (ybf (ay (ho U s σ H _ I h) λov s1⟨x,H1,I1,r1,q1⟩=>?_));refine yaa (ybf (ay (hi U s1 σ H1 _ I1 q1) λiv s2⟨y,H2,I2,r2,q2⟩=>?_));refine yaa (ydI (yaa (ybf (ay (hs U s2 σ H2 x y v ov iv u _ I2 r1 r2 r q2) λ_ s3⟨H3,I3,q3⟩=>?_))));exact wpAny_release ⟨σ,H3,I3,q3⟩
def Za(te:TE)(g:TG):TS:=λD σ H=>te σ H λx H1=>g x σ H1 D.nx
def QW(he:PE X e te)(hg:PG X tg g)(hs:swapsWithSole [tg] e pos.line X.env=pure false:=by rfl)(hw:swappedStores [tg] e X.env=pure none:=by rfl)(h1:(assignEach [tg] X.env).map (·.2)=[assign tg X.env]:=by rfl):PS X (.Assign [tg] e pos) (Za te g):=by
 intro U s σ H D I h;refine wpAny_Assign_stores (ay (he U s σ H _ I h) λv s1⟨x,H1,I1,r1,q1⟩=>?_) hs hw;rw[h1];exact ay (hg U s1 σ H1 x v _ I1 r1 q1) λ_ s2 q=>q
def Qt{pos':Pos}(hN:X.N.Nodup)(hi:X.N[i]? =some x)(hx:Loc X.env.scope x)(he:PE X e te)(hs:swapsWith e (some (.Name x pos')) pos.line X.env=pure false:=by rfl)(hf:X.fn x=true\/X.env.scope.names.lookup x=some .local:=by first|exact .inl rfl|exact .inr rfl|assumption):PS X (.Assign [.Name x pos'] e pos) (Za te (QL i)):=by
 intro U s σ H D I h;refine wpAny_Assign_Name (ay (he U s σ H _ I h) λv s1⟨y,H1,I1,r1,q1⟩=>?_) hs;exact We I1 hN hi hx r1 (λs2 I2=>⟨_,H1,I2,q1⟩) hf
def O0(i j:Nat)(ta:TA):TS:=λD σ H=>ta σ H λvs H1=>∃v w,vs=[v,w]/\D.nx ((σ.set i (some v)).set j (some w)) H1
def Iw{px py pt:Pos}{kt k2 Et}(hc:X.calm=true)(hN:X.N.Nodup)(hi:X.N[i]? =some x)(hj:X.N[j]? =some y)(Eu:i≠j)(hx:X.env.scope.names.lookup x=some .local)(hy:X.env.scope.names.lookup y=some .local)(ha:PA X [a,b] ta)(hw:swappedStores [.Tuple [.Name x px,.Name y py] kt pt] (.Tuple [a,b] k2 Et) X.env=pure (some [x,y]))(hs:swapsWithSole [.Tuple [.Name x px,.Name y py] kt pt] (.Tuple [a,b] k2 Et) pos.line X.env=pure false:=by rfl):PS X (.Assign [.Tuple [.Name x px,.Name y py] kt pt] (.Tuple [a,b] k2 Et) pos) (O0 i j ta):=by
 intro U s σ H D I h;rw[exec_Assign_arm];refine yaa (ydI ?_);rw[hs];refine yaa (yac ?_);rw[yag (by lia)];refine yaa (Tuple_ (ay (ha _ U s σ H _ I h) λus s1⟨vs,H1,I1,r1,q1⟩=>?_));obtain⟨v,w,e1,q1⟩:=q1;subst e1;obtain⟨u1,u2,rfl,rv,Os⟩:∃u1 u2,us=[u1,u2]/\RelV v u1/\RelV w u2:=by
  cases r1 with
  |cons p q=>
   cases q with
   |cons p' q'=>
    cases q';exact⟨_,_,Z,p,p'⟩
 refine yaW ?_ (by show 2<=sizeLine;lia);have I2:Inv X U σ H1 {s1 with heap:=s1.heap.push {cls:=.type "tuple",data:=.seq [u1,u2].toArray}}:=I1.kept (t':=s1.toks) λb o e=>yab _ e;rw[hw];refine yaa (yac ?_);show wpAny (model X.prog X.w) X.A (do rule "assign.swapped-stores";let items<-unpackItems (.ref s1.heap.objs.size) 2 none;assignInOrder [λv=>bindName X.env y v,λv=>bindName X.env x v] items.reverse;pure Flow.next) _ _ _;refine yaa (ycX (yaa (unpackItems_tuple (items:= #[u1,u2]) (I.ok.hd hc) (IsTup.new s1.heap _) λh' EQ=>?_)));have I3:=I2.kept (h':=h') (t':=s1.toks) λb o e=>EQ b o (yar (yaj e)) e;show wpAny _ _ (assignInOrder [λv=>bindName X.env y v,λv=>bindName X.env x v] [u2,u1]>>=λ_=>pure Flow.next) _ _ _;refine yaa (yef (wpAny_bindName (We I3 hN hj (.inl hy) Os (λs2 I4=>?_) (.inr hy))));refine yef (wpAny_bindName (We I4 hN hi (.inl hx) rv (λs3 I5=>assignInOrder_nil (yac ?_)) (.inr hx)));rw[List.set_comm _ _ (Ne.symm Eu)]at I5;exact⟨_,H1,I5,q1⟩
def O1(i:Nat)(te:TE)(ti:Cr):TS:=λD σ H=>∃x,σ[i]? =some (some x)/\te σ H λy H1=>ti x y H1 λz H2=>D.nx (σ.set i (some z)) H2
def Wg{op:Operator}{pos':Pos}(hN:X.N.Nodup)(hi:X.N[i]? =some x)(hx:Loc X.env.scope x)(he:PE X e te)(ho:Es X op ti)(hf:X.fn x=true\/X.env.scope.names.lookup x=some .local:=by first|exact .inl rfl|exact .inr rfl|assumption):PS X (.AugAssign (.Name x pos') op e pos) (O1 i te ti):=by
 intro U s σ H D I h;obtain⟨v,e1,h⟩:=h;obtain⟨m,hn,hl⟩:=I.loc;have O2:Cn X.env.scope x:=by rcases hx with k|k;exact .inl k;exact .inr (.inl k)
 obtain⟨u,r,l⟩:=hl i x v hi e1 O2;refine wpAny_AugAssign_Name ?_;have go:wpAny (model X.prog X.w) X.A (eval e X.env) (λw s₂=>wpAny (model X.prog X.w) X.A (inplaceOp op u w) (λr s₃=>wpAny (model X.prog X.w) X.A (storeName X.env x r) (λ_=>SP X U D .next) X.xe s₃) X.xe s₂) X.xe s:=by
  refine ay (he U s σ H _ I h) λw s1⟨y,H1,I1,r1,q1⟩=>?_;refine ay (ho U s1 σ H1 v y u w _ I1 r r1 q1) λz s2⟨zv,H2,I2,r2,q2⟩=>?_;exact We I2 hN hi hx r2 (λs3 I3=>⟨_,H2,I3,q2⟩) hf
 rcases l with⟨hk,hm⟩|⟨hk,c,hc,Sc⟩
 .exact wpAny_loadName_local I.ok.kind hk hn hm go
 .rcases hk with hk|hk
  .exact wpAny_loadName_cell I.ok.kind hk hc Sc go
  .rcases hx with k|k
   .have:X.env.scope.names.lookup x=some .free:=hk;rw[k]at this;cases this
   .have:X.env.scope.names.lookup x=some .free:=hk;rw[k]at this;cases this
def O3(f:Int->Int->Int):Cr:=λx y H Q=>∃i j,x=.int i/\y=.int j/\Q (.int (f i j)) H
def Vi:Es X .Add (O3 λi j=>i+j):=by
 intro U s σ H x y v u Q I r1 r2 h;obtain⟨i,j,e1,e2,q⟩:=h;subst e1;subst e2;obtain⟨t,rfl⟩:=r1;obtain⟨t',rfl⟩:=r2;exact iadd_int ⟨.int _,H,I.tok _,⟨_,Z⟩,q⟩
def O4(c:TT)(tb:TS):TS:=λD σ H=>∃W:Nat->St->Hp->Prop,(∃m,W m σ H)/\∀m σ H,W m σ H->
 c σ H λb H1=>if b=true then ∃N:St->Hp->Prop,(∀σ' H',N σ' H'->∃m',m'<m/\W m' σ' H')/\tb {D with nx:=N,ct:=N,bk:=D.nx} σ H1 else D.nx σ H1
def Xv{body:List Stmt}(hp:PassesOwn (model X.prog X.w) X.A X.env X.xe)(hc:PT X c tc)(hb:cq X body tb):PS X (.While c body [] pos) (O4 tc tb):=by
 intro U s σ H D I h;obtain⟨W,⟨m0,w0⟩,turn⟩:=h;refine wpAny_While (codeAny_whileLoop (λn s'=>∃σ' H',Inv X U σ' H' s'/\W n σ' H') ?_ m0 ⟨σ,H,I,w0⟩);rintro n s1 ⟨σ1,H1,I1,w1⟩;refine ycc hp (ay (hc U s1 σ1 H1 _ I1 (turn n σ1 H1 w1)) λb s2⟨H2,I2,q2⟩=>?_);cases b with
 |true=>
  obtain⟨N,hN,q2⟩:=q2;rw[yai rfl];refine ycc hp (ay (hb U s2 σ1 H2 _ I2 q2) λf s3 q3=>?_);cases f with
  |next=>
   obtain⟨σ3,H3,I3,n3⟩:=q3;obtain⟨m',hm,w3⟩:=hN σ3 H3 n3;exact⟨m',hm,σ3,H3,I3,w3⟩
  |cont=>
   obtain⟨σ3,H3,I3,n3⟩:=q3;obtain⟨m',hm,w3⟩:=hN σ3 H3 n3;exact⟨m',hm,σ3,H3,I3,w3⟩
  |brk=>exact q3
  |ret v=>exact q3
 |false=>
  rw[yag yal];exact ydO ⟨σ1,H2,I2,q2⟩
end
structure It where
 go:Nat->Hp->Prop
 bT:Nat->Hp->V->Hp->Prop
 stop:Nat->Hp->Prop
def d9(X:Cx)(U:List (Addr × Obj))(H:Hp)(b:Addr):Prop:=
 H b=none/\b≠X.env.locals/\b∉X.fs/\(b∈X.ex\/X.s₀.heap.objs.size<=b)/\(∀x c,X.env.cells.lookup x=some c->c≠b)/\∀p∈X.pn++U,p.1≠b
def Inv.kY{X:Cx}{U:List (Addr × Obj)}{σ:St}{b:Addr}(I:Inv X U σ H s)(hb:s.heap.objs.size<=b)(hn:H' b=none):d9 X U H' b:=by
 refine⟨hn,yct (yam I.lt hb),I.OH hb,.inr (yap I.sz hb),λx c e z=>?_,λp hp z=>?_⟩
 .obtain⟨v,q⟩:=I.cell x c e;exact absurd (yam q.lt (by rw[z];exact hb)) (lG _)
 .exact absurd (yam (yaj (I.pin p hp).1) (by rw[z];exact hb)) (lG _)
structure Turn(P:Program)(w:World)(K:Frag)(tg:Expr)(J:It)(fp:List Addr)(it:Addr)(tn:Nat->Heap->Prop):Prop where
 mem:it∈fp
 obj:∀i h,tn i h->∀b∈fp,∃o,h.get? b=some o/\∀v,o.data≠ .cell v
 keep:∀i h h',tn i h->(∀b∈fp,∀o,h.get? b=some o->h'.get? b=some o)->tn i h'
 item:∀(X:Cx),X.prog=P->X.w=w->X.K=K->X.calm=true->∀(i:Nat)(U:List (Addr × Obj))(s:Shared)(σ:St)(H:Hp)(E:Value->Shared->Prop),Inv X U σ H s->(∀b∈fp,d9 X U H b)->tn i s.heap->J.go i H->
  wpAny (model P w) X.A (pyNext (.ref it)) (λr s1=>∃u,r=some u/\
   wpAny (model P w) X.A (letOwnedTupleGo tg (.ref it) u) (λ_ s2=>∃x H',Inv X U σ H' s2/\RelV x u/\J.bT i H x H'/\tn (i+1) s2.heap/\∀b∈fp,H' b=none) E s1) E s
 done:∀(X:Cx),X.prog=P->X.w=w->X.K=K->X.calm=true->∀(i:Nat)(U:List (Addr × Obj))(s:Shared)(σ:St)(H:Hp)(E:Value->Shared->Prop),Inv X U σ H s->(∀b∈fp,d9 X U H b)->tn i s.heap->J.stop i H->
  wpAny (model P w) X.A (pyNext (.ref it)) (λr s1=>r=none/\Inv X U σ H s1) E s
 self:∀(A:Around)(i:Nat)(s:Shared)(Q:Value->Shared->Prop)(E:Value->Shared->Prop),tn i s.heap->Q (.ref it) s->wpAny (model P w) A (pyIter (.ref it)) Q E s
noncomputable abbrev TI:=St->Hp->(It->Hp->Prop)->Prop
def Iy(X:Cx)(U:List (Addr × Obj))(σ:St)(tg:Expr)(R:It->Hp->Prop)(Ew:Value)(s2:Shared):Prop:=
 ∃(it:Addr)(fp:List Addr)(tn:Nat->Heap->Prop)(J:It)(H':Hp),Ew=.ref it/\Inv X U σ H' s2/\Turn X.prog X.w X.K tg J fp it tn/\tn 0 s2.heap/\(∀b∈fp,d9 X U H' b)/\R J H'
def PI(X:Cx)(tg iter:Expr)(wi:TI):Prop:=
 ∀(U:List (Addr × Obj))(s:Shared)(σ:St)(H:Hp)(R:It->Hp->Prop),Inv X U σ H s->wi σ H R->
  wpAny (model X.prog X.w) X.A (eval iter X.env) (λv s1=>wpAny (model X.prog X.w) X.A (pyIter v) (Iy X U σ tg R) X.xe s1) X.xe s
def kZ{it:Addr}(ho:s.heap.get? it=some o)(hc:o.cls=.type n)(hd:o.data=.fields vs)(hn:["enumerate","zip","dict_itemiterator","dict_reverseitemiterator","odict_iterator","itertools.zip_longest","itertools.pairwise"].contains n=false)(hQ:Q () s):wpAny qMa A (letOwnedTupleGo tg (.ref it) u) Q E s:=by
 unfold letOwnedTupleGo;cases tg<;>first
  |exact yac hQ
  |(cases u<;>first
    |exact yac hQ
    |(refine yaa (wpAny_load ho ?_)
      rw[hc,hd];show wpAny qMa A (if(["enumerate","zip","dict_itemiterator","dict_reverseitemiterator","odict_iterator","itertools.zip_longest","itertools.pairwise"].contains n&&vs[0]? ==some (rawInt _))=true then _ else _) Q E s;rw[yag (by intro h;rw[hn,yfa]at h;cases h)];exact yac hQ))
noncomputable def c9(K:Frag)(a:Addr):It:=
 ⟨λi H=>∃xs x,aC K H a xs/\xs[i]? =some x,λi H x H'=>H'=H/\∀xs,aC K H a xs->xs[i]? =some x,λi H=>∃xs,aC K H a xs/\xs.length<=i⟩
noncomputable def da(K:Frag)(a:Addr):It:=
 ⟨λi H=>∃xs x,aw K H a xs/\xs[i]? =some x,λi H x H'=>H'=H/\∀xs,aw K H a xs->xs[i]? =some x,λi H=>∃xs,aw K H a xs/\xs.length<=i⟩
noncomputable def i9(lo:Int)(n:Nat):It:=⟨λi _=>i<n,λi H x H'=>H'=H/\x=.int (lo+i),λi _=>n<=i⟩
def vq{P:Program}{w:World}{K:Frag}{tg:Expr}(a it:Addr):Turn P w K tg (c9 K a) [it] it (λi h=>h.IsListIter it a i) where
 mem:=by simp
 obj:=λi h st b hb=>by
  have e:b=it:=by simpa using hb
  subst e;obtain⟨o,e,c,d⟩:=st;exact⟨o,e,λv z=>by rw[d]at z;cases z⟩
 keep:=λi h h' st k=>st.at λo e=>k it (by simp) o e
 item:=by
  intro X hP hw hK hc i U s σ H E I hf st hg;subst hP hw hK;obtain⟨xs,x,hq,hx⟩:=hg;obtain⟨its,rv,p,hz⟩:=I.list hq;obtain⟨u,hu,ru⟩:=rv.get hx;obtain⟨f0,f1,f2,f3,f4,f5⟩:=hf it (by simp);refine wpAny_pyNext_list_item st p.isList (x:=u) (by simpa using hu) λh' Db sb=>?_;have I1:Inv X U σ H {s with heap:=h'}:=I.turned (t':=s.toks) (λb o hb e=>(sb.2 b hb).trans e) f0 f1 f3 f4 f5;obtain⟨o,e,c,d⟩:=id Db;exact⟨u,Z,kZ (s:={s with heap:=h'}) e c d (by lia) ⟨x,H,I1,ru,⟨Z,λys hy=>by rw[I.OW hy hq];exact hx⟩,Db,λb hb=>(hf b hb).1⟩⟩
 done:=by
  intro X hP hw hK hc i U s σ H E I hf st hg;subst hP hw hK;obtain⟨xs,hq,hx⟩:=hg;obtain⟨its,rv,p,hz⟩:=I.list hq;obtain⟨f0,f1,f2,f3,f4,f5⟩:=hf it (by simp);have hl:=rv.length;exact wpAny_pyNext_list_end (I.ok.hd hc) st p.isList (by simp;lia) λh' eb=>⟨Z,I.turned (t':=s.toks) (λb o hb e=>eb b o hb e) f0 f1 f3 f4 f5⟩
 self:=λ_ _ _ _ _ st h=>wpAny_pyIter_listiter st h
def k6{P:Program}{w:World}{K:Frag}{tg:Expr}(a it:Addr):Turn P w K tg (da K a) [it] it (λi h=>h.IsTupleIter it a i) where
 mem:=by simp
 obj:=λi h st b hb=>by
  have e:b=it:=by simpa using hb
  subst e;obtain⟨o,e,c,d⟩:=st;exact⟨o,e,λv z=>by rw[d]at z;cases z⟩
 keep:=λi h h' st k=>st.at λo e=>k it (by simp) o e
 item:=by
  intro X hP hw hK hc i U s σ H E I hf st hg;subst hP hw hK;obtain⟨xs,x,hq,hx⟩:=hg;obtain⟨its,rv,p,hz⟩:=I.tuple hq;obtain⟨u,hu,ru⟩:=rv.get hx;obtain⟨f0,f1,f2,f3,f4,f5⟩:=hf it (by simp);refine wpAny_pyNext_tuple_item st (show s.heap.IsTuple a its.toArray from p) (x:=u) (by simpa using hu) λh' Db sb=>?_;have I1:Inv X U σ H {s with heap:=h'}:=I.turned (t':=s.toks) (λb o hb e=>(sb.2 b hb).trans e) f0 f1 f3 f4 f5;obtain⟨o,e,c,d⟩:=id Db;exact⟨u,Z,kZ (s:={s with heap:=h'}) e c d (by lia) ⟨x,H,I1,ru,⟨Z,λys hy=>by rw[I.VL hy hq];exact hx⟩,Db,λb hb=>(hf b hb).1⟩⟩
 done:=by
  intro X hP hw hK hc i U s σ H E I hf st hg;subst hP hw hK;obtain⟨xs,hq,hx⟩:=hg;obtain⟨its,rv,p,hz⟩:=I.tuple hq;obtain⟨f0,f1,f2,f3,f4,f5⟩:=hf it (by simp);have hl:=rv.length;exact wpAny_pyNext_tuple_end (I.ok.hd hc) st (show s.heap.IsTuple a its.toArray from p) (by simp;lia) λh' eb=>⟨Z,I.turned (t':=s.toks) (λb o hb e=>eb b o hb e) f0 f1 f3 f4 f5⟩
 self:=λ_ _ _ _ _ st h=>wpAny_pyIter_tupleiter st h
def k7{P:Program}{w:World}{K:Frag}{tg:Expr}(it:Addr)(lo:Int)(n:Nat):Turn P w K tg (i9 lo n) [it] it (λi h=>IsRangeIter h it (lo+(i:Nat)*1) ((n:Int)-(i:Nat)) 1) where
 mem:=by simp
 obj:=λi h st b hb=>by
  have e:b=it:=by simpa using hb
  subst e;exact⟨_,st,λv z=>by
   have z':Data.fields _=Data.cell v:=z;cases z'⟩
 keep:=λi h h' st k=>k it (by simp) _ st
 item:=by
  intro X hP hw hK hc i U s σ H E I hf st hg;subst hP hw hK;obtain⟨f0,f1,f2,f3,f4,f5⟩:=hf it (by simp);have W:=Walks.range (prog:=X.prog) (w:=X.w) (I.ok.hd hc) it lo 1 n;refine W.item i s _ _ hg st λv h' tk hv Db kk=>?_;obtain⟨t,rfl⟩:=hv;have I1:Inv X U σ H {s with heap:=h',toks:=tk}:=I.turned (λb o hb e=>kk b o (by simpa using hb) e) f0 f1 f3 f4 f5;refine⟨_,Z,kZ (s:={s with heap:=h',toks:=tk}) (n:="range_iterator") Db rfl rfl (by lia) ⟨.int (lo+i),H,I1,⟨t,?_⟩,⟨Z,Z⟩,Db,λb hb=>(hf b hb).1⟩⟩;rw[Int.mul_one]
 done:=by
  intro X hP hw hK hc i U s σ H E I hf st hg;subst hP hw hK;obtain⟨f0,f1,f2,f3,f4,f5⟩:=hf it (by simp);exact wpAny_pyNext_range_end (I.ok.hd hc) st (by have:n<=i:=hg;lia) λh' eb=>⟨Z,I.turned (t':=s.toks) (λb o hb e=>eb b o hb e) f0 f1 f3 f4 f5⟩
 self:=λ_ _ _ _ _ st h=>ydl st h
section
def Cs(K:Frag)(tl:TE):TI:=λσ H R=>tl σ H λx H1=>∃a,x=.ref a/\(∃xs,aC K H1 a xs)/\R (c9 K a) H1
def Iz(K:Frag)(tl:TE):TI:=λσ H R=>tl σ H λx H1=>∃a,x=.ref a/\(∃xs,aw K H1 a xs)/\R (da K a) H1
def Xa{tl:TE}(hl:PE X l tl):PI X tg l (Cs X.K tl):=by
 intro U s σ H R I h;refine ay (hl U s σ H _ I h) λv s1⟨x,H1,I1,r1,q1⟩=>?_;obtain⟨a,e,⟨xs,hq⟩,q⟩:=q1;subst e;cases r1;obtain⟨its,rv,p,hz⟩:=I1.list hq;refine ydn p.isList ?_;refine⟨s1.heap.objs.size,[s1.heap.objs.size],_,_,H1,Z,I1.kept (t':=s1.toks) λb o e=>yab _ e,vq a _,⟨_,yah _ rfl,Z,Z⟩,λb hb=>?_,q⟩;have e:b=s1.heap.objs.size:=by simpa using hb
 subst e;exact I1.kY (tN _) (I1.ao.fresh (tN _))
def jg{tl:TE}(hl:PE X l tl):PI X tg l (Iz X.K tl):=by
 intro U s σ H R I h;refine ay (hl U s σ H _ I h) λv s1⟨x,H1,I1,r1,q1⟩=>?_;obtain⟨a,e,⟨xs,hq⟩,q⟩:=q1;subst e;cases r1;obtain⟨its,rv,p,hz⟩:=I1.tuple hq;refine yeg (show s1.heap.IsTuple a its.toArray from p) ?_;refine⟨s1.heap.objs.size,[s1.heap.objs.size],_,_,H1,Z,I1.kept (t':=s1.toks) λb o e=>yab _ e,k6 a _,⟨_,yah _ rfl,Z,Z⟩,λb hb=>?_,q⟩;have e:b=s1.heap.objs.size:=by simpa using hb
 subst e;exact I1.kY (tN _) (I1.ao.fresh (tN _))
def O5{U:List (Addr × Obj)}{σ:St}{lo hi:Int}{tk:Nat}(I:Inv X U σ H s)(h1: -(2^62)<=lo)(h2:lo<2^62)(h3: -(2^62)<=hi)(h4:hi<2^62)(q:R (i9 lo (hi-lo).toNat) H):wpAny (model X.prog X.w) X.A (pyIter (.ref s.heap.objs.size)) (Iy X U σ tg R) E {s with heap:=s.heap.push {cls:=.type "range",data:=.fields #[.int lo t,.int hi u,.int 1 v]},toks:=tk}:=by
 refine wpAny_pyIter_range (IsRange.new ..) (small_one h1 h2 h3 h4) ?_;have I1:Inv X U σ H {s with heap:=s.heap.push {cls:=.type "range",data:=.fields #[.int lo t,.int hi u,.int 1 v]},toks:=tk}:=I.kept λb o e=>yab _ e;refine⟨(s.heap.push {cls:=.type "range",data:=.fields #[.int lo t,.int hi u,.int 1 v]}).objs.size,[(s.heap.push {cls:=.type "range",data:=.fields #[.int lo t,.int hi u,.int 1 v]}).objs.size],_,_,H,Z,
  I1.kept (t':=tk) λb o e=>yab _ e,k7 _ lo (hi-lo).toNat,?_,λb hb=>?_,q⟩
 .have e1:lo+((0:Nat):Int)*1=lo:=by simp
  have e2:(((hi-lo).toNat:Nat):Int)-((0:Nat):Int)=Builtin.Range.rangeSize lo hi 1:=by rw[rangeSize_one];split<;>lia
  show IsRangeIter _ _ (lo+((0:Nat):Int)*1) ((((hi-lo).toNat:Nat):Int)-((0:Nat):Int)) 1;rw[e1,e2];exact yah _ rfl
 .have e:b=(s.heap.push {cls:=.type "range",data:=.fields #[.int lo t,.int hi u,.int 1 v]}).objs.size:=by simpa using hb
  subst e;exact I1.kY (tN _) (I1.ao.fresh (tN _))
def O6(ta:TA):TI:=λσ H R=>ta σ H λvs H1=>∃j:Int,vs=[.int j]/\ -(2^62)<=j/\j<2^62/\R (i9 0 j.toNat) H1
def XY{p pos:Pos}(hg:Gl X "range")(hm:X.mg "range"=none)(ha:PA X [a] ta)(hs:starEach [a] X.env=[(false,eval a X.env)]:=by rfl):PI X tg (.Call (.Name "range" p) [a] [] pos) (O6 ta):=by
 intro U s σ H R I h;refine Call_ (ZV I hg hm boot_range (yav (ay (ha pos U s σ H _ I h) λus s1⟨vs,H1,I1,r1,q1⟩=>?_) hs Z));obtain⟨j,e,q1,q2,q⟩:=q1;subst e;cases r1 with
 |cons r rr=>
  cases rr;obtain⟨t,rfl⟩:=r;exact call_range_1 (O5 I1 (by lia) (by lia) q1 q2 (by simpa using q))
def IA(wi:TI)(g:TG)(tb:TS):TS:=λD σ H=>wi σ H λJ H1=>∃W:Nat->Nat->St->Hp->Prop,(∃m,W 0 m σ H1)/\∀i m σ H,W i m σ H->
 (J.stop i H/\D.nx σ H)\/(J.go i H/\∃N:St->Hp->Prop,(∀σ' H',N σ' H'->∃m',m'<m/\W (i+1) m' σ' H')/\∀x H',J.bT i H x H'->g x σ H' λσ2 H2=>tb {D with nx:=N,ct:=N,bk:=D.nx} σ2 H2)
noncomputable def jh(fp:List Addr)(h:Heap):List (Addr × Obj):=fp.filterMap λb=>(h.get? b).map λo=>(b,o)
def Kl(hb:b∈fp)(e:h.get? b=some o):(b,o)∈jh fp h:=yeh.mpr ⟨b,hb,by rw[e];rfl⟩
def vt(hp:p∈jh fp h):p.1∈fp/\h.get? p.1=some p.2:=by
 obtain⟨b,hb,e⟩:=yeh.mp hp;cases q:h.get? b with
 |none=>rw[q]at e;cases e
 |some o=>
  rw[q]at e;have e':(b,o)=p:=tO e;subst e';exact⟨hb,q⟩
def Inv.pinned{U:List (Addr × Obj)}{σ:St}{fp:List Addr}(I:Inv X U σ H s)(hf:∀b∈fp,d9 X U H b)(ho:∀b∈fp,∃o,s.heap.get? b=some o/\∀v,o.data≠ .cell v):Inv X (U++jh fp s.heap) σ H s:=
 I.Ur λp hp=>(yaq.mp hp).elim (λz=>I.pin p (tR _ z)) λz=>by
  obtain⟨hb,e⟩:=vt z;obtain⟨f0,f1,f2,_⟩:=hf p.1 hb;obtain⟨o,e',d⟩:=ho p.1 hb;rw[e]at e';cases e';exact⟨e,f0,f1,f2,d⟩
def Inv.Wh{U pl:List (Addr × Obj)}{σ:St}(I:Inv X (U++pl) σ H s):Inv X U σ H s:=I.Ur λp hp=>I.pin p (tR _ (tT _ hp))
def ZW{iter:Expr}{body:List Stmt}{pos:Pos}(hp:PassesOwn (model X.prog X.w) X.A X.env X.xe)(hc:X.calm=true)(hi:PI X tg iter wi)(hg:PG X tg g)(hb:cq X body tb)(hs:∀x,foldedSetIterable iter X.env x=pure x:=by intro _;rfl):PS X (.For tg iter body [] pos) (IA wi g tb):=by
 intro U s σ H D I h;refine wpAny_For (ay (hi U s σ H _ I h) λv s1 h1=>ay h1 λEw s2 h2=>?_) hs;obtain⟨it,fp,tn,J,H2,e,I2,T,Do,f2,W,⟨m0,w0⟩,turn⟩:=h2;subst e;have Pi:∀{H':Hp},(∀b∈fp,H' b=none)->∀b∈fp,d9 X U H' b:=λhn b hb=>⟨hn b hb,(f2 b hb).2⟩;refine codeAny_forLoop_any (λn s'=>∃i σ' H',Inv X U σ' H' s'/\tn i s'.heap/\(∀b∈fp,H' b=none)/\W i n σ' H') ?_ m0 ⟨0,σ,H2,I2,Do,λb hb=>(f2 b hb).1,w0⟩;rintro n s3 ⟨i,σ3,H3,I3,Al,IC,w3⟩;rcases turn i n σ3 H3 w3 with⟨stop,qn⟩|⟨go,N,hN,step⟩
 .refine ycc hp (ay (T.done X Z Z Z hc i U s3 σ3 H3 X.xe I3 (Pi IC) Al stop) λr s4⟨hr,I4⟩=>?_);subst hr;exact ydO ⟨σ3,H3,I4,qn⟩
 .refine ycc hp (ay (T.item X Z Z Z hc i U s3 σ3 H3 X.xe I3 (Pi IC) Al go) λr s4⟨u,hr,h4⟩=>?_);subst hr;refine ycc hp (ay h4 λ_ s5⟨x,H5,I5,r5,y5,o5,Ct⟩=>?_);have O7:=I5.pinned (Pi Ct) (T.obj _ _ o5);refine ycc hp (ay (hg _ s5 σ3 H5 x u _ O7 r5 (step x H5 y5)) λ_ s6⟨σ6,H6,I6,q6⟩=>?_);refine ycc hp (ay (hb _ s6 σ6 H6 _ I6 q6) λf s7 q7=>?_);have again:∀{σ7:St}{H7:Hp},Inv X (U++jh fp s5.heap) σ7 H7 s7->N σ7 H7->∃m,m<n/\∃i σ' H',Inv X U σ' H' s7/\tn i s7.heap/\(∀b∈fp,H' b=none)/\W i m σ' H':=λ{σ7 H7} I7 n7=>by
   obtain⟨m',hm,w7⟩:=hN σ7 H7 n7;refine⟨m',hm,i+1,σ7,H7,I7.Wh,T.keep _ _ _ o5 λb hb o e=>(I7.pin (b,o) (tR _ (tR _ (Kl hb e)))).1,λb hb=>?_,w7⟩;obtain⟨o,e,d⟩:=T.obj _ _ o5 b hb;exact(I7.pin (b,o) (tR _ (tR _ (Kl hb e)))).2.1
  cases f with
  |next=>obtain⟨σ7,H7,I7,n7⟩:=q7;exact again I7 n7
  |cont=>obtain⟨σ7,H7,I7,n7⟩:=q7;exact again I7 n7
  |brk=>obtain⟨σ7,H7,I7,q7⟩:=q7;exact⟨σ7,H7,I7.Wh,q7⟩
  |ret v=>obtain⟨x7,σ7,H7,I7,r7,q7⟩:=q7;exact⟨x7,σ7,H7,I7.Wh,r7,q7⟩
end
def O8{K:Frag}{a:Addr}{xs:List V}{g:TG}{tb:TS}{D:Ends}{σ:St}{H:Hp}(Pv:Nat->St->Hp->Prop)(h0:Pv 0 σ H)(hl:∀i σ H,i<=xs.length->Pv i σ H->aC K H a xs)(hs:∀i x σ H,xs[i]? =some x->Pv i σ H->g x σ H λσ2 H2=>tb {D with nx:=Pv (i+1),ct:=Pv (i+1),bk:=D.nx} σ2 H2)(hd:∀σ H,Pv xs.length σ H->D.nx σ H):∃W:Nat->Nat->St->Hp->Prop,(∃m,W 0 m σ H)/\∀i m σ H,W i m σ H->
   ((c9 K a).stop i H/\D.nx σ H)\/((c9 K a).go i H/\∃N:St->Hp->Prop,(∀σ' H',N σ' H'->∃m',m'<m/\W (i+1) m' σ' H')/\∀x H',(c9 K a).bT i H x H'->g x σ H' λσ2 H2=>tb {D with nx:=N,ct:=N,bk:=D.nx} σ2 H2):=by
 refine⟨λi m σ H=>m=xs.length-i/\i<=xs.length/\Pv i σ H,⟨xs.length,by simp,lF _,h0⟩,?_⟩;rintro i m σ H ⟨rfl,hi,p⟩;have q:=hl i σ H hi p
 by_cases ap:i<xs.length
 .refine .inr ⟨⟨xs,xs[i],q,by simp[ap]⟩,Pv (i+1),λσ' H' p'=>⟨xs.length-(i+1),by lia,Z,ap,p'⟩,λx H' y=>?_⟩;obtain⟨e,y⟩:=y;subst e;exact hs i x σ _ (y xs q) p
 .have e:i=xs.length:=by lia
  subst e;exact .inl ⟨⟨xs,q,tN _⟩,hd σ H p⟩
def vv{K:Frag}{a:Addr}{xs:List V}{g:TG}{tb:TS}{D:Ends}{σ:St}{H:Hp}(Pv:Nat->St->Hp->Prop)(h0:Pv 0 σ H)(hl:∀i σ H,i<=xs.length->Pv i σ H->aw K H a xs)(hs:∀i x σ H,xs[i]? =some x->Pv i σ H->g x σ H λσ2 H2=>tb {D with nx:=Pv (i+1),ct:=Pv (i+1),bk:=D.nx} σ2 H2)(hd:∀σ H,Pv xs.length σ H->D.nx σ H):∃W:Nat->Nat->St->Hp->Prop,(∃m,W 0 m σ H)/\∀i m σ H,W i m σ H->
   ((da K a).stop i H/\D.nx σ H)\/((da K a).go i H/\∃N:St->Hp->Prop,(∀σ' H',N σ' H'->∃m',m'<m/\W (i+1) m' σ' H')/\∀x H',(da K a).bT i H x H'->g x σ H' λσ2 H2=>tb {D with nx:=N,ct:=N,bk:=D.nx} σ2 H2):=by
 refine⟨λi m σ H=>m=xs.length-i/\i<=xs.length/\Pv i σ H,⟨xs.length,by simp,lF _,h0⟩,?_⟩;rintro i m σ H ⟨rfl,hi,p⟩;have q:=hl i σ H hi p
 by_cases ap:i<xs.length
 .refine .inr ⟨⟨xs,xs[i],q,by simp[ap]⟩,Pv (i+1),λσ' H' p'=>⟨xs.length-(i+1),by lia,Z,ap,p'⟩,λx H' y=>?_⟩;obtain⟨e,y⟩:=y;subst e;exact hs i x σ _ (y xs q) p
 .have e:i=xs.length:=by lia
  subst e;exact .inl ⟨⟨xs,q,tN _⟩,hd σ H p⟩
def ji{lo:Int}{n:Nat}{g:TG}{tb:TS}{D:Ends}{σ:St}{H:Hp}(Pv:Nat->St->Hp->Prop)(h0:Pv 0 σ H)(hs:∀i σ H,i<n->Pv i σ H->g (.int (lo+i)) σ H λσ2 H2=>tb {D with nx:=Pv (i+1),ct:=Pv (i+1),bk:=D.nx} σ2 H2)(hd:∀σ H,Pv n σ H->D.nx σ H):∃W:Nat->Nat->St->Hp->Prop,(∃m,W 0 m σ H)/\∀i m σ H,W i m σ H->
   ((i9 lo n).stop i H/\D.nx σ H)\/((i9 lo n).go i H/\∃N:St->Hp->Prop,(∀σ' H',N σ' H'->∃m',m'<m/\W (i+1) m' σ' H')/\∀x H',(i9 lo n).bT i H x H'->g x σ H' λσ2 H2=>tb {D with nx:=N,ct:=N,bk:=D.nx} σ2 H2):=by
 refine⟨λi m σ H=>m=n-i/\i<=n/\Pv i σ H,⟨n,by simp,lF _,h0⟩,?_⟩;rintro i m σ H ⟨rfl,hi,p⟩
 by_cases ap:i<n
 .refine .inr ⟨ap,Pv (i+1),λσ' H' p'=>⟨n-(i+1),by lia,Z,ap,p'⟩,λx H' y=>?_⟩;obtain⟨e,y⟩:=y;subst e y;exact hs i σ _ ap p
 .have e:i=n:=by lia
  subst e;exact .inl ⟨tN _,hd σ H p⟩
noncomputable abbrev R2:=V->V->Hp->VK->Prop
def aQ(X:Cx)(f:Value->Value->Sem Value)(r:R2):Prop:=
 ∀(U:List (Addr × Obj))(s:Shared)(σ:St)(H:Hp)(x y:V)(v u:Value)(Q:VK),Inv X U σ H s->RelV x v->RelV y u->r x y H Q->
  wpAny (model X.prog X.w) X.A (f v u) (EP X U σ Q) X.xe s
def Ex(X:Cx)(f:Value->Sem Value)(r:V->Hp->VK->Prop):Prop:=
 ∀(U:List (Addr × Obj))(s:Shared)(σ:St)(H:Hp)(x:V)(v:Value)(Q:VK),Inv X U σ H s->RelV x v->r x H Q->
  wpAny (model X.prog X.w) X.A (f v) (EP X U σ Q) X.xe s
def WL(X:Cx)(f:Value)(r:List V->Hp->VK->Prop):Prop:=
 ∀(U:List (Addr × Obj))(s:Shared)(σ:St)(H:Hp)(xs:List V)(us:List Value)(Q:VK),Inv X U σ H s->Vals xs us->r xs H Q->
  wpAny (model X.prog X.w) X.A (call f us) (EP X U σ Q) X.xe s
def O9(X:Cx)(r:V->Hp->(Bool->Hp->Prop)->Prop):Prop:=
 ∀(U:List (Addr × Obj))(s:Shared)(σ:St)(H:Hp)(x:V)(v:Value)(Q:Bool->Hp->Prop),Inv X U σ H s->RelV x v->r x H Q->
  wpAny (model X.prog X.w) X.A (truthy v) (TP X U σ Q) X.xe s
def cg(r:R2)(ta tb:TE):TE:=λσ H Q=>ta σ H λx H1=>tb σ H1 λy H2=>r x y H2 Q
def Pa(r:V->Hp->VK->Prop)(ta:TE):TE:=λσ H Q=>ta σ H λx H1=>r x H1 Q
def rI(C:Int->Int->Prop)(g:Int->Int->V):R2:=λx y H Q=>∃i j,x=.int i/\y=.int j/\C i j/\Q (g i j) H
def iw(g:Int->Int->V):R2:=λx y H Q=>∃i j,x=.int i/\y=.int j/\Q (g i j) H
def rU(g:Int->V):V->Hp->VK->Prop:=λx H Q=>∃i,x=.int i/\Q (g i) H
section
variable {pos:Pos}
def Ey(ha:PE X a ta)(hb:PE X b tb){U:List (Addr × Obj)}{s:Shared}{σ:St}{H:Hp}{R:V->V->Hp->Prop}(I:Inv X U σ H s)(h:ta σ H λx H1=>tb σ H1 λy H2=>R x y H2){Q:Value->Shared->Prop}{f:Value->Value->Sem Value}(hf:∀v u s2 x y H2,Inv X U σ H2 s2->RelV x v->RelV y u->R x y H2->wpAny (model X.prog X.w) X.A (f v u) Q X.xe s2):wpAny (model X.prog X.w) X.A (eval a X.env) (λv s₁=>wpAny (model X.prog X.w) X.A (eval b X.env) (λu s₂=>wpAny (model X.prog X.w) X.A (f v u) Q X.xe s₂) X.xe s₁) X.xe s:=by
 refine ay (ha U s σ H _ I h) λv s1⟨x,H1,I1,r1,q1⟩=>?_;refine ay (hb U s1 σ H1 _ I1 q1) λu s2⟨y,H2,I2,r2,q2⟩=>?_;exact hf v u s2 x y H2 I2 r1 r2 q2
def QG{op:Operator}(ho:aQ X (binaryOp op) r)(ha:PE X a ta)(hb:PE X b tb):PE X (.BinOp a op b pos) (cg r ta tb):=by
 intro U s σ H Q I h;exact wpAny_BinOp (Ey ha hb I h λv u s2 x y H2 I2 rx ry q=>ho U s2 σ H2 x y v u Q I2 rx ry q)
def Wi{op:UnaryOp}(ho:Ex X (unaryOp op) r)(ha:PE X a ta):PE X (.UnaryOp op a pos) (Pa r ta):=by
 intro U s σ H Q I h;exact UnaryOp_ (ay (ha U s σ H _ I h) λv s1⟨x,H1,I1,r1,q1⟩=>ho U s1 σ H1 x v Q I1 r1 q1)
def o6{g:Int->Int->Int}(rule:∀(i j:Int)(t u:Tok)(s:Shared)(Q:Value->Shared->Prop)(E:Value->Shared->Prop),C i j->Q (.int (g i j) s.toks) {s with toks:=s.toks+1}->wpAny (model X.prog X.w) X.A (f (.int i t) (.int j u)) Q E s):aQ X f (rI C λi j=>.int (g i j)):=by
 intro U s σ H x y v u Q I rx ry h;obtain⟨i,j,rfl,rfl,hc,q⟩:=h;obtain⟨t,rfl⟩:=rx;obtain⟨t',rfl⟩:=ry;exact rule i j t t' s _ _ hc ⟨.int (g i j),H,I.tok _,⟨_,Z⟩,q⟩
def ID{g:Int->Int->Int}(rule:∀(i j:Int)(t u:Tok)(s:Shared)(Q:Value->Shared->Prop)(E:Value->Shared->Prop),Q (.int (g i j) s.toks) {s with toks:=s.toks+1}->wpAny (model X.prog X.w) X.A (f (.int i t) (.int j u)) Q E s):aQ X f (iw λi j=>.int (g i j)):=by
 intro U s σ H x y v u Q I rx ry h;obtain⟨i,j,rfl,rfl,q⟩:=h;obtain⟨t,rfl⟩:=rx;obtain⟨t',rfl⟩:=ry;exact rule i j t t' s _ _ ⟨.int (g i j),H,I.tok _,⟨_,Z⟩,q⟩
def Cu{g:Int->Int->Bool}(rule:∀(i j:Int)(t u:Tok)(s:Shared)(Q:Value->Shared->Prop)(E:Value->Shared->Prop),Q (.bool (g i j)) s->wpAny (model X.prog X.w) X.A (f (.int i t) (.int j u)) Q E s):aQ X f (iw λi j=>.bl (g i j)):=by
 intro U s σ H x y v u Q I rx ry h;obtain⟨i,j,rfl,rfl,q⟩:=h;obtain⟨t,rfl⟩:=rx;obtain⟨t',rfl⟩:=ry;exact rule i j t t' s _ _ ⟨.bl (g i j),H,I,Z,q⟩
def Ez(i j:Int):Prop:=0<j/\j<1073741824
def Pb(i j:Int):Prop:=0<=j/\j<=1000000/\i.natAbs<2^64
def EA(i j:Int):Prop:=(-(2^64)<i/\i<2^64)\/(-(2^64)<j/\j<2^64)
def EA.ok(h:EA i j):IntMulOk i j:=by
 rcases h with⟨h1,h2⟩|⟨h1,h2⟩
 .exact .of_left (intBits_le_64 h1 h2)
 .exact .of_right (intBits_le_64 h1 h2)
def Jj:aQ X (binaryOp .Add) (iw λi j=>.int (i+j)):=ID λ_ _ _ _ _ _ _ q=>add_int q
def VM:aQ X (binaryOp .Sub) (iw λi j=>.int (i-j)):=ID λ_ _ _ _ _ _ _ q=>sub_int q
def Wj:aQ X (binaryOp .Mult) (rI EA λi j=>.int (i*j)):=o6 λ_ _ _ _ _ _ _ hc q=>mul_int q hc.ok
def Ut:aQ X (binaryOp .FloorDiv) (rI Ez λi j=>.int (i/j)):=o6 λi j _ _ _ _ _ hc q=>by
 have h1:(0:Int)<j:=hc.1;have h2:j<1073741824:=hc.2;exact floordiv_int (by lia) (by rw[ycF i (by lia)];exact q) (.inl (ydm (by lia)))
def Vj:aQ X (binaryOp .Mod) (rI (λ_ j=>0<j) λi j=>.int (i % j)):=o6 λi j _ _ _ _ _ hc q=>by
 have h1:(0:Int)<j:=hc;exact mod_int' (by lia) (by rw[yea i (by lia)];exact q)
def IF:aQ X (binaryOp .Pow) (rI Pb λi j=>.int (i^j.toNat)):=o6 λ_ _ _ _ _ _ _ hc q=>pow_int_small hc.1 hc.2.1 hc.2.2 q
def Pc{g:Int->Int}(rule:∀(i:Int)(t:Tok)(s:Shared)(Q:Value->Shared->Prop)(E:Value->Shared->Prop),Q (.int (g i) s.toks) {s with toks:=s.toks+1}->wpAny (model X.prog X.w) X.A (f (.int i t)) Q E s):Ex X f (rU λi=>.int (g i)):=by
 intro U s σ H x v Q I rx h;obtain⟨i,rfl,q⟩:=h;obtain⟨t,rfl⟩:=rx;exact rule i t s _ _ ⟨.int (g i),H,I.tok _,⟨_,Z⟩,q⟩
def ZX:Ex X (unaryOp .USub) (rU λi=>.int (-i)):=Pc λ_ _ _ _ _ q=>neg_int q
end
noncomputable def IG:V->V->Bool
 | .aq,.aq=>true| .aq,.int _=>true| .int _,.aq=>true| .aq,.bl _=>true| .bl _,.aq=>true| .aq,.str _=>true| .str _,.aq=>true
 | .int _,.int _=>true| .bl _,.bl _=>true| .str _,.str _=>true| .cx _,.cx _=>true
 | .int _,.str _=>true| .str _,.int _=>true| .bl _,.str _=>true| .str _,.bl _=>true
 |_,_=>false
def Pd:R2:=λx y H Q=>IG x y=true/\Q (.bl (decide (x=y))) H
def Pe:R2:=λx y H Q=>IG x y=true/\Q (.bl (!decide (x=y))) H
def vw:decide (V.int i=V.int j)=(i==j):=by
 rw[yda];simp
def IH:decide (V.bl i=V.bl j)=(i==j):=by
 rw[yda];simp
def Uu:decide (V.str i=V.str j)=(i==j):=by
 rw[yda];simp
def vz:decide (V.cx i=V.cx j)=(i.toList==j.toList):=by
 rw[yda];cases i;cases j;simp
section
variable {pos:Pos}
def Q9{U:List (Addr × Obj)}{σ:St}{k k':Bool}(I:Inv X U σ H s)(q:Q (.bl k) H)(e:k=k'):EP X U σ Q (.bool k') s:=by
 subst e;exact⟨.bl k,H,I,Z,q⟩
def Jk:aQ X (compareOp .Eq) Pd:=by
 intro U s σ H x y v u Q I rx ry h;obtain⟨hs,q⟩:=h;cases x with
 |aq=>
  cases rx;cases y with
  |aq=>cases ry;exact PySem.EqNone.eq_none_none (Q9 I q (by simp))
  |bl j=>cases ry;exact PySem.EqNone.eq_none_bool (Q9 I q (by simp))
  |int j=>obtain⟨t',rfl⟩:=ry;exact PySem.EqNone.eq_none_int (Q9 I q (by simp))
  |str j=>obtain⟨t',rfl⟩:=ry;exact PySem.EqNone.eq_none_str (Q9 I q (by simp))
  |_=>exact absurd (show false=true from hs) yal
 |bl i=>
  cases rx;cases y with
  |aq=>cases ry;exact PySem.EqNone.eq_bool_none (Q9 I q (by simp))
  |bl j=>cases ry;exact eq_bool (Q9 I q IH)
  |str j=>obtain⟨t',rfl⟩:=ry;exact PySem.EqMixed.eq_bool_str (Q9 I q (by simp))
  |_=>exact absurd (show false=true from hs) yal
 |int i=>
  obtain⟨t,rfl⟩:=rx;cases y with
  |aq=>cases ry;exact PySem.EqNone.eq_int_none (Q9 I q (by simp))
  |int j=>obtain⟨t',rfl⟩:=ry;exact eq_int (Q9 I q vw)
  |str j=>obtain⟨t',rfl⟩:=ry;exact PySem.EqMixed.eq_int_str (Q9 I q (by simp))
  |_=>exact absurd (show false=true from hs) yal
 |str i=>
  obtain⟨t,rfl⟩:=rx;cases y with
  |aq=>cases ry;exact PySem.EqNone.eq_str_none (Q9 I q (by simp))
  |bl j=>cases ry;exact PySem.EqMixed.eq_str_bool (Q9 I q (by simp))
  |int j=>obtain⟨t',rfl⟩:=ry;exact PySem.EqMixed.eq_str_int (Q9 I q (by simp))
  |str j=>obtain⟨t',rfl⟩:=ry;exact eq_str (Q9 I q Uu)
  |_=>exact absurd (show false=true from hs) yal
 |cx i=>
  obtain⟨t,rfl⟩:=rx;cases y with
  |cx j=>obtain⟨t',rfl⟩:=ry;exact eq_bytes (Q9 I q vz)
  |_=>exact absurd (show false=true from hs) yal
 |_=>cases y<;>exact absurd (show false=true from hs) yal
def Xl:aQ X (compareOp .NotEq) Pe:=by
 intro U s σ H x y v u Q I rx ry h;obtain⟨hs,q⟩:=h;cases x with
 |aq=>
  cases rx;cases y with
  |aq=>cases ry;exact PySem.EqNone.ne_none_none (Q9 I q (by simp))
  |bl j=>cases ry;exact PySem.EqNone.ne_none_bool (Q9 I q (by simp))
  |int j=>obtain⟨t',rfl⟩:=ry;exact PySem.EqNone.ne_none_int (Q9 I q (by simp))
  |str j=>obtain⟨t',rfl⟩:=ry;exact PySem.EqNone.ne_none_str (Q9 I q (by simp))
  |_=>exact absurd (show false=true from hs) yal
 |bl i=>
  cases rx;cases y with
  |aq=>cases ry;exact PySem.EqNone.ne_bool_none (Q9 I q (by simp))
  |bl j=>cases ry;exact ne_bool (Q9 I q (yaF not IH))
  |str j=>obtain⟨t',rfl⟩:=ry;exact PySem.EqMixed.ne_bool_str (Q9 I q (by simp))
  |_=>exact absurd (show false=true from hs) yal
 |int i=>
  obtain⟨t,rfl⟩:=rx;cases y with
  |aq=>cases ry;exact PySem.EqNone.ne_int_none (Q9 I q (by simp))
  |int j=>obtain⟨t',rfl⟩:=ry;exact ne_int (Q9 I q (yaF not vw))
  |str j=>obtain⟨t',rfl⟩:=ry;exact PySem.EqMixed.ne_int_str (Q9 I q (by simp))
  |_=>exact absurd (show false=true from hs) yal
 |str i=>
  obtain⟨t,rfl⟩:=rx;cases y with
  |aq=>cases ry;exact PySem.EqNone.ne_str_none (Q9 I q (by simp))
  |bl j=>cases ry;exact PySem.EqMixed.ne_str_bool (Q9 I q (by simp))
  |int j=>obtain⟨t',rfl⟩:=ry;exact PySem.EqMixed.ne_str_int (Q9 I q (by simp))
  |str j=>obtain⟨t',rfl⟩:=ry;exact ne_str (Q9 I q (yaF not Uu))
  |_=>exact absurd (show false=true from hs) yal
 |cx i=>
  obtain⟨t,rfl⟩:=rx;cases y with
  |cx j=>obtain⟨t',rfl⟩:=ry;exact ne_bytes (Q9 I q (yaF not vz))
  |_=>exact absurd (show false=true from hs) yal
 |_=>cases y<;>exact absurd (show false=true from hs) yal
def Vq:aQ X (compareOp .Lt) (iw λi j=>.bl (decide (i<j))):=Cu λ_ _ _ _ _ _ _ q=>lt_int q
def Pf:aQ X (compareOp .LtE) (iw λi j=>.bl (decide (i<=j))):=Cu λ_ _ _ _ _ _ _ q=>le_int q
def Uv:aQ X (compareOp .Gt) (iw λi j=>.bl (decide (j<i))):=Cu λ_ _ _ _ _ _ _ q=>gt_int q
def vA:aQ X (compareOp .GtE) (iw λi j=>.bl (decide (j<=i))):=Cu λ_ _ _ _ _ _ _ q=>ge_int q
def Zl:aQ X (compareOp .In) (λx y H Q=>∃i j,x=.str i/\y=.str j/\Q (.bl (!(Builtin.Str.occurrences j i 0 j.length 1).isEmpty)) H):=by
 intro U s σ H x y v u Q I rx ry h;obtain⟨i,j,rfl,rfl,q⟩:=h;obtain⟨t,rfl⟩:=rx;obtain⟨t',rfl⟩:=ry;exact in_str (Q9 I q Z)
def Zm:aQ X (compareOp .NotIn) (λx y H Q=>∃i j,x=.str i/\y=.str j/\Q (.bl (!(!(Builtin.Str.occurrences j i 0 j.length 1).isEmpty))) H):=by
 intro U s σ H x y v u Q I rx ry h;obtain⟨i,j,rfl,rfl,q⟩:=h;obtain⟨t,rfl⟩:=rx;obtain⟨t',rfl⟩:=ry;exact notIn_str (Q9 I q Z)
def Qq(b:Expr){op:CmpOp}(h:op≠ .In:=by lia)(h2:op≠ .NotIn:=by lia):behindInMarks op b=false:=by
 have e1:(op==CmpOp.In)=false:=by cases op<;>first|rfl|exact absurd rfl h
 have e2:(op==CmpOp.NotIn)=false:=by cases op<;>first|rfl|exact absurd rfl h2
 cases b<;>simp[behindInMarks,e1,e2]
def JS{op:CmpOp}(ho:aQ X (compareOp op) r)(ha:PE X a ta)(hb:PE X b tb)(hm:behindInMarks op b=false):PE X (.Compare a [op] [b] pos) (cg r ta tb):=by
 intro U s σ H Q I h;exact wpAny_Compare1 (Ey ha hb I h λv u s2 x y H2 I2 rx ry q=>ho U s2 σ H2 x y v u Q I2 rx ry q) hm
def k8(t:TE):TT:=λσ H Q=>t σ H λx H'=>∃k,x=.bl k/\Q k H'
def Ql{op:CmpOp}(ho:aQ X (compareOp op) r)(ha:PE X a ta)(hb:PE X b tb)(hm:behindInMarks op b=false):PT X (.Compare a [op] [b] pos) (k8 (cg r ta tb)):=by
 intro U s σ H Q I h;refine wpAny_isTrue_Compare1 (ay (ha U s σ H _ I h) λv s1⟨x,H1,I1,r1,q1⟩=>ay (hb U s1 σ H1 _ I1 q1) λu s2⟨y,H2,I2,r2,q2⟩=>
  ay (ho U s2 σ H2 x y v u _ I2 r1 r2 q2) λc s3⟨z,H3,I3,r3,k,e,q3⟩=>?_) hm
 subst e;cases r3;exact yaV ⟨H3,I3,q3⟩
def Pg(r r':R2)(ta tb tc:TE):TE:=λσ H Q=>ta σ H λx H1=>tb σ H1 λy H2=>r x y H2 λz H3=>∃k,z=.bl k/\
 (if k=true then tc σ H3 λw' H4=>r' y w' H4 Q else Q (.bl false) H3)
def Ph{op EB:CmpOp}(ho:aQ X (compareOp op) r)(e7:aQ X (compareOp EB) r')(ha:PE X a ta)(hb:PE X b tb)(hc:PE X c tc)(hm:lastMarks [op,EB] [b,c]=false:=by with_unfolding_all rfl):PT X (.Compare a [op,EB] [b,c] pos) (k8 (Pg r r' ta tb tc)):=by
 intro U s σ H Q I h;refine isTrue_chain (ay (ha U s σ H _ I h) λv s1⟨x,H1,I1,r1,q1⟩=>test_link (ay (hb U s1 σ H1 _ I1 q1) λu s2⟨y,H2,I2,r2,q2⟩=>
  ay (ho U s2 σ H2 x y v u _ I2 r1 r2 q2) λd s3⟨z,H3,I3,r3,k,e,q3⟩=>?_)) hm
 subst e;cases r3;refine yaV ?_;cases k with
 |false=>
  obtain⟨k',e',q'⟩:=q3;cases e';exact ite_ff ⟨H3,I3,q'⟩
 |true=>
  refine ite_tt (test_last (ay (hc U s3 σ H3 _ I3 q3) λw' s4⟨z',H4,I4,r4,q4⟩=>ay (e7 U s4 σ H4 y z' u w' _ I4 r2 r4 q4) λd' s5⟨z2,H5,I5,r5,k2,e2,q5⟩=>?_));subst e2;cases r5;exact yaV ⟨H5,I5,q5⟩
def Cv(K:Frag)(x:V)(H:Hp)(k:Bool):Prop:=
 match x with
 | .aq=>k=false
 | .bl b=>k=b
 | .int i=>k=(i !=0)
 | .str y=>y.length<=sizeLine/\k=((y.length:Int) !=0)
 | .cx y=>y.size<=sizeLine/\k=((y.size:Int) !=0)
 | .ref p=>(∃xs,aC K H p xs/\k= !xs.isEmpty)\/(∃xs,aw K H p xs/\k= !xs.isEmpty)\/∃al,H p=some (.dK al)/\k= !al.isEmpty
 |_=>False
def k9{al:List (κ × V)}(r:KV al vs):(!vs.isEmpty)= !al.isEmpty:=by
 cases r<;>rfl
def Y7{xs:List V}(r:Vals xs its):(!its.toArray.isEmpty)= !xs.isEmpty:=by
 cases r<;>simp
def Xm:(sizeLine:Nat)<2^63:=by rw[yaG];lia
def Pj:O9 X (λx H Q=>∃k,Cv X.K x H k/\Q k H):=by
 intro U s σ H x v Q I rx h;obtain⟨k,e,q⟩:=h;have hl:=Xm;have hs:sizeLine=16777216:=yaG;cases x with
 |aq=>
  cases rx;have e':k=false:=e;subst e';exact truthy_none ⟨H,I,q⟩
 |bl b=>
  cases rx;have e':k=b:=e;subst e';exact yaV ⟨H,I,q⟩
 |int i=>
  obtain⟨t,rfl⟩:=rx;have e':k=(i !=0):=e;subst e';exact PySem.P.truthy_int ⟨H,I,q⟩
 |str y=>
  obtain⟨t,rfl⟩:=rx;obtain⟨hy,e'⟩:y.length<=sizeLine/\k=((y.length:Int) !=0):=e;subst e';exact PySem.P.truthy_str (by lia) ⟨H,I.tok _,q⟩
 |cx y=>
  obtain⟨t,rfl⟩:=rx;obtain⟨hy,e'⟩:y.size<=sizeLine/\k=((y.size:Int) !=0):=e;subst e';exact truthy_bytes (by lia) ⟨H,I.tok _,q⟩
 |ref p=>
  cases rx;have e':(∃xs,aC X.K H p xs/\k= !xs.isEmpty)\/(∃xs,aw X.K H p xs/\k= !xs.isEmpty)\/∃al,H p=some (.dK al)/\k= !al.isEmpty:=e;rcases e' with⟨xs,hx,e'⟩|⟨xs,hx,e'⟩|⟨al,hx,e'⟩
  .subst e';obtain⟨its,r,pl,hz⟩:=I.list hx;have hlen:=r.length;exact wpAny_truthy_list pl.isList (by simp only[lE];lia) ⟨H,I.tok _,by rw[Y7 r];exact q⟩
  .subst e';obtain⟨its,r,pl,hz⟩:=I.tuple hx;have hlen:=r.length;exact truthy_tuple pl (by simp only[lE];lia) ⟨H,I.tok _,by rw[Y7 r];exact q⟩
  .subst e';obtain⟨hz,hS,vs,r,m⟩:al.length<=sizeLine/\(p==sysModules)=false/\∃vs,KV al vs/\s.heap.DictOf (QY X.prog X.w) p vs:=I.ao p _ hx;have hlen:al.length=vs.length:=yev r;exact wpAny_truthy_dict hS m (by lia) ⟨H,I.tok _,by rw[k9 r];exact q⟩
 |_=>exact(show False from e).elim
def Je(ha:PE X a ta)(he:∀whole,isTrue a X.env whole=(do let v<-whole;standAt a.pos;holding [v] (truthy v))):PT X a (λσ H Q=>ta σ H λx H'=>∃k,Cv X.K x H' k/\Q k H'):=by
 intro U s σ H Q I h;exact isTrue_plain (ay (ha U s σ H _ I h) λv s1⟨x,H1,I1,r1,q1⟩=>Pj U s1 σ H1 x v Q I1 r1 q1) (he _)
def Ji:aQ X (binaryOp .Add) (λx y H Q=>∃i j,x=.str i/\y=.str j/\i.length+j.length<=sizeLine/\Q (.str (i++j)) H):=by
 intro U s σ H x y v u Q I rx ry h;obtain⟨i,j,rfl,rfl,hz,q⟩:=h;obtain⟨t,rfl⟩:=rx;obtain⟨t',rfl⟩:=ry;exact add_str (λt' tk=>⟨.str (i++j),H,I.tok _,⟨_,Z⟩,q⟩) hz
def vals1{us:List Value}(r:Vals [x] us):∃u,us=[u]/\RelV x u:=by
 cases r with
 |cons r1 r2=>cases r2;exact⟨_,Z,r1⟩
def vals2{us:List Value}(r:Vals [x,y] us):∃u w',us=[u,w']/\RelV x u/\RelV y w':=by
 cases r with
 |cons r1 r2=>
  cases r2 with
  |cons r3 r4=>cases r4;exact⟨_,_,Z,r1,r3⟩
def Xw:WL X (.builtin "abs") (λxs H Q=>∃i,xs=[.int i]/\Q (.int (if i<0 then-i else i)) H):=by
 intro U s σ H xs us Q I r h;obtain⟨i,rfl,q⟩:=h;obtain⟨u,rfl,t,rfl⟩:=vals1 r;exact call_abs_int λu tk=>⟨.int (if i<0 then-i else i),H,I.tok _,⟨_,Z⟩,q⟩
def VN(hc:X.calm=true):WL X (.builtin "max") (λxs H Q=>∃i j,xs=[.int i,.int j]/\Q (.int (if j>i then j else i)) H):=by
 intro U s σ H xs us Q I r h;obtain⟨i,j,rfl,q⟩:=h;obtain⟨u,w',rfl,⟨t,rfl⟩,⟨t',rfl⟩⟩:=vals2 r;refine max_two_ints (I.ok.hd hc) λh' tk k=>⟨_,H,I.kept k,?_,q⟩
 by_cases hj:j>i
 .rw[yai hj,yai hj];exact⟨_,Z⟩
 .rw[yag hj,yag hj];exact⟨_,Z⟩
def Vk:WL X (.type "str") (λxs H Q=>∃i,xs=[.int i]/\i.natAbs.log2<1920/\Q (.str (toString i)) H):=by
 intro U s σ H xs us Q I r h;obtain⟨i,rfl,hz,q⟩:=h;obtain⟨u,rfl,t,rfl⟩:=vals1 r;exact PySem.P.str_of_int hz ⟨.str _,H,I.tok _,⟨_,Z⟩,q⟩
def zt:WL X (.builtin "divmod") (λxs H Q=>∃i j,xs=[.int i,.int j]/\Ez i j/\∀p,H p=none->Q (.ref p) (upd H p (.tup [.int (i/j),.int (i % j)]))):=by
 intro U s σ H xs us Q I r h;obtain⟨i,j,rfl,⟨h1,h2⟩,q⟩:=h;obtain⟨u,w',rfl,⟨t,rfl⟩,⟨t',rfl⟩⟩:=vals2 r;refine divmod_int (by lia) ?_ (.inl (ydm (by lia)));rw[ycF i (by lia),yea i (by lia)];have hn:H s.heap.objs.size=none:=I.ao.fresh (tN _);refine⟨.ref s.heap.objs.size,_,?_,Z,q _ hn⟩;refine I.laid (λb o e=>yab _ e) (tN _) ⟨by simp only[tQ,ybc];rw[yaG];lia,[.int (i/j) s.toks,.int (i % j) (s.toks+1)],.cons ⟨_,Z⟩ (.cons ⟨_,Z⟩ .nil),?_⟩;exact⟨_,yah s.heap rfl,Z,0,Z,Z⟩
end
structure cy(h:Heap)(x dx C:Addr)(mA:Str->Option Value):Prop where
 obj:h.get? x=some (instObj C dx)
 ns:h.Ns1 dx mA
 ne:dx≠x
def vB{h:Heap}(n:h.Ns1 dx mA):∃od,h.get? dx=some od/\∀name,lookIn name od=some (mA name):=by
 obtain⟨o,es,ep,ho,hd,hk,_,hm⟩:=n;refine⟨o,ho,λname=>?_⟩;have e:=hm name;unfold nsFind findBy at e;rw[<-Array.find?_toList]at e;unfold lookIn;rw[hd];dsimp only
 split
 .rename_i y q;rw[q]at e;exact yaF some e
 .rename_i q;rw[q]at e;have a:es.toList.any (·.refKey)=false:=by
   rw[List.any_eq_false];intro y hy;obtain⟨z,t,EC⟩:=hk y (ycG.mp hy);simp[DictEntry.refKey,EC]
  have a':¬ es.toList.any (·.refKey)=true:=by rw[a];exact yal
  rw[yag a'];exact yaF some e
def cy.look(I:cy h x dx C mA):∃od,PySem.W.InstAt h x (instObj C dx) C (some od)/\∀name,lookIn name od=some (mA name):=
 let ⟨od,ho,hl⟩:=vB I.ns
 ⟨od,⟨I.obj,Z,Z,ho⟩,hl⟩
section
variable {prog:Program}{w:World}{A:Around}{E:Value->Shared->Prop}{s:Shared}{K:Frag}{x dx C f:Addr}{mA:Str->Option Value}{name:Str}{v:Value}
def get_map{expr:Bool}(X:K.In s.heap)(I:cy s.heap x dx C mA)(hg:plainGet K C name=true)(hh:hasDictIn K C=true)(ha:findIn K (.ref C) name=some none)(hv:mA name=some v)(Pk:handedIn v=true)(h:Q v {s with toks:=s.toks+1}):wpAny (model prog w) A (getAttr (.ref x) name expr) Q E s:=by
 obtain⟨od,J,hl⟩:=I.look;exact get_value X J (plainGet_of hg).1 (findObj_own hh ha Z (by rw[hl,hv])) Pk h
def Pl(X:K.In s.heap)(I:cy s.heap x dx C mA)(hg:plainGet K C name=true)(hf:findIn K (.ref C) name=some (some (.ref f)))(ht:isFn K (.ref f)=true)(hv:mA name=none)(h:Q (.ref f,[.ref x]) s):wpAny (model prog w) A (getMethod (.ref x) name pl) Q E s:=by
 obtain⟨od,J,hl⟩:=I.look;exact method_fn X J (plainGet_of hg).1 (plainGet_of hg).2 hf (ybl.mp ht) (by show(lookIn name od).map (·.isSome)=some false;rw[hl,hv];rfl) h
def Pm{ns:List Str}(X:K.In s.heap)(I:cy s.heap x dx C mA)(hs:findIn K (.ref C) "__setattr__"=some (some (.builtin "object.__setattr__")))(hp:plainOver K C=true)(ht:takerIn K C name=some none)(hh:hasDictIn K C=true)(hw:PySem.Within mA ns)(hsz:ns.length<=sizeLine)(h:∀h',cy h' x dx C (λy=>if y=name then some v else mA y)->Heap.SameBut dx s.heap h'->Q () {s with heap:=h',toks:=s.toks+2}):wpAny (model prog w) A (setAttr (.ref x) name v) Q E s:=by
 obtain⟨od,J,hl⟩:=I.look;refine set_plain X J hs (osa_open (s:={s with toks:=s.toks+1}) (r:=none) X J hp ht λb=>?_);obtain⟨cd,hc,Rs⟩:=any_some hh;have hx:s.heap.get? x=some ⟨.ref C,some dx,.plain, #[]⟩:=I.obj;refine yaa (yac (yaa (yaa (wpAny_loadPart hx (yaa (PySem.W.Looks.here (s:={s with toks:=s.toks+1}) (looks_clsIn X hc) ?_))))));rw[Rs];refine yac (a:=some dx) (yaa (yac (yaa ?_)));refine wpAny_nsSet1 (s:={s with toks:=s.toks+1}) I.ns λh' iz Id=>?_;obtain⟨oD,esD,epD,Pn,Po,Pp⟩:=iz.count (PySem.Within.cons name v hw);refine yaa (wpAny_lookBehind Pn (by rw[Po];exact pastItsLine_dict (yap Pp (by rw[tQ];lia))) ?_);exact yac (h _ ⟨(Id.2 _ (Ne.symm I.ne)).trans I.obj,iz,I.ne⟩ Id)
def Pq{kw:List (Str × Value)}(X:K.In s.heap)(hm:makesIn K C=true)(hi:findIn K (.ref C) "__init__"=some (some (.ref f)))(hf:typeIn K (.ref f)=some (.type "function"))(h:codeAny (model prog w) (A.under (.builtin "type.__call__" ⟨.ref C::vs,kw⟩)) (.call (.ref f) ⟨.ref (s.heap.objs.size+1)::vs,kw⟩) (InitBack (s.heap.objs.size+1) R)
   {s with heap:=(s.heap.push emptyDict).push (instObj C s.heap.objs.size)}):
  codeAny (model prog w) A (.call (.ref C) ⟨vs,kw⟩) R s:=by
 obtain⟨hh,g,d,t,os⟩:=s;exact make_core (makes_of X hm) (yeO X hi) (λself=>bind_fn X self hf) (.inl Z) h
end
noncomputable def Zy(f:Str)(v:V):List (Str × V)->List (Str × V)
 |[]=>[(f,v)]
 |(g,x)::r=>if g=f then(g,v)::r else(g,x)::Zy f v r
theorem QA(f g:Str)(v:V):∀fs:List (Str × V),(Zy f v fs).lookup g=if g=f then some v else fs.lookup g
 |[]=>by
  show List.lookup g [(f,v)]=_
  by_cases h:g=f
  .have hb:(g==f)=true:=ybl.mpr h;simp only[List.lookup,hb,yai h]
  .have hb:(g==f)=false:=yau.mpr h;simp only[List.lookup,hb,yag h]
 |(k,x)::r=>by
  have ih:=QA f g v r;rw[show Zy f v ((k,x)::r)=(if k=f then(k,v)::r else(k,x)::Zy f v r)from rfl]
  by_cases hk:k=f
  .rw[yai hk]
   by_cases h:g=k
   .have hb:(g==k)=true:=ybl.mpr h;simp only[List.lookup,hb,yai (h.trans hk)]
   .have hb:(g==k)=false:=yau.mpr h;simp only[List.lookup,hb,yag (λe:g=f=>h (e.trans hk.symm))]
  .rw[yag hk]
   by_cases h:g=k
   .have hb:(g==k)=true:=ybl.mpr h;simp only[List.lookup,hb,yag (λe:g=f=>hk (h.symm.trans e))]
   .have hb:(g==k)=false:=yau.mpr h;simp only[List.lookup,hb];exact ih
theorem VO(f:Str)(v:V):∀fs:List (Str × V),f∈(Zy f v fs).map (·.1)/\∀g,g∈fs.map (·.1)->g∈(Zy f v fs).map (·.1)
 |[]=>⟨by simp[Zy],λg h=>by simp at h⟩
 |(k,x)::r=>by
  obtain⟨i1,i2⟩:=VO f v r;rw[show Zy f v ((k,x)::r)=(if k=f then(k,v)::r else(k,x)::Zy f v r)from rfl]
  by_cases hk:k=f
  .rw[yai hk];subst hk;exact⟨by simp,λg h=>by simpa using h⟩
  .rw[yag hk];refine⟨?_,λg h=>?_⟩
   .rw[lC];exact tU _ i1
   .rw[lC]at h ⊢;rcases yak.mp h with e|e
    .exact yak.mpr (.inl e)
    .exact tU _ (i2 g e)
theorem Q6(f:Str)(v:V):∀fs:List (Str × V),(Zy f v fs).length<=fs.length+1
 |[]=>by simp[Zy]
 |(k,x)::r=>by
  have ih:=Q6 f v r;rw[show Zy f v ((k,x)::r)=(if k=f then(k,v)::r else(k,x)::Zy f v r)from rfl]
  by_cases hk:k=f
  .rw[yai hk,tQ,tQ];lia
  .rw[yag hk,tQ,tQ];lia
def Uq.some_of(r:Uq (some v) o):∃u,o=some u/\RelV v u:=by
 cases o with
 |none=>exact(show False from r).elim
 |some u=>exact⟨u,Z,r⟩
def Uq.none_of(r:Uq none o):o=none:=by
 cases o with
 |none=>rfl
 |some u=>exact(show False from r).elim
def vC(r:RelV v u):handedIn u=true:=by
 cases v with
 |aq=>cases(show u=Value.none from r);rfl
 |bl b=>cases(show u=Value.bool b from r);rfl
 |int i=>obtain⟨t,e⟩:=(show ∃t,u=Value.int i t from r);cases e;rfl
 |str x=>obtain⟨t,e⟩:=(show ∃t,u=Value.str x t from r);cases e;rfl
 |cx b=>obtain⟨t,e⟩:=(show ∃t,u=Value.bytes b t from r);cases e;rfl
 |ik b=>obtain⟨t,e⟩:=(show ∃t,u=Value.float b t from r);cases e;rfl
 |ref a=>cases(show u=Value.ref a from r);rfl
 |ty n=>cases(show u=Value.type n from r);rfl
section
variable {fs:List (Str × V)}
def Uw(ao:bo P w H h)(e:H a=some (.ins C dx fs)):∃mA,cy h a dx C mA/\(∀f,Uq (fs.lookup f) (mA f))/\PySem.Within mA (fs.map (·.1))/\fs.length<=1000/\H dx=some (.own a):=by
 obtain⟨d,z,ne,ob,mA,n,r,q⟩:=(show JJ P w H h a (.ins C dx fs)from ao a _ e);exact⟨mA,⟨ob,n,ne⟩,r,q,z,d⟩
end
structure cu(K:Frag)(C:Addr):Prop where
 pg:plainGet K C Str.empty=true
 hd:hasDictIn K C=true
 po:plainOver K C=true
 sa:findIn K (.ref C) "__setattr__"=some (some (.builtin "object.__setattr__"))
def cu.get{K:Frag}(c:cu K C)(f:Str):plainGet K C f=true:=c.pg
def KA(K:Frag)(C:Addr)(f:Str):Prop:=findIn K (.ref C) f=some none
def KA.Pr{K:Frag}{f:Str}(n:KA K C f):takerIn K C f=some none:=by
 unfold takerIn;rw[show findIn K (.ref C) f=some none from n];rfl
structure Meth(K:Frag)(C:Addr)(m:Str)(f:Addr):Prop where
 at_:findIn K (.ref C) m=some (some (.ref f))
 fn:isFn K (.ref f)=true
 kp:keepIn K (.ref f)=true
section
variable {X:Cx}{U:List (Addr × Obj)}{σ:St}{H:Hp}{s:Shared}{a C dx:Addr}{fs:List (Str × V)}{f:Str}{v:V}{A:Around}{E:Value->Shared->Prop}
def wb(I:Inv X U σ H s)(e:H a=some (.ins C dx fs))(c:cu X.K C)(n:KA X.K C f)(l:fs.lookup f=some v)(h:∀u s',Inv X U σ H s'->RelV v u->Q u s'):wpAny (model X.prog X.w) A (getAttr (.ref a) f b) Q E s:=by
 obtain⟨mA,O,r,_,_,_⟩:=Uw I.ao e;obtain⟨u,hu,ru⟩:=Uq.some_of (v:=v) (o:=mA f) (by rw[<-l];exact r f);exact get_map I.bq O (c.get f) c.hd n hu (vC ru) (h u _ (I.tok _) ru)
def wc(I:Inv X U σ H s)(e:H a=some (.ins C dx fs))(c:cu X.K C)(k:Meth X.K C m g)(l:fs.lookup m=none)(h:Q (.ref g,[.ref a]) s):wpAny (model X.prog X.w) A (getMethod (.ref a) m pl) Q E s:=by
 obtain⟨mA,O,r,_,_,_⟩:=Uw I.ao e;have hn:mA m=none:=Uq.none_of (by rw[<-l];exact r m);exact Pl I.bq O (c.get m) k.at_ k.fn hn h
def we(I:Inv X U σ H s)(e:H a=some (.ins C dx fs))(c:cu X.K C)(n:KA X.K C f)(hl:fs.length<1000)(ry:RelV y u)(h:∀s',Inv X U σ (upd H a (.ins C dx (Zy f y fs))) s'->Q () s'):wpAny (model X.prog X.w) A (setAttr (.ref a) f u) Q E s:=by
 obtain⟨mA,O,r,wi,_,ho⟩:=Uw I.ao e;have hz:(fs.map (·.1)).length<=sizeLine:=by rw[tK,yaG];lia
 refine Pm I.bq O c.sa c.po n.Pr c.hd wi hz λh' O' sb=>h _ ?_;have hd:∃o,h'.get? dx=some o:=let ⟨o,_,_,e',_⟩:=O'.ns;⟨o,e'⟩;refine I.write (x:=a) (e:=dx) (by rw[e];exact True.intro) (.inr ho) (λb q hb z=>(sb.2 b hb).trans z) hd ?_;refine⟨by rw[Qo O.ne];exact ho,?_,O.ne,O'.obj,_,O'.ns,λg=>?_,λg hg=>?_⟩
 .have:=Q6 f y fs;lia
 .show Uq ((Zy f y fs).lookup g) (if g=f then some u else mA g);rw[QA]
  by_cases q:g=f
  .rw[yai q,yai q];exact ry
  .rw[yag q,yag q];exact r g
 .by_cases q:g=f
  .rw[q];exact(VO f y fs).1
  .refine(VO f y fs).2 g (wi g λz=>hg ?_);show(if g=f then some u else mA g)=none;rw[yag q];exact z
def Inv.made(I:Inv X U σ H s):Inv X U σ (upd (upd H s.heap.objs.size (.own (s.heap.objs.size+1))) (s.heap.objs.size+1) (.ins C s.heap.objs.size []))
  {s with heap:=(s.heap.push emptyDict).push (instObj C s.heap.objs.size)}:=by
 have e1:(s.heap.push emptyDict).get? s.heap.objs.size=some emptyDict:=yah s.heap rfl;have e2:((s.heap.push emptyDict).push (instObj C s.heap.objs.size)).get? (s.heap.objs.size+1)=some (instObj C s.heap.objs.size):=by
  have:=yah (s.heap.push emptyDict) (o:=instObj C s.heap.objs.size) rfl;rwa[yaR]at this
 have e3:(s.heap.push emptyDict).Ns s.heap.objs.size (λ_=>none):=⟨emptyDict, #[],_,e1,Z,(λe he=>absurd he (by simp)),λ_=>rfl⟩;have I1:=I.laid (a:=s.heap.objs.size) (o:=.own (s.heap.objs.size+1)) (h':=s.heap.push emptyDict) (t':=s.toks) (λb u q=>yab _ q) (tN _) ⟨_,e1⟩;refine I1.laid (a:=s.heap.objs.size+1) (o:=.ins C s.heap.objs.size []) (t':=s.toks) (λb u q=>yab _ q) (ycu (yaR _ _)) ?_;have ne:s.heap.objs.size≠s.heap.objs.size+1:=yar (ycl _);refine⟨by rw[Qo ne,Qf],lF _,ne,e2,λ_=>none,(Heap.Ns1.of_empty e3).at λo q=>yab _ q,λ_=>True.intro,λy hy=>absurd rfl hy⟩
def Pu{prog:Program}{env:Env}{pos:Pos}(hb:attributeBase e f env (eval e env)=eval e env)(h:wpAny (model prog w) A (eval e env) (λo s₁=>wpAny (model prog w) A (getAttr o f true) Q E s₁) E s):wpAny (model prog w) A (eval (.Attribute e f pos) env) Q E s:=
 Attribute_any_ h (by rw[arm_eval_Attribute,hb])
end
def Pw(K:Frag)(ta:TE)(f:Str):TE:=λσ H Q=>ta σ H λx H1=>∃a C dx fs v,x=.ref a/\H1 a=some (.ins C dx fs)/\cu K C/\KA K C f/\fs.lookup f=some v/\Q v H1
def Px(K:Frag)(ta tv:TE)(f:Str):TS:=λD σ H=>tv σ H λy H1=>ta σ H1 λx H2=>∃a C dx fs,x=.ref a/\H2 a=some (.ins C dx fs)/\cu K C/\KA K C f/\fs.length<1000/\
 D.nx σ (upd H2 a (.ins C dx (Zy f y fs)))
section
variable {value:Expr}{pos pos':Pos}
def J1(he:PE X e ta)(hb:attributeBase e f X.env (eval e X.env)=eval e X.env):PE X (.Attribute e f pos) (Pw X.K ta f):=by
 intro U s σ H Q I h;refine Pu hb (ay (he U s σ H _ I h) λu s1⟨x,H1,I1,rx,a,C,dx,fs,v,ex,ea,c,n,l,q⟩=>?_);subst ex;obtain rfl:u=Value.ref a:=rx;exact wb I1 ea c n l λu' s2 I2 ru=>⟨v,H1,I2,ru,q⟩
def Y8(ha:PE X o ta)(hv:PE X value tv)(hs:swapsWith value (some (.Attribute o f pos')) pos.line X.env=pure false):PS X (.Assign [.Attribute o f pos'] value pos) (Px X.K ta tv f):=by
 intro U s σ H D I h;refine plainObj_wpAny_Assign_Attribute (ay (hv U s σ H _ I h) λu s1⟨y,H1,I1,ry,q⟩=>ay (ha U s1 σ H1 _ I1 q) λov s2⟨x,H2,I2,rx,a,C,dx,fs,ex,ea,c,n,l,q2⟩=>?_) hs;subst ex;obtain rfl:ov=Value.ref a:=rx;exact we I2 ea c n l ry λs3 I3=>⟨σ,_,I3,q2⟩
end
section
variable {X:Cx}{U:List (Addr × Obj)}{σ:St}{H:Hp}{s:Shared}{A:Around}{E:Value->Shared->Prop}{Q:Value->Shared->Prop}{c:Value}{b:Bool}
inductive br (K:Frag) (H:Hp):V->Value->Prop where
 |aq:br K H .aq (.type "NoneType")
 |bl (x:Bool):br K H (.bl x) (.type "bool")
 |int (i:Int):br K H (.int i) (.type "int")
 |str (x:Str):br K H (.str x) (.type "str")
 |ik (x:UInt64):br K H (.ik x) (.type "float")
 |lst {a:Addr} {xs:List V} (e:H a=some (.lst xs)):br K H (.ref a) (.type "list")
 |bY {a:Addr} {o:Obj} {xs:List V} (e:H a=some (.bY o (.lst xs))):br K H (.ref a) (.type "list")
 |tup {a:Addr} {xs:List V} (e:H a=some (.tup xs)):br K H (.ref a) (.type "tuple")
 |dK {a:Addr} {al:List (Key × V)} (e:H a=some (.dK al)):br K H (.ref a) (.type "dict")
 |dT {a:Addr} {al:List (List Key × V)} (e:H a=some (.dT al)):br K H (.ref a) (.type "dict")
 |ins {a C dx:Addr} {fs:List (Str × V)} (e:H a=some (.ins C dx fs)) (cl:cu K C) (ha:findIn K (.ref C) "__class__"=some (some (.builtin "object.__class__")))
   (hn:specialIn K (.builtin "object.__class__") "__get__"=some (some (.builtin "getset_descriptor.__get__"))) (Go:takesIn K (.builtin "object.__class__")=some true)
   (hm:mroIn K C (.type "object")=some true):br K H (.ref a) (.ref C)
def vD(I:Inv X U σ H s)(rx:RelV x u)(ty:br X.K H x t)(e:kitOne X.K t c=some b)(h:∀tk,Q (.bool b) {s with toks:=tk}):wpAny (model X.prog X.w) A (call (.builtin "isinstance") [u,c]) Q E s:=by
 cases ty with
 |aq=>cases(show u=Value.none from rx);exact ydP kitx_none I.bq True.intro e (λz=>nomatch z) h
 |bl y=>cases(show u=Value.bool y from rx);exact ydP kitx_bool I.bq True.intro e (λz=>nomatch z) h
 |int i=>obtain⟨t,q⟩:=(show ∃t,u=Value.int i t from rx);cases q;exact ydP kitx_int I.bq True.intro e (λz=>nomatch z) h
 |str y=>obtain⟨t,q⟩:=(show ∃t,u=Value.str y t from rx);cases q;exact ydP kitx_str I.bq True.intro e (λz=>nomatch z) h
 |ik y=>obtain⟨t,q⟩:=(show ∃t,u=Value.float y t from rx);cases q;exact ydP kitx_float I.bq True.intro e (λz=>nomatch z) h
 |@lst a xs ea=>
  cases(show u=Value.ref a from rx);obtain⟨_,_,n,_,h1⟩:=(show JJ X.prog X.w H s.heap a (.lst xs)from I.ao a _ ea);exact ydP kitx_list I.bq ⟨_,h1,Z⟩ e (λz=>nomatch z) h
 |@bY a ob xs ea=>
  cases(show u=Value.ref a from rx);obtain⟨_,_,_,n,_,h1⟩:=(show JJ X.prog X.w H s.heap a (.bY ob (.lst xs))from I.ao a _ ea);exact ydP kitx_list I.bq ⟨_,h1,Z⟩ e (λz=>nomatch z) h
 |@tup a xs ea=>
  cases(show u=Value.ref a from rx);obtain⟨_,_,_,p⟩:=(show JJ X.prog X.w H s.heap a (.tup xs)from I.ao a _ ea);obtain⟨o,h1,h2,_⟩:=p;exact ydP kitx_tuple I.bq ⟨o,h1,h2⟩ e (λz=>nomatch z) h
 |@dK a al ea=>
  cases(show u=Value.ref a from rx);obtain⟨_,_,vs,_,p⟩:=(show JJ X.prog X.w H s.heap a (.dK al)from I.ao a _ ea);obtain⟨o,es,ep,h1,h2,_⟩:=p;exact ydP kitx_dict I.bq ⟨o,h1,h2.1⟩ e (λz=>nomatch z) h
 |@dT a al ea=>
  cases(show u=Value.ref a from rx);obtain⟨_,_,xs,_,o,es,ep,h1,h2,_⟩:=(show JJ X.prog X.w H s.heap a (.dT al)from I.ao a _ ea);exact ydP kitx_dict I.bq ⟨o,h1,h2.1⟩ e (λz=>nomatch z) h
 |@ins a C dx fs ea cl ha hn Go hm=>
  cases(show u=Value.ref a from rx);obtain⟨mA,O,_⟩:=Uw I.ao ea;obtain⟨od,J,_⟩:=O.look;exact ydP (kitx_own (cl.get _) cl.hd ha hn Go hm) I.bq J e (λz=>nomatch z) h
end
structure Zd(k:Nat)(A:Around):Prop where
 hd:A.handled=none
 dp:A.depth+3*k+5<recursionLimit
 un:A.units+16*k+200<cLine
def Zd.mono{j k:Nat}(r:Zd k A)(h:j<=k):Zd j A:=⟨r.hd,by have:=r.dp;lia,by have:=r.un;lia⟩
theorem Zd.deeper(r:Zd (k+1) A)(env:Env):Zd k (A.deeper env):=
 ⟨r.hd,by have:=r.dp;show A.depth+1+3*k+5<_;lia,by have:=r.un;show A.units+3+16*k+200<_;lia⟩
def wf{A:Around}{C:Addr}{us:List Value}{kw:List (Str × Value)}:(A.under (.builtin "type.__call__" ⟨.ref C::us,kw⟩)).depth=A.depth+1:=by
 first|rfl|simp[Around.under,Code.weight,Code.isCreation,Code.isGuard,Code.isCaller,Code.frames,Code.isFrame,guardIds]
def wg{A:Around}{C:Addr}{us:List Value}{kw:List (Str × Value)}:(A.under (.builtin "type.__call__" ⟨.ref C::us,kw⟩)).units=A.units+1:=by
 first|rfl|simp[Around.under,Code.cUnits,Code.frames,Code.isFrame]
def Zd.make{k:Nat}{A:Around}(r:Zd (k+1) A)(C:Addr)(us:List Value)(kw:List (Str × Value)):Zd k (A.under (.builtin "type.__call__" ⟨.ref C::us,kw⟩)):=
 ⟨r.hd,by have:=r.dp;rw[wf];lia,by have:=r.un;rw[wg];lia⟩
theorem Zd.depth(r:Zd k A):A.depth<recursionLimit:=by have:=r.dp;lia
theorem Zd.units(r:Zd k A):A.units+64<cLine:=by have:=r.un;lia
def WM:TA:=λ_ H Q=>Q [] H
def Jf(ta:TE)(tr:TA):TA:=λσ H Q=>ta σ H λx H1=>tr σ H1 λxs H2=>Q (x::xs) H2
section
variable {pos:Pos}
def Qb:PA X [] WM:=λ_ _ _ _ H Q I h=>ycd ⟨[],H,I,.nil,h⟩
def Qa(ha:PE X e te)(hr:PA X es t)(hs:starEach (e::es) X.env=(false,eval e X.env)::starEach es X.env:=by rfl):PA X (e::es) (Jf te t):=by
 intro pos U s σ H Q I h;rw[hs];show wpAny _ _ (spliced ((false,eval e X.env)::backTo pos (starEach es X.env))) _ _ s;refine ybx (ay (ha U s σ H _ I h) λu s1⟨x,H1,I1,r1,q1⟩=>?_);exact ay (hr pos U s1 σ H1 _ I1 q1) λus s2⟨xs,H2,I2,r2,q2⟩=>⟨x::xs,H2,I2,.cons r1 r2,q2⟩
def EE(t:TA):TE:=λσ H Q=>t σ H λxs H1=>xs.length<=sizeLine/\∀p,H1 p=none->Q (.ref p) (upd H1 p (.tup xs))
def II(t:TA):TE:=λσ H Q=>t σ H λxs H1=>xs.length<=sizeLine/\∀p,H1 p=none->Q (.ref p) (upd H1 p (.lst xs))
def Qs{x1}(h:PA X es t):PE X (.Tuple es x1 pos) (EE t):=by
 intro U s σ H Q I hq;refine wpAny_Tuple_spliced (ay (h pos U s σ H _ I hq) λus s1⟨xs,H1,I1,r,z,q⟩=>⟨by rw[<-r.length];exact z,?_⟩);have hf:H1 s1.heap.objs.size=none:=I1.ao.fresh (tN _);refine⟨.ref s1.heap.objs.size,upd H1 s1.heap.objs.size (.tup xs),I1.laid (t':=s1.toks) (λb u e=>yab _ e) (tN _) ?_,Z,q _ hf⟩;exact⟨z,us,r,⟨_,yah _ rfl,Z,_,Z,Z⟩⟩
def Wk(h:PA X es t):PE X (.List es pos) (II t):=by
 intro U s σ H Q I hq;refine wpAny_List_spliced (ay (h pos U s σ H _ I hq) λus s1⟨xs,H1,I1,r,z,q⟩=>⟨by rw[<-r.length];exact z,?_⟩);have hf:H1 s1.heap.objs.size=none:=I1.ao.fresh (tN _);refine⟨.ref s1.heap.objs.size,upd H1 s1.heap.objs.size (.lst xs),I1.laid (t':=s1.toks) (λb u e=>yab _ e) (tN _) ?_,Z,q _ hf⟩;exact⟨z,us,0,r,yah _ rfl⟩
end
noncomputable abbrev Sp:=List V->Hp->VK->XK->Prop
noncomputable abbrev de:=List Env->Hp->Shared->XK->Value->Shared->Prop
structure cz(P:Program)(w:World)(K:Frag)(mg:Str->Option Value)(Y:Heap)(A:Around)(L:List Env)(s:Shared)(H:Hp):Prop where
 frames:A.frames=some L
 mod:Mod K mg Y
 bs:∀b o,Y.get? b=some o->s.heap.get? b=some o/\H b=none
 ip:Y.objs.size<=s.heap.objs.size
 vk:s.heap.FunFrames Y L
 i6:∀b∈bz L,H b=none
 ao:bo P w H s.heap
 bare:AllBare s.gens
def CE(L:List Env)(P:Program)(w:World)(H:Hp)(s:Shared)(Q:VK)(u:Value)(s':Shared):Prop:=
 ∃v H',s'.os=s.os/\AllBare s'.gens/\Un (bz L) [] H H' s.heap s'.heap/\bo P w H' s'.heap/\RelV v u/\Q v H'
def CR(CX:de)(L:List Env)(P:Program)(w:World)(H:Hp)(s:Shared)(Q:VK)(E:XK)(r:Result)(s':Shared):Prop:=
 match r with
 | .ok (.ret u)=>CE L P w H s Q u s'
 | .ok _=>False
 | .error e=>CX L H s E e s'
structure ak(P:Program)(w:World)(K:Frag)(mg:Str->Option Value)(Y:Heap)(CX:de)(k:Nat)(f:Addr)(fd:FuncData)(ps:List Str)(sp:Sp):Prop where
 len:∀vs H Q E,sp vs H Q E->vs.length=ps.length
 run:∀(A:Around)(L:List Env)(s:Shared)(H:Hp)(args:Args)(us:List Value)(vs:List V)(Q:VK)(E:XK),Zd k A->cz P w K mg Y A L s H->BindsTo s fd args (ps.zip us)->Vals vs us->sp vs H Q E->
  codeAny (model P w) A (.call (.ref f) args) (CR CX L P w H s Q E) s
def cz.make{K:Frag}{Y:Heap}{L:List Env}{H:Hp}(e:cz P w K mg Y A L s H)(C:Addr)(us:List Value)(kw:List (Str × Value)):cz P w K mg Y (A.under (.builtin "type.__call__" ⟨.ref C::us,kw⟩)) L s H:=⟨by first|exact e.frames|(simpa[Around.under,Code.envs,Code.isFrame,pushEnvs]using e.frames),e.mod,e.bs,e.ip,e.vk,e.i6,e.ao,e.bare⟩
section
variable {X:Cx}{U:List (Addr × Obj)}{σ:St}{H:Hp}{s s':Shared}
def Inv.EF(I:Inv X U σ H s):cz X.prog X.w X.K X.mg X.Y X.A X.stack s H:=
 ⟨I.ok.frames,I.ok.mod,I.bs,yap I.ok.ip I.sz,I.stack,I.zq,I.ao,I.bare⟩
def Inv.after(I:Inv X U σ H s)(h:CE X.stack X.prog X.w H s Q u s'):EP X U σ Q u s':=by
 obtain⟨v,H',os,bare,un,ao,r,q⟩:=h;obtain⟨hh,g,d,t,fb⟩:=s';obtain rfl:fb=s.os:=os;exact⟨v,H',I.call (h':=hh) (g':=g) (d':=d) (t':=t) (ch:=[]) un ao bare (λb z=>absurd z (by simp)),r,q⟩
end
def XW(sp:Sp)(Fa:List V)(E:XK)(t:TA):TE:=λσ H Q=>t σ H λvs H1=>sp (vs++Fa) H1 Q E
def Ux(C:Addr)(m:Str)(sp:Sp)(Fa:List V)(E:XK)(ta:TE)(t:TA):TE:=λσ H Q=>ta σ H λx H1=>∃a dx fs,x=.ref a/\H1 a=some (.ins C dx fs)/\fs.lookup m=none/\
 t σ H1 λvs H2=>sp (x::(vs++Fa)) H2 Q E
def IJ(C:Addr)(sp:Sp)(Fa:List V)(E:XK)(t:TA):TE:=λσ H Q=>t σ H λvs H1=>∀x dx,H1 x=none->H1 dx=none->dx≠x->
 sp (.ref x::(vs++Fa)) (upd (upd H1 dx (.own x)) x (.ins C dx [])) (λv H2=>v=.aq/\Q (.ref x) H2) E
def Binds(K:Frag)(fd:FuncData)(ps:List Str)(ds:List Value):Prop:=
 ∀(s:Shared)(us:List Value),K.In s.heap->(us++ds).length=ps.length->BindsTo s fd ⟨us,[]⟩ (ps.zip (us++ds))
def Binds.all{K:Frag}{fd:FuncData}{ps:List Str}(h:∀us:List Value,us.length=ps.length->bindArgs fd ⟨us,[]⟩=pure (ps.zip us)):Binds K fd ps []:=λs us _ hl=>by
 rw[lA]at hl ⊢;exact .of_eq (h us hl)
def Passes(CX:de)(X:Cx)(E:XK):Prop:=∀(U:List (Addr × Obj))(σ:St)(H:Hp)(s:Shared)(e:Value)(s':Shared),Inv X U σ H s->CX X.stack H s E e s'->X.xe e s'
section
variable {X:Cx}{CX:de}{k:Nat}{f C:Addr}{fd:FuncData}{ps:List Str}{sp:Sp}{Fa:List V}{ds:List Value}{E:XK}{x:Str}{p pos apos:Pos}{e:Expr}{es:List Expr}{t:TA}
def vE{U:List (Addr × Obj)}{σ:St}{us:List Value}{vs:List V}(F:ak X.prog X.w X.K X.mg X.Y CX k f fd ps sp)(hr:Zd k X.A)(hb:Binds X.K fd ps ds)(hd:Vals Fa ds)(hx:Passes CX X E)(I:Inv X U σ H s)(r:Vals vs us)(h:sp (vs++Fa) H Q E):wpAny (model X.prog X.w) X.A (call (.ref f) us) (EP X U σ Q) X.xe s:=by
 have r2:Vals (vs++Fa) (us++ds):=r.append hd;have hl:(us++ds).length=ps.length:=by rw[<-r2.length];exact F.len _ _ _ _ h
 refine yer (ycY (F.run X.A X.stack s H ⟨us,[]⟩ (us++ds) (vs++Fa) Q E hr I.EF (hb s us I.bq hl) r2 h) λr s' hq=>?_);cases r with
 |error e=>exact hx U σ H s e s' I hq
 |ok fl=>
  cases fl with
  |ret u=>exact I.after hq
  |next=>exact False.elim hq
  |brk=>exact False.elim hq
  |cont=>exact False.elim hq
def vF(F:ak X.prog X.w X.K X.mg X.Y CX k f fd ps sp)(hr:Zd k X.A)(hg:Gl X x)(hm:X.mg x=some (.ref f))(hk:keepIn X.K (.ref f)=true)(hb:Binds X.K fd ps ds)(hd:Vals Fa ds)(hx:Passes CX X E)(ha:PA X (e::es) t)(mo:(x==("__debug__":Str))=false:=by lia)(he:starEach (e::es) X.env=(false,eval e X.env)::starEach es X.env:=by rfl)(db:(backTo pos (starEach es X.env)).any (·.1)=false:=by rfl):PE X (.Call (.Name x p) (e::es) [] pos) (XW sp Fa E t):=by
 intro U s σ H Q I h;refine yaX (WK I hg hm ?_ mo);refine callWith_K (h₀:=X.Y) I.ok.mod.i5 hk (ay (ha pos U s σ H _ I h) λus s1⟨vs,H1,I1,r,q⟩=>⟨I1.bq,?_⟩) he db;exact vE F hr hb hd hx I1 r q
def Py(F:ak X.prog X.w X.K X.mg X.Y CX k f fd ps sp)(hr:Zd k X.A)(hg:Gl X x)(hm:X.mg x=some (.ref f))(hk:keepIn X.K (.ref f)=true)(hb:Binds X.K fd ps ds)(hd:Vals Fa ds)(hx:Passes CX X E)(mo:(x==("__debug__":Str))=false:=by lia):PE X (.Call (.Name x p) [] [] pos) (XW sp Fa E WM):=by
 intro U s σ H Q I h;refine yaX (WK I hg hm ?_ mo);exact callWith_K0 I.bq hk (vE (us:=[]) F hr hb hd hx I .nil h)
def vG{pl:Sem Bool}(he:PE X o ta)(c:cu X.K C)(hm:Meth X.K C m f)(F:ak X.prog X.w X.K X.mg X.Y CX k f fd ps sp)(hr:Zd k X.A)(hb:Binds X.K fd ps ds)(hd:Vals Fa ds)(hx:Passes CX X E)(ha:PA X (e::es) t)(f8:starEach (e::es) X.env=(false,eval e X.env)::starEach es X.env:=by rfl)(db:(backTo pos (starEach es X.env)).any (·.1)=false:=by rfl)(ht:eval (.Call (.Attribute o m apos) (e::es) [] pos) X.env=(do
   let ov<-eval o X.env
   standAt apos.atName
   let (f,first)<-holding [ov] (getMethod ov m pl)
   callWith pos f first (backTo pos (starEach (e::es) X.env)) (backToKw pos (keywordEach [] X.env))):=by rfl):
  PE X (.Call (.Attribute o m apos) (e::es) [] pos) (Ux C m sp Fa E ta t):=by
 intro U s σ H Q I h;refine methodCall_KW (pl:=pl) (ay (he U s σ H _ I h) λu s1⟨x,H1,I1,rx,a,dx,fs,ex,ea,l,q⟩=>?_) ht;subst ex;obtain rfl:u=Value.ref a:=rx;refine wc I1 ea c hm l ?_;refine callWith_K (first:=[.ref a]) (h₀:=X.Y) I.ok.mod.i5 hm.kp (ay (ha pos U s1 σ H1 _ I1 q) λus s2⟨vs,H2,I2,r,q2⟩=>⟨I2.bq,?_⟩) f8 db;exact vE (us:=.ref a::us) (vs:=.ref a::vs) F hr hb hd hx I2 (.cons Z r) q2
structure Mk(K:Frag)(C f:Addr):Prop where
 makes:makesIn K C=true
 init:findIn K (.ref C) "__init__"=some (some (.ref f))
 fn:isFn K (.ref f)=true
 kp:keepIn K (.ref C)=true
def Pz{U:List (Addr × Obj)}{σ:St}{us:List Value}{vs:List V}(qMa:Mk X.K C f)(F:ak X.prog X.w X.K X.mg X.Y CX k f fd ps sp)(hr:Zd (k+1) X.A)(hb:Binds X.K fd ps ds)(hd:Vals Fa ds)(hx:Passes CX X E)(I:Inv X U σ H s)(r:Vals vs us)(h:∀x dx,H x=none->H dx=none->dx≠x->sp (.ref x::(vs++Fa)) (upd (upd H dx (.own x)) x (.ins C dx [])) (λv H2=>v=.aq/\Q (.ref x) H2) E):wpAny (model X.prog X.w) X.A (call (.ref C) us) (EP X U σ Q) X.xe s:=by
 have hq:=h (s.heap.objs.size+1) s.heap.objs.size (I.ao.fresh (Nat.le_succ _)) (I.ao.fresh (tN _)) (yar (ycl _));have I2:=Inv.made (C:=C) I;have r2:Vals (V.ref (s.heap.objs.size+1)::(vs++Fa)) (Value.ref (s.heap.objs.size+1)::(us++ds)):=.cons rfl (r.append hd);have hl:(Value.ref (s.heap.objs.size+1)::us++ds).length=ps.length:=by
  have e:=r2.length;rw[F.len _ _ _ _ hq]at e;exact e.symm
 refine yer (Pq (f:=f) I.bq qMa.makes qMa.init (ybl.mp qMa.fn) (ycY (F.run _ X.stack _ _ ⟨Value.ref (s.heap.objs.size+1)::us,[]⟩ (Value.ref (s.heap.objs.size+1)::(us++ds)) _ _ E (hr.make C us [])
  (I2.EF.make C us []) (hb _ (Value.ref (s.heap.objs.size+1)::us) I2.bq hl) r2 hq) λr s' Am=>?_))
 cases r with
 |error e=>exact hx U σ _ _ e s' I2 Am
 |ok fl=>
  cases fl with
  |ret u=>
   obtain⟨v,H',I3,rv,ev,q3⟩:=I2.after Am;subst ev;exact⟨rv,⟨V.ref (s.heap.objs.size+1),H',I3,Z,q3⟩⟩
  |next=>exact False.elim Am
  |brk=>exact False.elim Am
  |cont=>exact False.elim Am
def PB(qMa:Mk X.K C f)(F:ak X.prog X.w X.K X.mg X.Y CX k f fd ps sp)(hr:Zd (k+1) X.A)(hg:Gl X x)(hm:X.mg x=some (.ref C))(hb:Binds X.K fd ps ds)(hd:Vals Fa ds)(hx:Passes CX X E)(ha:PA X (e::es) t)(mo:(x==("__debug__":Str))=false:=by lia)(he:starEach (e::es) X.env=(false,eval e X.env)::starEach es X.env:=by rfl)(db:(backTo pos (starEach es X.env)).any (·.1)=false:=by rfl):PE X (.Call (.Name x p) (e::es) [] pos) (IJ C sp Fa E t):=by
 intro U s σ H Q I h;refine yaX (WK I hg hm ?_ mo);refine callWith_K (h₀:=X.Y) I.ok.mod.i5 qMa.kp (ay (ha pos U s σ H _ I h) λus s1⟨vs,H1,I1,r,q⟩=>⟨I1.bq,?_⟩) he db;exact Pz qMa F hr hb hd hx I1 r q
end
def PK(X:Cx)(Ev:List Keyword)(t:TA):Prop:=
 ∀(pos:Pos)(U:List (Addr × Obj))(s:Shared)(σ:St)(H:Hp)(Q:List V->Hp->Prop),Inv X U σ H s->t σ H Q->wpAny (model X.prog X.w) X.A (evalAll ((backToKw pos (keywordEach Ev X.env)).map (·.2))) (AP X U σ Q) X.xe s
section
variable {X:Cx}{CX:de}{k:Nat}{f:Addr}{fd:FuncData}{ps ks:List Str}{sp:Sp}{E:XK}{x:Str}{p pos apos:Pos}{e:Expr}{es:List Expr}{Ev:List Keyword}{t tk:TA}{nm:Option Str}
def IK:PK X [] WM:=λ_ _ _ _ H Q I h=>wpAny_evalAll_nil ⟨[],H,I,.nil,h⟩
def vH(ha:PE X e te)(hr:PK X Ev t):PK X (⟨nm,e,An⟩::Ev) (Jf te t):=by
 intro pos U s σ H Q I h;show wpAny _ _ (evalAll ((do let v<-eval e X.env;standAt pos;pure v)::(backToKw pos (keywordEach Ev X.env)).map (·.2))) _ _ s;refine wpAny_evalAll_cons (yaa (ay (ha U s σ H _ I h) λu s1⟨x,H1,I1,r1,q1⟩=>yaa (ydI (yac ?_))));exact ay (hr pos U s1 σ H1 _ I1 q1) λus s2⟨xs,H2,I2,r2,q2⟩=>⟨x::xs,H2,I2,.cons r1 r2,q2⟩
structure b7(K:Frag)(fd:FuncData)(ps ks:List Str)(g:List Value->List Value->List Value)(gV:List V->List V->List V):Prop where
 to:∀(s:Shared)(us ws:List Value),K.In s.heap->(g us ws).length=ps.length->BindsTo s fd ⟨us,ks.zip ws⟩ (ps.zip (g us ws))
 rel:∀{vs:List V}{us:List Value}{zs:List V}{ws:List Value},Vals vs us->Vals zs ws->Vals (gV vs zs) (g us ws)
def vI(sp:Sp)(gV:List V->List V->List V)(E:XK)(t tk:TA):TE:=λσ H Q=>t σ H λvs H1=>tk σ H1 λzs H2=>sp (gV vs zs) H2 Q E
variable {g:List Value->List Value->List Value}{gV:List V->List V->List V}
def PD{U:List (Addr × Obj)}{σ:St}{us ws:List Value}{vs zs:List V}(F:ak X.prog X.w X.K X.mg X.Y CX k f fd ps sp)(hr:Zd k X.A)(hb:b7 X.K fd ps ks g gV)(hx:Passes CX X E)(I:Inv X U σ H s)(r:Vals vs us)(rz:Vals zs ws)(h:sp (gV vs zs) H Q E):wpAny (model X.prog X.w) X.A (call (.ref f) us (ks.zip ws)) (EP X U σ Q) X.xe s:=by
 have r2:=hb.rel r rz;have hl:(g us ws).length=ps.length:=by rw[<-r2.length];exact F.len _ _ _ _ h
 refine yer (ycY (F.run X.A X.stack s H ⟨us,ks.zip ws⟩ (g us ws) (gV vs zs) Q E hr I.EF (hb.to s us ws I.bq hl) r2 h) λr s' hq=>?_);cases r with
 |error e=>exact hx U σ H s e s' I hq
 |ok fl=>
  cases fl with
  |ret u=>exact I.after hq
  |next=>exact False.elim hq
  |brk=>exact False.elim hq
  |cont=>exact False.elim hq
def xC(F:ak X.prog X.w X.K X.mg X.Y CX k f fd ps sp)(hr:Zd k X.A)(hg:Gl X x)(hm:X.mg x=some (.ref f))(hk:keepIn X.K (.ref f)=true)(hb:b7 X.K fd ps ks g gV)(hx:Passes CX X E)(ha:PA X (e::es) t)(Ao:PK X Ev tk)(ms:(backToKw pos (keywordEach Ev X.env)).all (·.1.isSome)=true:=by rfl)(Ap:(backToKw pos (keywordEach Ev X.env)).filterMap (·.1)=ks:=by rfl)(mo:(x==("__debug__":Str))=false:=by lia)(he:starEach (e::es) X.env=(false,eval e X.env)::starEach es X.env:=by rfl)(db:((backTo pos (starEach (e::es) X.env)).any (·.1)||(backToKw pos (keywordEach Ev X.env)).any (·.1.isNone))=false:=by rfl):PE X (.Call (.Name x p) (e::es) Ev pos) (vI sp gV E t tk):=by
 intro U s σ H Q I h;refine yaX (WK I hg hm ?_ mo);refine callWith_KW (h₀:=X.Y) I.ok.mod.i5 hk ms (ay (ha pos U s σ H _ I h) λus s1⟨vs,H1,I1,r,q⟩=>?_) db he;refine ay (Ao pos U s1 σ H1 _ I1 q) λws s2⟨zs,H2,I2,rz,q2⟩=>⟨I2.bq,?_⟩;rw[Ap];exact PD F hr hb hx I2 r rz q2
end
structure af(N P:List Str)(sc:Scope):Prop where
 kind:sc.kind=.function
 co:sc.isCoroutine=false
 gen:sc.isGenerator=false
 nd:N.Nodup
 pre:N.take P.length=P
 par:∀x∈P,sc.names.lookup x=some .local\/sc.names.lookup x=some .cell
 j':∀y∈sc.names,y.2≠ .free
theorem jj{kindOf:Str->Option NameKind}:∀{binds:List (Str × Value)}{m:Str->Option Value},(∀v,(x,v)∉binds)->bindL kindOf binds m x=m x
 |[],_,_=>rfl
 |(n,v)::r,m,h=>by
  unfold bindL;rw[jj λw hw=>h w (tU _ hw)]
  split
  .have:x≠n:=by rintro rfl;exact h v tW
   simp[this]
  .rfl
theorem jk{kindOf:Str->Option NameKind}:∀{binds:List (Str × Value)}{m:Str->Option Value},(∀v,(x,v)∉binds)->bindC kindOf binds m x=m x
 |[],_,_=>rfl
 |(n,v)::r,m,h=>by
  unfold bindC;rw[jk λw hw=>h w (tU _ hw)]
  split
  .rfl
  .have:x≠n:=by rintro rfl;exact h v tW
   simp[this]
theorem jl{kindOf:Str->Option NameKind}:∀{P:List Str}{vs:List Value}{i:Nat}{m:Str->Option Value},P.Nodup->P[i]? =some x->vs[i]? =some v->kindOf x=some .local->
  bindL kindOf (P.zip vs) m x=some v
 |[],_,_,_,_,h,_,_=>by simp at h
 |_::_,[],_,_,_,_,h,_=>by simp at h
 |p::P,w::vs,0,m,nd,h1,h2,hk=>by
  simp at h1 h2;subst h1;subst h2;show bindL kindOf ((p,w)::P.zip vs) m p=_;unfold bindL;rw[jj λv hv=>(ydb.mp nd).1 (ydQ hv).1,yai hk];simp
 |p::P,w::vs,i+1,m,nd,h1,h2,hk=>by
  show bindL kindOf ((p,w)::P.zip vs) m x=_;unfold bindL;exact jl (i:=i) (ydb.mp nd).2 (by simpa using h1) (by simpa using h2) hk
theorem jm{kindOf:Str->Option NameKind}:∀{P:List Str}{vs:List Value}{i:Nat}{m:Str->Option Value},P.Nodup->P[i]? =some x->vs[i]? =some v->kindOf x≠some .local->
  bindC kindOf (P.zip vs) m x=some v
 |[],_,_,_,_,h,_,_=>by simp at h
 |_::_,[],_,_,_,_,h,_=>by simp at h
 |p::P,w::vs,0,m,nd,h1,h2,hk=>by
  simp at h1 h2;subst h1;subst h2;show bindC kindOf ((p,w)::P.zip vs) m p=_;unfold bindC;rw[jk λv hv=>(ydb.mp nd).1 (ydQ hv).1,yag hk];simp
 |p::P,w::vs,i+1,m,nd,h1,h2,hk=>by
  show bindC kindOf ((p,w)::P.zip vs) m x=_;unfold bindC;exact jm (i:=i) (ydb.mp nd).2 (by simpa using h1) (by simpa using h2) hk
noncomputable def start(N:List Str)(vs:List V):St:=vs.map some++replicate (N.length-vs.length) none
noncomputable def jn(CX:de)(P:Program)(w:World)(K:Frag)(mg:Str->Option Value)(Y:Heap)(N:List Str)(qual:Str)(scope:Scope)(f:Addr)(cd:Value)(A:Around)(L:List Env)(s:Shared)(H:Hp)(E:XK):Cx where
 prog:=P
 w:=w
 K:=K
 mg:=mg
 Y:=Y
 A:=A.deeper (envOfC qual scope s.heap.objs.size f cd)
 N:=N
 s₀:=s
 H₀:=H
 env:=envOfC qual scope s.heap.objs.size f cd
 L:=L
 stack:=envOfC qual scope s.heap.objs.size f cd::L
 ex:=[]
 calm:=true
 fn:=λ_=>true
 pn:=[]
 xe:=λe s'=>wpAny (model P w) (A.deeper (envOfC qual scope s.heap.objs.size f cd)) (leaving (envOfC qual scope s.heap.objs.size f cd) e) (λ_ fc=>CX L H s E e fc) (λe' fc=>CX L H s E e' fc) s'
def xD{sc:Scope}(h:sc.names.lookup x=some .cell):∃c,(cellsFrom n sc.names []).lookup x=some c:=by
 have q:=cellsFrom_some sc.names n [] (.inl h);exact Option.isSome_iff_exists.mp q
def vJ{CX:de}{K:Frag}{Y:Heap}{N ps:List Str}{qual:Str}{scope:Scope}{cd:Value}{L:List Env}{s s1:Shared}{H:Hp}{E:XK}{us:List Value}{vs:List V}(S:af N ps scope)(hd:A.handled=none)(e0:cz P w K mg Y A L s H)(hl:vs.length=ps.length)(r:Vals vs us)(x:InCallC s s.heap.objs.size (bindL (envOfC qual scope s.heap.objs.size f cd).kindOf (ps.zip us) λ_=>none) (cellsFrom (s.heap.objs.size+1) scope.names []) (bindC (envOfC qual scope s.heap.objs.size f cd).kindOf (ps.zip us) λ_=>none) s1):Inv (jn CX P w K mg Y N qual scope f cd A L s H E) [] (start N vs) H s1:=by
 have db:ps.length<=N.length:=by have:=yaF List.length S.pre;rw[tX]at this;lia
 obtain⟨h1,tk,rfl,hk⟩:=x.done;have Aq:∀b:Addr,b∉(jn CX P w K mg Y N qual scope f cd A L s H E).ex:=λb z=>absurd (show b∈([]:List Addr)from z) (by simp);refine⟨⟨e0.mod,S.kind,Z,Z,tN _,λy z c h1 h2=>?_,λy hy=>?_,λy c _ h=>?_,λ_=>hd,Around.frames_deeper e0.frames,.inr ⟨Z,Z⟩,λb z=>absurd z (Aq b),e0.bs,e0.ip,λb _ _=>Aq b,λb z=>absurd z (Aq b),e0.vk,e0.i6⟩,
  Z,e0.bare,Un.kept hk,⟨_,x.toInCall.ns,λi y v h1 h2 h3=>?_⟩,λy c h=>⟨_,x.cell y c h⟩,e0.ao.fresh (tN _),λy c h=>?_,λp hp=>absurd (show p∈([]:List (Addr × Obj))from hp) (by simp),e0.ao.kept hk,?_⟩
 .exact name_of_addr x.apart (yci h1) (yci h2)
 .have hy:scope.names.lookup y=some .cell\/scope.names.lookup y=some .free:=hy;rcases hy with hy|hy
  .exact xD hy
  .exact absurd rfl (S.j' _ (yci hy))
 .exact ycW (x.above y c (yci h))
 .have hi:i<vs.length:=by
   unfold start at h2
   by_cases hi:i<vs.length
   .exact hi
   .rw[ybM (by simpa using hi)]at h2;rw[yew]at h2
    split at h2<;>cases h2
  have ha:vs[i]? =some v:=by
   unfold start at h2;rw[ybX (by simpa using hi),lg]at h2;cases e:vs[i]? with
   |none=>rw[e]at h2;cases h2
   |some a=>rw[e]at h2;cases h2;rfl
  obtain⟨u,hu,rv⟩:=r.get ha;have hp:ps[i]? =some y:=by
   rw[<-S.pre,yet (by lia)];exact h1
  have IL:ps.Nodup:=by rw[<-S.pre];exact S.nd.sublist (List.take_sublist _ _)
  exists u,rv;rcases S.par y (lh hp)with k|k
  .exact .inl ⟨k,jl IL hp hu k⟩
  .obtain⟨c,e⟩:=xD (n:=s.heap.objs.size+1) k;refine .inr ⟨.inl k,c,e,?_⟩;have q:=x.cell y c e;rw[jm IL hp hu (by show scope.names.lookup y≠_;rw[k];lia)]at q;exact q
 .exact e0.ao.fresh (ycW (x.above y c (yci h)))
 .unfold start;show _=N.length;rw[tJ,tK,lj];lia
def IM{CX:de}{K:Frag}{Y:Heap}{k:Nat}{name qual:Str}{params:Arguments}{body:List Stmt}{scope:Scope}{dV kV doc pm am ct oc:Value}{an od:Option Addr}{ge:Array (Option Value)}{N ps:List Str}{sp:Sp}(lk:K.lookup f=some ⟨oc,od,.func (fnOf name qual params body scope dV kV doc pm an am ct),ge⟩)(cM:codeIn K am qual=true)(S:af N ps scope)(len:∀vs H Q E,sp vs H Q E->vs.length=ps.length)(dL:∀(A:Around)(L:List Env)(s:Shared)(H:Hp)(vs:List V)(Q:VK)(E:XK),Zd k (A.deeper (envOfC qual scope s.heap.objs.size f am))->sp vs H Q E->
   ∃t,cq (jn CX P w K mg Y N qual scope f am A L s H E) body t/\t {nx:=λ_ H'=>Q .aq H',rt:=Q} (start N vs) H):
  ak P w K mg Y CX (k+1) f (fnOf name qual params body scope dV kV doc pm an am ct) ps sp:=by
 refine⟨len,λA L s H args us vs Q E hr e0 hb r GE=>?_⟩;have hl:=len _ _ _ _ GE;have KX:K.In s.heap:=e0.mod.i5.keeps λb o e=>(e0.bs b o e).1;have lim:s.heap.NoLimit:=e0.mod.nolimit.keeps λb o e=>(e0.bs b o e).1;have Ar:∀y∈ps.zip us,scope.names.lookup y.1=some .local\/(scope.names.lookup y.1=some .cell/\((cellsFrom (s.heap.objs.size+1) scope.names []).lookup y.1).isSome=true):=λ⟨n,v⟩ hy=>by
  rcases S.par n (ydQ hy).1 with q|q
  .exact .inl q
  .exact .inr ⟨q,cellsFrom_some _ _ _ (.inl q)⟩
 refine codeAny_call_function hr.depth (KX _ _ lk) rfl S.co S.gen rfl (codeRec_of KX cM) (hb _ _ _ _ ?_);refine wpAny_newFunctionEnv_cells S.kind Ar λenv he s1 x=>?_;subst he;refine⟨lim.keeps x.toInCall.keep,codeAny_func ?_⟩;obtain⟨t,ht,hq⟩:=dL A L s H vs Q E (hr.deeper _) GE;have I:Inv (jn CX P w K mg Y N qual scope f am A L s H E) [] (start N vs) H s1:=vJ S hr.hd e0 hl r x;refine yaU (ht [] s1 (start N vs) H _ I hq) (λfl s' hs=>?_) λe s' hs=>hs;have fin:∀{σ':St}{H':Hp}{v:V}{u:Value},Inv (jn CX P w K mg Y N qual scope f am A L s H E) [] σ' H' s'->RelV v u->Q v H'->CE L P w H s Q u s':=
  λ{σ' H' v u} J rv q=>⟨v,H',J.os,J.bare,J.Y,J.ao,rv,q⟩
 cases fl with
 |ret u=>
  obtain⟨v,σ',H',J,rv,q⟩:=hs;exact fin J rv q
 |next=>
  obtain⟨σ',H',J,q⟩:=hs;exact fin (v:=V.aq) (u:=Value.none) J rfl q
 |brk=>
  obtain⟨_,_,_,q⟩:=hs;exact False.elim q
 |cont=>
  obtain⟨_,_,_,q⟩:=hs;exact False.elim q
section
variable {X:Cx}{x:Str}{p pos:Pos}{e:Expr}{es:List Expr}{t:TA}{id T:String}{r:List V->Hp->VK->Prop}
def lI(r:List V->Hp->VK->Prop)(t:TA):TE:=λσ H Q=>t σ H λvs H1=>r vs H1 Q
def Qx(hc:WL X (.builtin id) r)(hg:Gl X x)(hm:X.mg x=none)(hv:bootBuiltins x=some (.builtin id))(ha:PA X (e::es) t)(hn:x≠"__name__":=by lia)(mo:(x==("__debug__":Str))=false:=by lia)(he:starEach (e::es) X.env=(false,eval e X.env)::starEach es X.env:=by rfl)(db:(backTo pos (starEach es X.env)).any (·.1)=false:=by rfl):PE X (.Call (.Name x p) (e::es) [] pos) (lI r t):=by
 intro U s σ H Q I h;refine yaX (ZV I hg hm hv ?_ hn mo);exact PyProof.Rows.callWith_builtin1 (ay (ha pos U s σ H _ I h) λus s1⟨vs,H1,I1,r1,q1⟩=>hc U s1 σ H1 vs us Q I1 r1 q1) he db
def XZ(hc:WL X (.type T) r)(hg:Gl X x)(hm:X.mg x=none)(hv:bootBuiltins x=some (.type T))(ha:PA X (e::es) t)(hn:x≠"__name__":=by lia)(mo:(x==("__debug__":Str))=false:=by lia)(he:starEach (e::es) X.env=(false,eval e X.env)::starEach es X.env:=by rfl)(db:(backTo pos (starEach es X.env)).any (·.1)=false:=by rfl):PE X (.Call (.Name x p) (e::es) [] pos) (lI r t):=by
 intro U s σ H Q I h;refine yaX (ZV I hg hm hv ?_ hn mo);exact yav (ay (ha pos U s σ H _ I h) λus s1⟨vs,H1,I1,r1,q1⟩=>hc U s1 σ H1 vs us Q I1 r1 q1) he db
end
end L2
namespace HT
open PySem PyProof.Rows
section
open PySem.SeqAt
open PySem.AutoSeq1 (wpAny_loadPart')
open PySem.MeetsSeq PySem.MeetsSeq2 PySem.MeetsSeq3
end
section
variable {prog:Program}
def PF{vs ws:List Value}(ht:IsTup s.heap t vs.toArray)(hb:IsTup s.heap b ws.toArray)(hv:vs≠[])(h1:ws=[]->Q (.ref t) s)(h2:ws≠[]->Q (.ref s.heap.objs.size) {s with heap:=s.heap.push {cls:=.type "tuple",data:=.seq (vs++ws).toArray}})(hsz:vs.length+ws.length<=sizeLine):wpAny (model prog w) A (binaryOp .Add (.ref t) (.ref b)) Q E s:=by
 obtain⟨⟨cls,dd,data,sl⟩,ho,hc,n,hd⟩:=id ht;obtain⟨⟨EG,o7,data2,o8⟩,Ps,df,n2,hd2⟩:=id hb;simp only at hc hd df hd2;subst hc hd df hd2;have e:vs.toArray++ws.toArray=(vs++ws).toArray:=by simp
 by_cases hw:ws=[]
 .exact concat_meets ⟨_,ho,Z⟩ ⟨_,Ps,Z⟩ yeF seq_tuple_add slot_tuple_add entry_tuple_add (yeG _ _)
   (tuple_addW1 t b vs.toArray ws.toArray n n2 dd o7 sl o8 (by simpa using hv) (by simp[hw])) ⟨ho,Ps,h1 hw⟩
 .refine concat_meets ⟨_,ho,Z⟩ ⟨_,Ps,Z⟩ yeF seq_tuple_add slot_tuple_add entry_tuple_add (yeG _ _)
   (tuple_addW2 t b vs.toArray ws.toArray n n2 dd o7 sl o8 (by simpa using hv) (by simpa using hw) (by rw[lE,lE];exact hsz)) ⟨ho,Ps,?_⟩
  rw[e];exact h2 hw
noncomputable def aF(n d:Nat):Option Int->Nat
 |none=>d
 |some v=>if v<0 then(v+(n:Int)).toNat else min v.toNat n
def xE(n d:Nat):aF n d none=d:=rfl
def Xx(n d k:Nat):aF n d (some (k:Int))=min k n:=by
 show(if(k:Int)<0 then((k:Int)+(n:Int)).toNat else min (k:Int).toNat n)=min k n;rw[yag (by lia),lH]
def PH(n d:Nat)(hd:d<=n)(o:Option Int):aF n d o<=n:=by
 cases o with
 |none=>exact hd
 |some v=>
  show(if v<0 then(v+(n:Int)).toNat else min v.toNat n)<=n
  by_cases hv:v<0
  .rw[yai hv];lia
  .rw[yag hv];exact Nat.min_le_right _ _
def vK(v:Int)(n d:Nat):(if v<0 then max (v+(n:Int)) 0 else min v (n:Int))=((aF n d (some v):Nat):Int):=by
 show(if v<0 then max (v+(n:Int)) 0 else min v (n:Int))=(((if v<0 then(v+(n:Int)).toNat else min v.toNat n):Nat):Int)
 by_cases hv:v<0
 .simp only[yai hv];lia
 .simp only[yag hv];lia
def wj(lo hi:Option Int)(n:Nat):Builtin.Slice.sliceAdjust lo hi 1 (n:Int)=(((aF n 0 lo:Nat):Int),((aF n n hi:Nat):Int)):=by
 have h1:¬ ((1:Int)<0):=by lia
 unfold Builtin.Slice.sliceAdjust;simp only[h1,yaM];refine Prod.ext ?_ ?_
 .cases lo with
  |none=>rfl
  |some v=>exact vK v n 0
 .cases hi with
  |none=>rfl
  |some v=>exact vK v n n
def wl(i j:Nat):Builtin.Slice.slicePlaces (i:Int) (j:Int) 1=j-i:=by
 unfold Builtin.Slice.slicePlaces;have h1:(1:Int)>0:=by lia
 simp only[h1,ybN,ydt]
 split<;>lia
def Y9(p:IsPart v o)(h:Q o s):wpAny (model prog w) A (Builtin.Slice.slicePartIndex v) Q E s:=by
 cases p with
 |none=>exact slicePart_none h
 |int i t=>exact slicePart_int h
def XV{lo hi:Option Int}{n:Nat}(hs:s.heap.IsSliceOf sl vl vu .none)(pl:IsPart vl lo)(pu:IsPart vu hi)(h:Q (((aF n 0 lo:Nat):Int),1,aF n n hi-aF n 0 lo) s):wpAny (model prog w) A (Builtin.Slice.sliceApplied (.ref sl) (pure (n:Int))) Q E s:=by
 obtain⟨os,lJ,SC,fe⟩:=id hs;unfold Builtin.Slice.sliceApplied Builtin.Slice.sliceFields;refine yaa (yaa (yaH lJ fe (x:=vl) Z (yaa (yaH lJ fe (x:=vu) Z (yaa (yaH lJ fe (x:=.none) Z (yac ?_)))))));refine yaa (slicePart_none ?_);show wpAny _ _ (if((1:Int)==0)=true then _ else _) _ _ s;rw[yag (by lia)];refine yaa (Y9 pl (yaa (Y9 pu (yaa (yac ?_)))));show wpAny _ _ (match Builtin.Slice.sliceAdjust lo hi 1 (n:Int)with|(lo,hi)=>pure (lo,(1:Int),Builtin.Slice.slicePlaces lo hi 1)) _ _ s;rw[wj lo hi n];show wpAny _ _ (pure (((aF n 0 lo:Nat):Int),(1:Int),Builtin.Slice.slicePlaces ((aF n 0 lo:Nat):Int) ((aF n n hi:Nat):Int) 1)) _ _ s;rw[wl];exact yac h
def PJ(xs:Array Value)(i k:Nat):((List.range k).filterMap λ(m:Nat)=>xs[((i:Int)+(m:Int)*1).toNat]?).toArray=((xs.toList.drop i).take k).toArray:=by
 have e:(λ(m:Nat)=>xs[((i:Int)+(m:Int)*1).toNat]?)=λm=>xs[i+m]? :=by
  funext m
  have:((i:Int)+(m:Int)*1).toNat=i+m:=by lia
  rw[this]
 rw[e];have:=pick_run xs i k;rw[List.filterMap_map]at this;have e2:((λx=>xs[x]?)∘λx=>i+x)=λm=>xs[i+m]? :=rfl;rw[e2]at this;rw[this]
def WN{items:Array Value}{lo hi:Option Int}(ht:IsTup s.heap t items)(hs:s.heap.IsSliceOf sl vl vu .none)(pl:IsPart vl lo)(pu:IsPart vu hi)(hw:¬ (aF items.size 0 lo=0/\aF items.size items.size hi=items.size))(h:Q (.ref s.heap.objs.size) {s with heap:=s.heap.push {cls:=.type "tuple",data:=.seq ((items.toList.drop (aF items.size 0 lo)).take (aF items.size items.size hi-aF items.size 0 lo)).toArray}})(hsz:items.size<=sizeLine):wpAny (model prog w) A (getItem (.ref t) (.ref sl)) Q E s:=by
 have SL:sizeOk (.seq ((items.toList.drop (aF items.size 0 lo)).take (aF items.size items.size hi-aF items.size 0 lo)).toArray):=by
  show((items.toList.drop (aF items.size 0 lo)).take (aF items.size items.size hi-aF items.size 0 lo)).toArray.size<=sizeLine;rw[lE,tX,tY,lD];lia
 have hj:aF items.size items.size hi<=items.size:=PH _ _ (tN _) hi;obtain⟨os,lJ,SC,fe⟩:=id hs;have EH:s.TypeIs (.ref sl) "slice":=⟨os,lJ,SC⟩;unfold getItem
 try with_reducible refine ybf ?_
 first|refine yaa (yac ?_)|skip
 refine yaa (wpAny_sequenceKey ht.typeIs (by lia) ?_);refine yaa (yaQ (name:=Str.ofString "__getitem__") ht.typeIs ybr
  (yaN ybr ht.typeIs entry_tuple_getitem ?_ (args_tuple_getitem _ _)))
 show wpAny _ _ (Builtin.Tuple.tupleItemsOf (.ref t)>>=_) _ _ s;refine yaa (tupleItemsOf_ ht ?_);refine yaa (ydu EH ?_);rw[yai (by lia)];refine yaa (XV hs pl pu ?_);have ST:¬ ((((aF items.size 0 lo:Nat):Int)==0&&(1:Int)==1&&(aF items.size items.size hi-aF items.size 0 lo)==items.size)=true):=by
  intro q;rw[yax,yax]at q;have q1:((aF items.size 0 lo:Nat):Int)=0:=yeP q.1.1;have q2:aF items.size items.size hi-aF items.size 0 lo=items.size:=yeP q.2;exact hw ⟨by lia,by lia⟩
 show wpAny _ _ (if(((aF items.size 0 lo:Nat):Int)==0&&(1:Int)==1&&(aF items.size items.size hi-aF items.size 0 lo)==items.size)=true then _ else _) _ _ s;rw[yag ST,PJ]
 first
  |exact yaa (m:=Builtin.Tuple.tupleExact _) (yaW (yac ⟨_,rfl,yac h⟩) SL)
  |exact yaa (m:=Builtin.Tuple.tupleExact _) (yaW (yaa (yac (yac ⟨_,rfl,yac h⟩))) SL)
  |exact yaa (yaa (m:=Builtin.Tuple.tupleExact _) (yaW (yac (yac ⟨_,rfl,yac h⟩)) SL))
  |exact yaa (yaa (m:=Builtin.Tuple.tupleExact _) (yaW (yac ⟨_,rfl,yac h⟩) SL))
end
end HT
namespace L2
open PySem PySem.Spec PyProof.Rows
noncomputable abbrev TO:=St->Hp->(Option Int->Hp->Prop)->Prop
def PO(X:Cx)(e:Option Expr)(t:TO):Prop:=
 ∀(U:List (Addr × Obj))(s:Shared)(σ:St)(H:Hp)(Q:Option Int->Hp->Prop),Inv X U σ H s->t σ H Q->
  wpAny (model X.prog X.w) X.A (evalPart e X.env) (λu s'=>∃o H',Inv X U σ H' s'/\IsPart u o/\Q o H') X.xe s
def zu:TO:=λ_ H Q=>Q none H
def EI(t:TE):TO:=λσ H Q=>t σ H λx H1=>∃i,x=.int i/\Q (some i) H1
section
variable {lo:Option Expr}{tl:TO}{pos:Pos}
def JK:PO X none zu:=by
 intro U s σ H Q I h;rw[evalPart_none];exact yac ⟨none,H,I,.none,h⟩
def QQ(h:PE X e te):PO X (some e) (EI te):=by
 intro U s σ H Q I hw;rw[evalPart_some];refine ay (h U s σ H _ I hw) λu s1⟨x,H1,I1,r1,q1⟩=>?_;obtain⟨i,rfl,q⟩:=q1;obtain⟨t,rfl⟩:=r1;exact⟨some i,H1,I1,.int i t,q⟩
def As(X:Cx)(r:V->Option Int->Option Int->Hp->VK->Prop):Prop:=
 ∀(U:List (Addr × Obj))(s:Shared)(σ:St)(H:Hp)(x:V)(v vl vu:Value)(lo hi:Option Int)(sl:Addr)(Q:VK),Inv X U σ H s->RelV x v->s.heap.IsSliceOf sl vl vu .none->IsPart vl lo->IsPart vu hi->r x lo hi H Q->
  ∃T id,typeLookup (.type T) "__getitem__"=pure (some (.builtin id))/\s.TypeIs v T/\wpAny (model X.prog X.w) X.A (getItem v (.ref sl)) (EP X U σ Q) X.xe s
def EJ(r:V->Option Int->Option Int->Hp->VK->Prop)(te:TE)(tl th:TO):TE:=λσ H Q=>te σ H λx H1=>tl σ H1 λl H2=>th σ H2 λu H3=>r x l u H3 Q
def QR(hr:As X r)(he:PE X e te)(hl:PO X lo tl)(hu:PO X hi th):PE X (.Subscript e (.Slice lo hi none p2) pos) (EJ r te tl th):=by
 intro U s σ H Q I h;refine Subscript_ (ay (he U s σ H _ I h) λv s1⟨x,H1,I1,r1,q1⟩=>?_);refine wpAny_Slice (ay (hl U s1 σ H1 _ I1 q1) λvl s2⟨l,H2,I2,pl,q2⟩=>ay (hu U s2 σ H2 _ I2 q2) λvu s3⟨u,H3,I3,pu,q3⟩=>?_);rw[evalPart_none];refine yac ?_;have I4:Inv X U σ H3 {s3 with heap:=s3.heap.push {cls:=.type "slice",data:=.fields #[vl,vu,.none]}}:=I3.kept (t':=s3.toks) λb ob q=>yab _ q;obtain⟨T,id,hT,ht,hg⟩:=hr U {s3 with heap:=s3.heap.push {cls:=.type "slice",data:=.fields #[vl,vu,.none]}} σ H3 x v vl vu l u s3.heap.objs.size Q I4 r1 (Heap.IsSliceOf.new ..) pl pu q3;show wpAny (model X.prog X.w) X.A (subscriptTail e (.Slice lo hi none p2) v (.ref s3.heap.objs.size)) (EP X U σ Q) X.xe {s3 with heap:=s3.heap.push {cls:=.type "slice",data:=.fields #[vl,vu,.none]}};exact tail_any (ops:=[.ref s3.heap.objs.size,v]) ht hT hg (by with_unfolding_all rfl)
noncomputable def jc(xs:List V)(lo hi:Option Int):List V:=(xs.drop (HT.aF xs.length 0 lo)).take (HT.aF xs.length xs.length hi-HT.aF xs.length 0 lo)
def VP(xs:List V)(lo hi:Option Int):(jc xs lo hi).length<=xs.length:=by
 unfold jc;rw[tX,tY];lia
def PL(K:Frag):V->Option Int->Option Int->Hp->VK->Prop:=λx lo hi H Q=>∃a xs,x=.ref a/\aw K H a xs/\
 ¬ (HT.aF xs.length 0 lo=0/\HT.aF xs.length xs.length hi=xs.length)/\∀p,H p=none->Q (.ref p) (upd H p (.tup (jc xs lo hi)))
def IP:As X (PL X.K):=by
 intro U s σ H x v vl vu lo hi sl Q I rx hs pl pu h;obtain⟨a,xs,rfl,hx,hw,q⟩:=h;cases rx;obtain⟨its,r,ht,hz⟩:=I.tuple hx;have hlen:its.toArray.size=xs.length:=by rw[lE];exact r.length.symm
 exists "tuple",_,PyProof.Rows.slot_tuple_getitem.lookup,ht.typeIs;refine HT.WN ht hs pl pu (by rw[hlen];exact hw) ?_ (by rw[hlen];exact hz);rw[hlen];refine⟨.ref s.heap.objs.size,_,I.laid (t':=s.toks) (o:=.tup (jc xs lo hi)) (λb ob q=>yab _ q) (tN _) ?_,Z,q _ (I.ao.fresh (tN _))⟩;exact⟨yap (VP xs lo hi) hz,_,(r.drop (HT.aF xs.length 0 lo)).take (HT.aF xs.length xs.length hi-HT.aF xs.length 0 lo),VI.new _ _⟩
def PM(K:Frag):R2:=λx y H Q=>∃a b xs ys,x=.ref a/\y=.ref b/\aw K H a xs/\aw K H b ys/\xs≠[]/\xs.length+ys.length<=sizeLine/\
 (ys=[]->Q (.ref a) H)/\(ys≠[]->∀p,H p=none->Q (.ref p) (upd H p (.tup (xs++ys))))
def Vals.Uy{xs:List V}{us:List Value}(r:Vals xs us):us=[]↔xs=[]:=by
 cases r with
 |nil=>simp
 |cons _ _=>simp
def PN:aQ X (binaryOp .Add) (PM X.K):=by
 intro U s σ H x y v u Q I rx ry h;obtain⟨a,b,xs,ys,rfl,rfl,ha,hb,hx,hz,q1,q2⟩:=h;cases rx;cases ry;obtain⟨its,r1,p1,_⟩:=I.tuple ha;obtain⟨ce,r2,p2,_⟩:=I.tuple hb;refine HT.PF p1 p2 (λz=>hx (r1.Uy.mp z)) (λz=>⟨.ref a,H,I,Z,q1 (r2.Uy.mp z)⟩) (λz=>?_) (by rw[<-r1.length, <-r2.length];exact hz);refine⟨.ref s.heap.objs.size,_,I.laid (t':=s.toks) (o:=.tup (xs++ys)) (λb ob q=>yab _ q) (tN _) ?_,Z,q2 (λw=>z (r2.Uy.mpr w)) _ (I.ao.fresh (tN _))⟩;exact⟨by rw[tJ];exact hz,_,r1.append r2,VI.new _ _⟩
end
noncomputable def fg(n:Nat)(i:Int):Option Nat:=if 0<=i then(if i<n then some i.toNat else none)else if-(n:Int)<=i then some (i+n).toNat else none
noncomputable def cA{α:Type}(xs:List α)(i:Int):Option α:=(fg xs.length i).bind λj=>xs[j]?
def vL(h:fg n i=some j):seqIndex? i n=some j/\j<n/\ -(n:Int)<=i/\i<n:=by
 unfold fg at h
 by_cases h0:0<=i
 .rw[yai h0]at h
  by_cases h1:i<n
  .rw[yai h1]at h;have e:i.toNat=j:=tO h;exact⟨by rw[seqIndex_of h0 h1,e],by lia,by lia,h1⟩
  .rw[yag h1]at h;cases h
 .rw[yag h0]at h
  by_cases h1: -(n:Int)<=i
  .rw[yai h1]at h;have e:(i+n).toNat=j:=tO h;exact⟨by rw[seqIndex_neg (by lia) h1,e],by lia,h1,by lia⟩
  .rw[yag h1]at h;cases h
def zw{xs:List α}(h:cA xs i=some v):∃j,seqIndex? i xs.length=some j/\xs[j]? =some v/\j<xs.length/\ -(xs.length:Int)<=i/\i<xs.length:=by
 unfold cA at h;cases e:fg xs.length i with
 |none=>rw[e]at h;cases h
 |some j=>
  rw[e]at h;obtain⟨h1,h2,h3,h4⟩:=vL e;exact⟨j,h1,h,h2,h3,h4⟩
def Zr{α:Type}{xs:List α}{j:Nat}{v:α}(h:xs[j]? =some v):cA xs (j:Int)=some v:=by
 have hj:j<xs.length:=(yaf.mp h).1;have e:fg xs.length (j:Int)=some j:=by
  unfold fg;rw[yai (by lia),yai (by lia)];simp
 unfold cA;rw[e];exact h
def Uz(xs:List α)(v:α):cA (xs++[v]) (-1)=some v:=by
 have hl:(xs++[v]).length=xs.length+1:=by simp
 have e:fg (xs++[v]).length (-1)=some xs.length:=by
  unfold fg;rw[hl,yag (by lia),yai (by lia)]
  congr 1
  lia
 unfold cA;rw[e];show(xs++[v])[xs.length]? =some v;simp
def PQ(b:Expr):Prop:=∀o i,subscripted b false o i=operate [o,i] (getItem o i)
def Au(X:Cx)(r:R2):Prop:=
 ∀(value slice:Expr)(U:List (Addr × Obj))(s:Shared)(σ:St)(H:Hp)(x y:V)(v u:Value)(Q:VK),Inv X U σ H s->RelV x v->RelV y u->r x y H Q->
  subscripted slice false v u=operate [v,u] (getItem v u)->wpAny (model X.prog X.w) X.A (subscriptTail value slice v u) (EP X U σ Q) X.xe s
def dB(X:Cx)(id:String)(r:V->List V->Hp->VK->Prop):Prop:=
 ∀(U:List (Addr × Obj))(s:Shared)(σ:St)(H:Hp)(x:V)(xs:List V)(v:Value)(us:List Value)(Q:VK),Inv X U σ H s->RelV x v->Vals xs us->r x xs H Q->
  wpAny (model X.prog X.w) X.A (call (.builtin id) (v::us)) (EP X U σ Q) X.xe s
section
variable {pos:Pos}
def QC(hr:Au X r)(ha:PE X a ta)(hb:PE X b tb)(hs:PQ b):PE X (.Subscript a b pos) (cg r ta tb):=by
 intro U s σ H Q I h;exact Subscript_ (Ey ha hb I h λv u s2 x y H2 I2 rx ry q=>hr a b U s2 σ H2 x y v u Q I2 rx ry q (hs _ _))
def Cw(K:Frag):R2:=λx y H Q=>∃p xs i v,x=.ref p/\y=.int i/\aC K H p xs/\cA xs i=some v/\Q v H
def EK(K:Frag):R2:=λx y H Q=>∃p xs i v,x=.ref p/\y=.int i/\aw K H p xs/\cA xs i=some v/\Q v H
def PU:R2:=λx y H Q=>∃z i c,x=.str z/\y=.int i/\z.length<=sizeLine/\cA z.cps.toList i=some c/\Q (.str ⟨#[c]⟩) H
def Jv:Au X (Cw X.K):=by
 intro value slice U s σ H x y v u Q I rx ry h hs;obtain⟨p,xs,i,z,rfl,rfl,hq,he,q⟩:=h;cases rx;obtain⟨t,rfl⟩:=ry;obtain⟨its,r,pl,hz⟩:=I.list hq;obtain⟨j,h1,h2,h3,h4,h5⟩:=zw he;obtain⟨w,ew,Os⟩:=r.get h2;have hl:=r.length;have hn:=Xm;have fin:EP X U σ Q w s:=⟨z,H,I,Os,q⟩
 by_cases h0:0<=i
 .have hj:i.toNat=j:=by
   rw[seqIndex_of h0 h5]at h1;exact tO h1
  exact item_listR pl.isList h0 (by lia) (by rw[hj];simpa using ew) fin hs
 .have hj:(i+(its.toArray.size:Int)).toNat=j:=by
   rw[seqIndex_neg (by lia) h4]at h1;rw[lE, <-hl];exact tO h1
  exact subscriptTail_builtinR (x:=w) pl.isList.typeIs slot_list_getitem.lookup
   (wpAny_getItem_list_neg (Q:=λr s'=>r=w/\EP X U σ Q r s') pl.isList (by lia) (by rw[lE]<;>lia) (by lia) (by rw[hj];simpa using ew) ⟨Z,fin⟩) hs
def JE:Au X (EK X.K):=by
 intro value slice U s σ H x y v u Q I rx ry h hs;obtain⟨p,xs,i,z,rfl,rfl,hq,he,q⟩:=h;cases rx;obtain⟨t,rfl⟩:=ry;obtain⟨its,r,pl,hz⟩:=I.tuple hq;obtain⟨j,h1,h2,h3,h4,h5⟩:=zw he;obtain⟨w,ew,Os⟩:=r.get h2;have hl:=r.length;have hn:=Xm;have fin:EP X U σ Q w s:=⟨z,H,I,Os,q⟩;exact subscriptTail_builtinR (x:=w) pl.typeIs slot_tuple_getitem.lookup
  (getItem_tuple (j:=j) (Q:=λr s'=>r=w/\EP X U σ Q r s') pl (by lia) (by lia) (by rw[lE, <-hl];exact h1) (by simpa using ew) ⟨Z,fin⟩) hs
def Wl:Au X PU:=by
 intro value slice U s σ H x y v u Q I rx ry h hs;obtain⟨z,i,c,rfl,rfl,hz,he,q⟩:=h;obtain⟨t,rfl⟩:=rx;obtain⟨t',rfl⟩:=ry;obtain⟨j,h1,h2,h3,h4,h5⟩:=zw he;have hl:z.cps.toList.length=z.length:=by simp[Str.length]
 rw[hl]at h1 h4 h5;have hn:=Xm;exact tail_any (ydL s z t) slot_str_getitem.lookup (getItem_str (c:=c) (by
  have e1:decide (i< -(2^63:Int))=false:=tL (by lia);have e2:decide (i≥2^63)=false:=tL (by lia);rw[e1,e2,Bool.or_false]) (by rw[h1];simpa using h2) ⟨.str ⟨#[c]⟩,H,I.tok _,⟨_,Z⟩,q⟩) hs
def wm(its:List Value)(n j:Nat)(u:Value):Obj.mapSeq (·.setIfInBounds j u) {cls:=.type "list",data:=.seq its.toArray n}={cls:=.type "list",data:=.seq (its.set j u).toArray n}:=by
 simp[Obj.mapSeq]
theorem Inv.lst{U:List (Addr × Obj)}{σ:St}{H:Hp}{s:Shared}{p:Addr}{xs:List V}(I:Inv X U σ H s)(h:H p=some (.lst xs)):∃(its:List Value)(n:Nat),Vals xs its/\s.heap.get? p=some {cls:=.type "list",data:=.seq its.toArray n}/\xs.length<=sizeLine:=by
 obtain⟨z,its,n,r,e⟩:=I.ao p _ h;exact⟨its,n,r,e,z⟩
def Inv.PV{U:List (Addr × Obj)}{σ:St}{xs ys:List V}{its its':List Value}{n n':Nat}(I:Inv X U σ H s)(h:H p=some (.lst xs))(ho:s.heap.get? p=some {cls:=.type "list",data:=.seq its.toArray n})(hf:f {cls:=.type "list",data:=.seq its.toArray n}={cls:=.type "list",data:=.seq its'.toArray n'})(r:Vals ys its')(hz:ys.length<=sizeLine)(t:Nat):Inv X U σ (upd H p (.lst ys)) {s with heap:=s.heap.update p f,toks:=t}:=by
 have e:(s.heap.update p f).get? p=some {cls:=.type "list",data:=.seq its'.toArray n'}:=by
  rw[ybt f ho (by rw[hf]<;>rfl),hf]
 refine I.write (x:=p) (e:=p) (by rw[h];trivial) (.inl Z) (λb u hb q=>(ybL _ _ (Ne.symm hb)).trans q) ⟨_,e⟩ ?_;exact⟨hz,its',n',r,e⟩
def PX:V->V->V->Hp->(Hp->Prop)->Prop:=λo i v H Q=>∃p xs k j,o=.ref p/\i=.int k/\H p=some (.lst xs)/\fg xs.length k=some j/\Q (upd H p (.lst (xs.set j v)))
def set_list:Iv X PX:=by
 intro U s σ H o i v ov iv u Q I ro ri rv h;obtain⟨p,xs,k,j,rfl,rfl,hp,hj,q⟩:=h;cases ro;obtain⟨t,rfl⟩:=ri;obtain⟨its,n,r,ho,hz⟩:=I.lst hp;obtain⟨h1,h2,h3,h4⟩:=vL hj;have hl:=r.length;have hn:=Xm;have I':Inv X U σ (upd H p (.lst (xs.set j v))) {s with heap:=s.heap.update p (Obj.mapSeq (·.setIfInBounds j u))}:=
  I.PV hp ho (wm its n j u) (r.set rv j) (by rw[List.length_set];exact hz) s.toks
 by_cases h0:0<=k
 .have hk:k.toNat=j:=by
   rw[seqIndex_of h0 h4]at h1;exact tO h1
  exact ki_setAt ho h0 (by lia) (by rw[lE, <-hl];exact h4) (by rw[hk];exact⟨_,I',q⟩)
 .have hk:(k+(its.toArray.size:Int)).toNat=j:=by
   rw[seqIndex_neg (by lia) h3]at h1;rw[lE, <-hl];exact tO h1
  exact ki_setBack ho (by lia) (by rw[lE, <-hl];exact h3) (by lia) (by rw[hk];exact⟨_,I',q⟩)
def jo(lo hi:Option Int)(n:Nat):(sliceBounds lo hi none n).1=((HT.aF n 0 lo:Nat):Int)/\(sliceBounds lo hi none n).2.1=((HT.aF n n hi:Nat):Int)/\(sliceBounds lo hi none n).2.2=1:=by
 refine⟨?_,?_,Z⟩
 .cases lo with
  |none=>simp[sliceBounds,HT.aF]
  |some i=>
   simp only[sliceBounds,HT.aF,Option.getD_none,show(1:Int)>0 by lia,ybN]
   by_cases h:i<0
   .simp only[h,ybN]<;>lia
   .simp only[h,yaM]<;>lia
 .cases hi with
  |none=>simp[sliceBounds,HT.aF]
  |some i=>
   simp only[sliceBounds,HT.aF,Option.getD_none,show(1:Int)>0 by lia,ybN]
   by_cases h:i<0
   .simp only[h,ybN]<;>lia
   .simp only[h,yaM]<;>lia
def UA(its:List Value)(lo hi:Option Int):slicePick its.toArray lo hi none=((its.drop (HT.aF its.length 0 lo)).take (HT.aF its.length its.length hi-HT.aF its.length 0 lo)).toArray:=by
 obtain⟨h1,h2,h3⟩:=jo lo hi its.toArray.size;unfold slicePick;rw[h1,h2,h3];simp only[sliceRange_one,pick_run,lE]<;>rfl
def EL(K:Frag):V->Option Int->Option Int->Hp->VK->Prop:=λx lo hi H Q=>∃a xs,x=.ref a/\aC K H a xs/\∀p,H p=none->Q (.ref p) (upd H p (.lst (jc xs lo hi)))
def zx:As X (EL X.K):=by
 intro U s σ H x v vl vu lo hi sl Q I rx hs pl pu h;obtain⟨a,xs,rfl,hx,q⟩:=h;cases rx;obtain⟨its,r,ht,hz⟩:=I.list hx;have hlen:=r.length;exists "list",_,slot_list_getitem.lookup,ht.isList.typeIs;refine wpAny_getItem_list_slice ht.isList hs pl pu .none (by simp) ?_ (by rw[lE]<;>lia);rw[UA, <-hlen];refine⟨.ref s.heap.objs.size,_,I.laid (t':=s.toks) (o:=.lst (jc xs lo hi)) (λb ob q=>yab _ q) (tN _) ?_,Z,q _ (I.ao.fresh (tN _))⟩;exact⟨yap (VP xs lo hi) hz,_,0,(r.drop (HT.aF xs.length 0 lo)).take (HT.aF xs.length xs.length hi-HT.aF xs.length 0 lo),yah _ rfl⟩
noncomputable def VQ:V->Bool
 | .aq=>true
 | .bl _=>true
 | .int _=>true
 | .str _=>true
 |_=>false
noncomputable def fh:V->V->Bool
 | .aq,.aq=>true
 | .bl a,.bl b=>a==b
 | .bl a,.int b=>(if a then 1 else 0)==b
 | .int a,.bl b=>a==(if b then 1 else 0)
 | .int a,.int b=>a==b
 | .str a,.str b=>a==b
 |_,_=>false
def PY(ry:RelV y u)(rx:RelV x v)(fy:VQ y=true)(fx:VQ x=true):SeqAt.EqAt A s u v (fh y x):=by
 cases y with
 |aq=>
  cases ry;cases x with
  |aq=>cases rx;exact SeqAt.EqAt.same _
  |bl b=>cases rx;exact SeqAt.EqAt.none_bool b
  |int b=>obtain⟨t,rfl⟩:=rx;exact SeqAt.EqAt.none_int b t
  |str b=>obtain⟨t,rfl⟩:=rx;exact SeqAt.EqAt.none_str b t
  |_=>exact absurd (show false=true from fx) yal
 |bl a=>
  cases ry;cases x with
  |aq=>cases rx;exact SeqAt.EqAt.bool_none a
  |bl b=>cases rx;exact SeqAt.EqAt.bool_bool a b
  |int b=>obtain⟨t,rfl⟩:=rx;exact SeqAt.EqAt.bool_int a b t
  |str b=>obtain⟨t,rfl⟩:=rx;exact SeqAt.EqAt.bool_str a b t
  |_=>exact absurd (show false=true from fx) yal
 |int a=>
  obtain⟨t',rfl⟩:=ry;cases x with
  |aq=>cases rx;exact SeqAt.EqAt.int_none a t'
  |bl b=>cases rx;exact SeqAt.EqAt.int_bool a t' b
  |int b=>obtain⟨t,rfl⟩:=rx;exact SeqAt.EqAt.int_int a t' b t
  |str b=>obtain⟨t,rfl⟩:=rx;exact yed a t' b t
  |_=>exact absurd (show false=true from fx) yal
 |str a=>
  obtain⟨t',rfl⟩:=ry;cases x with
  |aq=>cases rx;exact SeqAt.EqAt.str_none a t'
  |bl b=>cases rx;exact SeqAt.EqAt.str_bool a t' b
  |int b=>obtain⟨t,rfl⟩:=rx;exact yee a t' b t
  |str b=>obtain⟨t,rfl⟩:=rx;exact SeqAt.EqAt.str_str a t' b t
  |_=>exact absurd (show false=true from fx) yal
 |_=>exact absurd (show false=true from fy) yal
noncomputable def cB(x:V)(u:Value):Bool:=match u with
 | .none=>fh .aq x
 | .bool b=>fh (.bl b) x
 | .int i _=>fh (.int i) x
 | .str z _=>fh (.str z) x
 |_=>false
def IQ(r:RelV y u)(f:VQ y=true):cB x u=fh y x:=by
 cases y with
 |aq=>cases r;rfl
 |bl b=>cases r;rfl
 |int i=>obtain⟨t,rfl⟩:=r;rfl
 |str z=>obtain⟨t,rfl⟩:=r;rfl
 |_=>exact absurd (show false=true from f) yal
theorem VR:∀{xs:List V}{us:List Value},Vals xs us->xs.all VQ=true->us.any (cB x)=xs.any λy=>fh y x
 |_,_,.nil,_=>rfl
 |y::xs,u::us,.cons r t,f=>by
  rw[yex,yax]at f;rw[ydc,ydc,IQ r f.1,VR t f.2]
theorem Wm(rx:RelV x v)(fx:VQ x=true):∀{xs:List V}{us:List Value},Vals xs us->xs.all VQ=true->∀u∈us,SeqAt.EqAt A s u v (cB x u)
 |_,_,.nil,_=>λu hu=>by cases hu
 |y::xs,u::us,.cons r t,f=>λu' hu=>by
  rw[yex,yax]at f;rcases yak.mp hu with rfl|hu
  .rw[IQ r f.1];exact PY r rx f.1 fx
  .exact Wm rx fx t f.2 u' hu
noncomputable def fj(x:V)(xs:List V):Bool:=xs.any λy=>fh y x
def Av(K:Frag)(neg:Bool):R2:=λx y H Q=>∃p xs,y=.ref p/\(aC K H p xs\/aw K H p xs)/\VQ x=true/\xs.all VQ=true/\Q (.bl (if neg then !fj x xs else fj x xs)) H
def vM:aQ X (compareOp .In) (Av X.K false):=by
 intro U s σ H x y v u Q I rx ry h;obtain⟨p,xs,rfl,hq,fx,fs,q⟩:=h;cases ry;rcases hq with hq|hq
 .obtain⟨its,r,pl,hz⟩:=I.list hq;refine SeqAt.in_listAt (cB x) pl.isList (λw hw=>Wm rx fx r fs w (by simpa using hw)) ⟨.bl _,H,I,Z,?_⟩;rw[show its.toArray.any (cB x)=its.any (cB x) by simp,VR r fs];exact q
 .obtain⟨its,r,pl,hz⟩:=I.tuple hq;refine SeqAt.in_tupleAt (cB x) pl (λw hw=>Wm rx fx r fs w (by simpa using hw)) ⟨.bl _,H,I,Z,?_⟩;rw[show its.toArray.any (cB x)=its.any (cB x) by simp,VR r fs];exact q
def ZY:aQ X (compareOp .NotIn) (Av X.K true):=by
 intro U s σ H x y v u Q I rx ry h;obtain⟨p,xs,rfl,hq,fx,fs,q⟩:=h;cases ry;rcases hq with hq|hq
 .obtain⟨its,r,pl,hz⟩:=I.list hq;refine SeqAt.notIn_listAt (cB x) pl.isList (λw hw=>Wm rx fx r fs w (by simpa using hw)) ⟨.bl _,H,I,Z,?_⟩;rw[show its.toArray.any (cB x)=its.any (cB x) by simp,VR r fs];exact q
 .obtain⟨its,r,pl,hz⟩:=I.tuple hq;refine SeqAt.notIn_tupleAt (cB x) pl (λw hw=>Wm rx fx r fs w (by simpa using hw)) ⟨.bl _,H,I,Z,?_⟩;rw[show its.toArray.any (cB x)=its.any (cB x) by simp,VR r fs];exact q
def QJ:WL X (.builtin "len") (λxs H Q=>∃p ys,xs=[.ref p]/\(aC X.K H p ys\/aw X.K H p ys)/\Q (.int ys.length) H):=by
 intro U s σ H xs us Q I r h;obtain⟨p,ys,rfl,hq,q⟩:=h;obtain⟨u,rfl,rx⟩:=vals1 r;cases rx;have hn:=Xm;rcases hq with hq|hq
 .obtain⟨its,r',pl,hz⟩:=I.list hq;have hlen:=r'.length;exact Calls.call_len_list pl.isList (by simp only[lE]<;>lia) ⟨.int ys.length,H,I.tok _,⟨s.toks+1,by rw[lE,hlen]⟩,q⟩
 .obtain⟨its,r',pl,hz⟩:=I.tuple hq;have hlen:=r'.length;exact len_tuple pl (by simp only[lE]<;>lia) ⟨.int ys.length,H,I.tok _,⟨s.toks+1,by rw[lE,hlen]⟩,q⟩
def Q2:WL X (.builtin "len") (λxs H Q=>∃z,xs=[.str z]/\z.length<=sizeLine/\Q (.int z.length) H):=by
 intro U s σ H xs us Q I r h;obtain⟨z,rfl,hz,q⟩:=h;obtain⟨u,rfl,t,rfl⟩:=vals1 r;have hn:=Xm;exact len_str (by lia) ⟨.int z.length,H,I.tok _,⟨_,Z⟩,q⟩
def EM(K:Frag)(T:String)(x:V)(H:Hp):Prop:=match x with
 | .str _=>T="str"
 | .int _=>T="int"
 | .ref p=>(T="list"/\∃xs,aC K H p xs)\/(T="tuple"/\∃o,K.lookup p=some o/\o.cls=.type "tuple"/\o.dict=none)\/
   (T="dict"/\((∃al,H p=some (.dK al))\/∃al,H p=some (.dT al)))\/(T="set"/\∃S n,H p=some (.set S n))\/(T="tuple"/\∃xs,H p=some (.tup xs))
 |_=>False
def IS{U:List (Addr × Obj)}{σ:St}{T:String}{x:V}(I:Inv X U σ H s)(r:RelV x v)(ty:EM X.K T x H):s.TypeIs v T/\∀a,v=.ref a->∃ob,s.heap.get? a=some ob/\ob.dict=none:=by
 cases x with
 |str z=>
  obtain⟨t,rfl⟩:=r;cases(show T="str" from ty);exact⟨ydL s z t,λ_ e=>nomatch e⟩
 |int i=>
  obtain⟨t,rfl⟩:=r;cases(show T="int" from ty);exact⟨typeIs_int s i t,λ_ e=>nomatch e⟩
 |ref p=>
  cases r;rcases ty with⟨rfl,xs,hq⟩|⟨rfl,o,hk,hc,hd⟩|⟨rfl,hk⟩|⟨rfl,S,n,hk⟩|⟨rfl,xs,hk⟩
  .obtain⟨its,_,pl,_⟩:=I.list hq;refine⟨pl.isList.typeIs,λa e=>?_⟩;cases e;obtain⟨o,n,e,c,hd,_⟩:=pl;exact⟨o,e,hd⟩
  .refine⟨⟨o,I.bq p o hk,hc⟩,λa e=>?_⟩;cases e;exact⟨o,I.bq _ o hk,hd⟩
  .have z:∃o,s.heap.get? p=some o/\o.ExactDict:=by
    rcases hk with⟨al,hk⟩|⟨al,hk⟩
    .obtain⟨_,_,_,_,o,_,_,e,ex,_⟩:=I.ao p _ hk;exact⟨o,e,ex⟩
    .obtain⟨_,_,_,_,o,_,_,e,ex,_⟩:=I.ao p _ hk;exact⟨o,e,ex⟩
   obtain⟨o,e,ex⟩:=z;refine⟨⟨o,e,ex.1⟩,λa e2=>?_⟩;cases e2;exact⟨o,e,ex.2.1⟩
  .obtain⟨o,_,_,_,e,ex,_⟩:=I.ao p _ hk;refine⟨⟨o,e,ex.1⟩,λa e2=>?_⟩;cases e2;exact⟨o,e,ex.2.1⟩
  .obtain⟨_,its,_,o,h1,h2,n,h3,h4⟩:=(show JJ X.prog X.w H s.heap p (.tup xs)from I.ao p _ hk);exact⟨⟨o,h1,h2⟩,λa e=>by cases e;exact⟨o,h1,h4⟩⟩
 |_=>exact False.elim ty
def PZ(K:Frag)(T:String)(r:V->List V->Hp->VK->Prop)(to:TE):TE:=λσ H Q=>to σ H λx H1=>EM K T x H1/\r x [] H1 Q
def Cy(K:Frag)(T:String)(r:V->List V->Hp->VK->Prop)(to:TE)(t:TA):TE:=λσ H Q=>to σ H λx H1=>EM K T x H1/\t σ H1 λxs H2=>r x xs H2 Q
variable {to:TE}{name:Str}{apos bv:Pos}{id:String}
def xF(pa:PlainAttrs T)(slot:Slot T name id)(Aw:typeOf (.builtin id)=pure (.type "method_descriptor"))(hm:dB X id r)(ho:PE X o to)(Ch:attributeBase o name X.env (eval o X.env)=eval o X.env:=by rfl)(lm:(apos.endLine==bv.line)=true:=by rfl):PE X (.Call (.Attribute o name apos) [] [] bv) (PZ X.K T r to):=by
 intro U s σ H Q I h;refine wpAny_Call_method0_late Ch lm (ay (ho U s σ H _ I h) λv s1⟨x,H1,I1,r1,ty,q1⟩=>?_);obtain⟨h1,h2⟩:=IS I1 r1 ty;exact⟨T,id,pa,slot,Aw,h1,h2,ycp rfl (PySem.evalArgs_none (hm U s1 σ H1 x [] v [] Q I1 r1 .nil q1))⟩
def JL(pa:PlainAttrs T)(slot:Slot T name id)(Aw:typeOf (.builtin id)=pure (.type "method_descriptor"))(hm:dB X id r)(ho:PE X o to)(ha:PA X (e::es) t)(Ch:attributeBase o name X.env (eval o X.env)=eval o X.env:=by rfl)(EN:((backTo bv (starEach (e::es) X.env)).all (λx=> !x.1)&&(backToKw bv (keywordEach [] X.env)).all (λx=>x.1.isSome)
   &&decide ((e::es).length+([]:List Keyword).length+(if([]:List Keyword).isEmpty then 0 else 1)<30))=true:=by rfl)(lm:(apos.endLine==bv.line)=true:=by rfl)(hs:starEach (e::es) X.env=(false,eval e X.env)::starEach es X.env:=by rfl)(lK:(backTo bv (starEach es X.env)).any (·.1)=false:=by rfl):
  PE X (.Call (.Attribute o name apos) (e::es) [] bv) (Cy X.K T r to t):=by
 intro U s σ H Q I h;refine wpAny_Call_method_late Ch EN lm rfl (ay (ho U s σ H _ I h) λv s1⟨x,H1,I1,r1,ty,q1⟩=>?_);obtain⟨h1,h2⟩:=IS I1 r1 ty;exists T,id,pa,slot,Aw,h1,h2;have hA:=ha bv U s1 σ H1 _ I1 q1;rw[hs]at hA ⊢;refine ycp (by show(false||(backTo bv (starEach es X.env)).any (·.1))=false;rw[lK]<;>rfl) (ycH ?_);exact ay hA λus s2⟨vs,H2,I2,r2,q2⟩=>hm U s2 σ H2 x vs v us Q I2 r1 r2 q2
end
def EO(X:Cx)(id:String)(r:V->List V->Hp->VK->Prop):Prop:=
 ∀(U:List (Addr × Obj))(s:Shared)(σ:St)(H:Hp)(x:V)(xs:List V)(v:Value)(us:List Value)(Q:VK),Inv X U σ H s->RelV x v->Vals xs us->r x xs H Q->
  wpAny (model X.prog X.w) X.A (call (.builtin id) (v::us)) (EP X U σ Q) X.xe s
theorem Vals.one:∀{x:V}{us:List Value},Vals [x] us->∃u,us=[u]/\RelV x u
 |_,_,.cons r .nil=>⟨_,Z,r⟩
theorem Vals.zero:∀{us:List Value},Vals [] us->us=[]
 |_,.nil=>rfl
theorem Vals.dropLast{xs:List V}{us:List Value}(h:Vals xs us):Vals xs.dropLast us.dropLast:=by
 induction h with
 |nil=>exact .nil
 |cons r t ih=>
  cases t with
  |nil=>exact .nil
  |cons q t'=>exact .cons r ih
theorem Vals.rep{xs:List V}{us:List Value}(h:Vals xs us):∀k:Nat,Vals (replicate k xs).flatten (replicate k us).flatten
 |0=>.nil
 |k+1=>by
  rw[yas,yas,yaJ,yaJ];exact Vals.append h (Vals.rep h k)
def wn{α:Type}(l:List α):l.eraseIdx (l.length-1)=l.dropLast:=by
 induction l with
 |nil=>rfl
 |cons a r ih=>
  cases r with
  |nil=>rfl
  |cons b r=>
   have e:(a::b::r).length-1=((b::r).length-1)+1:=by
    have h1:(a::b::r).length=r.length+2:=rfl;have h2:(b::r).length=r.length+1:=rfl;lia
   rw[e,List.eraseIdx_cons_succ,ih]
   all_goals rfl
theorem foldl_rep(its:List Value):∀(k:Nat)(acc:List Value),
  List.foldl (λx1 x2=>x1++x2) acc.toArray (replicate k its.toArray)=(acc++(replicate k its).flatten).toArray
 |0,acc=>by simp
 |k+1,acc=>by
  have e:acc.toArray++its.toArray=(acc++its).toArray:=by simp
  have e2:(acc++its)++(replicate k its).flatten=acc++(replicate (k+1) its).flatten:=by
   rw[yas,yaJ,lr]
  rw[<-e2, <-foldl_rep its k (acc++its), <-e,yas,ydd]
section
variable {X:Cx}{U:List (Addr × Obj)}{σ:St}{H:Hp}{s:Shared}{l:Addr}{xs ys zs:List V}
def Inv.ER{its its':List Value}{n:Nat}{t':Nat}(I:Inv X U σ H s)(hH:H l=some (.lst xs))(e:s.heap.get? l=some {cls:=.type "list",data:=.seq its.toArray n})(hf:f its.toArray=its'.toArray)(hv:Vals ys its')(hz:ys.length<=sizeLine):Inv X U σ (upd H l (.lst ys)) {s with heap:=s.heap.update l (Obj.mapSeq f),toks:=t'}:=by
 have q:=PySem.IsL.update e f;rw[hf]at q;refine I.write (x:=l) (e:=l) (by rw[hH];exact trivial) (.inl Z) (λb' u hb hu=>(ybL s.heap (Obj.mapSeq f) (Ne.symm hb)).trans hu) ⟨_,q⟩ ?_;exact⟨hz,its',_,hv,q⟩
def Inv.P0(I:Inv X U σ H s)(hv:Vals ys its)(hz:ys.length<=sizeLine):Inv X U σ (upd H s.heap.objs.size (.lst ys)) {s with heap:=s.heap.push {cls:=.type "list",data:=.seq its.toArray},toks:=t'}:=
 I.laid (λ_ _ q=>yab _ q) (tN _) ⟨hz,its,0,hv,yah _ rfl⟩
theorem Inv.fresh(I:Inv X U σ H s):H s.heap.objs.size=none:=I.ao.fresh (tN _)
def Inv.o9(I:Inv X U σ H s)(hH:H l=some (.lst xs)):xs.length<=sizeLine/\∃(its:List Value)(n:Nat),Vals xs its/\xs.length=its.length/\s.heap.get? l=some {cls:=.type "list",data:=.seq its.toArray n}:=by
 obtain⟨z,its,n,r,e⟩:=I.ao l _ hH;exact⟨z,its,n,r,r.length,e⟩
def xG(h:n<=sizeLine):Builtin.List.listTooLong n=false:=by
 unfold Builtin.List.listTooLong;exact tL (by lia)
end
section
def P4:V->List V->Hp->VK->Prop:=λx vs H Q=>∃l xs y,x=.ref l/\vs=[y]/\H l=some (.lst xs)/\xs.length<sizeLine/\Q .aq (upd H l (.lst (xs++[y])))
def JO:EO X "list.append" P4:=by
 intro U s σ H x vs v us Q I rx rv h;obtain⟨l,xs,y,rfl,rfl,hH,hz,q⟩:=h;cases rx;obtain⟨u,rfl,ru⟩:=rv.one;obtain⟨z,its,n,r,hl,e⟩:=I.o9 hH;refine yeu F.slot_list_append ⟨_,e,Z⟩ F.entry_list_append (F.args_list_append_2 _ _) (PySem.list_append l its.toArray n u (by rw[lE];lia)) ⟨e,?_⟩;refine⟨.aq,_,I.ER (its':=its++[u]) hH e (by simp) (r.append (.cons ru .nil)) ?_,Z,q⟩;rw[tJ,tP];lia
def P5:V->List V->Hp->VK->Prop:=λx vs H Q=>∃l b xs zs,x=.ref l/\vs=[.ref b]/\H l=some (.lst xs)/\H b=some (.lst zs)/\xs.length+zs.length<=sizeLine/\Q .aq (upd H l (.lst (xs++zs)))
def Wn:EO X "list.extend" P5:=by
 intro U s σ H x vs v us Q I rx rv h;obtain⟨l,b,xs,zs,rfl,rfl,hH,hB,hz,q⟩:=h;cases rx;obtain⟨u,rfl,ru⟩:=rv.one;cases ru;obtain⟨z,its,n,r,hl,e⟩:=I.o9 hH;obtain⟨z2,ce,n2,r2,sd,e2⟩:=I.o9 hB;have hsz:its.toArray.size+ce.toArray.size<=sizeLine:=by rw[lE,lE];lia
 have dC:¬ (!its.toArray.isEmpty&&Builtin.List.listTooLong (its.toArray.size+ce.toArray.size))=true:=by
  rw[xG hsz,yeo];exact yal
 refine yeu F.slot_list_extend ⟨_,e,Z⟩ F.entry_list_extend (F.args_list_extend_2 _ _)
  (AutoSeq1.list_extend_list_list_0 l its.toArray n b ce.toArray n2 dC (by rw[lE];lia) (by lia)) ⟨e,e2,?_⟩
 refine⟨.aq,_,I.ER (its':=its++ce) hH e (by simp) (r.append r2) ?_,Z,q⟩;rw[tJ];lia
def P6:V->List V->Hp->VK->Prop:=λx vs H Q=>∃l xs y,x=.ref l/\vs=[]/\H l=some (.lst xs)/\xs[xs.length-1]? =some y/\Q y (upd H l (.lst xs.dropLast))
def xH:EO X "list.pop" P6:=by
 intro U s σ H x vs v us Q I rx rv h;obtain⟨l,xs,y,rfl,rfl,hH,hy,q⟩:=h;cases rx;have P7:=rv.zero;subst P7;obtain⟨z,its,n,r,hl,e⟩:=I.o9 hH;obtain⟨u,hu,ru⟩:=r.get hy;have P8:its.toArray[its.toArray.size-1]? =some u:=by
  show its.toArray[its.length-1]? =some u;rw[<-yeQ, <-hl];exact hu
 refine yeu F.slot_list_pop ⟨_,e,Z⟩ F.entry_list_pop (F.args_list_pop_1 _) (MeetsSeq.list_pop_last l its.toArray n u P8 (by rw[lE];lia)) ⟨e,?_⟩;refine⟨y,_,I.ER (its':=its.dropLast) hH e ?_ r.dropLast ?_,ru,q⟩
 .show its.toArray.eraseIdxIfInBounds (its.toArray.size-1)=its.dropLast.toArray;rw[lE,List.eraseIdxIfInBounds_toArray,wn]
 .rw[ybZ];lia
def P9:R2:=λx y H Q=>∃l k xs,x=.ref l/\y=.int k/\H l=some (.lst xs)/\ -(2^63)<=k/\k<2^63/\xs.length*k.toNat<=sizeLine/\
 ∀p,H p=none->Q (.ref p) (upd H p (.lst (replicate k.toNat xs).flatten))
def len_rep{α:Type}(xs:List α)(k:Nat):(replicate k xs).flatten.length=k*xs.length:=by
 induction k with
 |zero=>simp
 |succ k ih=>rw[yas,yaJ,tJ,ih,Nat.succ_mul,Nat.add_comm]
def P':aQ X (binaryOp .Mult) P9:=by
 intro U s σ H x y v u Q I rx ry h;obtain⟨l,k,xs,rfl,rfl,hH,h1,h2,hz,q⟩:=h;cases rx;obtain⟨t,rfl⟩:=ry;obtain⟨z,its,n,r,hl,e⟩:=I.o9 hH;have hlen:its.toArray.size*k.toNat<=sizeLine:=by rw[lE, <-hl];exact hz
 have ES:¬ its.toArray.size*k.toNat>(2^63-1)/8:=by
  have:(sizeLine:Nat)<=(2^63-1)/8:=by lia
  lia
 have lL:¬ (!Builtin.List.listFitsIndex k)=true:=by
  rw[fitsIndex_both h1 h2];exact yal
 have dC:¬ Builtin.List.listTooLong (its.toArray.size*k.toNat)=true:=by
  rw[xG hlen];exact yal
 have ET:List.foldl (λx1 x2=>x1++x2) #[] (replicate (if its.toArray.isEmpty=true then 0 else k.toNat) its.toArray)=(replicate k.toNat its).flatten.toArray:=by
  have f0:∀m:Nat,List.foldl (λx1 x2=>x1++x2) #[] (replicate m its.toArray)=(replicate m its).flatten.toArray:=λm=>by
   have:=foldl_rep its m [];rw[lz]at this;exact this
  rw[f0];cases its with
  |nil=>simp
  |cons a r'=>rw[yag (by simp)]
 refine wpAny_binaryOp_repeat_ref (T:="list") (U:="int") (by lia) ⟨_,e,Z⟩ (λs'=>typeIs_int s' k t) noFill_list_mul F.fills_int_mul F.slot_int_rmul repeat_list F.slot_int_index.lookup
  (yeu F.slot_int_rmul (typeIs_int s k t) F.entry_int_rmul (F.args_int_rmul_2 _ _) (int___rmul___int_list k t l its.toArray n)
   ⟨e,Z,⟨_,e,Z⟩,yeu F.slot_list_mul ⟨_,e,Z⟩ F.entry_list_mul (F.args_list_mul_2 _ _) (AutoListH.list___mul___list_int_3 l its.toArray n k t lL ES dC) ⟨e,?_⟩⟩)
 rw[ET];exact⟨.ref _,_,I.P0 (t':=s.toks) (r.rep k.toNat) (by rw[len_rep,ybP];exact hz),Z,q _ I.fresh⟩
end
section
variable {κ:Type}[DecidableEq κ]
noncomputable def Vr(al:List (κ × V))(k:κ):Option V:=(al.find? λkv=>decide (kv.1=k)).map (·.2)
noncomputable def putK(al:List (κ × V))(k:κ)(v:V):List (κ × V):=
 if(al.any λkv=>decide (kv.1=k))=true then al.map (λkv=>if kv.1=k then(kv.1,v)else kv)else al++[(k,v)]
def Wo{r:List (κ × V)}(e:p.1=k):Vr (p::r) k=some p.2:=by simp[Vr,yce,e]
def Vv{r:List (κ × V)}(e:¬ p.1=k):Vr (p::r) k=Vr r k:=by simp[Vr,yce,e]
theorem xI(k:κ):∀al:List (κ × V),(al.any λkv=>decide (kv.1=k))=(Vr al k).isSome
 |[]=>rfl
 |p::r=>by
  rw[ydc]
  by_cases e:p.1=k
  .simp only[Wo e,tM e,Bool.true_or,Option.isSome_some]
  .rw[Vv e,tL e,yfc];exact xI k r
def KL(al:List (κ × V))(k:κ)(v:V):(putK al k v).length<=al.length+1:=by
 unfold putK
 split
 .rw[tK];lia
 .rw[tJ,tQ,ybc];lia
def Uq.VS(r:Uq o u):o.isSome=u.isSome:=by
 cases o with
 |none=>cases u with
  |none=>rfl
  |some _=>exact(show False from r).elim
 |some _=>cases u with
  |none=>exact(show False from r).elim
  |some _=>rfl
theorem Uq.getD(r:Uq o u)(rd:RelV d d'):RelV (o.getD d) (u.getD d'):=by
 cases o with
 |none=>cases u with
  |none=>exact rd
  |some _=>exact(show False from r).elim
 |some _=>cases u with
  |none=>exact(show False from r).elim
  |some _=>exact r
def KV.val{al:List (κ × V)}(r:KV al vs)(k:κ):Uq (Vr al k) (valueAt vs k):=by
 unfold KV at r
 induction r with
 |nil=>exact True.intro
 |@cons p q ps qs h t ih=>
  obtain⟨h1,h2⟩:=h
  by_cases e:p.1=k
  .have e':q.1=k:=h1.symm.trans e;have b:valueAt (q::qs) k=some q.2:=by simp[valueAt,yce,e']
   rw[Wo e,b];exact h2
  .have e':¬ q.1=k:=λz=>e (h1.trans z);have b:valueAt (q::qs) k=valueAt qs k:=by simp[valueAt,yce,e']
   rw[Vv e,b];exact ih
theorem KV.any{al:List (κ × V)}(r:KV al vs)(k:κ):(al.any λkv=>decide (kv.1=k))=vs.any λkv=>decide (kv.1=k):=by
 unfold KV at r
 induction r with
 |nil=>rfl
 |cons h t ih=>rw[ydc,ydc,ih,h.1]
def KV.EU{al:List (κ × V)}(r:KV al vs)(k:κ)(ry:RelV y u):KV (al.map λkv=>if kv.1=k then(kv.1,y)else kv) (vs.map λkv=>if kv.1=k then(kv.1,u)else kv):=by
 unfold KV at r ⊢
 induction r with
 |nil=>exact .nil
 |@cons p q ps qs h t ih=>
  rw[lC,lC];refine .cons ?_ ih;obtain⟨h1,h2⟩:=h
  by_cases e:p.1=k
  .rw[yai e,yai (h1.symm.trans e)];exact⟨h1,ry⟩
  .rw[yag e,yag (λz=>e (h1.trans z))];exact⟨h1,h2⟩
def KV.put{al:List (κ × V)}(r:KV al vs)(k:κ)(ry:RelV y u):KV (putK al k y) (stored vs k u):=by
 unfold putK stored;rw[r.any k]
 by_cases e:(vs.any λkv=>decide (kv.1=k))=true
 .rw[yai e,yai e];exact r.EU k ry
 .rw[yag e,yag e];exact Paired.snoc r ⟨Z,ry⟩
theorem KV.length{al:List (κ × V)}(r:KV al vs):al.length=vs.length:=yev r
end
def jp(r:RelV (kV k) u):(QY P w).is k u=true:=by
 cases k with
 |inl i=>obtain⟨t,e⟩:=(show ∃t,u=Value.int i t from r);subst e;exact zp P w i t
 |inr x=>obtain⟨t,e⟩:=(show ∃t,u=Value.str x t from r);subst e;exact Ju P w x t
theorem jq:∀{ks:List Key}{us:List Value},Vals (ks.map kV) us->ItemsAre (QY P w) ks us
 |[],_,r=>by rw[ydv]at r;cases r;exact .nil
 |k::ks,_,r=>by
  rw[lC]at r;cases r with
  |cons h t=>exact .cons (jp h) (jq t)
abbrev KT(H:Hp):List (List Key × V)->List (List Key × Addr × Value)->Prop:=Paired λp q=>p.1=q.1/\H q.2.1=some (.tup (p.1.map kV))/\RelV p.2 q.2.2
def KT.val{al:List (List Key × V)}{xs:List (List Key × Addr × Value)}(r:KT H al xs)(k:List Key):Uq (Vr al k) ((atKey xs k).map (·.2)):=by
 induction r with
 |nil=>exact True.intro
 |@cons p q ps qs h t ih=>
  obtain⟨h1,_,h2⟩:=h
  by_cases e:p.1=k
  .have e':q.1=k:=h1.symm.trans e;have b:atKey (q::qs) k=some q.2:=by simp[atKey,yce,e']
   rw[Wo e,b];exact h2
  .have e':¬ q.1=k:=λz=>e (h1.trans z);have b:atKey (q::qs) k=atKey qs k:=by simp[atKey,yce,e']
   rw[Vv e,b];exact ih
def KT.EU{al:List (List Key × V)}{xs:List (List Key × Addr × Value)}(r:KT H al xs)(k:List Key)(ry:RelV y u):KT H (al.map λkv=>if kv.1=k then(kv.1,y)else kv) (xs.map (putAt k u)):=by
 induction r with
 |nil=>exact .nil
 |@cons p q ps qs h t ih=>
  rw[lC,lC];refine .cons ?_ ih;obtain⟨h1,h2,h3⟩:=h;unfold putAt
  by_cases e:p.1=k
  .rw[yai e,yai (h1.symm.trans e)];exact⟨h1,h2,ry⟩
  .rw[yag e,yag (λz=>e (h1.trans z))];exact⟨h1,h2,h3⟩
def KT.put{al:List (List Key × V)}{xs:List (List Key × Addr × Value)}(r:KT H al xs)(k:List Key)(hb:H b=some (.tup (k.map kV)))(ry:RelV y u):KT H (putK al k y) (storedH xs k b u):=by
 have e:(al.any λkv=>decide (kv.1=k))=(atKey xs k).isSome:=by
  rw[xI,(r.val k).VS,Option.isSome_map]
 unfold putK storedH;rw[e]
 by_cases q:(atKey xs k).isSome=true
 .rw[yai q,yai q];exact r.EU k ry
 .rw[yag q,yag q];exact Paired.snoc r ⟨Z,hb,ry⟩
def KT.keeps{al:List (List Key × V)}{xs:List (List Key × Addr × Value)}(r:KT H al xs)(ht:∀b ys,H b=some (.tup ys)->H' b=some (.tup ys)):KT H' al xs:=
 Paired.Ej r λ_ _ z=>⟨z.1,ht _ _ z.2.1,z.2.2⟩
section
def IT(ok:bo P w H h)(e:Rd H a u):JJ P w H h a u:=e.ok ok
def vN{al:List (Key × V)}(ok:bo P w H h)(e:Rd H a (.dK al)):al.length<=sizeLine/\(a==sysModules)=false/\∃vs,KV al vs/\h.DictOf (QY P w) a vs:=
 show JJ P w H h a (.dK al)from IT ok e
def IU{al:List (Key × V)}(ok:bo P w H h)(e:H a=some (.dK al)):al.length<=sizeLine/\(a==sysModules)=false/\∃vs,KV al vs/\h.DictOf (QY P w) a vs:=vN ok (.inl e)
def xJ(ok:bo P w H h)(e:H a=some (.tup (ks.map kV))):(tupleKind (QY P w)).is h ks a:=by
 obtain⟨_,its,r,o,h1,h2,n,h3,_⟩:=(show JJ P w H h a (.tup (ks.map kV))from ok a _ e);exact⟨o,its.toArray,n,h1,h2,h3,by simpa using jq r⟩
def vO{al:List (List Key × V)}(ok:bo P w H h)(e:Rd H a (.dT al)):al.length<=sizeLine/\(a==sysModules)=false/\
  ∃xs,KT H al xs/\h.DictOfH (tupleKind (QY P w)) a xs:=by
 obtain⟨z,y,xs,r,o,es,ep,h1,h2,h3,h4,h5⟩:=(show JJ P w H h a (.dT al)from IT ok e);refine⟨z,y,xs,r,o,es,ep,h1,h2,h3,h4,λx hx=>?_,h5⟩;have all:∀{l:List (List Key × V)}{m:List (List Key × Addr × Value)},KT H l m->∀x∈m,(tupleKind (QY P w)).is h x.1 x.2.1:=by
  intro l m q
  induction q with
  |nil=>intro x hx;exact nomatch hx
  |@cons p q ps qs hq t ih=>
   intro x hx;rcases yak.mp hx with e|hx
   .subst e;exact xJ ok (by rw[<-hq.1];exact hq.2.1)
   .exact ih x hx
 exact all r x hx
def Ra{al:List (List Key × V)}(ok:bo P w H h)(e:H a=some (.dT al)):al.length<=sizeLine/\(a==sysModules)=false/\
  ∃xs,KT H al xs/\h.DictOfH (tupleKind (QY P w)) a xs:=vO ok (.inl e)
end
def wo(H:Hp)(a:Addr)(y:V)(r:Option V):Prop:=
 (∃al k,Rd H a (.dK al)/\y=kV k/\r=Vr al k)\/∃al k b,Rd H a (.dT al)/\y=.ref b/\H b=some (.tup (k.map kV))/\r=Vr al k
def iA(H:Hp)(a:Addr)(y v:V)(H':Hp):Prop:=
 (∃al k,H a=some (.dK al)/\y=kV k/\al.length<sizeLine/\H'=upd H a (.dK (putK al k v)))\/
 ∃al k b,H a=some (.dT al)/\y=.ref b/\H b=some (.tup (k.map kV))/\al.length<sizeLine/\H'=upd H a (.dT (putK al k v))
theorem wo.k{H:Hp}{a:Addr}{al:List (Key × V)}{k:Key}(e:H a=some (.dK al)):wo H a (kV k) (Vr al k):=.inl ⟨al,k,.inl e,Z,Z⟩
theorem iA.k{H:Hp}{al:List (Key × V)}{k:Key}{v:V}(e:H a=some (.dK al))(hl:al.length<sizeLine):iA H a (kV k) v (upd H a (.dK (putK al k v))):=.inl ⟨al,k,e,Z,hl,Z⟩
section
variable {X:Cx}{U:List (Addr × Obj)}{σ:St}{H:Hp}{s:Shared}{a:Addr}{y v:V}{u r:Value}{A:Around}{E:Value->Shared->Prop}
def Inv.big(I:Inv X U σ H s):sysModules<s.heap.objs.size:=by
 have h:mainGlobals<s.heap.objs.size:=(I.mod.glob.keeps I.bk).lt;exact ybu (by lia) h
def vP(hu:A.units+1<cLine)(I:Inv X U σ H s)(g:wo H a y (some v))(ry:RelV y u)(h:∀w' s',Inv X U σ H s'->RelV v w'->Q w' s'):wpAny (model X.prog X.w) A (getItem (.ref a) u) Q E s:=by
 rcases g with⟨al,k,e,ey,l⟩|⟨al,k,b,e,ey,eb,l⟩
 .subst ey;obtain⟨z,hd,vs,rel,dd⟩:=vN I.ao e;obtain⟨w',hw,Os⟩:=Uq.some_of (v:=v) (o:=valueAt vs k) (by rw[l];exact rel.val k);exact wpAny_getItem_of (jp ry) dd.mapOf hw (h w' _ (I.tok _) Os)
 .subst ey;cases(show u=Value.ref b from ry);obtain⟨z,hd,xs,rel,dd⟩:=vO I.ao e;obtain⟨w',hw,Os⟩:=Uq.some_of (v:=v) (o:=(atKey xs k).map (·.2)) (by rw[l];exact rel.val k);obtain⟨p,hp,ut⟩:=ybq.mp hw;refine wpAny_getItem_heap (yei hu) (xJ I.ao eb) dd hp ?_;rw[ut];exact h w' _ (I.tok _) Os
def zy(I:Inv X U σ H s)(mu:Ad (H a))(hs:Heap.SameBut a s.heap h')(he:∃q,h'.get? a=some q)(new:JJ X.prog X.w (upd H a ob) h' a ob):Inv X U σ (upd H a ob) {s with heap:=h',toks:=t'}:=
 I.write (x:=a) (e:=a) mu (.inl Z) (λb q hb z=>(hs.2 b hb).trans z) he new
def IV{al:List (Key × V)}(z:al.length<=sizeLine)(hd:(a==sysModules)=false)(rel:KV al vs)(dd:h'.DictOf (QY P w) a vs):JJ P w H' h' a (.dK al):=⟨z,hd,vs,rel,dd⟩
def vQ(hu:A.units+1<cLine)(I:Inv X U σ H s)(g:iA H a y v H')(ry:RelV y u)(rv:RelV v r)(h:∀s',Inv X U σ H' s'->Q () s'):wpAny (model X.prog X.w) A (setItem (.ref a) u r) Q E s:=by
 rcases g with⟨al,k,e,ey,l,eH⟩|⟨al,k,b,e,ey,eb,l,eH⟩
 .subst ey eH;obtain⟨z,hd,vs,rel,dd⟩:=IU I.ao e;have hz:vs.length<=sizeLine:=by rw[<-rel.length];exact z
  have hl:(putK al k v).length<=sizeLine:=by have:=KL al k v;lia
  refine wpAny_setItem_pairs (hsz:=hz) (jp ry) dd λh' lM hs=>h _ ?_;have he:∃q,h'.get? a=some q:=let ⟨q,_,_,hq,_⟩:=lM;⟨q,hq⟩;exact zy I (by rw[e];exact True.intro) hs he (IV hl hd (rel.put k rv) lM)
 .subst ey eH;cases(show u=Value.ref b from ry);obtain⟨z,hd,xs,rel,dd⟩:=Ra I.ao e;have hz:xs.length<=sizeLine:=by rw[<-yev rel];exact z
  have hl:(putK al k v).length<=sizeLine:=by have:=KL al k v;lia
  refine wpAny_setItem_heap (hsz:=hz) (yei hu) (xJ I.ao eb) dd λh' lM hs=>h _ ?_;obtain⟨q,es,ep,hq,h2,h3,h4,_,h5⟩:=lM;refine zy I (by rw[e];exact True.intro) hs ⟨q,hq⟩ ⟨hl,hd,_,(rel.put k eb rv).keeps λc ys ec=>?_,q,es,ep,hq,h2,h3,h4,h5⟩;rw[Qo (Ei ec e (λz=>nomatch z))];exact ec
end
def EV(i:Expr):Prop:=∀ov iv,subscripted i false ov iv=operate [ov,iv] (getItem ov iv)
def vR{prog:Program}{env:Env}{value slice:Expr}{pos:Pos}{T id:String}(hl:typeLookup (.type T) "__getitem__"=pure (some (.builtin id)))(hs:EV slice)(h:wpAny (model prog w) A (eval value env) (λo s₁=>wpAny (model prog w) A (eval slice env) (λi s₂=>s₂.TypeIs o T/\wpAny (model prog w) A (getItem o i) Q E s₂) E s₁) E s):wpAny (model prog w) A (eval (.Subscript value slice pos) env) Q E s:=by
 refine Subscript_ (yaU h (λo s₁ h₁=>yaU h₁ (λi s₂ h₂=>?_) λ_ _ x=>x) λ_ _ x=>x);obtain⟨hT,h₂⟩:=h₂;unfold subscriptTail;refine yaa ?_;rw[getitemInPython_of_ne hT.not_modules];refine yaa (yaO hT hl ?_);have fin:wpAny (model prog w) A (subscripted slice false o i) (λr s₃=>wpAny (model prog w) A (letTemporaryGo value o r>>=λ_=>pure r) Q E s₃) E s₂:=by
  rw[hs o i];exact wpAny_operating (yaU h₂ (λr s₃ h₃=>yaa (wpAny_letTemporaryGo (yac h₃))) λ_ _ x=>x)
 first
  |exact yac (yaa fin)
  |exact yaa (yac (yaa fin))
  |exact yaa fin
def zA{X:Cx}{U:List (Addr × Obj)}{σ:St}{y:V}(I:Inv X U σ H s)(g:wo H a y o):s.TypeIs (.ref a) "dict":=by
 rcases g with⟨al,k,e,_,_⟩|⟨al,k,b,e,_,_,_⟩
 .obtain⟨_,_,vs,_,dd⟩:=vN I.ao e;exact dd.typeIs
 .obtain⟨_,_,xs,_,dd⟩:=vO I.ao e;exact dd.typeIs
def Rb(td ty:TE):TE:=λσ H Q=>td σ H λx H1=>ty σ H1 λy H2=>∃a v,x=.ref a/\wo H2 a y (some v)/\Q v H2
def Rc(td ty tv:TE):TS:=λD σ H=>tv σ H λv H1=>td σ H1 λx H2=>ty σ H2 λy H3=>∃a H4,x=.ref a/\iA H3 a y v H4/\D.nx σ H4
section
variable {value:Expr}{pos pos':Pos}{ty:TE}
def VT(hu:X.A.units+1<cLine)(ho:PE X o td)(hi:PE X i ty)(hs:EV i):PE X (.Subscript o i pos) (Rb td ty):=by
 intro U s σ H Q I h;refine vR PySem.F.slot_dict_getitem.lookup hs (ay (ho U s σ H _ I h) λu s1⟨x,H1,I1,rx,q1⟩=>ay (hi U s1 σ H1 _ I1 q1) λiv s2⟨y,H2,I2,ry,a,v,ex,g,q2⟩=>?_);subst ex;obtain rfl:u=Value.ref a:=rx;exact⟨zA I2 g,vP hu I2 g ry λw' s3 I3 Os=>⟨v,H2,I3,Os,q2⟩⟩
def vS(hu:X.A.units+1<cLine)(ho:PE X o td)(hi:PE X i ty)(hv:PE X value tv)(hs:swapsWith value (some (.Subscript o i pos')) pos.line X.env=pure false):PS X (.Assign [.Subscript o i pos'] value pos) (Rc td ty tv):=by
 intro U s σ H D I h;refine wpAny_Assign_Subscript (ay (hv U s σ H _ I h) λr s1⟨v,H1,I1,rv,q1⟩=>ay (ho U s1 σ H1 _ I1 q1) λu s2⟨x,H2,I2,rx,q2⟩=>ay (hi U s2 σ H2 _ I2 q2) λiv s3⟨y,H3,I3,ry,a,H4,ex,g,q3⟩=>?_) hs;subst ex;obtain rfl:u=Value.ref a:=rx;exact vQ hu I3 g ry rv λs4 I4=>⟨σ,H4,I4,q3⟩
end
def xK(h:Heap)(hb:sysModules<h.objs.size):JJ P w H (h.push {cls:=.type "dict",data:=.dict #[]}) h.objs.size (.dK []):=
 ⟨lF _,yau.mpr (Ne.symm (yar hb)),[],.nil,Heap.DictOf.new h⟩
def IW:TE:=λ_ H Q=>∀p,H p=none->Q (.ref p) (upd H p (.dK []))
section
variable {pos:Pos}
def Rf:PE X (.Dict [] [] pos) IW:=λU s σ H Q I h=>
 wpAny_Dict_empty ⟨.ref s.heap.objs.size,_,I.laid (a:=s.heap.objs.size) (o:=.dK []) (t':=s.toks) (λ_ _ q=>yab _ q) (tN _) (xK s.heap I.big),Z,h _ (I.ao.fresh (tN _))⟩
end
def vT:List (TE × TE)->St->Hp->(List (V × V)->Hp->Prop)->Prop
 |[],_,H,Q=>Q [] H
 |(tk,tv)::r,σ,H,Q=>tk σ H λx H1=>tv σ H1 λy H2=>vT r σ H2 λps H3=>Q ((x,y)::ps) H3
abbrev VV:List (V × V)->List (Value × Value)->Prop:=Paired λp q=>RelV p.1 q.1/\RelV p.2 q.2
def Cz(X:Cx)(pos:Pos)(keys:List (Option Expr))(values:List Expr)(fk:List (TE × TE)):Prop:=
 ∀(U:List (Addr × Obj))(s:Shared)(σ:St)(H:Hp)(Q:List (V × V)->Hp->Prop),Inv X U σ H s->vT fk σ H Q->
  wpAny (model X.prog X.w) X.A (evalPairs (pairTrees keys values X.env pos)) (λvs s'=>∃ps H',Inv X U σ H' s'/\VV ps vs/\Q ps H') X.xe s
def Rg{pos:Pos}:Cz X pos [] [] []:=λU s σ H Q I h=>pairTrees_nil_walk ⟨[],H,I,.nil,h⟩
def xL{pos:Pos}{tk tv:TE}(hk:PE X k tk)(hv:PE X v tv)(hr:Cz X pos ks vs fk):Cz X pos (some k::ks) (v::vs) ((tk,tv)::fk):=λU s σ H Q I h=>
 pairTrees_cons_walk (ay (hk U s σ H _ I h) λu s1⟨x,H1,I1,rx,q1⟩=>ay (hv U s1 σ H1 _ I1 q1) λw2 s2⟨y,H2,I2,ry,q2⟩=>
  ay (hr U s2 σ H2 _ I2 q2) λws s3⟨ps,H3,I3,rel,q3⟩=>⟨(x,y)::ps,H3,I3,.cons ⟨rx,ry⟩ rel,q3⟩)
noncomputable def VU(al more:List (Key × V)):List (Key × V):=more.foldl (λacc kv=>putK acc kv.1 kv.2) al
def KV.merge:∀{more:List (Key × V)}{rs:List (Key × Value)}{al:List (Key × V)}{vs:List (Key × Value)},KV more rs->KV al vs->KV (VU al more) (merged vs rs):=by
 intro more rs al vs r;unfold KV at r
 induction r generalizing al vs with
 |nil=>intro q;exact q
 |@cons p q ps qs h t ih=>
  intro r0;have e:KV (putK al p.1 p.2) (stored vs q.1 q.2):=by
   have:=r0.put p.1 h.2;rw[<-h.1];exact this
  exact ih e
theorem Wp:∀(more al:List (Key × V)),(VU al more).length<=al.length+more.length
 |[],al=>by show al.length<=al.length+0;lia
 |p::r,al=>by
  have h1:=Wp r (putK al p.1 p.2);have h2:=KL al p.1 p.2;show(VU (putK al p.1 p.2) r).length<=_;rw[tQ];lia
theorem Ua:∀{al:List (Key × V)}{ws:List (Value × Value)},VV (al.map λkv=>(kV kv.1,kv.2)) ws->∃rs,Carries (QY P w) ws rs/\KV al rs
 |[],_,r=>by rw[ydv]at r;cases r;exact⟨[],True.intro,.nil⟩
 |p::al,_,r=>by
  rw[lC]at r;cases r with
  |@cons a b as bs h t=>
   obtain⟨rs,c,q⟩:=Ua (P:=P) (w:=w) t;obtain⟨b1,b2⟩:=b;exact⟨(p.1,b2)::rs,⟨jp h.1,Z,c⟩,.cons ⟨Z,h.2⟩ q⟩
def EW(fk:List (TE × TE)):TE:=λσ H Q=>∀p,H p=none->vT fk σ (upd H p (.dK [])) λps H2=>H2 p=some (.dK [])/\∃al:List (Key × V),ps=al.map (λkv=>(kV kv.1,kv.2))/\al.length<=15/\Q (.ref p) (upd H2 p (.dK (VU [] al)))
def Rh{pos:Pos}{keys:List (Option Expr)}{values:List Expr}(h:Cz X pos keys values fk)(ms:keys.all (·.isSome)=true)(hl:keys.length=values.length)(h0:keys≠[])(Ri:keys.length<=15):PE X (.Dict keys values pos) (EW fk):=by
 intro U s σ H Q I q;have hn:=I.ao.fresh (tN s.heap.objs.size);have I1:=I.laid (a:=s.heap.objs.size) (o:=.dK []) (h':=s.heap.push {cls:=.type "dict",data:=.dict #[]}) (t':=s.toks) (λ_ _ q=>yab _ q) (tN _) (xK s.heap I.big);refine wpAny_Dict_walk (knd:=QY X.prog X.w) ms hl h0 Ri (ay (h U _ σ _ _ I1 (q _ hn)) λws s2⟨ps,H2,I2,rel,e,al,ep,lk,q2⟩=>?_);subst ep;obtain⟨rs,c,rk⟩:=Ua (P:=X.prog) (w:=X.w) rel;obtain⟨z,hd,vs0,r0,dd⟩:=IU I2.ao e;cases r0;refine⟨rs,c,dd,λh' lM hs=>⟨.ref s.heap.objs.size,_,?_,Z,q2⟩⟩;have hz:(VU [] al).length<=sizeLine:=by
  have h1:=Wp al [];rw[ybc]at h1;rw[yaG];lia
 have he:∃q,h'.get? s.heap.objs.size=some q:=let ⟨q,_,_,hq,_⟩:=lM;⟨q,hq⟩;exact zy I2 (by rw[e];exact True.intro) hs he (IV hz hd (rk.merge .nil) lM)
structure M2(X:Cx)(o:Expr)(m:Str)(apos:Pos)(e f:Expr)(bv:Pos):Prop where
 Y:attributeBase o m X.env (eval o X.env)=eval o X.env
 Rj:((backTo bv (starEach [e,f] X.env)).all (λx=> !x.1)&&(backToKw bv (keywordEach [] X.env)).all (λx=>x.1.isSome)
  &&decide (([e,f]:List Expr).length+([]:List Keyword).length+(if([]:List Keyword).isEmpty then 0 else 1)<30))=true
 line:(apos.endLine==bv.line)=true
 trees:backTo bv (starEach [e,f] X.env)=[(false,eval e X.env),(false,eval f X.env)]
def IX(H:Hp)(a:Addr):Prop:=(∃al,Rd H a (.dK al))\/∃al,Rd H a (.dT al)
def Rk{X:Cx}{U:List (Addr × Obj)}{σ:St}(I:Inv X U σ H s)(d:IX H a):s.TypeIs (.ref a) "dict"/\(∀b,Value.ref a=.ref b->∃ob,s.heap.get? b=some ob/\ob.dict=none)/\(a==sysModules)=false:=by
 rcases d with⟨al,e⟩|⟨al,e⟩
 .obtain⟨_,hd,vs,_,dd⟩:=vN I.ao e;refine⟨dd.typeIs,λb q=>?_,hd⟩;cases q;obtain⟨ob,_,_,h1,h2,_⟩:=dd;exact⟨ob,h1,h2.2.1⟩
 .obtain⟨_,hd,xs,_,dd⟩:=vO I.ao e;refine⟨dd.typeIs,λb q=>?_,hd⟩;cases q;obtain⟨ob,_,_,h1,h2,_⟩:=dd;exact⟨ob,h1,h2.2.1⟩
section
variable {X:Cx}{U:List (Addr × Obj)}{σ:St}{H:Hp}{s:Shared}{a:Addr}{y d:V}{u r:Value}{o:Option V}{A:Around}{E:Value->Shared->Prop}
def Rl(hu:A.units+1<cLine)(I:Inv X U σ H s)(g:wo H a y o)(ry:RelV y u)(rd:RelV d r)(h:∀w' s',Inv X U σ H s'->RelV (o.getD d) w'->Q w' s'):wpAny (model X.prog X.w) A (call (.builtin "dict.get") [.ref a,u,r]) Q E s:=by
 rcases g with⟨al,k,e,ey,l⟩|⟨al,k,b,e,ey,eb,l⟩
 .subst ey;obtain⟨z,hd,vs,rel,dd⟩:=vN I.ao e;refine call_meetsIn slot_dict_get dd.typeIs entry_dict_get (args_dict_get_3 _ _ _) (meets_dict_get_default (QY X.prog X.w) a (jp ry) hd r) ⟨_,dd.mapOf,h _ _ (I.tok _) ?_⟩;rw[l];exact(rel.val k).getD rd
 .subst ey;cases(show u=Value.ref b from ry);obtain⟨z,hd,xs,rel,dd⟩:=vO I.ao e;refine call_meetsIn slot_dict_get dd.typeIs entry_dict_get (args_dict_get_3 _ _ _) (meetsH_dict_get_default (tupleKind (QY X.prog X.w)) a b hd r) ⟨yei hu,k,xs,xJ I.ao eb,dd,h _ _ (I.tok _) ?_⟩;rw[l];exact(rel.val k).getD rd
end
def Rm(td ty tx:TE):TE:=λσ H Q=>td σ H λx H1=>∃a,x=.ref a/\IX H1 a/\ty σ H1 λy H2=>tx σ H2 λz H3=>∃o,wo H3 a y o/\Q (o.getD z) H3
section
variable {apos bv:Pos}{ty tx:TE}
def Rn(hu:X.A.units+1<cLine)(ho:PE X o td)(he:PE X e ty)(hf:PE X f tx)(m:M2 X o "get" apos e f bv):PE X (.Call (.Attribute o "get" apos) [e,f] [] bv) (Rm td ty tx):=by
 intro U s σ H Q I h;refine wpAny_Call_method m.Y m.Rj m.line plainAttrs_dict slot_dict_get type_dict_get (ay (ho U s σ H _ I h) λu s1⟨x,H1,I1,rx,a,ex,d,q1⟩=>?_);subst ex;obtain rfl:u=Value.ref a:=rx;obtain⟨t1,t2,_⟩:=Rk I1 d;exists t1,t2;rw[m.trees];refine ycp rfl (ycH (ybx (ay (he U s1 σ H1 _ I1 q1) λiv s2⟨y,H2,I2,ry,q2⟩=>
  ybx (ay (hf U s2 σ H2 _ I2 q2) λfv s3⟨z,H3,I3,rz,ov,g,q3⟩=>ycd ?_))))
 exact Rl hu I3 g ry rz λw' s4 I4 Os=>⟨_,H3,I4,Os,q3⟩
end
end L2
namespace IY
open PySem PySem.W PySem.Calls PyProof.Rows
def VW:∀(ns:List Int)(vs:List Value),WellAll P h vs (ns.map WData.int)->IntsAre vs ns:=by
 intro ns
 induction ns with
 |nil=>
  intro vs w;rw[ydv]at w;cases w;exact .nil
 |cons n ns ih=>
  intro vs w;rw[lC]at w;cases w with
  |cons a b=>
   cases a;exact .cons _ _ (ih _ b)
def vU{l:OpenLaw}{n:Nat}(hn:l.most=some n){P:Params}{h:Heap}{args:List WData}{vals:List Value}(Ix:l.row.toRowW.claim.pre args=true)(EX:WellAll P h vals args):∃a vs ns,vals=[Value.ref a]/\args=[WData.list (ns.map WData.int)]/\h.get? a=some {cls:=.type "list",data:=.seq vs.toArray}/\IntsAre vs ns/\ns.length<=n:=by
 have Ro:WShape.hasAll [] args [.list .int]=true:=(pre_splitW Ix).1;have hc:l.pre.holds [] {args:=args}=true:=(pre_splitW Ix).2;obtain⟨d,r,rfl,h1,h2⟩:=hasAllW_cons Ro;obtain rfl:=hasAllW_nil h2;obtain⟨xs,rfl,h3⟩:=hasW_list h1;obtain⟨ns,rfl⟩:=items_int h3;have hlen:ns.length<=n:=by
  unfold OpenLaw.pre at hc;have h4:(WTm.not (.lt (.lit (.int (n:Int))) (.len (.arg 0)))).holds [] {args:=[.list (ns.map .int)]}=true:=by
   have h4:=(holds_andW hc).1;rw[hn]at h4;exact h4
  have h5:=condW_of h4 (w_not (w_lt w_lit (w_len_list (w_arg Z))));rw[tK]at h5;refine Nat.le_of_not_lt λq=>?_;have q':(n:Int)<((ns.length:Nat):Int):=by lia
  first
   |(rw[tM q']at h5;exact absurd h5 (by lia))
   |(simp at h5;lia)
 cases EX with
 |cons w1 w2=>
  cases w2;cases w1 with
  |list ho ms=>exact⟨_,_,ns,Z,Z,ho,VW ns _ ms,hlen⟩
def vV(l:OpenLaw)(args:List WData):l.row.toRowW.claim.post args (.bool true) args=true:=
 postW_of (r:=l.row.toRowW) (X:=(true==true))
  (show WShape.has [] (.bool true) .bool=true by first|rfl|decide|simp[WShape.has,WShape.arms,WShape.armsAll])
  (show(WTm.eq .res (.lit (.bool true))).value [] {args:=args,res:=some (.bool true),after:=args}=some (.bool (true==true))from w_eq_bool (w_res Z) w_lit) rfl
def zB{l:OpenLaw}{n:Nat}{loose:List Str}{d:DefRec}(hn:l.most=some n)(Ax:d.params.defaults=[])(call:∀(w:World)(s₀ s₁:Shared)(mg mb:Str->Option Value)(fa:Addr)(o:Obj)(pm cd doc:Value)(a:Addr)(vs:List Value)(ns:List Int),
   Ground q loose [] XP w s₀ mg mb s₁.heap->YP w s₁.heap->
   s₁.heap.get? fa=some o->o.data=.func (docDef d.name d.params d.body d.scope pm cd doc)->s₁.heap.CodeRec cd d.name->mg d.name=some (.ref fa)->
   s₁.heap.get? a=some {cls:=.type "list",data:=.seq vs.toArray}->IntsAre vs ns->ns.length<=n->s₁.gens= #[]->
   codeAny (model l.prog w) callerA (.call (.ref fa) ⟨[.ref a],[]⟩) (λr s'=>r=.ok (.ret (.bool true))/\OldK s₁.heap s'.heap/\s'.os=s₁.os/\AllBare s'.gens) s₁):
  WalkO q loose XP YP l.row.toRowW d [] (λf vs=>PySem.call f vs):=by
 intro w s₀ s₁ mg mb G qYa fa o pm cd doc dV kV ho hd cM hD Ay hg args vals as Ix Rp lN EX SZ;obtain rfl:dV=.none:=Dflts.none hD Ax;obtain rfl:kV=.none:=Dflts.noKw hD;obtain⟨a,vs,ns,rfl,rfl,lO,hints,hlen⟩:=vU hn Ix EX;refine enter_call (ycY (call w s₀ s₁ mg mb fa o pm cd doc a vs ns G qYa ho (fd_plain hd) cM Ay lO hints hlen hg) λr s' hq=>?_);obtain⟨rfl,h2,h3,h4⟩:=hq;exact⟨.inl ⟨.bool true,.bool true,[],Z,λ_=>rfl,.bool true,vV l _,λ_=>⟨List.Pairwise.nil,λ_ hm=>(nomatch hm)⟩⟩,h2,h3,h4⟩
end IY
namespace L2
open PySem PySem.Spec PyProof.Rows
theorem jr:∀{vs:List Value}{ns:List Int},IntsAre vs ns->Vals (ns.map V.int) vs
 |_,_,.nil=>.nil
 |_,_,.cons n t h=>.cons ⟨t,Z⟩ (jr h)
def CA(H:Hp):Prop:=∀b,H b=none\/∃o xs,H b=some (.bY o (.lst xs))
def Rq{K:Frag}{CX:de}{k:Nat}{fd:FuncData}{x:Str}{sp:Sp}{vs:List Value}{ns:List Int}(KX:K.In s₁.heap)(IZ:s₁.heap.Ns mainGlobals mg)(hb:s₁.heap.Ns builtinsNs mb)(EY:∀x:Str,x≠"__name__"->mb x=bootBuiltins x)(EZ:s₁.heap.NoLimit)(hg:s₁.gens= #[])(ha:s₁.heap.get? a=some {cls:=.type "list",data:=.seq vs.toArray})(hi:IntsAre vs ns)(hl:ns.length<=sizeLine)(hr:Zd k callerA)(F:∀Y:Heap,K.In Y->Y.Ns mainGlobals mg->ak P w K mg Y CX k fa fd [x] sp)(Az:∀(s:Shared)(u:Value),BindsTo s fd ⟨[u],[]⟩ [(x,u)])(GE:∀H:Hp,CA H->aC K H a (ns.map V.int)->sp [.ref a] H (λv _=>v=.bl true) λ_ _ _=>False)(AB:∀H e s',CX [] H s₁ (λ_ _ _=>False) e s'->False):codeAny (model P w) callerA (.call (.ref fa) ⟨[.ref a],[]⟩) (λr s'=>r=.ok (.ret (.bool true))/\OldK s₁.heap s'.heap/\s'.os=s₁.os/\AllBare s'.gens) s₁:=by
 have rv:=jr hi;have E2:=hi.length;have core:∀H:Hp,CA H->aC K H a (ns.map V.int)->bo P w H s₁.heap->(∀b,H b≠none->b=a)->(H a≠none->K.lookup a=none)->
   codeAny (model P w) callerA (.call (.ref fa) ⟨[.ref a],[]⟩) (λr s'=>r=.ok (.ret (.bool true))/\OldK s₁.heap s'.heap/\s'.os=s₁.os/\AllBare s'.gens) s₁:=by
  intro H hO hS ao hA hK;have Tk:∀{b:Addr}{o:Obj},s₁.heap.get? b=some o->H b=none->(e5 s₁.heap H).get? b=some o:=λe n=>OD e n;have Aq:∀{b:Addr}{o:Obj}{es:Array DictEntry}{ep:Nat},s₁.heap.get? b=some o->o.data=.dict es ep->H b=none:=λ{b o es ep} e d=>by
   cases q:H b with
   |none=>rfl
   |some u=>
    have e':b=a:=hA b (by rw[q];simp);subst e';rw[ha]at e;cases e;have d':Data.seq vs.toArray _=Data.dict es ep:=d;cases d'
  have CB:∀{b:Addr}{m:Str->Option Value},s₁.heap.Ns b m->(e5 s₁.heap H).Ns b m:=λ{b m}⟨o,es,ep,e,d,r⟩=>⟨o,es,ep,Tk e (Aq e d),d,r⟩;have I0:K.In (e5 s₁.heap H):=λb o e=>Tk (KX b o e) (by
   cases q:H b with
   |none=>rfl
   |some u=>
    have e':b=a:=hA b (by rw[q];simp);subst e';rw[hK (by rw[q];simp)]at e;cases e)
  have hM:Mod K mg (e5 s₁.heap H):=⟨I0,CB IZ,⟨mb,CB hb,EY⟩,let ⟨mc,h1,h2⟩:=EZ;⟨mc,CB h1,h2⟩⟩;have e0:cz P w K mg (e5 s₁.heap H) callerA [] s₁ H:=⟨Z,hM,λb o e=>OF e,ycu (vo _ _),trivial,λb hb=>absurd (show b∈([]:List Addr)from hb) (by simp),ao,.of_eq hg⟩;refine ycY ((F _ I0 (CB IZ)).run callerA [] s₁ H ⟨[.ref a],[]⟩ [.ref a] [.ref a] _ _ hr e0 (Az s₁ (.ref a)) (.cons Z .nil) (GE H hO hS)) λr s' h=>?_;cases r with
  |error e=>exact(AB H e s' h).elim
  |ok fl=>
   cases fl with
   |next=>exact False.elim h
   |brk=>exact False.elim h
   |cont=>exact False.elim h
   |ret u=>
    obtain⟨v,H',os,bare,un,E3,r',q⟩:=h;have q':v=.bl true:=q;subst q';obtain rfl:u=Value.bool true:=r';refine⟨Z,OldK.of_keep λb o e=>?_,os,bare⟩;cases q:H b with
    |none=>exact un.keep b o e q (by intro z;exact absurd (show b∈([]:List Addr)from z) (by simp)) (by simp)
    |some u=>
     rcases hO b with z|⟨ob,xs,z⟩
     .rw[q]at z;cases z
     .have z2:=un.bL b ob _ z;obtain⟨e1,_⟩:=ao b _ z;obtain⟨e2,_⟩:=E3 b _ z2;rw[e]at e1;cases e1;exact e2
 cases hk:K.lookup a with
 |some o=>
  have e:=KX a o hk;rw[ha]at e;cases e;refine core (λ_=>none) (λ_=>.inl Z) (.inr ⟨_,vs.toArray,_,hk,Z,Z,Z,by rw[lE,E2];exact hl,by simpa using rv⟩) (λb u z=>by have z':(none:Option HO)=some u:=z;cases z') (λb z=>absurd Z z) λz=>absurd rfl z
 |none=>
  refine core (λb=>if b=a then some (.bY {cls:=.type "list",data:=.seq vs.toArray} (.lst (ns.map V.int)))else none) (λb=>?_) (.inl (.inr ⟨{cls:=.type "list",data:=.seq vs.toArray},yai rfl⟩)) (λb u z=>?_) (λb z=>?_) λ_=>hk
  .by_cases hb:b=a
   .exact .inr ⟨_,_,yai hb⟩
   .exact .inl (yag hb)
  .by_cases hb:b=a
   .have z':=(yai hb).symm.trans z;cases z';subst hb;exact⟨ha,by rw[tK];exact hl,vs,_,rv,ha⟩
   .have z':=(yag hb).symm.trans z;cases z'
  .by_cases hb:b=a
   .exact hb
   .exact absurd (yag hb) z
def Rr{l:PySem.W.OpenLaw}{n k:Nat}{q:Program}{loose:List Str}{d:DefRec}{K:Params->Frag}{CX:World->de}{sp:World->Sp}{x:Str}(hn:l.most=some n)(iz:n<=sizeLine)(Ax:d.params.defaults=[])(hr:Zd k callerA)(hY:∀(w:World)(h:Heap),YP w h->(K w.params).In h)(F:∀(w:World)(mg:Str->Option Value)(fa:Addr)(h:Heap),(K w.params).In h->h.Ns mainGlobals mg->mg d.name=some (.ref fa)->
   ∃fd:FuncData,(∀(s:Shared)(u:Value),BindsTo s fd ⟨[u],[]⟩ [(x,u)])/\
    ∀Y:Heap,(K w.params).In Y->Y.Ns mainGlobals mg->ak l.prog w (K w.params) mg Y (CX w) k fa fd [x] (sp w))(GE:∀(w:World)(H:Hp)(a:Addr)(ns:List Int),ns.length<=n->CA H->aC (K w.params) H a (ns.map V.int)->sp w [.ref a] H (λv _=>v=.bl true) λ_ _ _=>False)(AB:∀(w:World)(H:Hp)(s:Shared)(e:Value)(s':Shared),CX w [] H s (λ_ _ _=>False) e s'->False):
  PySem.W.WalkO q loose XP YP l.row.toRowW d [] (λf vs=>PySem.call f vs):=by
 refine IY.zB hn Ax λw s₀ s₁ mg mb fa o pm cd doc a vs ns G qYa ho hd cM Ay lO hints hlen hg=>?_;have KX:=hY w _ qYa;obtain⟨fd,hb,hF⟩:=F w mg fa _ KX G.T.g Ay;exact Rq KX G.T.g G.T.b G.T.builtins G.T.nolimit hg lO hints (yap hlen iz) hr hF hb (λH hO hS=>GE w H a ns hlen hO hS) λH e s'=>AB w H s₁ e s'
noncomputable def inClass(s:Stmt)(j:Nat):Stmt:=match s with
 | .ClassDef _ _ _ body _ _ _ _ _ _ _=>body.getD j (.Pass ⟨0,0,0,0⟩)
 |_=>.Pass ⟨0,0,0,0⟩
noncomputable def Q8(s:Stmt):Arguments:=match s with
 | .FunctionDef _ a _ _ _ _ _ _ _ _=>a
 |_=>{posonlyargs:=[],args:=[],vararg:=none,kwonlyargs:=[],kw_defaults:=[],kwarg:=none,defaults:=[]}
noncomputable def QS(s:Stmt):List Stmt:=match s with
 | .FunctionDef _ _ b _ _ _ _ _ _ _=>b
 |_=>[]
noncomputable def Qe(s:Stmt):Scope:=match s with
 | .FunctionDef _ _ _ _ _ _ sc _ _ _=>sc
 |_=>{kind:=.function,names:=[],isGenerator:=false,isCoroutine:=false}
abbrev E0:XK:=λ_ _ _=>False
structure az(K:Frag)(x qual:Str)(st:Stmt)(f:Addr)(fd:FuncData):Prop where
 ex:∃(oc:Value)(od:Option Addr)(kV doc pm:Value)(an:Option Addr)(am ct:Value)(ge:Array (Option Value)),
  fd=fnOf x qual (Q8 st) (QS st) (Qe st) .none kV doc pm an am ct/\K.lookup f=some ⟨oc,od,.func fd,ge⟩/\codeIn K am qual=true
 kp:keepIn K (.ref f)=true
section
variable {K:Frag}
def az.binds{x qual:Str}{st:Stmt}{fd:FuncData}(F:az K x qual st f fd)(h:∀(kV doc pm:Value)(an:Option Addr)(am ct:Value)(us:List Value),us.length=ps.length->bindArgs (fnOf x qual (Q8 st) (QS st) (Qe st) .none kV doc pm an am ct) ⟨us,[]⟩=pure (ps.zip us)):Binds K fd ps []:=by
 obtain⟨oc,od,kV,doc,pm,an,am,ct,ge,rfl,lk,cM⟩:=F.ex;exact .all (h kV doc pm an am ct)
end
def Rt(hr:Zd k A):A.units+1<cLine:=Nat.lt_of_le_of_lt (Nat.add_le_add_left (by decide:1<=64) _) hr.units
section
variable {X:Cx}
def pv(i:Nat){pos:Pos}(hN:X.N[i]? =some x:=by rfl)(hv:Cn X.env.scope x:=by first|exact Or.inl rfl|exact Or.inr (Or.inl rfl)|exact Or.inr (Or.inr rfl))(hd:(x==("__debug__":Str))=false:=by lia)(cM:(x==("__classdict__":Str))=false:=by lia):PE X (.Name x pos) (Kz i):=OM hN hv hd cM
end
def QO{A B:Prop}(h:B):if false=true then A else B:=by
 rw[yag yal];exact h
def QZ{A B:Prop}(h:A):if true=true then A else B:=by
 rw[yai rfl];exact h
def Qn(H H':Hp):Prop:=∀b o,H b=some o->H' b=some o
def Qn.refl(H:Hp):Qn H H:=λ_ _ h=>h
def Qn.trans{H H1 H2:Hp}(a:Qn H H1)(b:Qn H1 H2):Qn H H2:=λc o h=>b c o (a c o h)
def Qn.free(e:Qn H H')(h:H' l=Option.none):H l=Option.none:=by
 cases q:H l with
 |none=>rfl
 |some o=>
  rw[e l o q]at h;cases h
def JJ.ex(x:JJ P w H h a o):∃ob,h.get? a=some ob:=by
 cases o with
 |lst xs=>obtain⟨_,_,_,_,e⟩:=x;exact⟨_,e⟩
 |tup xs=>obtain⟨_,_,_,ob,e,_⟩:=x;exact⟨_,e⟩
 |dK al=>obtain⟨_,_,_,_,o,_,_,e,_⟩:=x;exact⟨_,e⟩
 |dT al=>obtain⟨_,_,_,_,o,_,_,e,_⟩:=x;exact⟨_,e⟩
 |set S n=>obtain⟨o,_,_,_,e,_⟩:=x;exact⟨_,e⟩
 |ins C dx fs=>obtain⟨_,_,_,e,_⟩:=x;exact⟨_,e⟩
 |own y=>exact x
 |xd fs=>obtain⟨_,⟨_,_,_,e,_⟩,_⟩:=x;exact⟨_,e⟩
 |Ck lo hi=>obtain⟨_,_,_,e⟩:=x;exact⟨_,e⟩
 |bY ob u=>obtain⟨e,_⟩:=x;exact⟨_,e⟩
 |il ps=>exact⟨_,(show h.get? a=some _ from x)⟩
 |met f y=>exact⟨_,(show h.get? a=some _ from x)⟩
 |ext φ=>obtain⟨_,e,_⟩:=x;exact e
def Ru(h:Heap)(e T:Addr)(cls:Value):Prop:=
 ∃oe vs oT ts a0,h.get? e=some oe/\oe.cls=cls/\oe.data=.fields vs/\vs[0]? =some a0/\vs[1]? =some (.ref T)/\T≠e/\h.get? T=some oT/\oT.data=.fields ts/\ts[3]? =some .none
def av(P:Program)(w:World):de:=λL H s E e s'=>
 ∃a T cls H',e=.ref a/\Ru s'.heap a T cls/\s.heap.get? a=none/\s.heap.get? T=none/\H' a=none/\H' T=none/\s'.os=s.os/\AllBare s'.gens/\
  Un (bz L) [] H H' s.heap s'.heap/\bo P w H' s'.heap/\E cls none H'
def Qr:Passes (av P w) X E0:=by
 rintro _ _ _ _ _ _ _ ⟨_,_,_,_,_,_,_,_,_,_,_,_,_,_,h⟩;exact h.elim
section
variable {X:Cx}{U:List (Addr × Obj)}{σ:St}{H:Hp}{s:Shared}
def js{cls a0:Value}(I:Inv X U σ H s)(hex:X.ex=[])(E4:X.stack=X.env::X.L)(E5:∀y∈ys,H y=none/\X.s₀.heap.get? y=none)(ha:H a=none)(Rv:X.s₀.heap.get? a=none)(fl:Heap.FlyingW (hideAll s.heap (bz X.stack++ys)) X.L a cls a0 se)(up:∀b∈bz X.stack,∀o,s.heap.get? b=some o->(∀vs,o.data≠ .fields vs)->∃sl,se.get? b=some {o with slots:=sl})(hE:E cls none H):av X.prog X.w X.L X.H₀ X.s₀ E (.ref a) {s with heap:=se}:=by
 obtain⟨f1,f2,f3,oe,vs,T,oT,ts,t1,⟨t2,t3⟩,t4,t5,t6,t7,t8,t9,E6⟩:=fl;have fm:∀b:Addr,b∉X.ex:=λb hb=>by rw[hex]at hb;cases hb
 have E7:∀b o,s.heap.get? b=some o->b∉bz X.stack->b∉ys->se.get? b=some o:=λb o e n1 n2=>
  f1 b o (hideAll_get _ e λhm=>(yaq.mp hm).elim n1 n2)
 have fr:∀b∈bz X.stack,∃o,s.heap.get? b=some o/\∀vs,o.data≠ .fields vs:=λb hb=>(I.stack.mem hb).2;have old:∀b o,X.s₀.heap.get? b=some o->b∉ys:=λb o e hb=>by rw[(E5 b hb).2]at e;cases e
 have E8:∀b,b∈bz X.stack->b∈X.env.locals::X.fs:=I.xy;have Co:∀b o,X.s₀.heap.get? b=some o->b≠X.env.locals:=λb o e=>yar (yam (yaj e) I.ok.above);have J':∀o,s.heap.get? T=some o->T∉ys->False:=λo e n2=>by
  by_cases hf:T∈bz X.stack
  .obtain⟨o2,e2,d2⟩:=fr T hf;obtain⟨sl,e3⟩:=up T hf o2 e2 d2;rw[t8]at e3;cases e3;exact d2 _ t9
  .have:=hideAll_get (bz X.stack++ys) e λhm=>(yaq.mp hm).elim hf n2;rw[t6]at this;cases this
 refine⟨a,T,cls,H,Z,⟨oe,vs,oT,ts,a0,t1,t2,t4,t3,t5,t7,t8,t9,E6⟩,Rv,?_,ha,?_,I.os,I.bare,⟨λb o e n hb hx=>?_,λb o e n hb hx=>?_,λb o e n hx=>I.Y.free b o e n (fm b),λb o e hx=>?_,I.Y.qK,I.Y.bL,I.Y.bV⟩,λb o e=>?_,hE⟩
 .cases q:X.s₀.heap.get? T with
  |none=>rfl
  |some o=>
   obtain⟨o',e'⟩:=I.Y.there T o q (fm T);exact(J' o' e' (old T o q)).elim
 .cases q:H T with
  |none=>rfl
  |some u=>
   obtain⟨ob,e⟩:=(I.ao T u q).ex;exact(J' ob e λhm=>by rw[(E5 T hm).1]at q;cases q).elim
 .refine E7 b o (I.Y.keep b o e n hb (fm b)) (λhm=>?_) (old b o e);rcases yak.mp (E8 b hm)with z|z
  .exact Co b o e z
  .exact hb z
 .obtain⟨sl,e1⟩:=I.Y.slot b o e n hb (fm b);have hm:b∈bz X.stack:=by rw[E4];unfold bz;rw[ycT];split<;>first|exact hb|exact tU _ hb
  obtain⟨o2,e2,d2⟩:=fr b hm;rw[e1]at e2;cases e2;obtain⟨Ah,e3⟩:=up b hm _ e1 d2;exact⟨Ah,e3⟩
 .obtain⟨o',e1⟩:=I.Y.there b o e (fm b)
  by_cases hm:b∈bz X.stack
  .obtain⟨o2,e2,d2⟩:=fr b hm;obtain⟨Ah,e3⟩:=up b hm _ e2 d2;exact⟨_,e3⟩
  .exact⟨o',E7 b o' e1 hm (old b o e)⟩
 .refine(I.ao b o e).d6 (λc u hc q=>E7 c u q (λhm=>?_) λhm=>?_) (λ_ q=>q) λ_ _ q=>q
  .have z:=I.zq c hm;rcases hc with rfl|hc
   .rw[e]at z;cases z
   .rw[hc]at z;cases z
  .have z:=(E5 c hm).1;rcases hc with rfl|hc
   .rw[e]at z;cases z
   .rw[hc]at z;cases z
def VX(I:Inv X U σ H s)(ys:List Addr):s.heap.FunFrames (hideAll s.heap (bz X.stack++ys)) X.stack:=
 funFrames_hide I.stack λenv he a hf=>tT _ (yeh.mpr ⟨env,he,hf⟩)
end
def K'(X:Cx)(E:XK):Prop:=∀(U:List (Addr × Obj))(σ:St)(H:Hp)(s:Shared)(h':Heap)(a:Addr)(cls:Value)(args:List Value),
 Inv X U σ H s->Heap.MadeExcOf s.heap h' a cls args->E cls none H->X.xe (.ref a) {s with heap:=h'}
structure lP(X:Cx)(E:XK):Prop where
 ex:X.ex=[]
 dm:X.stack=X.env::X.L
 fr:X.env.frame=some X.env.locals
 xe:∀e s',wpAny (model X.prog X.w) X.A (leaving X.env e) (λ_ fc=>av X.prog X.w X.L X.H₀ X.s₀ E e fc) (λe' fc=>av X.prog X.w X.L X.H₀ X.s₀ E e' fc) s'->X.xe e s'
def Jh{K:Frag}{Y:Heap}{N:List Str}{qual:Str}{scope:Scope}{cd:Value}{L:List Env}{H:Hp}{E:XK}:lP (jn (av P w) P w K mg Y N qual scope f cd A L s H E) E:=⟨Z,Z,Z,λ_ _ h=>h⟩
section
def Jp(F:lP X E):K' X E:=by
 intro U σ H1 s1 h' a cls args I hx hE;have fm:∀b:Addr,b∉X.ex:=λb hb=>by rw[F.ex]at hb;cases hb
 refine F.xe _ _ ?_;have ff:s1.heap.FunFrames (hideAll s1.heap (bz X.stack++[])) (X.env::X.L):=by
  have z:=VX I [];rw[F.dm]at z ⊢;exact z
 refine wpAny_leaves_madeW (s:={s1 with heap:=h'}) (h:=s1.heap) (base:=hideAll s1.heap (bz X.stack++[])) (by rw[<-F.dm];exact I.ok.frames) F.fr
  (λb o q=>of_hideAll _ q) ff hx λse t fl _ _ up=>?_
 refine js (s:=s1) (ys:=[]) I F.ex F.dm (λy hy=>nomatch hy) ?_ ?_ fl (λb _ o e d=>?_) hE
 .cases q:H1 a with
  |none=>rfl
  |some u=>
   obtain⟨ob,e⟩:=(I.ao a u q).ex;have:=hx.new;rw[e]at this;cases this
 .cases q:X.s₀.heap.get? a with
  |none=>rfl
  |some o=>
   obtain⟨o',e'⟩:=I.Y.there a o q (fm a);have:=hx.new;rw[e']at this;cases this
 .exact up b o (hx.keeps b o e) d
def QH(F:lP X E):Passes (av X.prog X.w) X E:=by
 intro U σ H1 s1 e s' I h;obtain⟨a,T,cls,H',rfl,⟨oe,vs,oT,ts,a0,t1,t2,t3,t4,t5,t6,t7,t8,t9⟩,n1,n2,ha,hT,os,bare,un,ao,hE⟩:=h;have fm:∀b:Addr,b∉X.ex:=λb hb=>by rw[F.ex]at hb;cases hb
 have I':Inv X U σ H' s':=I.Io os un ao bare λb hb=>nomatch hb;have old:∀b,s1.heap.get? b=none->X.s₀.heap.get? b=none:=λb hb=>by
  cases q:X.s₀.heap.get? b with
  |none=>rfl
  |some o=>
   obtain⟨o',e'⟩:=I.Y.there b o q (fm b);rw[hb]at e';cases e'
 refine F.xe _ _ ?_;have ff:s'.heap.FunFrames (hideAll s'.heap (bz X.stack++[a,T])) (X.env::X.L):=by
  have z:=VX I' [a,T];rw[F.dm]at z ⊢;exact z
 refine wpAny_leaves_onW (base:=hideAll s'.heap (bz X.stack++[a,T])) (cls:=cls) (a0:=a0) (by rw[<-F.dm];exact I.ok.frames) F.fr
  ⟨λb o q=>of_hideAll _ q,hideAll_none _ (tR _ (by simp)),ff,oe,vs,T,oT,ts,t1,⟨t2,t4⟩,t3,t5,hideAll_none _ (tR _ (by simp)),t6,t7,t8,t9⟩
  λse fl up=>?_
 refine js I' F.ex F.dm (λy hy=>?_) ha (old a n1) fl (λb _ o e d=>up b o e d) hE;rcases yak.mp hy with rfl|hy
 .exact⟨ha,old _ n1⟩
 .obtain rfl:=yao.mp hy;exact⟨hT,old _ n2⟩
end
section
structure dh(K:Frag)(C:Addr):Prop where
 ex:excIn K C [.type "ValueError",.type "Exception",.type "BaseException",.type "object"] "ValueError.__new__"=true
def Rx(C:Addr)(E:XK)(t:TA):TS:=λ_ σ H=>t σ H λvs H1=>vs.length<=sizeLine/\E (.ref C) none H1
def JD{np bv pos:Pos}{rest:List Expr}(T:K' X E)(hc:X.calm=true)(hg:Gl X x)(hm:X.mg x=some (.ref C))(hC:dh X.K C)(ha:PA X (e₀::rest) t)(he:starEach (e₀::rest) X.env=(false,eval e₀ X.env)::starEach rest X.env:=by rfl)(db:(backTo bv (starEach rest X.env)).any (·.1)=false:=by rfl)(mo:(x==("__debug__":Str))=false:=by lia):PS X (.Raise (some (.Call (.Name x np) (e₀::rest) [] bv)) none pos) (Rx C E t):=by
 intro U s σ H D I h;have q:=hC.ex;have O:∃bm N nm q bs hdct sn sub ab col dd k0 k1 k2 k3 k5 mN,X.Y.get? C=some (excClassObj nm q C N bs bm hdct sn sub ab col dd k0 k1 k2 k3 k5 "ValueError.__new__")/\X.Y.Ns N mN/\mN "__init__"=none/\
   OwnTail X.Y [.type "ValueError",.type "Exception",.type "BaseException",.type "object"] bm:=by
  have KX:=I.mod.i5;unfold excIn at q
  split at q
  .rename_i dd cd sl ho
   split at q
   .rename_i C' bm k0 k1 k2 k3 n k5 hm hs;simp only[yax,ybl,ycf]at q;obtain⟨⟨⟨⟨⟨rfl,rfl⟩,dD⟩,ht⟩,ao⟩,CC⟩:=q;obtain⟨nm,bs,mro,ns,qn,hd,sn,sub,ab,col,del⟩:=cd;dsimp only at hm dD ao CC;subst hm dD;have eh:sl= #[k0,k1,k2,k3,some (.builtin "ValueError.__new__"),k5]:=by
     obtain⟨l⟩:=sl;simp only at hs;rw[hs]
    subst eh;exact⟨bm,ns,nm,qn,bs,hd,sn,sub,ab,col,dd,k0,k1,k2,k3,k5,_,KX _ _ ho,.of_isNs (isNs_of_in KX ao),nsMap_none_of_in KX ao CC,tail_of_in KX ht⟩
   .cases q
  .cases q
 obtain⟨tl,Nn,nm,qq,bs,hdct,sn,sub,ab,col,dd,k0,k1,k2,k3,k5,mN,h1,h2,h3,h4⟩:=O;refine wpAny_Raise_call_subT (C:=C) (nm:=nm) (q:=qq) (N:=Nn) (bs:=bs) (bm:=tl) (hdct:=hdct) (sn:=sn) (sub:=sub) (ab:=ab) (col:=col) (dd:=dd) (k0:=k0) (k1:=k1) (k2:=k2) (k3:=k3) (k5:=k5)
  excBase_ValueError (mN:=mN) (h4.hasType excBase_ValueError.hasBase) (I.ok.hd hc) (by rw[he];show(false||(backTo bv (starEach rest X.env)).any (·.1))=false;rw[db];rfl) h3 ?_
 refine WK I hg hm ⟨Z,?_⟩ (hd:=mo);have w1:=ha bv U s σ H _ I h;rw[he]at w1 ⊢;refine ycH (yaU w1 (λus s2 q2=>?_) λ_ _ y=>y);obtain⟨vs,H',I2,rv,hl,hE⟩:=q2;refine⟨Z,?_,I2.bk _ _ h1,h2.keeps I2.bk,h4.keeps I2.bk,λh' e hm=>T U σ H' s2 h' e (.ref C) _ I2 hm hE⟩;show us.length<=sizeLine;rw[<-rv.length];exact hl
end
section
variable {X:Cx}{U:List (Addr × Obj)}{σ:St}{H:Hp}{s:Shared}
noncomputable def E9(a:Addr)(cls:Value):HO:=.ext λh=>∃o vs,h.get? a=some o/\o.cls=cls/\o.data=.fields vs
def Inv.Ry(I:Inv X U σ H s)(hn:H a=none)(h0:X.s₀.heap.get? a=none)(hL:a≠X.env.locals)(hc:∀x c,X.env.cells.lookup x=some c->c≠a)(hp:∀p∈X.pn++U,p.1≠a)(new:JJ X.prog X.w (upd H a o) s.heap a o):Inv X U σ (upd H a o) s:=by
 refine⟨I.ok,I.os,I.bare,⟨I.Y.keep,I.Y.slot,λb u e n hx=>?_,I.Y.there,λb xs e=>?_,λb u xs e=>?_,λb ps e=>?_⟩,I.loc,I.cell,?_,λx c e=>?_,λp q=>?_,λb u e=>?_,I.len⟩
 .rw[Qo λz=>by rw[z,h0]at e;cases e];exact I.Y.free b u e n hx
 .have q:=I.Y.qK b xs e;rw[Qo (QB q hn)];exact q
 .have q:=I.Y.bL b u xs e;rw[Qo (QB q hn)];exact q
 .obtain⟨m,q⟩:=I.Y.bV b ps e;exact⟨m,by rw[Qo (QB q hn)];exact q⟩
 .rw[Qo hL.symm];exact I.free
 .rw[Qo (hc x c e)];exact I.aP x c e
 .obtain⟨e,n,r⟩:=I.pin p q;exact⟨e,by rw[Qo (hp p q)];exact n,r⟩
 .by_cases hb:b=a
  .subst hb;rw[Qf]at e;cases e;exact new
  .rw[Qo hb]at e;exact(I.ao b u e).d6 (λc v _ q=>q) (λc q=>by rw[Qo (QB q hn)];exact q) λc xs q=>by rw[Qo (QB q hn)];exact q
end
section
def xM(h:i.natAbs<2^2000):Builtin.Int.intBits i<=2^20:=yap (intBits_le h) (by lia)
def Rz(i j:Int):Prop:=i.natAbs<2^2000/\j.natAbs<2^2000
def vW:aQ X (binaryOp .Mult) (rI Rz λi j=>.int (i*j)):=o6 λ_ _ _ _ _ _ _ hc q=>mul_int q (IntMulOk.of_bits (xM hc.1) (xM hc.2))
def RC(i j:Int):Prop:=0<j/\j.natAbs<2^2000
def RD:aQ X (binaryOp .FloorDiv) (rI RC λi j=>.int (i/j)):=o6 λi j _ _ _ _ _ hc q=>by
 have hp:Builtin.divisionGoesByPylong i j=false:=PyProof.noPylong_of_log2 (by
  by_cases h0:j.natAbs=0
  .rw[h0];lia
  .have:=(Nat.log2_lt h0).mpr hc.2;lia)
 refine floordiv_int (ybQ hc.1) ?_ (.inl hp);rw[ycF _ (ycZ hc.1)];exact q
noncomputable def jd(x:Str)(n:Nat):Str:=⟨(replicate n x.cps).foldl (· ++ ·) #[]⟩
def wq:aQ X (binaryOp .Mult) (λx y H Q=>∃z n,x=.str z/\y=.int n/\0<=n/\z.length*n.toNat<=sizeLine/\n<2^40/\Q (.str (jd z n.toNat)) H):=by
 intro U s σ H x y v u Q I rx ry h;obtain⟨z,n,rfl,rfl,h0,hl,hn,q⟩:=h;obtain⟨t,rfl⟩:=rx;obtain⟨t',rfl⟩:=ry;have hlen:∀k:Nat,(jd z k).cps.toList=(replicate k z.cps.toList).flatten:=λk=>by
  unfold jd;have:∀(l:List (Array Nat))(acc:Array Nat),(l.foldl (· ++ ·) acc).toList=acc.toList++(l.map (·.toList)).flatten:=by
   intro l
   induction l with
   |nil=>intro acc;simp
   |cons a r ih=>intro acc;rw[ydd,ih];simp
  rw[this];simp
 refine PySem.P.mul_str ?_ ?_ ?_ ?_
 .rw[tL (by lia),tL (by lia)];rfl
 .intro h1 h2 h3;have:(z.length:Int)*n<=2^63-1:=by
   have e:((z.length*n.toNat:Nat):Int)=(z.length:Int)*n:=by push_cast;rw[Int.toNat_of_nonneg h0]
   have:=Xm;lia
  have:=(Int.le_ediv_iff_mul_le (by lia:0<n)).mpr this;lia
 .intro h1 h2;have:=hl;exact tL (Nat.not_lt.mpr hl)
 .by_cases h1:n<1
  .rw[yai h1];have e:jd z n.toNat=Str.empty:=by rw[show n=0 by lia];rfl
   exact⟨by lia,.str (jd z n.toNat),H,I.tok _,⟨_,by rw[e]⟩,q⟩
  .rw[yag h1]
   by_cases h2:(n==1||z.length==0)=true
   .rw[yai h2];have e:jd z n.toNat=z:=by
     have:(jd z n.toNat).cps.toList=z.cps.toList:=by
      rw[hlen];simp only[Bool.or_eq_true,ybl]at h2;rcases h2 with h2|h2
      .rw[h2];simp
      .have:z.cps.toList=[]:=by
        have h3:z.cps.size=0:=h2;rw[Array.eq_empty_of_size_eq_zero h3]
       rw[this];simp
     have:(jd z n.toNat).cps=z.cps:=by rw[<-Array.toList_inj];exact this
     cases z;cases hh:jd _ n.toNat;rw[hh]at this;simp only at this;rw[this]
    exact⟨.str (jd z n.toNat),H,I,⟨t,by rw[e]⟩,q⟩
   .rw[yag h2];refine⟨?_,.str (jd z n.toNat),H,I.tok _,⟨_,Z⟩,q⟩;show(jd z n.toNat).cps.size<=sizeLine;rw[<-lD,hlen,List.length_flatten,yde,List.sum_replicate_nat];have e:z.cps.toList.length=z.length:=by rw[lD];rfl
    rw[e,ybP];exact hl
def Wq:WL X (.type "int") (λxs H Q=>∃x n,xs=[.str x]/\PySem.intText? x=some n/\x.length<=640/\Q (.int n) H):=by
 intro U s σ H xs us Q I r h;obtain⟨x,n,rfl,hn,hl,q⟩:=h;obtain⟨u,rfl,t,rfl⟩:=vals1 r;exact PySem.W.KIN.call_text hn hl ⟨.int n,H,I.tok _,⟨_,Z⟩,q⟩
def VY{U:List (Addr × Obj)}{σ:St}{H:Hp}{s:Shared}{A:Around}{xs ys:List V}{its ce:List Value}{e:Nat->Bool}{n:Nat}(r1:Vals xs its)(r2:Vals ys ce)(he:∀j x y u v,xs[j]? =some x->ys[j]? =some y->RelV x u->RelV y v->SeqAt.EqAt A s u v (e j)):∀j(h1:j<its.toArray.size)(h2:j<ce.toArray.size),SeqAt.EqAt A s its.toArray[j] ce.toArray[j] (e j):=by
 intro j h1 h2;have l1:=r1.length;have l2:=r2.length;rw[lE]at h1 h2;have k1:xs[j]? =some xs[j]:=yad (by lia);have k2:ys[j]? =some ys[j]:=yad (by lia);obtain⟨u,e1,q1⟩:=r1.get k1;obtain⟨v,e2,q2⟩:=r2.get k2;have z1:its.toArray[j]=u:=by
  rw[yad h1]at e1;simpa using tO e1
 have z2:ce.toArray[j]=v:=by
  rw[yad h2]at e2;simpa using tO e2
 rw[z1,z2];exact he j _ _ u v k1 k2 q1 q2
end
structure bM(K:Frag)(C:Addr):Prop where
 ex:excIn K C [.type "ValueError",.type "Exception",.type "BaseException",.type "object"] "ValueError.__new__"=true
 ga:findIn K (.ref C) "__getattribute__"=some (some (.builtin "BaseException.__getattribute__"))
 gn:findIn K (.ref C) "__getattr__"=some none
 cl:findIn K (.ref C) "__class__"=some (some (.builtin "object.__class__"))
def bM.err{K:Frag}(e:bM K C):dh K C:=⟨e.ex⟩
def UB{K:Frag}(KX:K.In h)(e:dh K C):∃bm N nm q bs hdct sn sub ab col dd k0 k1 k2 k3 k5,h.get? C=some (excClassObj nm q C N bs bm hdct sn sub ab col dd k0 k1 k2 k3 k5 "ValueError.__new__")/\
  OwnTail h [.type "ValueError",.type "Exception",.type "BaseException",.type "object"] bm:=by
 have q:=e.ex;unfold excIn at q
 split at q
 .rename_i dd cd sl ho
  split at q
  .rename_i C' bm k0 k1 k2 k3 n k5 hm hs;simp only[yax,ybl,ycf]at q;obtain⟨⟨⟨⟨⟨rfl,rfl⟩,dD⟩,ht⟩,ao⟩,CC⟩:=q;obtain⟨nm,bs,mro,ns,qn,hd,sn,sub,ab,col,del⟩:=cd;dsimp only at hm dD ao CC;subst hm dD;have eh:sl= #[k0,k1,k2,k3,some (.builtin "ValueError.__new__"),k5]:=by
    obtain⟨l⟩:=sl;simp only at hs;rw[hs]
   subst eh;exact⟨bm,ns,nm,qn,bs,hd,sn,sub,ab,col,dd,k0,k1,k2,k3,k5,KX _ _ ho,tail_of_in KX ht⟩
  .cases q
 .cases q
section
variable {prog:Program}{w:World}{A:Around}{E:Value->Shared->Prop}{h:Heap}{g:Array GenState}{d:Drawn}{t:Nat}{os:OsState}{K:Frag}{a C:Addr}{o:Obj}
def UC(KX:K.In h)(e:bM K C)(hx:h.get? a=some o)(hc:o.cls=.ref C)(hq:R (.ok (.ret (.ref C))) ⟨h,g,d,t,os⟩):codeAny (model prog w) A (.call (.builtin "getset_descriptor.__get__") ⟨[.builtin "object.__class__",.ref a,.ref C],[]⟩) R ⟨h,g,d,t,os⟩:=by
 obtain⟨bm,N,nm,q,bs,hdct,sn,sub,ab,col,dd,k0,k1,k2,k3,k5,hC,T⟩:=UB KX e.err;have La:(⟨h,g,d,t,os⟩:Shared).TypeIs (.builtin "object.__class__") "getset_descriptor":=ydw;have sf:(Value.ref C::bm).contains (.type (".".intercalate ("object.__class__".cutAt '.').dropLast))=true:=by
  rw[F.owner_object_class,yej,T.hasType (X:="object") (b:=true) (by lia)];rfl
 refine yca F.slot_gs_get.plain F.entry_gs_get (F.slot_gs_get.check _ _ _ _ _ _ _ _ La (F.args_gs_get _ _ _) ?_)
 repeat (any_goals (first|assumption|(with_reducible refine ycz hx ?_;rw[hc])|(with_reducible refine wpAny_isSubtype_exc hC ?_;rw[sf])|wp_step))
 refine⟨Code.quiet_builtin _ (by rfl'),ybK F.entry_object_class ?_⟩
 repeat (any_goals (first|assumption|(with_reducible refine ycz hx ?_;rw[hc])|wp_step))
def VZ{tk:Tok}(KX:K.In h)(e:bM K C)(hx:h.get? a=some o)(hc:o.cls=.ref C)(hq:Q (.done (.ret (.ref C))) ⟨h,g,d,t,os⟩):wpAny (model prog w) A (Builtin.«object.__getattribute__» ⟨[.ref a,.str "__class__" tk],[]⟩) Q E ⟨h,g,d,t,os⟩:=by
 have qLa:=yeO (M:=model prog w) KX e.cl;have La:(⟨h,g,d,t,os⟩:Shared).TypeIs (.builtin "object.__class__") "getset_descriptor":=ydw;have f5:=ydw;have f6:=F.slot_gs_get.lookup;have f7:=F.slot_gs_set.lookup
 repeat (any_goals (first|assumption|(with_reducible refine ycz hx ?_;rw[hc])|with_reducible refine yeH qLa ?_|wp_step))
 refine UC KX e hx hc ?_
 repeat (any_goals (first|assumption|wp_step))
def V0(KX:K.In h)(e:bM K C)(hx:h.get? a=some o)(hc:o.cls=.ref C)(hq:Q () ⟨h,g,d,t,os⟩):wpAny qMa A (checkBuiltinCall "BaseException.__getattribute__" ⟨[.ref a,iB],[]⟩) Q E ⟨h,g,d,t,os⟩:=by
 obtain⟨bm,N,nm,q,bs,hdct,sn,sub,ab,col,dd,k0,k1,k2,k3,k5,hC,T⟩:=UB KX e.err;have hk:builtinKind "BaseException.__getattribute__"=some .slot:=by rfl'
 have lQ:splitId "BaseException.__getattribute__"=some ("BaseException","__getattribute__"):=by rfl'
 have sf:(Value.ref C::bm).contains (.type "BaseException")=true:=by rw[yej,T.hasType (X:="BaseException") (b:=true) (by lia)];rfl
 have ha:=F.args_bexc_ga (.ref a) iB;simp only[checkBuiltinCall,hk,lQ];refine yaa ?_
 .unfold isInstance
  repeat (first|(with_reducible refine ycz hx ?_;rw[hc])|(with_reducible refine wpAny_isSubtype_exc hC ?_;rw[sf])|wp_step)
  exact hq
def YM{tk:Tok}(KX:K.In h)(e:bM K C)(hx:h.get? a=some o)(hc:o.cls=.ref C)(hq:R (.ok (.ret (.ref C))) ⟨h,g,d,t,os⟩):codeAny (model prog w) A (.call (.builtin "BaseException.__getattribute__") ⟨[.ref a,.str "__class__" tk],[]⟩) R ⟨h,g,d,t,os⟩:=
 yca F.excAttr_ValueError.ga.plain F.entry_bexc_ga (V0 KX e hx hc (VZ KX e hx hc hq))
def jt{tk:Tok}(KX:K.In h)(e:bM K C)(hx:h.get? a=some o)(hc:o.cls=.ref C)(hq:Q (.ref C) ⟨h,g,d,t,os⟩):wpAny (model prog w) A (getAttrBy (.ref a) (.str "__class__" tk) false) Q E ⟨h,g,d,t,os⟩:=by
 have L1:=yeO (M:=model prog w) KX e.ga;have L2:=yeO (M:=model prog w) KX e.gn;have f3:=F.excAttr_ValueError.ga.bind (.ref a);have ul:(Value.builtin "BaseException.__getattribute__"==Value.builtin "object.__getattribute__")=false:=by rfl'
 have u8:(onTheHeap (Value.ref C)&&Value.builtin "BaseException.__getattribute__"==Value.builtin "object.__getattribute__")=false:=by rw[ul];rfl
 repeat (any_goals (first|assumption|(with_reducible refine ycz hx ?_;rw[hc])|with_reducible refine yeH L1 ?_|with_reducible refine yeH L2 ?_|wp_step))
 refine YM KX e hx hc ?_
 repeat (any_goals (first|assumption|wp_step))
def YN(KX:K.In h)(e:bM K C)(hx:h.get? a=some o)(hc:o.cls=.ref C)(hq:Q (some (.ref C)) ⟨h,g,d,t+1,os⟩):wpAny (model prog w) A (getAttr? (.ref a) "__class__") Q E ⟨h,g,d,t,os⟩:=by
 unfold getAttr? getAttrBy?
 repeat (any_goals (first|assumption|with_reducible apply jt KX e hx hc|wp_step))
end
def RE{K:Frag}{a C:Addr}(e:bM K C):KitX K (.ref a) (.ref C) (λh=>∃o,h.get? a=some o/\o.cls=.ref C) where
 ty:=λqMa h X⟨o,e1,e2⟩=>by
  rw[<-e2];exact(PySem.W.Looks.ld e1).andThen .now
 it:=λqMa h X _=>by
  obtain⟨bm,N,nm,q,bs,hdct,sn,sub,ab,col,dd,k0,k1,k2,k3,k5,hC,T⟩:=UB X e.err;intro A' Q' E' s' k q;unfold isType loadHead;exact yaa (wpAny_loadPart (k _ _ hC) (yac q))
 ne:=λh tp dd its n sl X Lb=>by
  obtain⟨bm,N,nm,q,bs,hdct,sn,sub,ab,col,dd,k0,k1,k2,k3,k5,hC,T⟩:=UB X e.err;refine Bool.eq_false_iff.mpr λq=>?_;have e:C=tp:=Value.ref.inj (ybl.mp q);subst e;rw[hC]at Lb;exact absurd (Value.type.inj (yaF Obj.cls (tO Lb))) (by lia)
 ca:=λ{prog w A E Q s} X⟨o,e1,e2⟩ k=>by
  obtain⟨h,g,d,t,os⟩:=s;exact YN X e e1 e2 k
section
noncomputable def Fb:V->Bool
 | .ref _=>true
 | .ty _=>true
 |_=>false
noncomputable def AD:V->Value
 | .ref C=>.ref C
 | .ty n=>.type n
 |_=>.none
def RF(h:Fb c=true)(r:RelV c u):u=AD c:=by
 cases c<;>first|exact r|cases h
def RG(K:Frag):List V->Hp->VK->Prop:=λxs H Q=>∃x c b,xs=[x,c]/\Fb c=true/\((∃t,br K H x t/\kitOne K t (AD c)=some b)\/∃a C,x=.ref a/\H a=some (E9 a (.ref C))/\bM K C/\kitOne K (.ref C) (AD c)=some b)/\Q (.bl b) H
def Wr:WL X (.builtin "isinstance") (RG X.K):=by
 intro U s σ H xs us Q I r h;obtain⟨x,c,b,rfl,hc,hx,q⟩:=h;obtain⟨u,u2,rfl,ru,RH⟩:=vals2 r;obtain rfl:=RF hc RH;rcases hx with⟨t,ty,k⟩|⟨a,C,rfl,hH,e,k⟩
 .exact vD I ru ty k λtk=>⟨.bl b,H,I.tok tk,Z,q⟩
 .obtain rfl:u=Value.ref a:=ru;obtain⟨⟨o,vs,e1,e2,_⟩,_⟩:=(show JJ X.prog X.w H s.heap a (E9 a (.ref C))from I.ao a _ hH);exact ydP (RE e) I.bq ⟨o,e1,e2⟩ k (λz=>nomatch z) λtk=>⟨.bl b,H,I.tok tk,Z,q⟩
end
noncomputable def zC(K:Frag):Bool:=K.all λp=>match p.2.cls with
 | .type n=> !(n=="list")
 |_=>true
def wu{K:Frag}{o:Obj}(h:zC K=true)(e:K.lookup a=some o):o.cls≠ .type "list":=λz=>by
 have q:=List.all_eq_true.mp h (a,o) (mem_of_lookupK e);dsimp only at q;rw[z]at q;exact absurd q (by lia)
noncomputable def ZZ(cells:List (Str × Addr)):List (Str × NameKind)->List (Str × Addr)->List (Str × Addr)
 |[],acc=>acc
 |(n,k)::r,acc=>ZZ cells r (if k==.free then(n,(cells.lookup n).getD 0)::acc else acc)
theorem vX{env:Env}:∀(names:List (Str × NameKind))(acc:List (Str × Addr)),(∀y∈names,y.2=.free->∃c,env.cells.lookup y.1=some c)->
  (forIn names acc λx(cs:List (Str × Addr))=>(do
   let (name,kind):=x
   if kind==.free then
    let c<-cellOf env name
    pure (ForInStep.yield ((name,c)::cs))
   else pure (ForInStep.yield cs):Sem (ForInStep (List (Str × Addr)))))=pure (ZZ env.cells names acc)
 |[],acc,_=>rfl
 |(n,k)::r,acc,h=>by
  rw[yeR];have ih:=λCl=>vX (env:=env) r Cl λy hy=>h y (tU _ hy)
  by_cases hk:k=.free
  .subst hk;obtain⟨c,hc⟩:=h (n,.free) tW rfl;have d7:env.cells.lookup n=some c:=hc;show _=pure (ZZ env.cells r (if NameKind.free==NameKind.free then _ else _));have e:cellOf env n=pure c:=by unfold cellOf;rw[d7]
   simp only[ybg,ybN,e,pure_bind,d7,Option.getD_some];exact ih _
  .have hb:(k==NameKind.free)=false:=yau.mpr hk;show _=pure (ZZ env.cells r (if k==NameKind.free then _ else _));simp only[hb,yan,yaM,pure_bind];exact ih _
def UD{scope:Scope}{env:Env}(h:∀y∈scope.names,y.2=.free->∃c,env.cells.lookup y.1=some c):closureFor scope env=pure (ZZ env.cells scope.names []):=by
 unfold closureFor;have:=vX (env:=env) scope.names [] h;simp only[bind_pure]at this ⊢;exact this
theorem ju{cells:List (Str × Addr)}:∀(names:List (Str × NameKind))(acc:List (Str × Addr)),(∀y∈names,y.2=.free->∃c,cells.lookup y.1=some c)->(acc.lookup x=some c->cells.lookup x=some c)->
  (ZZ cells names acc).lookup x=some c->cells.lookup x=some c
 |[],_,_,h,e=>h e
 |(n,k)::r,acc,h0,h,e=>by
  unfold ZZ at e;refine ju r _ (λy hy=>h0 y (tU _ hy)) (λe'=>?_) e
  split at e'
  .rename_i hk;rw[ybB]at e'
   split at e'
   .rename_i hx;have EQ:x=n:=yeP hx;subst EQ;obtain⟨d,hd⟩:=h0 (x,k) tW (yeP hk);have Rs:cells.lookup x=some d:=hd;rw[Rs]at e' ⊢;exact e'
   .exact h e'
  .exact h e'
theorem UE{cells:List (Str × Addr)}:∀(names:List (Str × NameKind))(acc:List (Str × Addr)),((∃c,acc.lookup x=some c)\/(x,NameKind.free)∈names)->∃c,(ZZ cells names acc).lookup x=some c
 |[],acc,h=>by
  rcases h with h|h
  .exact h
  .cases h
 |(n,k)::r,acc,h=>by
  unfold ZZ;refine UE r _ ?_;rcases h with⟨c,h⟩|h
  .refine .inl ?_
   split
   .rw[ybB]
    split
    .exact⟨_,Z⟩
    .exact⟨c,h⟩
   .exact⟨c,h⟩
  .rcases yak.mp h with e|h
   .cases e;refine .inl ?_;rw[yai (by rfl),ybB,ybg];exact⟨_,Z⟩
   .exact .inr h
section
variable {P:Program}{w:World}{K:Frag}{mg:Str->Option Value}{Y:Heap}
abbrev Zz1(P:Program)(w:World)(K:Frag)(mg:Str->Option Value)(Y:Heap):=ak P w K mg Y (av P w)
def bN{x qual:Str}{st:Stmt}{fd:FuncData}{sp:Sp}(F:az K x qual st f fd)(S:af N ps (Qe st))(len:∀vs H Q E,sp vs H Q E->vs.length=ps.length)(dL:∀(am:Value)(A:Around)(L:List Env)(s:Shared)(H:Hp)(vs:List V)(Q:VK)(E:XK),Zd k (A.deeper (envOfC qual (Qe st) s.heap.objs.size f am))->sp vs H Q E->
   ∃t,cq (jn (av P w) P w K mg Y N qual (Qe st) f am A L s H E) (QS st) t/\t {nx:=λ_ H'=>Q .aq H',rt:=Q} (start N vs) H):Zz1 P w K mg Y (k+1) f fd ps sp:=by
 obtain⟨oc,od,kV,doc,pm,an,am,ct,ge,rfl,lk,cM⟩:=F.ex;exact IM lk cM S len λA L s H vs Q E hr GE=>dL am A L s H vs Q E hr GE
def okN{x qual:Str}{st:Stmt}{fd:FuncData}{sp:Sp}(F:az K x qual st f fd)(S:af N ps (Qe st))(len:∀vs H Q E,sp vs H Q E->vs.length=ps.length)(dL:∀(am:Value)(A:Around)(L:List Env)(s:Shared)(H:Hp)(vs:List V)(Q:VK)(E:XK),Zd k (A.deeper (envOfC qual (Qe st) s.heap.objs.size f am))->sp vs H Q E->
   ∃t,cq (jn (av P w) P w K mg Y N qual (Qe st) f am A L s H E).ir (QS st) t/\t {nx:=λ_ H'=>Q .aq H',rt:=Q} (start N vs) H):Zz1 P w K mg Y (k+1) f fd ps sp:=
 bN F S len λam A L s H vs Q E hr GE=>by
  obtain⟨t,h,q⟩:=dL am A L s H vs Q E hr GE;exact⟨t,h.ir,q⟩
end
structure aA(X:Cx)(e:Expr)(t:TE):Prop where
 pe:PE X e t
structure cN(X:Cx)(e:List Stmt)(t:TS):Prop where
 ps:cq X e t
def RI{k1 k2 v1 v2:Expr}{pos pos':Pos}{t1 t2 u1 u2:TE}(h1:aA X k1 t1)(h2:aA X v1 u1)(h3:aA X k2 t2)(h4:aA X v2 u2):cN X [.Return (some (.Dict [some k1,some k2] [v1,v2] pos)) pos'] (i8 (EW [(t1,u1),(t2,u2)])):=
 ⟨Qg (Qp (Rh (xL h1.pe h2.pe (xL h3.pe h4.pe Rg)) Z Z (List.cons_ne_nil _ _) (yae Z)))⟩
def ww:cN X [.Return (some (.Dict [some (.Constant (.str x) j1 p1),some (.Constant (.str y) j2 p2)] [.Constant (.int i) j3 p3,.Dict [] [] p4] p5)) p6] (i8 (EW [(tC (.str x),tC (.int i)),(tC (.str y),IW)])):=
 RI ⟨Qk⟩ ⟨Qj⟩ ⟨Qk⟩ ⟨Rf⟩
def ei{K:Frag}{Y:Heap}{x qual:Str}{st:Stmt}{fd:FuncData}{N ps:List Str}{k:Nat}{sp:Sp}(F:az K x qual st f fd)(S:af N ps (Qe st))(len:∀vs H Q E,sp vs H Q E->vs.length=ps.length)(dL:∀(am:Value)(A:Around)(L:List Env)(s:Shared)(H:Hp)(vs:List V)(Q:VK)(E:XK),Zd k (A.deeper (envOfC qual (Qe st) s.heap.objs.size f am))->sp vs H Q E->
   ∃t,cN (jn (av P w) P w K mg Y N qual (Qe st) f am A L s H E).ir (QS st) t/\t {nx:=λ_ H'=>Q .aq H',rt:=Q} (start N vs) H):Zz1 P w K mg Y (k+1) f fd ps sp:=
 okN F S len λam A L s H vs Q E hr GE=>by
  obtain⟨t,h,q⟩:=dL am A L s H vs Q E hr GE;exact⟨t,h.ps,q⟩
structure Def(P:Program)(w:World)(K:Frag)(mg:Str->Option Value)(Y:Heap)(k:Nat)(x:Str)(ps:List Str)(sp:Sp):Prop where
 ex:∃f fd,mg x=some (.ref f)/\keepIn K (.ref f)=true/\Binds K fd ps []/\Zz1 P w K mg Y k f fd ps sp
section
variable {X:Cx}{k k':Nat}{x:Str}{ps:List Str}{sp:Sp}{E:XK}{p pos:Pos}{e:Expr}{es:List Expr}{t:TA}
def Def.pe(D:Def X.prog X.w X.K X.mg X.Y k x ps sp)(hr:Zd k' X.A)(hk:k<=k')(hg:Gl X x)(hx:Passes (av X.prog X.w) X E)(ha:PA X (e::es) t)(mo:(x==("__debug__":Str))=false:=by lia)(he:starEach (e::es) X.env=(false,eval e X.env)::starEach es X.env:=by rfl)(db:(backTo pos (starEach es X.env)).any (·.1)=false:=by rfl):PE X (.Call (.Name x p) (e::es) [] pos) (XW sp [] E t):=by
 obtain⟨f,fd,h1,h2,h3,h4⟩:=D.ex;exact vF h4 (hr.mono hk) hg h1 h2 h3 .nil hx ha mo he db
def Def.pq(D:Def X.prog X.w X.K X.mg X.Y k x ps sp)(hr:Zd k' X.A)(hx:Passes (av X.prog X.w) X E)(ha:PA X (e::es) t)(hk:k<=k':=by lia)(hg:Gl X x:=by exact rfl)(mo:(x==("__debug__":Str))=false:=by lia)(he:starEach (e::es) X.env=(false,eval e X.env)::starEach es X.env:=by rfl)(db:(backTo pos (starEach es X.env)).any (·.1)=false:=by rfl):PE X (.Call (.Name x p) (e::es) [] pos) (XW sp [] E t):=D.pe hr hk hg hx ha mo he db
def Def.RJ(D:Def X.prog X.w X.K X.mg X.Y k x ps sp)(hr:Zd k' X.A)(hk:k<=k')(hg:Gl X x)(hx:Passes (av X.prog X.w) X E)(mo:(x==("__debug__":Str))=false:=by lia):PE X (.Call (.Name x p) [] [] pos) (XW sp [] E WM):=by
 obtain⟨f,fd,h1,h2,h3,h4⟩:=D.ex;exact Py h4 (hr.mono hk) hg h1 h2 h3 .nil hx mo
end
def bE{c:Bool}{A B:Prop}(hT:c=true->A)(hF:c=false->B):if c=true then A else B:=by
 cases c with
 |true=>rw[yai rfl];exact hT rfl
 |false=>rw[yag (by lia)];exact hF rfl
def Lc(x y:Bool):(!decide (V.bl x=V.bl y))=(x !=y):=by cases x<;>cases y<;>rfl
def vY(x y:Int):(!decide (V.int x=V.int y))=decide (x≠y):=by
 by_cases h:x=y
 .subst h;simp
 .rw[tL (λe=>h (V.int.inj e)),tM h];rfl
def KO(x y:Int):decide (V.int x=V.int y)=decide (x=y):=by
 by_cases h:x=y
 .subst h;simp
 .rw[tL (λe=>h (V.int.inj e)),tL h]
theorem aC.upd{K:Frag}{H:Hp}{o:HO}{xs:List V}(h:aC K H a xs)(n:a≠b):aC K (upd H b o) a xs:=by
 rcases h with(h|⟨o',h⟩)|h
 .exact .inl (.inl (by rw[Qo n];exact h))
 .exact .inl (.inr ⟨o',by rw[Qo n];exact h⟩)
 .exact .inr h
def aw.same{K:Frag}{xs:List V}(e:Qn H H')(h:aw K H a xs):aw K H' a xs:=by
 rcases h with(h|⟨o,h⟩)|h
 .exact .inl (.inl (e _ _ h))
 .exact .inl (.inr ⟨o,e _ _ h⟩)
 .exact .inr h
def Qn.new(h:H p=none):Qn H (upd H p o):=λb u e=>by rw[Qo (QB e h)];exact e
structure aG(H:Hp)(t r:Addr)(c:Int)(rs:List (Key × V)):Prop where
 tw:H t=some (.dK [(Sum.inr "count",.int c),(Sum.inr "rests",.ref r)])
 rt:H r=some (.dK rs)
 vs:∀kv∈rs,∃k z,kv=(Sum.inl k,V.int z)
 c0:0<=c
 ln:(rs.length:Int)<=c
 ne:t≠r
def aG.same{c:Int}{rs:List (Key × V)}(T:aG H t r c rs)(e:Qn H H'):aG H' t r c rs:=⟨e _ _ T.tw,e _ _ T.rt,T.vs,T.c0,T.ln,T.ne⟩
def Apart(t r:Addr)(H H':Hp):Prop:=∀b o,H b=some o->b≠t->b≠r->H' b=some o
def Apart.trans{H H1 H2:Hp}(a:Apart t r H H1)(b:Apart t r H1 H2):Apart t r H H2:=λc o e n1 n2=>b c o (a c o e n1 n2) n1 n2
def Apart.of{t r:Addr}{H H1:Hp}(a:Qn H H1):Apart t r H H1:=λc o e _ _=>a c o e
def Apart.seq{K:Frag}{xs:List V}(e:Apart t r H H')(h:aC K H a xs)(n1:a≠t)(n2:a≠r):aC K H' a xs:=by
 rcases h with(h|⟨o,h⟩)|h
 .exact .inl (.inl (e _ _ h n1 n2))
 .exact .inl (.inr ⟨o,e _ _ h n1 n2⟩)
 .exact .inr h
def jv{rs:List (Key × V)}(h:∀kv∈rs,∃k z,kv=(Sum.inl k,V.int z))(k:Int)(d:Int):∃z,(Vr rs (Sum.inl k:Key)).getD (.int d)=.int z:=by
 cases e:rs.find? λkv=>decide (kv.1=(Sum.inl k:Key))with
 |none=>exact⟨d,by unfold Vr;rw[e];rfl⟩
 |some p=>
  obtain⟨k',z,rfl⟩:=h p (List.mem_of_find?_eq_some e);exact⟨z,by unfold Vr;rw[e];rfl⟩
def jw{rs:List (Key × V)}(h:∀kv∈rs,∃k z,kv=(Sum.inl k,V.int z))(k z:Int):(∀kv∈putK rs (Sum.inl k:Key) (.int z),∃k z,kv=(Sum.inl k,V.int z))/\(putK rs (Sum.inl k:Key) (.int z)).length<=rs.length+1:=by
 unfold putK
 split
 .refine⟨λkv hm=>?_,by rw[tK];lia⟩;obtain⟨p,hp,rfl⟩:=yaY.mp hm;obtain⟨k',z',rfl⟩:=h p hp
  split
  .exact⟨k',z,Z⟩
  .exact⟨k',z',Z⟩
 .refine⟨λkv hm=>?_,by rw[tJ];exact tN _⟩;rcases yaq.mp hm with hm|hm
  .exact h kv hm
  .exact⟨k,z,yao.mp hm⟩
def vZ:¬ ((Sum.inr "count":Key)=(Sum.inr "rests":Key)):=by
 have h:¬ ("count":Str)="rests":=by rfl'
 exact λe=>h (ydN e)
def RK(c d:Int)(r:Addr):putK [((Sum.inr "count":Key),V.int c),(Sum.inr "rests",V.ref r)] (Sum.inr "count") (.int d)=[((Sum.inr "count":Key),V.int d),((Sum.inr "rests":Key),V.ref r)]:=by
 have h:¬ ((Sum.inr "rests":Key)=(Sum.inr "count":Key)):=λe=>vZ e.symm;unfold putK;rw[yai (by simp)];simp only[lC,ydv,ybN,yag h]
def Km(h:H t=some (.dK [(Sum.inr "count",.int c),(Sum.inr "rests",.ref r)])):wo H t (.str "count") (some (.int c)):=by
 have e:=wo.k (k:=(Sum.inr "count":Key)) h;rw[Wo rfl]at e;exact e
def Ko(h:H t=some (.dK [(Sum.inr "count",.int c),(Sum.inr "rests",.ref r)])):wo H t (.str "rests") (some (.ref r)):=by
 have e:=wo.k (k:=(Sum.inr "rests":Key)) h;rw[Vv vZ,Wo rfl]at e;exact e
def wz(d:Int)(h:H t=some (.dK [(Sum.inr "count",.int c),(Sum.inr "rests",.ref r)])):iA H t (.str "count") (.int d) (upd H t (.dK [(Sum.inr "count",.int d),(Sum.inr "rests",.ref r)])):=by
 have e:=iA.k (k:=(Sum.inr "count":Key)) (v:=.int d) h (by show 2<sizeLine;lia);rw[RK]at e;exact e
def jx(K:Frag):Sp:=λvs H Q _=>∃(a t r:Addr)(ns:List Int)(c many:Int)(rs:List (Key × V)),vs=[.ref a,.ref t,.int many]/\aC K H a (ns.map V.int)/\aG H t r c rs/\a≠t/\a≠r/\ns.length<=63/\c<100000/\0<many/\many<1000000/\
 ∀(v:Int)(IN:List (Key × V))(H':Hp),0<=v->v<many->aG H' t r (c+1) IN->Apart t r H H'->Q (.int v) H'
def zD:Sp:=λvs H Q _=>vs=[]/\∀(t r:Addr)(H':Hp),H t=none->H r=none->aG H' t r 0 []->Qn H H'->Q (.ref t) H'
structure Own(mg:Str->Option Value):Prop where
 len:mg "len"=none
 range:mg "range"=none
 abs:mg "abs"=none
 max:mg "max"=none
 int:mg "int"=none
 lR:mg "isinstance"=none
 bool:mg "bool"=none
 val:mg "ValueError"=none
 reversed:mg "reversed"=none
 divmod:mg "divmod"=none
 str:mg "str"=none
 sum:mg "sum"=none
noncomputable def v4(sc L:Scope):Bool:=sc.names.all λy=> !(y.2==.free)||L.names.lookup y.1==some .cell
def jy{sc L:Scope}(h:v4 sc L=true):∀y∈sc.names,y.2=.free->L.names.lookup y.1=some .cell:=λy hy e=>by
 have q:=List.all_eq_true.mp h y hy;rw[e]at q;simpa using q
structure lS(K:Frag)(x qual:Str)(st:Stmt)(f:Addr)(fd:FuncData)(am:Value):Prop where
 ex:∃(oc:Value)(od:Option Addr)(kV doc pm:Value)(an:Option Addr)(ct:Value)(ge:Array (Option Value)),
  fd=fnOf x qual (Q8 st) (QS st) (Qe st) .none kV doc pm an am ct/\K.lookup f=some ⟨oc,od,.func fd,ge⟩/\codeIn K am qual=true
def RL{K:Frag}{Y:Heap}{x qual:Str}{st:Stmt}{fd:FuncData}{am:Value}{N ps:List Str}{k:Nat}{sp:Sp}(F:lS K x qual st f fd am)(S:af N ps (Qe st))(len:∀vs H Q E,sp vs H Q E->vs.length=ps.length)(dL:∀(A:Around)(L:List Env)(s:Shared)(H:Hp)(vs:List V)(Q:VK)(E:XK),Zd k (A.deeper (envOfC qual (Qe st) s.heap.objs.size f am))->sp vs H Q E->
   ∃t,cq (jn (av P w) P w K mg Y N qual (Qe st) f am A L s H E).ir (QS st) t/\t {nx:=λ_ H'=>Q .aq H',rt:=Q} (start N vs) H):Zz1 P w K mg Y (k+1) f fd ps sp:=by
 obtain⟨oc,od,kV,doc,pm,an,ct,ge,rfl,lk,cM⟩:=F.ex;exact IM lk cM S len λA L s H vs Q E hr GE=>by
  obtain⟨t,h,q⟩:=dL A L s H vs Q E hr GE;exact⟨t,h.ir,q⟩
structure ai(K:Frag)(x:Str)(st:Stmt):Prop where
 ex:∃f fd,nsIn K mainGlobals x=some (some (.ref f))/\az K x x st f fd
def RM{K:Frag}{x:Str}{st:Stmt}{od an:Option Addr}{ge:Array (Option Value)}{kV doc pm am ct:Value}(a:nsIn K mainGlobals x=some (some (.ref f)))(l:K.lookup f=some ⟨oc,od,.func (fnOf x x (Q8 st) (QS st) (Qe st) .none kV doc pm an am ct),ge⟩)(c:codeIn K am x=true)(k:keepIn K (.ref f)=true):ai K x st:=
 ⟨f,_,a,⟨⟨oc,od,kV,doc,pm,an,am,ct,ge,Z,l,c⟩,k⟩⟩
section
variable {P:Program}{w:World}{K:Frag}{mg:Str->Option Value}{Y h:Heap}{x:Str}{st:Stmt}{k:Nat}{ps:List Str}{sp:Sp}
def ai.def(D:ai K x st)(X:K.In h)(G:h.Ns mainGlobals mg)(ao:∀f fd,az K x x st f fd->Zz1 P w K mg Y k f fd ps sp)(hb:∀(kV doc pm:Value)(an:Option Addr)(am ct:Value)(us:List Value),us.length=ps.length->bindArgs (fnOf x x (Q8 st) (QS st) (Qe st) .none kV doc pm an am ct) ⟨us,[]⟩=pure (ps.zip us)):Def P w K mg Y k x ps sp:=by
 obtain⟨f,fd,a,F⟩:=D.ex;exact⟨f,fd,mg_of X G a,F.kp,F.binds hb,ao f fd F⟩
end
def V1{k:Bool}{ta tb:TE}{σ:St}{H:Hp}{Q:VK}(Good:V->Hp->Prop)(hT:k=true->(∀v H',Good v H'->Q v H')->ta σ H Q)(hF:k=false->(∀v H',Good v H'->Q v H')->tb σ H Q)(rest:∀v H',Good v H'->Q v H'):if k=true then ta σ H Q else tb σ H Q:=by
 cases k with
 |true=>rw[yai rfl];exact hT rfl rest
 |false=>rw[yag (by lia)];exact hF rfl rest
section
variable {prog:Program}
def v6{elt target iter:Expr}{ifs:List Expr}{scope:Scope}{pos:Pos}{it acc:Value}{env:Env}(I:Nat->Shared->Prop)(turn:∀n s,I n s->wpAny (model prog w) A (pyNext it) (λr s₁=>match r with
   |none=>R (.ok .next) s₁
   |some v=>wpAny (model prog w) A (letOwnedTupleGo target it v) (λ_ Ld=>wpAny (model prog w) A (assign target env v) (λ_ s₂=>
     wpAny (model prog w) A (forIn ifs true λc r=>if r=true then do let ok<-isTrue c env (eval c env);pure (ForInStep.yield ok)else pure (ForInStep.yield r)) (λok s₃=>
      if ok=true then wpAny (model prog w) A (eval elt env) (λx s₄=>
       wpAny (model prog w) A (call (.builtin "list.append") [acc,x]) (λ_ s₅=>∃m,m<n/\I m s₅) (notedBy (model prog w) A env λe s'=>R (.error e) s') s₄) (notedBy (model prog w) A env λe s'=>R (.error e) s') s₃
      else ∃m,m<n/\I m s₃) (notedBy (model prog w) A env λe s'=>R (.error e) s') s₂) (notedBy (model prog w) A env λe s'=>R (.error e) s') Ld) (notedBy (model prog w) A env λe s'=>R (.error e) s') s₁) (notedBy (model prog w) A env λe s'=>R (.error e) s') s)(n:Nat)(h:I n s):
  codeAny (model prog w) A (.compLoop (.ListComp elt [⟨target,iter,ifs,0⟩] scope pos) 0 it acc env) R s:=by
 refine codeAny_loop rfl I (λn s hI=>?_) n h;show wpAny _ A ((compTurn (.ListComp elt [⟨target,iter,ifs,0⟩] scope pos) 0 it acc env).onRaise (λx=>do noteFrame x env;theTreesLotGoes x)) _ _ s;refine wpAny_noted ?_;rw[compTurn_list];refine yaa (ydI (yaa (yaU (turn n s hI) (λr s₁ h₁=>?_) λ_ _ h'=>h')));cases r with
 |none=>exact yac h₁
 |some v=>
  refine yaa (yaU h₁ (λ_ Ld RN=>?_) λ_ _ h'=>h');refine yaa (yaU RN (λ_ s₂ h₂=>yaa (yaU h₂ (λok s₃ h₃=>?_) λ_ _ h'=>h')) λ_ _ h'=>h');cases ok with
  |false=>exact yac ⟨Z,h₃⟩
  |true=>
   exact yaa (yaa (yaU h₃ (λx s₄ h₄=>yaa (yaU h₄ (λ_ s₅ h₅=>yac (yac ⟨Z,h₅⟩)) λ_ _ h'=>h')) λ_ _ h'=>h'))
end
def lT(X:Cx)(ifs:List Expr)(t:TT):Prop:=
 ∀(U:List (Addr × Obj))(s:Shared)(σ:St)(H:Hp)(Q:Bool->Hp->Prop),Inv X U σ H s->t σ H Q->
  wpAny (model X.prog X.w) X.A (forIn ifs true λc r=>if r=true then do let ok<-isTrue c X.env (eval c X.env);pure (ForInStep.yield ok)else pure (ForInStep.yield r)) (TP X U σ Q) X.xe s
def fo:TT:=λ_ H Q=>Q true H
def Xb:lT X [] fo:=λU s σ H Q I h=>wpAny_tests_nil ⟨H,I,h⟩
def V2(h:PT X c t):lT X [c] t:=λU s σ H Q I q=>wpAny_tests_one (h U s σ H Q I q)
def UF(NB:List Str)(wi:TI)(g:TG)(tt:TT)(te:TE):TE:=λσ H Q=>wi σ H λJ H1=>∃W:Nat->Nat->List V->Hp->Prop,(∃m,W 0 m [] H1)/\∀i m vs H,W i m vs H->
 (J.stop i H/\∀p,H p=none->Q (.ref p) (upd H p (.lst vs)))\/(J.go i H/\vs.length<sizeLine/\∃N:List V->Hp->Prop,(∀mt H',N mt H'->∃m',m'<m/\W (i+1) m' mt H')/\
  ∀x H',J.bT i H x H'->g x (replicate NB.length none) H' λσ2 H2=>tt σ2 H2 λb H3=>if b=true then te σ2 H3 λv H4=>N (vs++[v]) H4 else N vs H3)
noncomputable abbrev er(ys:List Value):Obj:={cls:=.type "list",data:=.seq ys.toArray ys.length}
open Builtin Builtin.Str
section
variable {prog:Program}
def ydo{name:Str}{id:String}{rest:List Value}(slot:Slot "str" name id)(entry:entryFor table id=some B)(args:argsOk id ⟨.str x t::rest,[]⟩)(g:Gives (B ⟨.str x t::rest,[]⟩) m)(h:m.post Q s):wpAny (model prog w) A (call (.builtin id) (.str x t::rest)) Q E s:=
 yer (yca slot.plain entry (slot.check _ _ _ _ _ _ _ _ (ydL _ _ _) args (g prog w A (wants Q E) s h)))
end
section
def Fc(C:Str->Str->Prop)(f:Str->Str->V):V->List V->Hp->VK->Prop:=λx vs H Q=>∃z y,x=.str z/\vs=[.str y]/\C z y/\Q (f z y) H
def RO(z _:Str):Prop:=z.length<=sizeLine
def UG:dB X "str.strip" (Fc RO λz y=>.str (Txt.stripChars z y)):=by
 intro U s σ H x vs v us Q I rx rv h;obtain⟨z,y,rfl,rfl,hl,q⟩:=h;obtain⟨t,rfl⟩:=rx;obtain⟨u,rfl,t',rfl⟩:=vals1 rv;exact ydo F.slot_str_strip F.entry_str_strip (F.args_str_strip_2 _ _) (gives_str_strip_chars z y t t') (ycO (λ_=>fits_stripped _ _ _ hl) λt2 k=>⟨.str _,H,I.tok k,⟨t2,Z⟩,q⟩)
def UH:dB X "str.startswith" (Fc (λ_ _=>True) λz y=>.bl (Txt.startswith z y)):=by
 intro U s σ H x vs v us Q I rx rv h;obtain⟨z,y,rfl,rfl,_,q⟩:=h;obtain⟨t,rfl⟩:=rx;obtain⟨u,rfl,t',rfl⟩:=vals1 rv;exact ydo F.slot_str_startswith F.entry_str_startswith (F.args_str_startswith_2 _ _) (gives_str_startswith z y t t') ⟨.bl _,H,I,Z,q⟩
def RQ:dB X "str.find" (Fc (λ_ _=>True) λz y=>.int (Txt.find z y)):=by
 intro U s σ H x vs v us Q I rx rv h;obtain⟨z,y,rfl,rfl,_,q⟩:=h;obtain⟨t,rfl⟩:=rx;obtain⟨u,rfl,t',rfl⟩:=vals1 rv;exact ydo F.slot_str_find F.entry_str_find (F.args_str_find_2 _ _) (gives_str_find z y t t') ⟨.int _,H,I.tok _,⟨_,Z⟩,q⟩
def UI:dB X "str.zfill" (λx vs H Q=>∃z i,x=.str z/\vs=[.int i]/\PadOk i=true/\Q (.str (Txt.zfill z i)) H):=by
 intro U s σ H x vs v us Q I rx rv h;obtain⟨z,i,rfl,rfl,hp,q⟩:=h;obtain⟨t,rfl⟩:=rx;obtain⟨u,rfl,t',rfl⟩:=vals1 rv;exact ydo F.slot_str_zfill F.entry_str_zfill (F.args_str_zfill_2 _ _) (gives_str_zfill z i t t' (ycv hp).1 (ycv hp).2) (ycO (fits_zfilled (ycv hp).2) λt2 k=>⟨.str _,H,I.tok k,⟨t2,Z⟩,q⟩)
def Zc:As X (λx lo hi H Q=>∃z,x=.str z/\z.length<=sizeLine/\Q (.str (StrLaws.sliceText z lo hi)) H):=by
 intro U s σ H x v vl vu lo hi sl Q I rx hs pl pu h;obtain⟨z,rfl,hl,q⟩:=h;obtain⟨t,rfl⟩:=rx;have part:∀{v:Value}{o:Option Int},IsPart v o->∃p:Option (Int × Tok),v=partValue p/\p.map (·.1)=o:=λp=>by
  cases p with
  |none=>exact⟨none,Z,Z⟩
  |int i t=>exact⟨some (i,t),Z,Z⟩
 obtain⟨p,rfl,rfl⟩:=part pl;obtain⟨p2,rfl,rfl⟩:=part pu;exists "str",_,F.slot_str_getitem.lookup,ydL _ _ _;refine wpAny_getItem_str_slice (l:=p) (u:=p2) (st:=none) hs rfl ?_;unfold sliceMade slicePicked;refine ycO (λ_=>?_) λt2 k=>⟨.str (StrLaws.sliceText z (p.map (·.1)) (p2.map (·.1))),H,I.tok k,⟨t2,Z⟩,q⟩;show(List.filterMap _ _).toArray.size<=sizeLine;rw[lE];exact yap (List.length_filterMap_le _ _) (yap (sliceIndices_le _ _ _) hl)
end
def v7:typeLookup (.type "list_reverseiterator") "__len__"=pure none:=by rw[ybv,yaP];kernel_rfl
def RT:typeLookup (.type "list_reverseiterator") "__length_hint__"=pure (some (.builtin "list_reverseiterator.__length_hint__")):=by rw[ybv,yaP];kernel_rfl
section
variable {prog:Program}
def v8(hh:A.handled=none)(I l:Addr)(re:l≠I)(items:Array Value):WalksS prog w A I [I,l] [I] (λa b=>a=b) items.size (λi v=>items[items.size-1-i]? =some v) (λi s=>i<=items.size/\s.heap.IsRevIter I l ((items.size:Int)-1-(i:Int))/\s.heap.IsList l items) where
 sub:=λb hb=>by simp at hb;simp[hb]
 grefl:=λ_=>rfl
 gtrans:=λ_ _ _ a b=>a.trans b
 frame:=λi s h' tk x _ hk=>⟨x.1,x.2.1.at λo e=>hk I (by simp) o e,x.2.2.at λo e=>hk l (by simp) o e⟩
 item:=λi s Q E hi x hQ=>by
  have e:(items.size:Int)-1-(i:Int)=((items.size-1-i:Nat):Int):=by lia
  have hit:=x.2.1;rw[e]at hit;have hx:items[items.size-1-i]? =some (items[items.size-1-i]'(by lia)):=yaS (by lia);refine wpAny_pyNext_rev_item hit x.2.2 hx λh' AE CD=>?_;have e2:((items.size-1-i:Nat):Int)-1=(items.size:Int)-1-((i+1:Nat):Int):=by lia
  rw[e2]at AE;exact hQ _ _ hx ⟨hi,AE,x.2.2.at λo eo=>(CD.2 l re).trans eo⟩ ⟨λb o hb eo=>CD.extBut b o (λh=>hb (by simp[h])) eo,Z,Z,Z,tN _⟩
 done:=λs Q E x hQ=>by
  have e:(items.size:Int)-1-(items.size:Int)= -1:=by lia
  have hit:=x.2.1;rw[e]at hit;exact wpAny_pyNext_rev_end hh hit λh' iC=>hQ _ ⟨λb o hb eo=>iC b o (λh=>hb (by simp[h])) eo,Z,Z,Z,tN _⟩
 self:=λ_ _ _ _ x hQ=>wpAny_pyIter_revIter x.2.1 hQ
variable {wr:List Addr}{St:Nat->Shared->Prop}
def zE(W:WalksS prog w A.in1 I fp wr G n P St)(hT:∀i s,St i s->s.TypeIs (.ref I) "list_reverseiterator")(f8:St 0 s)(Fd:∀b∈fp,b<s.heap.objs.size)(hI:I∈fp)(hQ:∀s' acc,Moved wr G s s'->ItemsOf P acc n->Q acc.toList s')(hn:n<=sizeLine):wpAny (model prog w) A (collect (.ref I)) Q E s:=by
 have Le:s.heap.objs.size∉fp:=λhm=>lG _ (Fd _ hm);have lU:s.heap.objs.size≠I:=λe=>Le (e▸hI);unfold collect;refine yaa (wpAny_runValue (ybK F.entry_proto_collect ?_));rw[ybE F.plain_proto_collect _];show wpAny _ A.in1 (newList []>>=λl=>again (.builtin "list.__iadd__" ⟨[l,.ref I],[]⟩)) _ _ s;refine yaa (yaW ?_);refine yac ⟨ycA F.plain_list_iadd _,ybK F.entry_list_iadd ?_⟩;rw[ybE F.plain_list_iadd _];have cO:=W.frame 0 s (s.heap.push {cls:=.type "list",data:=.seq ([]:List Value).toArray}) s.toks f8 (tN _) λb _ o e=>yab _ e;have Fe:(s.heap.push {cls:=.type "list",data:=.seq ([]:List Value).toArray}).get? s.heap.objs.size=some {cls:=.type "list",data:=.seq ([]:List Value).toArray}:=yah _ rfl;have h1:Builtin.List.listSameRef (.ref s.heap.objs.size) (.ref I)=false:=by simp[Builtin.List.listSameRef,lU]
 show wpAny _ A.in1 (Builtin.List.listExtendWith (.ref s.heap.objs.size) (.ref I) (.ref s.heap.objs.size)) _ _ _;unfold Builtin.List.listExtendWith;refine yaa (ydu (hT 0 _ cO) ?_);rw[yag (by rw[h1];lia)];refine yaa (W.self 0 _ _ _ cO ?_);refine yaa (ybf ?_);unfold Builtin.List.listLengthHint;refine yaa (yaO (hT 0 _ cO) v7 ?_);show wpAny _ A.in1 (specialOf (Value.ref I) (Str.ofString "__length_hint__")>>=_) _ _ _;refine yaa (yaO (hT 0 _ cO) RT ?_);generalize bf:("list_reverseiterator.__length_hint__":String)=CF
 (fail_if_success (clear bf CF))
 wp_delta
 rw[show splitId CF=some ("list_reverseiterator","__length_hint__")from by subst bf;rfl'];subst bf;refine yaa (ycP (b:=true) (hT 0 _ cO) (by rw[yds];kernel_rfl) ?_);refine yac ?_;rw[yag (by lia)];refine yac ⟨ycA ydR _,codeAny_extend_loopS W hn _ Le _ n 0 _ _ _ rfl (lF _) cO Fe (ItemsOf.nil P) λs' Cl c' hm eB IO=>?_⟩;show wpAny _ A (load s.heap.objs.size>>=_) _ _ s';refine yaa (wpAny_load eB ?_);exact yac (hQ s' Cl (Moved.drop_new (o:={cls:=.type "list",data:=.seq ([]:List Value).toArray}) (tk:=s.toks) hm (tN _)) IO)
def RU(W:WalksS prog w A.in1.in1 I fp wr G n P St)(hT:∀i s,St i s->s.TypeIs (.ref I) "list_reverseiterator")(f8:St 0 s)(Fd:∀b∈fp,b<s.heap.objs.size)(hI:I∈fp)(Ff:∀i v,P i v->∃y u,v=Value.str y u)(hq:∀s'(l:List (Str × Tok)),Moved wr G s s'->ItemsOf P (strValues l).toArray n->JoinOk x (l.map (·.1))=true/\∀t' k,Q (.str (Txt.join x (l.map (·.1))) t') {s' with toks:=k})(hsz:n<=sizeLine):wpAny (model prog w) A (call (.builtin "str.join") [.str x t,.ref I]) Q E s:=by
 refine yer (yca F.slot_str_join.plain F.entry_str_join (F.slot_str_join.check _ _ _ _ _ _ _ _ (ydL _ _ _) (F.args_str_join_2 _ _) ?_));rw[join_tree_other];refine yaa (ydu (hT 0 s f8) ?_);show wpAny _ A.in1 ((pyIter (.ref I)).tryCatch _>>=λit=>collect it>>=λitems=>joinTail x items) _ _ s;refine yaa (wpAny_tryCatch (W.of_in1.self 0 s _ _ f8 ?_));refine yaa (zE W hT f8 Fd hI (λs' acc hm IO=>?_) hsz);obtain⟨l,hl⟩:=exists_strValues acc.toList λv hv=>by
  obtain⟨j,hj,rfl⟩:=Array.mem_iff_getElem.mp (ycG.mp hv);exact Ff j _ (IO.2 j _ (yaS hj))
 rw[<-hl];have AF:ItemsOf P (strValues l).toArray n:=by rw[hl];simpa using IO
 obtain⟨ao,AG⟩:=hq s' l hm AF;unfold JoinOk at ao;rw[ycf]at ao;have g:Gives (joinTail x (strValues l)) (joinMade x l):=by
  have g0:=gives_joinTail x l ao;cases l with
  |nil=>exact g0
  |cons p r=>cases r with
   |nil=>exact g0
   |cons q r'=>exact g0
 exact g prog w A (wants Q E) s' (post_join l ⟨joinFit_length ao,AG⟩)
end
def ydJ:bootBuiltins "reversed"=some (.type "reversed"):=by boot_by_name
section
def RV(to te:TE):TE:=λσ H Q=>to σ H λx H1=>∃z,x=.str z/\te σ H1 λy H2=>∃(l:Addr)(ys:List Str),y=.ref l/\H2 l=some (.lst (ys.map V.str))/\JoinOk z ys.reverse=true/\Q (.str (Txt.join z ys.reverse)) H2
def wA{to te:TE}{apos cQ bv p:Pos}(hc:X.calm=true)(hg:Gl X "reversed")(hm:X.mg "reversed"=none)(ho:PE X o to)(he:PE X e te)(Ch:attributeBase o "join" X.env (eval o X.env)=eval o X.env:=by rfl)(lm:(apos.endLine==bv.line)=true:=by rfl)(hs:starEach [e] X.env=[(false,eval e X.env)]:=by rfl):PE X (.Call (.Attribute o "join" apos) [.Call (.Name "reversed" p) [e] [] cQ] [] bv) (RV to te):=by
 intro U s σ H Q I h;refine wpAny_Call_method_late Ch rfl lm rfl (ay (ho U s σ H _ I h) λv s1⟨x,H1,I1,r1,q1⟩=>?_);obtain⟨z,rfl,q1⟩:=q1;obtain⟨t,rfl⟩:=r1;refine⟨"str","str.join",yaA,ybR,ybS,ydL _ _ _,(λ_ e=>nomatch e),?_⟩;refine ycp rfl (ycH ?_);show wpAny _ _ (spliced ((false,eval (.Call (.Name "reversed" p) [e] [] cQ) X.env)::[])) _ _ s1;refine ybx ?_;refine yaX (ZV I1 hg hm ydJ ?_ (by lia) (by lia));refine yav ?_ hs rfl;rw[hs];show wpAny _ _ (spliced ((false,eval e X.env)::[])) _ _ s1;refine ybx (ay (he U s1 σ H1 _ I1 q1) λy s2⟨yv,H2,I2,r2,l,ys,e2,hl,hj,q2⟩=>ycd ?_);subst e2;obtain rfl:y=Value.ref l:=r2;obtain⟨zz,its,n,rv,hlen,eo⟩:=I2.o9 hl;have FS:s2.heap.IsList l its.toArray:=⟨_,eo,Z,n,Z⟩;have AH:its.length=ys.length:=by rw[<-rv.length,tK]
 refine call_reversed_list FS ?_;refine ycd ?_;have up:∀b o,s2.heap.get? b=some o->(s2.heap.push (revObj l ((its.toArray.size:Int)-1))).get? b=some o:=λb o e=>yab _ e;have I3:Inv X U σ H2 {s2 with heap:=s2.heap.push (revObj l ((its.toArray.size:Int)-1))}:=I2.kept (t':=s2.toks) up;have re:l≠s2.heap.objs.size:=yar (yaj eo);have hh:X.A.in1.in1.handled=none:=I2.ok.hd hc;have AI:∀(i:Nat)(u:Value),its.toArray[its.toArray.size-1-i]? =some u->∃y t,u=Value.str y t:=λi u hu=>by
  have h1:its[its.toArray.size-1-i]? =some u:=by simpa using hu
  have ap:=(yaf.mp h1).1;have h2:(ys.map V.str)[its.toArray.size-1-i]? =some ((ys.map V.str)[its.toArray.size-1-i]'(by rw[tK];lia)):=yad _;obtain⟨u',e',r'⟩:=rv.get h2;rw[h1]at e';cases e';rw[List.getElem_map]at r';obtain⟨t',rfl⟩:=r';exact⟨_,_,Z⟩
 show wpAny _ _ (call (.builtin "str.join") [.str z t,.ref s2.heap.objs.size]) _ _ _;refine RU (v8 hh s2.heap.objs.size l re its.toArray) (λi s x=>x.2.1.typeIs) ⟨lF _,⟨_,yah _ rfl,Z,by simp[revObj]⟩,FS.push _⟩ (λb hb=>?_) (by simp) AI (λs' ls hm hi=>?_) ?_
 .show b<(s2.heap.push _).objs.size;rw[yaR];rcases yak.mp hb with rfl|hb
  .exact ycl _
  .rw[yao.mp hb];exact ycB (yaj eo)
 .have RW:ls.map (·.1)=ys.reverse:=by
   have hsz:ls.length=its.length:=by
    have:=hi.1;unfold strValues at this;simpa using this
   refine ybH λj=>?_
   by_cases hj:j<ls.length
   .have e1:(strValues ls).toArray[j]? =some (Value.str ls[j].1 ls[j].2):=by
     unfold strValues;simp[hj]
    have e2:=hi.2 j _ e1;have e3:its[its.toArray.size-1-j]? =some (Value.str ls[j].1 ls[j].2):=by simpa using e2
    have h2:(ys.map V.str)[its.toArray.size-1-j]? =some ((ys.map V.str)[its.toArray.size-1-j]'(by rw[tK,lE];lia)):=yad _;obtain⟨u',e',r'⟩:=rv.get h2;rw[e3]at e';cases e';rw[List.getElem_map]at r';obtain⟨t',r'⟩:=r';have hq:=(Value.str.inj r').1;rw[lg,yad hj,ydx (by lia)];simp only[Option.map_some];have RX:its.toArray.size-1-j=ys.length-1-j:=by rw[lE,AH]
    simp only[RX]at hq;rw[yad (by lia),hq]
   .rw[ybT (by rw[tK];lia),ybT (by rw[tZ];lia)]
  rw[RW];refine⟨hj,λt' k=>?_⟩;obtain⟨h',g',d',IR,fb⟩:=s';obtain rfl:g'=s2.gens:=hm.gens.symm;obtain rfl:d'=s2.drawn:=hm.drawn;obtain rfl:fb=s2.os:=hm.os;have fr:H2 s2.heap.objs.size=none:=I2.ao.fresh (tN _);have F3:=I2.kY (tN _) fr;obtain⟨f0,f1,f2,f3,f4,f5⟩:=F3;refine⟨.str _,H2,?_,⟨t',Z⟩,q2⟩;exact(I3.turned (h':=h') (t':=k) (it:=s2.heap.objs.size) (λb o hb e=>hm.heap b o (by simpa using hb) e) f0 f1 f3 f4 f5:)
 .rw[lE,AH, <-tK (f:=V.str)];exact zz
def ZJ:aQ X (binaryOp .Mult) (λx y H Q=>∃z n,x=.str z/\y=.int n/\ -(2^40)<n/\z.length*n.toNat<=sizeLine/\n<2^40/\Q (.str (jd z n.toNat)) H):=by
 intro U s σ H x y v u Q I rx ry h;obtain⟨z,n,ex,ey,h0,hl,hn,q⟩:=h
 by_cases hz:0<=n
 .exact wq U s σ H x y v u Q I rx ry ⟨z,n,ex,ey,hz,hl,hn,q⟩
 .subst ex ey;obtain⟨t,rfl⟩:=rx;obtain⟨t',rfl⟩:=ry;refine PySem.P.mul_str ?_ ?_ ?_ ?_
  .rw[tL (by lia),tL (by lia)];rfl
  .intro h1 h2 h3;lia
  .intro h1 h2;lia
  .rw[yai (by lia)];have e:jd z n.toNat=Str.empty:=by rw[show n.toNat=0 by lia];rfl
   exact⟨by lia,.str (jd z n.toNat),H,I.tok _,⟨_,by rw[e]⟩,q⟩
end
noncomputable def si(lo c:Int)(n:Nat):It:=⟨λi _=>i<n,λi H x H'=>H'=H/\x=.int (lo+i*c),λi _=>n<=i⟩
def V3{P:Program}{w:World}{K:Frag}{tg:Expr}(it:Addr)(lo c:Int)(n:Nat):Turn P w K tg (si lo c n) [it] it (λi h=>IsRangeIter h it (lo+(i:Nat)*c) ((n:Int)-(i:Nat)) c) where
 mem:=by simp
 obj:=λi h st b hb=>by
  have e:b=it:=by simpa using hb
  subst e;exact⟨_,st,λv z=>by
   have z':Data.fields _=Data.cell v:=z;cases z'⟩
 keep:=λi h h' st k=>k it (by simp) _ st
 item:=by
  intro X hP hw hK hc i U s σ H E I hf st hg;subst hP hw hK;obtain⟨f0,f1,f2,f3,f4,f5⟩:=hf it (by simp);have W:=Walks.range (prog:=X.prog) (w:=X.w) (I.ok.hd hc) it lo c n;refine W.item i s _ _ hg st λv h' tk hv Db kk=>?_;obtain⟨t,rfl⟩:=hv;have I1:Inv X U σ H {s with heap:=h',toks:=tk}:=I.turned (λb o hb e=>kk b o (by simpa using hb) e) f0 f1 f3 f4 f5;exact⟨_,Z,kZ (s:={s with heap:=h',toks:=tk}) (n:="range_iterator") Db rfl rfl (by lia) ⟨.int (lo+i*c),H,I1,⟨t,Z⟩,⟨Z,Z⟩,Db,λb hb=>(hf b hb).1⟩⟩
 done:=by
  intro X hP hw hK hc i U s σ H E I hf st hg;subst hP hw hK;obtain⟨f0,f1,f2,f3,f4,f5⟩:=hf it (by simp);exact wpAny_pyNext_range_end (I.ok.hd hc) st (by have:n<=i:=hg;lia) λh' eb=>⟨Z,I.turned (t':=s.toks) (λb o hb e=>eb b o hb e) f0 f1 f3 f4 f5⟩
 self:=λ_ _ _ _ _ st h=>ydl st h
section
variable {X:Cx}{tg:Expr}
def RY(ta:TA):TI:=λσ H R=>ta σ H λvs H1=>∃(i j c:Int)(n:Nat),vs=[.int i,.int j,.int c]/\(-(2^40)<=i/\i<2^40/\ -(2^40)<=j/\j<2^40/\0<c/\c<2^20)/\Builtin.Range.rangeSize i j c=(n:Int)/\R (si i c n) H1
def v9{p pos:Pos}(hg:Gl X "range")(hm:X.mg "range"=none)(ha:PA X [a,b,d] ta)(hs:starEach [a,b,d] X.env=(false,eval a X.env)::starEach [b,d] X.env:=by rfl)(hp:(backTo pos (starEach [b,d] X.env)).any (·.1)=false:=by rfl):PI X tg (.Call (.Name "range" p) [a,b,d] [] pos) (RY ta):=by
 intro U s σ H R I h;refine Call_ (ZV I hg hm boot_range (yav (ay (ha pos U s σ H _ I h) λus s1⟨vs,H1,I1,r1,q1⟩=>?_) hs hp));obtain⟨i,j,c,n,e,⟨b1,b2,b3,b4,b5,b6⟩,hn,q⟩:=q1;subst e;obtain⟨u1,u2,u3,rfl,⟨t1,rfl⟩,⟨t2,rfl⟩,⟨t3,rfl⟩⟩:∃u1 u2 u3,us=[u1,u2,u3]/\RelV (.int i) u1/\RelV (.int j) u2/\RelV (.int c) u3:=by
  cases r1 with
  |cons p q=>
   cases q with
   |cons p' q'=>
    cases q' with
    |cons RZ Sa=>
     cases Sa;exact⟨_,_,_,Z,p,p',RZ⟩
 refine call_range_3 (by lia) ?_ (.inl (ydm (by lia)));refine wpAny_pyIter_range (IsRange.new ..) ?_ ?_
 .have sj:0<=(n:Int):=Int.natCast_nonneg n;have eC:(n:Int)<=2^41:=by
   rw[<-hn];unfold Builtin.Range.rangeSize;rw[yai b5]
   split
   .have:(j-i-1)/c<=(j-i-1)/1:=by
     rw[ydt];exact Int.ediv_le_self _ (by lia)
    rw[ydt]at this;lia
   .lia
  unfold Builtin.Range.small;simp only[hn];unfold Builtin.Range.rangeFitsLong;rw[yai b5];rw[tM (show-(2^63)<=i by lia),tM (show i<2^63 by lia),tM (show-(2^63)<=j by lia),tM (show j<2^63 by lia),tM (show-(2^63)<=c by lia),tM (show c<2^63 by lia),tM (show-(2^63)<=(n:Int) by lia),tM (show(n:Int)<2^63 by lia),
   tM (show-(2^63)<=j+(c-1) by lia),tM (show j+(c-1)<2^63 by lia)]
  simp
 have I2:Inv X U σ H1 {s1 with heap:=s1.heap.push {cls:=.type "range",data:=.fields #[.int i t1,.int j t2,.int c t3]},toks:=s1.toks}:=I1.kept λb o e=>yab _ e;refine⟨(s1.heap.push {cls:=.type "range",data:=.fields #[.int i t1,.int j t2,.int c t3]}).objs.size,[(s1.heap.push {cls:=.type "range",data:=.fields #[.int i t1,.int j t2,.int c t3]}).objs.size],_,_,H1,Z,
  I2.kept (t':=s1.toks) λb o e=>yab _ e,V3 _ i c n,?_,λb hb=>?_,q⟩
 .have e1:i+((0:Nat):Int)*c=i:=by simp
  have e2:((n:Nat):Int)-((0:Nat):Int)=Builtin.Range.rangeSize i j c:=by rw[hn];simp
  show IsRangeIter _ _ (i+((0:Nat):Int)*c) (((n:Nat):Int)-((0:Nat):Int)) c;rw[e1,e2];exact yah _ rfl
 .have e:b=(s1.heap.push {cls:=.type "range",data:=.fields #[.int i t1,.int j t2,.int c t3]}).objs.size:=by simpa using hb
  subst e;exact I2.kY (tN _) (I2.ao.fresh (tN _))
def wB{lo c:Int}{n:Nat}{g:TG}{tb:TS}{D:Ends}{σ:St}{H:Hp}(Pv:Nat->St->Hp->Prop)(h0:Pv 0 σ H)(hs:∀i σ H,i<n->Pv i σ H->g (.int (lo+i*c)) σ H λσ2 H2=>tb {D with nx:=Pv (i+1),ct:=Pv (i+1),bk:=D.nx} σ2 H2)(hd:∀σ H,Pv n σ H->D.nx σ H):∃W:Nat->Nat->St->Hp->Prop,(∃m,W 0 m σ H)/\∀i m σ H,W i m σ H->
   ((si lo c n).stop i H/\D.nx σ H)\/((si lo c n).go i H/\∃N:St->Hp->Prop,(∀σ' H',N σ' H'->∃m',m'<m/\W (i+1) m' σ' H')/\∀x H',(si lo c n).bT i H x H'->g x σ H' λσ2 H2=>tb {D with nx:=N,ct:=N,bk:=D.nx} σ2 H2):=by
 refine⟨λi m σ H=>m=n-i/\i<=n/\Pv i σ H,⟨n,by simp,lF _,h0⟩,?_⟩;rintro i m σ H ⟨rfl,hi,p⟩
 by_cases ap:i<n
 .refine .inr ⟨ap,Pv (i+1),λσ' H' p'=>⟨n-(i+1),by lia,Z,ap,p'⟩,λx H' y=>?_⟩;obtain⟨e,y⟩:=y;subst e y;exact hs i σ _ ap p
 .have e:i=n:=by lia
  subst e;exact .inl ⟨tN _,hd σ H p⟩
end
structure iD(X:Cx)(es:List Expr)(t:TA):Prop where
 pa:PA X es t
structure b9(X:Cx)(st:Stmt)(t:TS):Prop where
 ps:PS X st t
section
def JB:iD X [] WM:=⟨Qb⟩
def zF{pos:Pos}(h:iD X es t):aA X (.List es pos) (II t):=⟨Wk h.pa⟩
def QD{st:Stmt}{rest:List Stmt}{t1 t2:TS}(h:b9 X st t1)(hr:cN X rest t2):cN X (st::rest) (Zb t1 t2):=⟨Qd h.ps hr.ps⟩
def Jb{st:Stmt}(h:b9 X st t):cN X [st] t:=⟨Qg h.ps⟩
end
def Sb{K:Frag}{Y:Heap}{x qual:Str}{st:Stmt}{fd:FuncData}{am:Value}{N ps:List Str}{k:Nat}{sp:Sp}(F:lS K x qual st f fd am)(S:af N ps (Qe st))(len:∀vs H Q E,sp vs H Q E->vs.length=ps.length)(dL:∀(A:Around)(L:List Env)(s:Shared)(H:Hp)(vs:List V)(Q:VK)(E:XK),Zd k (A.deeper (envOfC qual (Qe st) s.heap.objs.size f am))->sp vs H Q E->
   ∃t,cN (jn (av P w) P w K mg Y N qual (Qe st) f am A L s H E).ir (QS st) t/\t {nx:=λ_ H'=>Q .aq H',rt:=Q} (start N vs) H):Zz1 P w K mg Y (k+1) f fd ps sp:=
 RL F S len λA L s H vs Q E hr GE=>by
  obtain⟨t,h,q⟩:=dL A L s H vs Q E hr GE;exact⟨t,h.ps,q⟩
noncomputable def ya(z y:Str)(i:Int):Int:=match occurrences z y (fromIndex z.length i) z.length 1 with|k::_=>(k:Int)|[]=> -1
theorem jz:∀{ys:List Str}{us:List Value},Vals (ys.map V.str) us->∃l:List (Str × Tok),us=strValues l/\l.map (·.1)=ys
 |[],_,.nil=>⟨[],Z,Z⟩
 |y::ys,_,.cons r t=>by
  obtain⟨l,e1,e2⟩:=jz t;obtain⟨tk,rfl⟩:=r;exact⟨(y,tk)::l,by rw[e1];rfl,by rw[lC,e2]⟩
section
def X0:dB X "str.join" (λx vs H Q=>∃(z:Str)(p:Addr)(ys:List Str),x=.str z/\vs=[.ref p]/\aC X.K H p (ys.map V.str)/\JoinOk z ys=true/\Q (.str (Txt.join z ys)) H):=by
 intro U s σ H x vs v us Q I rx rv h;obtain⟨z,p,ys,rfl,rfl,hq,hj,q⟩:=h;obtain⟨t,rfl⟩:=rx;obtain⟨u,rfl,ru⟩:=vals1 rv;obtain rfl:u=Value.ref p:=ru;obtain⟨its,rv,pl,hl⟩:=I.list hq;obtain⟨l,e1,e2⟩:=jz rv;subst e1;have ao:=hj;unfold JoinOk at ao;rw[ycf, <-e2]at ao;refine yeu F.slot_str_join (ydL _ _ _) F.entry_str_join (F.args_str_join_2 _ _) (meets_str_join_list z t p l ao) ⟨pl.isList,?_⟩;refine post_join l ⟨joinFit_length ao,λt' k=>⟨.str (Txt.join z (l.map (·.1))),H,I.tok k,⟨t',Z⟩,?_⟩⟩;rw[e2];exact q
def Sd:dB X "str.find" (λx vs H Q=>∃(z y:Str)(i:Int),x=.str z/\vs=[.str y,.int i]/\Q (.int (ya z y i)) H):=by
 intro U s σ H x vs v us Q I rx rv h;obtain⟨z,y,i,rfl,rfl,q⟩:=h;obtain⟨t,rfl⟩:=rx;obtain⟨u1,u2,rfl,⟨t1,rfl⟩,⟨t2,rfl⟩⟩:=vals2 rv;exact ydo F.slot_str_find F.entry_str_find (F.args_str_find_3 _ _ _) (gives_str_find_from z y i t t1 t2) ⟨.int _,H,I.tok _,⟨_,Z⟩,q⟩
end
def WO{prog:Program}{w:World}{A:Around}(hh:A.handled=none)(I l:Addr)(re:l≠I)(items:Array Value):WalksS prog w A I [I,l] [I] (λa b=>a=b) items.size (λi v=>items[i]? =some v) (λi s=>s.heap.IsListIter I l i/\s.heap.IsList l items) where
 sub:=λb hb=>by simp at hb;simp[hb]
 grefl:=λ_=>rfl
 gtrans:=λ_ _ _ a b=>a.trans b
 frame:=λi s h' tk x _ hk=>⟨x.1.at λo e=>hk I (by simp) o e,x.2.at λo e=>hk l (by simp) o e⟩
 item:=λi s Q E hi x hQ=>by
  have hx:items[i]? =some (items[i]'hi):=yaS hi;refine wpAny_pyNext_list_item x.1 x.2 hx λh' Db sb=>?_;exact hQ _ _ hx ⟨Db,x.2.at λo eo=>(sb.2 l re).trans eo⟩ ⟨λb o hb eo=>(sb.2 b (λh=>hb (by simp[h]))).trans eo,Z,Z,Z,tN _⟩
 done:=λs Q E x hQ=>wpAny_pyNext_list_end hh x.1 x.2 (Array.getElem?_eq_none (tN _)) λh' eb=>hQ _ ⟨λb o hb eo=>eb b o (λh=>hb (by simp[h])) eo,Z,Z,Z,tN _⟩
 self:=λ_ _ _ _ x hQ=>wpAny_pyIter_listiter x.1 hQ
def zG{ns:List Int}{us:List Value}(r:Vals (ns.map V.int) us):∀i v,us.toArray[i]? =some v->∃t,v=Value.int (ns.getD i 0) t:=λi v hv=>by
 have h1:us[i]? =some v:=by simpa using hv
 have ap:=(yaf.mp h1).1;have hl:=r.length;rw[tK]at hl;have h2:(ns.map V.int)[i]? =some (V.int (ns.getD i 0)):=by
  rw[lg,yad (by lia)];simp[List.getD,yad (show i<ns.length by lia)]
 obtain⟨u,e,q⟩:=r.get h2;rw[h1]at e;cases e;exact q
def zH(ns:List Int):∀k,k<=ns.length->preSum (λi=>ns.getD i 0) k=(ns.take k).sum:=by
 intro k
 induction k with
 |zero=>intro _;rfl
 |succ k ih=>
  intro hk;have e:ns.take (k+1)=ns.take k++[ns.getD k 0]:=by
   rw[yaK,yad (by lia)];simp[List.getD,yad (show k<ns.length by lia)]
  show preSum _ k+ns.getD k 0=_;rw[ih (by lia),e,List.sum_append];simp
def Se(val:Nat->Int):∀k,argBest (λi j=>decide (val i>val j)) k<=k/\∀i,i<=k->val i<=val (argBest (λi j=>decide (val i>val j)) k):=by
 intro k
 induction k with
 |zero=>exact⟨tN _,λi hi=>by rw[Nat.le_zero.mp hi];exact Int.le_refl _⟩
 |succ k ih=>
  unfold argBest
  by_cases h:val (k+1)>val (argBest (λi j=>decide (val i>val j)) k)
  .rw[yai (tM h)];refine⟨tN _,λi hi=>?_⟩;rcases yaZ i (k+1)with h1|h1
   .have:=ih.2 i (by lia);lia
   .rw[show i=k+1 by lia];exact Int.le_refl _
  .rw[yag (by rw[ybI];exact h)];refine⟨by lia,λi hi=>?_⟩;rcases yaZ i (k+1)with h1|h1
   .exact ih.2 i (by lia)
   .rw[show i=k+1 by lia];lia
section
def xN(hc:X.calm=true):WL X (.builtin "sum") (λxs H Q=>∃(p:Addr)(ns:List Int),xs=[.ref p]/\aC X.K H p (ns.map V.int)/\Q (.int ns.sum) H):=by
 intro U s σ H xs us Q I r h;obtain⟨p,ns,rfl,hq,q⟩:=h;obtain⟨u,rfl,ru⟩:=vals1 r;obtain rfl:u=Value.ref p:=ru;obtain⟨its,rv,pl,hl⟩:=I.list hq;have FS:=pl.isList;have ap:p<s.heap.objs.size:=by obtain⟨o,e,_⟩:=FS;exact yaj e
 have hlen:=rv.length;rw[tK]at hlen;refine call_sum_walkAnyS (ydn FS ?_);have I2:Inv X U σ H {s with heap:=s.heap.push {cls:=.type "list_iterator",data:=.fields #[.ref p,.int 0 0]}}:=I.kept (t':=s.toks) λb o e=>yab _ e;refine⟨s.heap.objs.size,_,_,_,_,_,_,λi=>ns.getD i 0,Z,WO (A:=X.A.in1) (I.ok.hd hc) _ p (yar ap) its.toArray,⟨⟨_,yah _ rfl,Z,Z⟩,FS.push _⟩,λb hb=>?_,zG rv,λs' t' hm=>?_⟩
 .show b<(s.heap.push _).objs.size;rw[yaR];rcases yak.mp hb with rfl|hb
  .exact ycl _
  .rw[yao.mp hb];exact ycB ap
 .obtain⟨f0,f1,f2,f3,f4,f5⟩:=I.kY (tN _) (I.ao.fresh (tN _));obtain⟨h',g',d',IR,fb⟩:=s';obtain rfl:g'=s.gens:=hm.gens.symm;obtain rfl:d'=s.drawn:=hm.drawn;obtain rfl:fb=s.os:=hm.os;have e:preSum (λi=>ns.getD i 0) its.toArray.size=ns.sum:=by
   rw[lE, <-hlen,zH ns _ (tN _),ycm]
  rw[e];refine⟨.int ns.sum,H,?_,⟨t',Z⟩,q⟩;exact(I2.turned (h':=h') (t':=IR) (it:=s.heap.objs.size) (λb o hb eo=>hm.heap b o (by simpa using hb) eo) f0 f1 f3 f4 f5:)
def yb(hc:X.calm=true):WL X (.builtin "max") (λxs H Q=>∃(p:Addr)(ns:List Int),xs=[.ref p]/\aC X.K H p (ns.map V.int)/\ns≠[]/\∀m,m∈ns->(∀n∈ns,n<=m)->Q (.int m) H):=by
 intro U s σ H xs us Q I r h;obtain⟨p,ns,rfl,hq,re,q⟩:=h;obtain⟨u,rfl,ru⟩:=vals1 r;obtain rfl:u=Value.ref p:=ru;obtain⟨its,rv,pl,hl⟩:=I.list hq;have FS:=pl.isList;have ap:p<s.heap.objs.size:=by obtain⟨o,e,_⟩:=FS;exact yaj e
 have hlen:=rv.length;rw[tK]at hlen;have cR:0<ns.length:=by cases ns with|nil=>exact absurd rfl re|cons a r=>exact yfg _
 refine call_max_walkS (ydn FS ?_);have I2:Inv X U σ H {s with heap:=s.heap.push {cls:=.type "list_iterator",data:=.fields #[.ref p,.int 0 0]}}:=I.kept (t':=s.toks) λb o e=>yab _ e;refine⟨s.heap.objs.size,_,_,_,_,_,_,_,Z,WO (A:=X.A.in1) (I.ok.hd hc) _ p (yar ap) its.toArray,⟨⟨_,yah _ rfl,Z,Z⟩,FS.push _⟩,λb hb=>?_,by rw[lE];lia,CmpOf.ints_gt (λi=>ns.getD i 0) (zG rv),λv s' hv hm=>?_⟩
 .show b<(s.heap.push _).objs.size;rw[yaR];rcases yak.mp hb with rfl|hb
  .exact ycl _
  .rw[yao.mp hb];exact ycB ap
 .obtain⟨f0,f1,f2,f3,f4,f5⟩:=I.kY (tN _) (I.ao.fresh (tN _));obtain⟨h',g',d',IR,fb⟩:=s';obtain rfl:g'=s.gens:=hm.gens.symm;obtain rfl:d'=s.drawn:=hm.drawn;obtain rfl:fb=s.os:=hm.os;obtain⟨t,rfl⟩:=zG rv _ _ hv;obtain⟨b1,b2⟩:=Se (λi=>ns.getD i 0) (its.toArray.size-1);generalize argBest (λi j=>decide (ns.getD i 0>ns.getD j 0)) (its.toArray.size-1)=j at b1 b2;rw[lE]at b1 b2;have getD_eq:∀i,i<ns.length->ns.getD i 0=ns[i]! :=λi hi=>by simp[List.getD,yad hi]
  have hj:j<ns.length:=by lia
  refine⟨.int (ns.getD j 0),H,?_,⟨t,Z⟩,q _ ?_ λn hn=>?_⟩
  .exact(I2.turned (h':=h') (t':=IR) (it:=s.heap.objs.size) (λb o hb eo=>hm.heap b o (by simpa using hb) eo) f0 f1 f3 f4 f5:)
  .have:ns.getD j 0=ns[j]:=by simp[List.getD,yad hj]
   rw[this];exact yeI hj
  .obtain⟨i,hi,rfl⟩:=ybF.mp hn;have e:ns.getD i 0=ns[i]:=by simp[List.getD,yad hi]
   rw[<-e];exact b2 i (by lia)
end
structure aD(P:Program)(w:World)(K:Frag)(a:Addr)(al:List (Key × V)):Prop where
 ne:(a==sysModules)=false
 ok:∀h:Heap,K.In h->∃vs,KV al vs/\h.DictOf (QY P w) a vs
section
variable {ty:TE}{pos:Pos}{al:List (Key × V)}
def Sf(a:Addr)(al:List (Key × V))(td ty:TE):TE:=λσ H Q=>td σ H λx H1=>ty σ H1 λy H2=>∃k v,x=.ref a/\y=kV k/\Vr al k=some v/\Q v H2
def Ws(D:aD X.prog X.w X.K a al)(ho:PE X o td)(hi:PE X i ty)(hs:EV i):PE X (.Subscript o i pos) (Sf a al td ty):=by
 intro U s σ H Q I h;refine vR PySem.F.slot_dict_getitem.lookup hs (ay (ho U s σ H _ I h) λu s1⟨x,H1,I1,rx,q1⟩=>ay (hi U s1 σ H1 _ I1 q1) λiv s2⟨y,H2,I2,ry,k,v,ex,ey,l,q2⟩=>?_);subst ex ey;obtain rfl:u=Value.ref a:=rx;obtain⟨vs,rel,dd⟩:=D.ok s2.heap I2.bq;obtain⟨w',hw,Os⟩:=Uq.some_of (v:=v) (o:=valueAt vs k) (by rw[<-l];exact rel.val k);exact⟨dd.typeIs,wpAny_getItem_of (jp ry) dd.mapOf hw ⟨v,H2,I2.tok _,Os,q2⟩⟩
def Sg(a:Addr)(al:List (Key × V))(ty td:TE):TE:=λσ H Q=>ty σ H λy H1=>td σ H1 λx H2=>∃k,x=.ref a/\y=kV k/\Q (.bl (!(Vr al k).isSome)) H2
def WP(D:aD X.prog X.w X.K a al)(hi:PE X i ty)(ho:PE X o td):PC X .NotIn i o (Sg a al ty td):=by
 intro U s σ H Q I h;refine ay (hi U s σ H _ I h) λiv s1⟨y,H1,I1,ry,q1⟩=>ay (ho U s1 σ H1 _ I1 q1) λu s2⟨x,H2,I2,rx,k,ex,ey,q2⟩=>?_;subst ex ey;obtain rfl:u=Value.ref a:=rx;obtain⟨vs,rel,dd⟩:=D.ok s2.heap I2.bq;refine wpAny_notIn_of (jp ry) D.ne dd.mapOf ?_;rw[<-(rel.val k).VS];exact⟨.bl _,H2,I2.tok _,Z,q2⟩
end
def boot_sum:bootBuiltins "sum"=some (.builtin "sum"):=by boot_by_name
section
def Si:Es X .Add (λx y H Q=>∃i j,x=.str i/\y=.str j/\i.length+j.length<=sizeLine/\Q (.str (i++j)) H):=by
 intro U s σ H x y v u Q I r1 r2 h;obtain⟨i,j,e1,e2,hl,q⟩:=h;subst e1;subst e2;obtain⟨t,rfl⟩:=r1;obtain⟨t',rfl⟩:=r2;exact SB.iadd (λt2 k=>⟨.str _,H,I.tok k,⟨t2,Z⟩,q⟩) hl
def wC(hK:X.K=K0):aQ X (compareOp .In) (Av K0 false):=by
 subst hK;exact vM
end
structure iE(K:Frag)(H:Hp)(a t r:Addr)(ns:List Int)(c:Int):Prop where
 sq:aC K H a (ns.map V.int)
 tw:∃rs,aG H t r c rs
 nat:a≠t
 cH:a≠r
 ln:ns.length<=63
section
variable {K:Frag}{H H':Hp}{a t r:Addr}{ns:List Int}{c c':Int}
def iE.drawn(B:iE K H a t r ns c)(A:Apart t r H H'){rs:List (Key × V)}(T:aG H' t r c' rs):iE K H' a t r ns c':=
 ⟨A.seq B.sq B.nat B.cH,⟨rs,T⟩,B.nat,B.cH,B.ln⟩
def iE.draw(B:iE K H a t r ns c)(hi:σ[i]? =some (some (.ref a)))(hj:σ[j]? =some (some (.ref t)))(hn:∀R:VK,R (.int n) H->tn σ H R)(h0:0<n)(h1:n<1000000)(hc:c<100000)(k:∀(d:Nat)(H':Hp),(d:Int)<n->iE K H' a t r ns (c+1)->Apart t r H H'->Q (.int d) H'):XW (jx K) [] E (Jf (Kz i) (Jf (Kz j) (Jf tn WM))) σ H Q:=by
 obtain⟨rs,T⟩:=B.tw;refine⟨_,hi,_,hj,hn _ ⟨a,t,r,ns,c,n,rs,Z,B.sq,T,B.nat,B.cH,B.ln,hc,h0,h1,λv IN H' v0 v1 T' A'=>?_⟩⟩;obtain⟨d,rfl⟩:=ydf v0;exact k d H' v1 (B.drawn A' T') A'
end
noncomputable def AJ(z:Str):It:=⟨λi _=>i<z.cps.size,λi H x H'=>H'=H/\∃c,z.cps[i]? =some c/\x=.str ⟨#[c]⟩,λi _=>z.cps.size<=i⟩
def Sj{P:Program}{w:World}{K:Frag}{tg:Expr}(it:Addr)(z:Str)(t:Tok):Turn P w K tg (AJ z) [it] it (λi h=>h.IsStrIter it "str_ascii_iterator" z t i) where
 mem:=by simp
 obj:=λi h st b hb=>by
  have e:b=it:=by simpa using hb
  subst e;obtain⟨o,e,c,d⟩:=st;exact⟨o,e,λv z=>by rw[d]at z;cases z⟩
 keep:=λi h h' st k=>by
  obtain⟨o,e,c,d⟩:=st;exact⟨o,k it (by simp) o e,c,d⟩
 item:=by
  intro X hP hw hK hc i U s σ H E I hf st hg;subst hP hw hK;obtain⟨f0,f1,f2,f3,f4,f5⟩:=hf it (by simp);have dE:i<z.cps.size:=hg;obtain⟨c,SC⟩:∃c,z.cps[i]? =some c:=⟨z.cps[i],by simp[dE]⟩;refine wpAny_pyNext_ascii_item st SC λh' Db sb=>?_;have I1:Inv X U σ H {s with heap:=h',toks:=s.toks+1}:=I.turned (λb o hb e=>(sb.2 b hb).trans e) f0 f1 f3 f4 f5;obtain⟨o,e,cc,d⟩:=id Db;exact⟨_,Z,kZ (s:={s with heap:=h',toks:=s.toks+1}) e cc d (by lia) ⟨.str ⟨#[c]⟩,H,I1,⟨_,Z⟩,⟨Z,c,SC,Z⟩,Db,λb hb=>(hf b hb).1⟩⟩
 done:=by
  intro X hP hw hK hc i U s σ H E I hf st hg;subst hP hw hK;obtain⟨f0,f1,f2,f3,f4,f5⟩:=hf it (by simp);have dE:z.cps.size<=i:=hg;exact wpAny_pyNext_ascii_end (I.ok.hd hc) st (by simp[dE]) λh' eb=>⟨Z,I.turned (t':=s.toks) (λb o hb e=>eb b o hb e) f0 f1 f3 f4 f5⟩
 self:=λ_ _ _ _ _ st h=>wpAny_pyIter_striter_ascii st h
section
def CG(tl:TE):TI:=λσ H R=>tl σ H λx H1=>∃z:Str,x=.str z/\z.cps.all (· <128)=true/\R (AJ z) H1
def xO{tl:TE}(hl:PE X l tl):PI X tg l (CG tl):=by
 intro U s σ H R I h;refine ay (hl U s σ H _ I h) λv s1⟨x,H1,I1,r1,q1⟩=>?_;obtain⟨z,e,ha,q⟩:=q1;subst e;obtain⟨t,rfl⟩:=r1;refine yek ha ?_;refine⟨s1.heap.objs.size,[s1.heap.objs.size],_,_,H1,Z,I1.kept (t':=s1.toks) λb o e=>yab _ e,Sj _ z t,⟨_,yah _ rfl,Z,Z⟩,λb hb=>?_,q⟩;have e:b=s1.heap.objs.size:=by simpa using hb
 subst e;exact I1.kY (tN _) (I1.ao.fresh (tN _))
end
def xP{tt:TT}{tl:TE}(Pv:Nat->List V->Hp->Prop)(h:∀R:VK,R (.str z) H->tl σ H R)(ha:z.cps.all (· <128)=true)(h0:Pv 0 [] H)(hl:∀i vs H,i<=z.cps.size->Pv i vs H->vs.length<=i)(hs:∀i c vs H,z.cps[i]? =some c->Pv i vs H->g (.str ⟨#[c]⟩) (replicate NB.length none) H λσ2 H2=>tt σ2 H2 λb H3=>if b=true then te σ2 H3 λv H4=>Pv (i+1) (vs++[v]) H4 else Pv (i+1) vs H3)(hd:∀vs H,Pv z.cps.size vs H->∀p,H p=none->Q (.ref p) (upd H p (.lst vs)))(hz:z.cps.size<sizeLine):UF NB (CG tl) g tt te σ H Q:=by
 refine h _ ⟨z,Z,ha,?_⟩;refine⟨λi m vs H=>m=z.cps.size-i/\i<=z.cps.size/\Pv i vs H,⟨z.cps.size,by simp,lF _,h0⟩,?_⟩;rintro i m vs H ⟨rfl,hi,p⟩;have hv:=hl i vs H hi p
 by_cases ap:i<z.cps.size
 .refine .inr ⟨ap,by lia,Pv (i+1),λmt H' p'=>⟨z.cps.size-(i+1),by lia,Z,ap,p'⟩,λx H' y=>?_⟩;obtain⟨e,c,hc,e2⟩:=y;subst e e2;exact hs i c vs _ hc p
 .have e:i=z.cps.size:=by lia
  subst e;exact .inl ⟨tN _,hd vs H p⟩
noncomputable def yc(scope:Scope)(env:Env)(C:Addr):Env:=
 {scope:=relabel scope env,locals:=C,globals:=env.globals,cells:=ZZ env.cells scope.names [],qual:=env.qual,func:=none,code:=env.code,frame:=env.frame,builtins:=env.builtins}
noncomputable abbrev Jq(X:Cx)(NB:List Str)(scope:Scope)(s:Shared)(H:Hp)(ex:List Addr):Cx:=
 {X with N:=NB,s₀:=s,H₀:=H,env:=yc scope X.env s.heap.objs.size,L:=X.stack,ex:=ex,fn:=λ_=>false,pn:=[],xe:=λ_ _=>False}
structure ba(NB FR:List Str)(scope:Scope):Prop where
 kind:scope.kind=.function
 dc:(∀y∈scope.names,y.2≠ .cell)/\(∀y∈scope.names,y.2=.local->scope.names.lookup y.1=some .local)/\(scope.names.map (·.1)).Nodup/\∀y∈FR,(y,NameKind.free)∈scope.names
structure bA(scope:Scope):Prop where
 kind:scope.kind=.function
 dc:(∀y∈scope.names,y.2≠ .cell/\y.2≠ .free)/\(∀y∈scope.names,y.2=.local->scope.names.lookup y.1=some .local)/\(scope.names.map (·.1)).Nodup
def V4(n:Nat)(fi:List Nat)(wi:TI)(g:TG)(tt:TT)(te:TE):TE:=λσ H Q=>wi σ H λJ H1=>∃fv:List V,fi.map (λi=>σ[i]?)=fv.map (λv=>some (some v))/\∃W:Nat->Nat->List V->Hp->Prop,(∃m,W 0 m [] H1)/\∀i m vs H,W i m vs H->
 (J.stop i H/\∀p,H p=none->Q (.ref p) (upd H p (.lst vs)))\/(J.go i H/\vs.length<sizeLine/\∃N:List V->Hp->Prop,(∀mt H',N mt H'->∃m',m'<m/\W (i+1) m' mt H')/\
  ∀x H',J.bT i H x H'->g x (replicate n none++fv.map some) H' λσ2 H2=>σ2.drop n=fv.map some/\tt σ2 H2 λb H3=>if b=true then te σ2 H3 λv H4=>N (vs++[v]) H4 else N vs H3)
noncomputable def fq(env:Env)(x:Str × NameKind):Str × NameKind:=if(x.2==NameKind.free&&env.scope.kind==.function&&env.kindOf x.1==some .cell)then(x.1,NameKind.cell)else(x.1,x.2)
def xQ(env:Env)(h:y≠x.1)(l:List (Str × NameKind)):(fq env x::l).lookup y=l.lookup y:=by
 have hb:(y==x.1)=false:=yau.mpr h;unfold fq
 split<;>rw[ybB,hb]
def jA{env:Env}{scope:Scope}(nd:(scope.names.map (·.1)).Nodup)(h:(y,NameKind.free)∈scope.names)(hk:(env.scope.kind==.function)=true)(hc:env.scope.names.lookup y=some .cell):(relabel scope env).names.lookup y=some .cell:=by
 have key:∀l:List (Str × NameKind),(l.map (·.1)).Nodup->(y,NameKind.free)∈l->(l.map (fq env)).lookup y=some .cell:=by
  intro l
  induction l with
  |nil=>intro _ h;cases h
  |cons z r ih=>
   intro nd h;rw[lC,ydb]at nd;rw[lC];rcases yak.mp h with h|h
   .subst h;have e:(env.kindOf y==some NameKind.cell)=true:=by rw[show env.kindOf y=env.scope.names.lookup y from rfl,hc];rfl
    have e2:fq env (y,NameKind.free)=(y,NameKind.cell):=by unfold fq;rw[yai (by rw[hk,e];rfl)]
    rw[e2,ybB,ybg]
   .have re:y≠z.1:=λq=>nd.1 (by rw[<-q];exact yaY.mpr ⟨_,h,Z⟩);rw[xQ env re];exact ih nd.2 h
 exact key scope.names nd h
def jB{env:Env}{scope:Scope}(nc:∀y∈scope.names,y.2≠ .cell)(h:(relabel scope env).names.lookup y=some .cell\/(relabel scope env).names.lookup y=some .free):(y,NameKind.free)∈scope.names:=by
 have key:∀l:List (Str × NameKind),(∀y∈l,y.2≠ .cell)->((l.map (fq env)).lookup y=some .cell\/(l.map (fq env)).lookup y=some .free)->(y,NameKind.free)∈l:=by
  intro l
  induction l with
  |nil=>intro _ h;rcases h with h|h<;>simp at h
  |cons z r ih=>
   intro nc h;have hk:z.2≠ .cell:=nc z tW;rw[lC]at h
   by_cases hn:y=z.1
   .obtain⟨n,k⟩:=z;have hn:y=n:=hn;subst hn;have hf:k=.free:=by
     cases k with
     |cell=>exact absurd rfl hk
     |free=>rfl
     |_=>
      have e2:∀q:NameKind,(q==NameKind.free)=false->fq env (y,q)=(y,q):=λq hq=>by unfold fq;rw[yag (by rw[show((y,q).2==NameKind.free)=false from hq];simp)]
      rw[e2 _ rfl,ybB,ybg]at h;rcases h with h|h<;>cases h
    rw[hf];exact tW
   .rw[xQ env hn]at h;exact tU _ (ih (λy hy=>nc y (tU _ hy)) h)
 exact key scope.names nc h
theorem KC:∀(l:List (Str × NameKind))(n:Nat)(acc:List (Str × Addr)),(∀y∈l,y.2≠ .cell)->cellsFrom n l acc=acc
 |[],_,_,_=>rfl
 |(x,k)::r,n,acc,h=>by
  have hk:(k==NameKind.cell)=false:=yau.mpr (h (x,k) tW);unfold cellsFrom;rw[hk];exact KC r n acc λy hy=>h y (tU _ hy)
theorem KF:∀(l:List (Str × NameKind))(h:Heap),(∀y∈l,y.2≠ .cell)->pushCells h l=h
 |[],_,_=>rfl
 |(x,k)::r,h,hn=>by
  have hk:(k==NameKind.cell)=false:=yau.mpr (hn (x,k) tW);unfold pushCells;rw[hk];exact KF r h λy hy=>hn y (tU _ hy)
def V5{scope:Scope}{globals:Addr}{qual:Str}{env:Env}{cl:List (Str × Addr)}(hk:scope.kind=.function)(hn:∀y∈scope.names,y.2≠ .cell)(hQ:∀lV s',lV={scope:=scope,locals:=s.heap.objs.size,globals:=globals,cells:=cl,qual:=qual,func:=none,code:=env.code,frame:=env.frame,builtins:=env.builtins}->
   InCall s s.heap.objs.size (λ_=>none) s'->Q lV s'):
  wpAny qMa A (newFunctionEnv scope globals cl [] qual none .none (some env)) Q E s:=by
 simp only[newFunctionEnv,Option.isSome_some,ybN];refine yaa (wpAny_alloc ?_);refine yaa (wpAny_layCells _ (λname kind cells=>by cases Sl:kind==NameKind.cell<;>simp[Sl]) _ _ _ _ ?_);rw[KC _ _ _ hn,KF _ _ hn];refine yaa (yac (yac (hQ _ _ Z ?_)));exact⟨⟨_,_,Z⟩,Heap.Ns.new s.heap (.type "dict"),λb o e=>yab _ e,tN _⟩
section
variable {X:Cx}
def Kp{elt tg iter:Expr}{ifs:List Expr}{scope:Scope}{pos PP:Pos}{NB FR:List Str}{fi:List Nat}{g:TG}{tt:TT}{use:Option (Value->Sem Unit)}{Q:VK}{U:List (Addr × Obj)}{σ:St}(Kn:List V->St->Prop->Prop)(hc:X.calm=true)(S:ba NB FR scope)(CH:∀y∈scope.names,y.2=.free->X.env.scope.names.lookup y.1=some .cell)(eE:fi.map (λi=>X.N[i]?)=FR.map some)(hi:PI X tg iter wi)(hg:∀s H ex,PG (Jq X (NB++FR) scope s H ex) tg g)(ht:∀s H ex,lT (Jq X (NB++FR) scope s H ex) ifs tt)(he:∀s H ex,PE (Jq X (NB++FR) scope s H ex) elt te)(hs:∀x,foldedSetIterable iter X.env x=pure x)(hK:∀fv σ2 p,fv.length=FR.length->Kn fv σ2 p->p/\(fv=[]\/σ2.drop NB.length=fv.map some))(I:Inv X U σ H s)(h:wi σ H R)(hR:∀J H1,R J H1->∃fv:List V,fi.map (λi=>σ[i]?)=fv.map (λv=>some (some v))/\∃W:Nat->Nat->List V->Hp->Prop,(∃m,W 0 m [] H1)/\∀i m vs H,W i m vs H->
   (J.stop i H/\∀p,H p=none->Q (.ref p) (upd H p (.lst vs)))\/(J.go i H/\vs.length<sizeLine/\∃N:List V->Hp->Prop,(∀mt H',N mt H'->∃m',m'<m/\W (i+1) m' mt H')/\
    ∀x H',J.bT i H x H'->g x (replicate NB.length none++fv.map some) H' λσ2 H2=>Kn fv σ2 (tt σ2 H2 λb H3=>if b=true then te σ2 H3 λv H4=>N (vs++[v]) H4 else N vs H3)))(fin:∀(D C:Addr)(H':Hp)(s':Shared) m,s'.heap.Ns C m->Inv X U σ H' s'->H' C=none->C≠X.env.locals->X.s₀.heap.objs.size<=C->(∀x c,X.env.cells.lookup x=some c->c≠C)->(∀p∈X.pn++U,p.1≠C)->Q (.ref D) H'->compPost (model X.prog X.w) X.A X.xe use Qc (.ref D) C (.ok .next) s'):
  wpAny (model X.prog X.w) X.A (comprehension (.ListComp elt [⟨tg,iter,ifs,0⟩] scope pos) scope X.env PP (newList []) false (eval iter X.env) use) Qc X.xe s:=by
 have AK:∀y∈scope.names,y.2=.free->∃c,X.env.cells.lookup y.1=some c:=λy hy e=>I.ok.has y.1 (.inl (CH y hy e));have Tl:∀y c,(ZZ X.env.cells scope.names []).lookup y=some c->X.env.cells.lookup y=some c:=λy c e=>ju scope.names [] AK (λz=>nomatch z) e;refine wpAny_comprehension_free (use:=use) (cl:=ZZ X.env.cells scope.names []) rfl hs (UD AK) S.kind S.dc.2.1 (ay (hi U s σ H _ I h) λv s1 h1=>ay h1 λEw s2 h2=>?_);obtain⟨it,fp,tn,J,H2,e,I2,T,Do,f2,h3⟩:=h2;obtain⟨fv,fu,W,⟨m0,w0⟩,turn⟩:=hR _ _ h3;subst e;refine yaW ?_;have CI:∀b o,s2.heap.get? b=some o->(s2.heap.push {cls:=.type "list",data:=.seq ([]:List Value).toArray}).get? b=some o:=λb o e=>yab _ e;have I3:Inv X U σ H2 {s2 with heap:=s2.heap.push {cls:=.type "list",data:=.seq ([]:List Value).toArray}}:=I2.kept (t':=s2.toks) CI;have Al:tn 0 (s2.heap.push {cls:=.type "list",data:=.seq ([]:List Value).toArray}):=T.keep _ _ _ Do λb _ o e=>CI b o e;have CJ:(s2.heap.push {cls:=.type "list",data:=.seq ([]:List Value).toArray}).get? s2.heap.objs.size=some (er []):=yah _ rfl;have Lf:H2 s2.heap.objs.size=none:=I2.ao.fresh (tN _);have AL:∀b o,s2.heap.get? b=some o->b≠s2.heap.objs.size:=λb o e=>yar (yaj e);have Lg:∀b∈fp,∃o,s2.heap.get? b=some o:=λb hb=>let ⟨o,e,_⟩:=T.obj _ _ Do b hb;⟨o,e⟩;have fw:X.s₀.heap.objs.size<=s2.heap.objs.size:=I2.sz;have Fg:s2.heap.objs.size≠X.env.locals:=yct I2.lt;have CK:∀x c,X.env.cells.lookup x=some c->c≠s2.heap.objs.size:=λx c e=>let ⟨v,o,e1,_⟩:=I2.cell x c e;AL c o e1;have Fh:∀p∈X.pn++U,p.1≠s2.heap.objs.size:=λp hp=>AL p.1 _ (I2.pin p hp).1;have Fi:s2.heap.objs.size∉bz X.stack:=λz=>let ⟨o,e,_⟩:=(I2.stack.mem z).2;AL _ o e rfl;generalize Sm:({s2 with heap:=s2.heap.push {cls:=.type "list",data:=.seq ([]:List Value).toArray}}:Shared)=s3 at I3 ⊢;have Fj:s3.heap=s2.heap.push {cls:=.type "list",data:=.seq ([]:List Value).toArray}:=by rw[<-Sm]
 rw[<-Fj]at Al CJ CI;generalize s2.heap.objs.size=D at CJ Lf AL fw Fg CK Fh Fi ⊢;refine V5 S.kind S.dc.1 λlV s4 lW x4=>?_;subst lW;have AM:∀b o,s3.heap.get? b=some o->b<s3.heap.objs.size:=λb o e=>yaj e;have Lh:∀b∈fp,b<s3.heap.objs.size:=λb hb=>let ⟨o,e⟩:=Lg b hb;AM b o (CI b o e);have AN:D<s3.heap.objs.size:=AM D _ CJ;have AO:∀b∈fp,b≠D:=λb hb=>let ⟨o,e⟩:=Lg b hb;AL b o e;obtain⟨h4,Fl,rfl,so⟩:=x4.done;have Sn:∀b o,X.Y.get? b=some o->b∉D::fp:=λb o e hb=>by
  rcases yak.mp hb with rfl|hb
  .exact absurd (yam (yaj (I2.ok.bs b o e).1) fw) (lG _)
  .obtain⟨_,_,_,f3,_⟩:=f2 b hb;rcases f3 with z|z
   .exact I2.ok.dy b o e z
   .exact absurd (yam (yaj (I2.ok.bs b o e).1) z) (lG _)
 have Li:∀b∈D::fp,b∉bz X.stack:=λb hb hf=>by
  rcases yak.mp hb with rfl|hb
  .exact Fi hf
  .obtain⟨_,f1,So,_⟩:=f2 b hb;rcases yak.mp (I2.xy b hf)with z|z
   .exact f1 z
   .exact So z
 have sr:∀y c,(ZZ X.env.cells scope.names []).lookup y=some c->(∃v,s3.heap.IsCell c v)/\H2 c=none/\c≠D/\∀b∈fp,c≠b:=λy c e=>by
  have e':=Tl y c e;exact⟨I3.cell y c e',I3.aP y c e',CK y c e',λb hb=>(f2 b hb).2.2.2.2.1 y c e'⟩
 have clt:∀y c,(ZZ X.env.cells scope.names []).lookup y=some c->c<s3.heap.objs.size:=λy c e=>let ⟨⟨v,o,ho,_⟩,_⟩:=sr y c e;AM c o ho;have Fm:∀b∈D::fp,b<s3.heap.objs.size:=λb hb=>by
  rcases yak.mp hb with rfl|hb
  .exact AN
  .exact Lh b hb
 have Sq:(Jq X (NB++FR) scope s3 H2 (D::fp)).Ok:=by
  refine⟨I3.ok.mod,S.kind,I3.ok.glob,I3.ok.blt,tN _,λy z c h1 h2=>?_,λy hy=>?_,(λy c z _=>nomatch z),I3.ok.hd,I3.ok.frames,.inl rfl,λb hb=>⟨yar (Fm b hb),λy c e z=>?_⟩,I3.bs,yap I3.ok.ip I3.sz,Sn,Li,I3.stack,I3.zq⟩
  .exact I3.ok.inj y z c (Tl y c h1) (Tl z c h2)
  .exact UE scope.names [] (.inr (jB S.dc.1 hy))
  .obtain⟨_,_,n1,n2⟩:=sr y c e;rcases yak.mp hb with q|q
   .exact n1 (z.trans q)
   .exact n2 b q z
 have At:fv.length=FR.length:=by
  have h1:=yaF List.length fu;have h2:=yaF List.length eE;simp only[tK]at h1 h2;lia
 have iF:(replicate NB.length (none:Option V)++fv.map some).length=(NB++FR).length:=by
  have h1:=yaF List.length fu;have h2:=yaF List.length eE;simp only[tK]at h1 h2;rw[tJ,tJ,lj,tK];lia
 have rep:∀(j:Nat)(v:V),(replicate NB.length (none:Option V)++fv.map some)[j]? =some (some v)->∃k,j=NB.length+k/\fv[k]? =some v:=λj v z=>by
  rw[List.getElem?_append]at z
  split at z
  .rw[yew]at z
   split at z<;>cases z
  .rename_i hj;rw[lj]at hj z;refine⟨j-NB.length,by lia,?_⟩;rw[lg]at z;cases e:fv[j-NB.length]? with
   |none=>rw[e]at z;cases z
   |some y=>rw[e]at z;exact yaF some (tO (tO z))
 have Fn:∀(k:Nat)(v:V)(y:Str),fv[k]? =some v->FR[k]? =some y->∃i,X.N[i]? =some y/\σ[i]? =some (some v):=λk v y h1 h2=>by
  have a1:=yaF (λl=>l[k]?) fu;have a2:=yaF (λl=>l[k]?) eE;simp only[lg,h1,h2]at a1 a2;cases e:fi[k]? with
  |none=>rw[e]at a1;cases a1
  |some i=>
   rw[e]at a1 a2;exact⟨i,tO a2,tO a1⟩
 have IB:Inv (Jq X (NB++FR) scope s3 H2 (D::fp)) [(D,er [])] (replicate NB.length none++fv.map some) H2 {s3 with heap:=h4,toks:=Fl}:=by
  refine⟨Sq,Z,I3.bare,Un.kept so,⟨_,x4.ns,λi y v h1 h2 h3=>?_⟩,λy c h=>let ⟨⟨v,o,ho,hd⟩,_⟩:=sr y c h;⟨v,o,so _ _ ho,hd⟩,I3.ao.fresh (tN _),λy c h=>(sr y c h).2.1,λp hp=>?_,I3.ao.kept so,iF⟩
  .obtain⟨k,rfl,hk⟩:=rep i v h2;have hy:FR[k]? =some y:=by
    have h1:(NB++FR)[NB.length+k]? =some y:=h1;rw[ybM (ycQ _ _),Nat.add_sub_cancel_left]at h1;exact h1
   obtain⟨io,hN,hσ⟩:=Fn k v y hk hy;have GM:(y,NameKind.free)∈scope.names:=S.dc.2.2.2 y (lh hy);obtain⟨m,_,hl⟩:=I3.loc;obtain⟨u,r,l⟩:=hl io y v hN hσ (.inr (.inl (CH _ GM Z)));refine⟨u,r,.inr ⟨.inl ?_,?_⟩⟩
   .exact jA S.dc.2.2.1 GM (by show(X.env.scope.kind==.function)=true;rw[I3.ok.kind];rfl) (CH _ GM Z)
   .obtain⟨c,Lj⟩:=UE (cells:=X.env.cells) (x:=y) scope.names [] (.inr GM);exists c,Lj;have df:=Tl y c Lj;rcases l with⟨hk,_⟩|⟨_,c',d7,o,ho,hd⟩
    .have e1:=CH _ GM rfl;rw[show X.env.kindOf y=X.env.scope.names.lookup y from rfl]at hk;rw[hk]at e1;cases e1
    .rw[df]at d7;cases d7;exact⟨o,so _ _ ho,hd⟩
  obtain rfl:p=(D,er []):=by simpa using hp
  exact⟨so _ _ CJ,Lf,yar AN,Fi,λv z=>nomatch z⟩
 have Pi:∀{H':Hp}{ys:List Value},(∀b∈fp,H' b=none)->∀b∈fp,d9 (Jq X (NB++FR) scope s3 H2 (D::fp)) [(D,er ys)] H' b:=λhn b hb=>
  ⟨hn b hb,yar (Lh b hb),Li b (tU _ hb),.inl (tU _ hb),λy c e z=>(sr y c e).2.2.2 b hb z,λp hp=>by
    obtain rfl:p=(D,_):=by simpa using hp
    exact(AO b hb).symm⟩
 have Lk:tn 0 h4:=T.keep _ _ _ Al λb _ o e=>so b o e;have Sr:∀b∈fp,H2 b=none:=λb hb=>(f2 b hb).1;have sf:(Jq X (NB++FR) scope s3 H2 (D::fp)).calm=true:=hc;have loop:codeAny (model X.prog X.w) X.A (.compLoop (.ListComp elt [⟨tg,iter,ifs,0⟩] scope pos) 0 (.ref it) (.ref D) (yc scope X.env s3.heap.objs.size))
   (compPost (model X.prog X.w) X.A X.xe use Qc (.ref D) s3.heap.objs.size) {s3 with heap:=h4,toks:=Fl}:=by
  refine v6 (λn s'=>∃i vs ys H',Inv (Jq X (NB++FR) scope s3 H2 (D::fp)) [(D,er ys)] (replicate NB.length none++fv.map some) H' s'/\Vals vs ys/\vs.length<=sizeLine/\tn i s'.heap/\(∀b∈fp,H' b=none)/\W i n vs H') ?_ m0 ⟨0,[],[],H2,IB,.nil,lF _,Lk,Sr,w0⟩;rintro n s5 ⟨i,vs,ys,H5,I5,rv,Fo,o5,Ct,w5⟩;rcases turn i n vs H5 w5 with⟨stop,qn⟩|⟨go,ap,N,hN,step⟩
  .refine yaU (T.done (Jq X (NB++FR) scope s3 H2 (D::fp)) Z Z Z sf i _ s5 _ H5 (λ_ _=>False) I5 (Pi Ct) o5 stop) (λr s6⟨hr,I6⟩=>?_) (λ_ _ z=>z.elim);subst hr;obtain⟨m6,Ss,_⟩:=id I6.loc;have I7:Inv X U σ H5 s6:=I3.Io (s':=s6) I6.os I6.Y I6.ao I6.bare λb hb=>by
    rcases yak.mp hb with rfl|hb
    .exact⟨.inr fw,Fg,CK,Fh⟩
    .obtain⟨_,f1,_,f3,f4,f5⟩:=f2 b hb;exact⟨f3,f1,f4,f5⟩
   obtain⟨eD,nD,_⟩:=I6.pin (D,er ys) (by simp);have Su:X.s₀.heap.get? D=none:=by
    cases q:X.s₀.heap.get? D with
    |none=>rfl
    |some o=>exact absurd (yam (yaj q) fw) (lG _)
   have Sv:H5 s3.heap.objs.size=none:=I6.free;have Ll:H5 D=none:=nD;exact fin D s3.heap.objs.size (upd H5 D (.lst vs)) s6 m6 Ss (I7.Ry Ll Su Fg CK Fh ⟨Fo,ys,ys.length,rv,eD⟩) (by rw[Qo (yct AN)];exact Sv) (yct I3.lt) I3.sz (λx c e=>let ⟨v,o,e1,_⟩:=I3.cell x c e;yar (AM c o e1)) (λp hp=>yar (AM p.1 _ (I3.pin p hp).1)) (qn D Ll)
  .refine yaU (T.item (Jq X (NB++FR) scope s3 H2 (D::fp)) Z Z Z sf i _ s5 _ H5 (λ_ _=>False) I5 (Pi Ct) o5 go) (λr s6⟨u,hr,h6⟩=>?_) (λ_ _ z=>z.elim);subst hr;refine yaU h6 (λ_ s7⟨x,H7,I7,r7,y7,Fp,Sw⟩=>?_) (λ_ _ z=>z.elim);have Sx:=I7.pinned (Pi Sw) (T.obj _ _ Fp);refine yaU (hg s3 H2 (D::fp) _ s7 _ H7 x u _ Sx r7 (step x H7 y7)) (λ_ s8⟨σ8,H8,I8,Sy⟩=>?_) (λ_ _ z=>z.elim);obtain⟨q8,Fq⟩:=hK fv _ _ At Sy;refine yaU (ht s3 H2 (D::fp) _ s8 σ8 H8 _ I8 q8) (λok s9⟨H9,I9,q9⟩=>?_) (λ_ _ z=>z.elim);have Lm:∀{σ':St}{H':Hp}{s':Shared},Inv (Jq X (NB++FR) scope s3 H2 (D::fp)) ([(D,er ys)]++jh fp s7.heap) σ' H' s'->tn (i+1) s'.heap/\∀b∈fp,H' b=none:=λJ=>
    ⟨T.keep _ _ _ Fp λb hb o e=>(J.pin (b,o) (tR _ (tR _ (Kl hb e)))).1,λb hb=>by
     obtain⟨o,e,d⟩:=T.obj _ _ Fp b hb;exact(J.pin (b,o) (tR _ (tR _ (Kl hb e)))).2.1⟩
   have wk:∀{H':Hp}{s':Shared}{pl:List (Addr × Obj)},Inv (Jq X (NB++FR) scope s3 H2 (D::fp)) pl σ8 H' s'->Inv (Jq X (NB++FR) scope s3 H2 (D::fp)) pl (replicate NB.length none++fv.map some) H' s':=λJ=>
    J.weak (iF.trans J.len.symm) λj v z=>by
     obtain⟨k,rfl,hk⟩:=rep j v z;rcases Fq with rfl|Fq
     .cases hk
     have:=yaF (λl=>l[k]?) Fq;simp only[ycr,lg,hk]at this;exact this
   cases ok with
   |false=>
    rw[yag (by lia)]at q9;rw[yag (by lia)];obtain⟨m',hm,w9⟩:=hN vs H9 q9;obtain⟨t9,f9⟩:=Lm I9;exact⟨m',hm,i+1,vs,ys,H9,wk I9.Wh,rv,Fo,t9,f9,w9⟩
   |true=>
    rw[yai rfl]at q9;rw[yai rfl];refine yaU (he s3 H2 (D::fp) _ s9 σ8 H9 _ I9 q9) (λy CL⟨v,AQ,Fs,Ft,Fu⟩=>?_) (λ_ _ z=>z.elim);obtain⟨eD,nD,_,nf,_⟩:=Fs.pin (D,er ys) (by simp);have Sz:=rv.length;refine append_at (hsz:=by show ys.toArray.size<=sizeLine;rw[lE, <-Sz];exact Fo) eD λFv Fw Fx=>?_;obtain⟨m',hm,SA⟩:=hN (vs++[v]) AQ Fu;obtain⟨E6,SD⟩:=Lm Fs;have Fy:=Fs.Wh;have Ln:∀b o,b≠D->CL.heap.get? b=some o->Fv.get? b=some o:=λb o hb e=>(Fw.2 b hb).trans e;have IE:Inv (Jq X (NB++FR) scope s3 H2 (D::fp)) [] σ8 AQ CL:=Fy.Ur λp hp=>nomatch hp;have SE:Inv (Jq X (NB++FR) scope s3 H2 (D::fp)) [] σ8 AQ {CL with heap:=Fv}:=IE.turned (t':=CL.toks) Ln nD (yar AN) (.inl tW) (λy' c e z=>(sr y' c e).2.2.1 z) (λp hp=>absurd (show p∈([]:List (Addr × Obj))from hp) (by simp));have eL:({cls:=.type "list",data:=.seq (ys.toArray.push y) (ys.length+1)}:Obj)=er (ys++[y]):=by
     show({cls:=.type "list",data:=.seq (ys.toArray.push y) (ys.length+1)}:Obj)={cls:=.type "list",data:=.seq (ys++[y]).toArray (ys++[y]).length};rw[tJ,tP,List.push_toArray]
    refine⟨m',hm,i+1,vs++[v],ys++[y],AQ,wk (SE.Ur λp hp=>?_),rv.append (.cons Ft .nil),by rw[tJ,tP];exact ap,T.keep _ _ _ E6 λb hb o e=>Ln b o (AO b hb) e,SD,SA⟩;obtain rfl:p=(D,er (ys++[y])):=by simpa using hp
    exact⟨by rw[<-eL];exact Fx,nD,yar AN,nf,λv z=>nomatch z⟩
 exact codeAny_compStart_list loop (T.self _ 0 _ _ _ Lk loop)
def Lo{U:List (Addr × Obj)}{σ:St}(D C:Addr)(H':Hp)(s':Shared)(m:Str->Option Value)(hn:s'.heap.Ns C m)(J:Inv X U σ H' s')(hC:H' C=none)(cL:C≠X.env.locals)(Fz:X.s₀.heap.objs.size<=C)(cC:∀x c,X.env.cells.lookup x=some c->c≠C)(cP:∀p∈X.pn++U,p.1≠C)(q:Q (.ref D) H'):compPost (model X.prog X.w) X.A X.xe none (EP X U σ Q) (.ref D) C (.ok .next) s':=
 ⟨m,hn,λh7 SF=>⟨.ref D,H',J.turned (h':=h7) (t':=s'.toks) (it:=C) (λb o hb e=>(SF.2 b hb).trans e) hC cL (.inr Fz) cC cP,Z,q⟩⟩
def Lp{y:Str}{py:Pos}{iy:Nat}{U:List (Addr × Obj)}{σ:St}(hN:X.N.Nodup)(AR:X.N[iy]? =some y)(hy:Loc X.env.scope y)(hf:X.fn y=true\/X.env.scope.names.lookup y=some .local)(D C:Addr)(H':Hp)(s':Shared)(m:Str->Option Value)(hn:s'.heap.Ns C m)(J:Inv X U σ H' s')(hC:H' C=none)(cL:C≠X.env.locals)(Fz:X.s₀.heap.objs.size<=C)(cC:∀x c,X.env.cells.lookup x=some c->c≠C)(cP:∀p∈X.pn++U,p.1≠C)(q:Dn.nx (σ.set iy (some (.ref D))) H'):compPost (model X.prog X.w) X.A X.xe (some (assign (.Name y py) X.env)) (λ_ s'=>SP X U Dn .next s') (.ref D) C (.ok .next) s':=by
 show wpAny (model X.prog X.w) X.A (assign (.Name y py) X.env (.ref D)) _ X.xe s';refine wpAny_assign_Name (jf (v:=.ref D) J hN AR hy Z (λs9 I9⟨a9,SG,SH⟩=>?_) hf);have na:C≠a9:=by
  rcases SH with rfl|z
  .exact cL
  .exact(cC y a9 z).symm
 exact⟨m,hn.sameBut SG na,λSI FA=>⟨_,_,(I9.turned (h':=SI) (t':=s9.toks) (it:=C) (λb o hb e=>(FA.2 b hb).trans e) hC cL (.inr Fz) cC cP:),q⟩⟩
def Lq{NB:List Str}{g:TG}{tt:TT}{te:TE}{Q:VK}{σ:St}(J:It)(H1:Hp)(h:∃W:Nat->Nat->List V->Hp->Prop,(∃m,W 0 m [] H1)/\∀i m vs H,W i m vs H->
  (J.stop i H/\∀p,H p=none->Q (.ref p) (upd H p (.lst vs)))\/(J.go i H/\vs.length<sizeLine/\∃N:List V->Hp->Prop,(∀mt H',N mt H'->∃m',m'<m/\W (i+1) m' mt H')/\
   ∀x H',J.bT i H x H'->g x (replicate NB.length none) H' λσ2 H2=>tt σ2 H2 λb H3=>if b=true then te σ2 H3 λv H4=>N (vs++[v]) H4 else N vs H3)):
  ∃fv:List V,([]:List Nat).map (λi=>σ[i]?)=fv.map (λv=>some (some v))/\∃W:Nat->Nat->List V->Hp->Prop,(∃m,W 0 m [] H1)/\∀i m vs H,W i m vs H->
   (J.stop i H/\∀p,H p=none->Q (.ref p) (upd H p (.lst vs)))\/(J.go i H/\vs.length<sizeLine/\∃N:List V->Hp->Prop,(∀mt H',N mt H'->∃m',m'<m/\W (i+1) m' mt H')/\
    ∀x H',J.bT i H x H'->g x (replicate NB.length none++fv.map some) H' λσ2 H2=>(λ_ _ p=>p:List V->St->Prop->Prop) fv σ2 (tt σ2 H2 λb H3=>if b=true then te σ2 H3 λv H4=>N (vs++[v]) H4 else N vs H3)):=
 ⟨[],Z,by rw[ydv,lA];exact h⟩
def Lr(fv:List V)(σ2:St)(p:Prop)(e:fv.length=([]:List Str).length)(h:p):p/\(fv=[]\/σ2.drop n=fv.map some):=⟨h,.inl (ybk.mp e)⟩
def bA.f{scope:Scope}(S:bA scope):ba NB [] scope:=⟨S.kind,λy h=>(S.dc.1 y h).1,S.dc.2.1,S.dc.2.2,λ_ h=>nomatch h⟩
def Wt{elt tg iter:Expr}{ifs:List Expr}{scope:Scope}{pos:Pos}{tt:TT}(hc:X.calm=true)(S:ba NB FR scope)(Fr:v4 scope X.env.scope=true)(eE:fi.map (λi=>X.N[i]?)=FR.map some)(hi:PI X tg iter wi)(hg:∀s H ex,PG (Jq X (NB++FR) scope s H ex) tg g)(ht:∀s H ex,lT (Jq X (NB++FR) scope s H ex) ifs tt)(he:∀s H ex,PE (Jq X (NB++FR) scope s H ex) elt te)(hs:∀x,foldedSetIterable iter X.env x=pure x:=by intro _;rfl):PE X (.ListComp elt [⟨tg,iter,ifs,0⟩] scope pos) (V4 NB.length fi wi g tt te):=by
 intro U s σ H Q I h;rw[eval_ListComp];exact Kp (use:=none) (λfv σ2 p=>σ2.drop NB.length=fv.map some/\p) hc S (jy Fr) eE hi hg ht he hs (λ_ _ _ _ z=>⟨z.2,.inr z.1⟩) I h (λ_ _ z=>z) Lo
def Z0{elt tg iter:Expr}{ifs:List Expr}{scope:Scope}{pos:Pos}{tt:TT}(hc:X.calm=true)(S:bA scope)(hi:PI X tg iter wi)(hg:∀s H ex,PG (Jq X (NB++[]) scope s H ex) tg g)(ht:∀s H ex,lT (Jq X (NB++[]) scope s H ex) ifs tt)(he:∀s H ex,PE (Jq X (NB++[]) scope s H ex) elt te)(hs:∀x,foldedSetIterable iter X.env x=pure x:=by intro _;rfl):PE X (.ListComp elt [⟨tg,iter,ifs,0⟩] scope pos) (UF NB wi g tt te):=by
 intro U s σ H Q I h;rw[eval_ListComp];exact Kp (use:=none) (fi:=[]) (λ_ _ p=>p) hc S.f (λy hy e=>absurd e (S.dc.1 y hy).2) rfl hi hg ht he hs Lr I h Lq Lo
section
variable {elt tg iter:Expr}{ifs:List Expr}{scope:Scope}{pos cT py:Pos}{NB FR:List Str}{fi:List Nat}{wi:TI}{g:TG}{tt:TT}{te:TE}{iy:Nat}{y:Str}
def yd{U:List (Addr × Obj)}(AS:swapsWith (.ListComp elt [⟨tg,iter,ifs,0⟩] scope pos) (some (.Name y py)) cT.line X.env=pure true)(h:∀p2,wpAny (model X.prog X.w) X.A (comprehension (.ListComp elt [⟨tg,iter,ifs,0⟩] scope pos) scope X.env p2 (newList []) false (eval iter X.env) (some (assign (.Name y py) X.env))) (λ_ s'=>SP X U Dn .next s') X.xe s):wpAny (model X.prog X.w) X.A (exec (.Assign [.Name y py] (.ListComp elt [⟨tg,iter,ifs,0⟩] scope pos) cT) X.env) (SP X U Dn) X.xe s:=by
 rw[exec_Assign_Name_used _ _ _ _ AS];refine yaa (ydI (yaa ?_));show wpAny _ X.A (do let _<-comprehension (.ListComp elt [⟨tg,iter,ifs,0⟩] scope pos) scope X.env _ (newList []) false (eval iter X.env) (some (assign (.Name y py) X.env))) _ _ s;exact yaa (yaU (h _) (λ_ s' hq=>yac (yac hq)) λ_ _ e=>e)
def ye(hc:X.calm=true)(S:ba NB FR scope)(Fr:v4 scope X.env.scope=true)(eE:fi.map (λi=>X.N[i]?)=FR.map some)(hi:PI X tg iter wi)(hg:∀s H ex,PG (Jq X (NB++FR) scope s H ex) tg g)(ht:∀s H ex,lT (Jq X (NB++FR) scope s H ex) ifs tt)(he:∀s H ex,PE (Jq X (NB++FR) scope s H ex) elt te)(hN:X.N.Nodup)(AR:X.N[iy]? =some y)(hy:Loc X.env.scope y)(AS:swapsWith (.ListComp elt [⟨tg,iter,ifs,0⟩] scope pos) (some (.Name y py)) cT.line X.env=pure true)(hs:∀x,foldedSetIterable iter X.env x=pure x:=by intro _;rfl)(hf:X.fn y=true\/X.env.scope.names.lookup y=some .local:=by first|exact .inl rfl|exact .inr rfl|assumption):PS X (.Assign [.Name y py] (.ListComp elt [⟨tg,iter,ifs,0⟩] scope pos) cT) (Za (V4 NB.length fi wi g tt te) (QL iy)):=λU s σ H Dn I h=>
 yd AS λ_=>Kp (Q:=λv H'=>QL iy v σ H' Dn.nx) (use:=some (assign (.Name y py) X.env)) (λfv σ2 p=>σ2.drop NB.length=fv.map some/\p) hc S (jy Fr) eE hi hg ht he hs (λ_ _ _ _ z=>⟨z.2,.inr z.1⟩) I h (λ_ _ z=>z) (λD C H' s' m a b c d e f g q=>Lp hN AR hy hf D C H' s' m a b c d e f g q)
def xR(hc:X.calm=true)(S:bA scope)(hi:PI X tg iter wi)(hg:∀s H ex,PG (Jq X (NB++[]) scope s H ex) tg g)(ht:∀s H ex,lT (Jq X (NB++[]) scope s H ex) ifs tt)(he:∀s H ex,PE (Jq X (NB++[]) scope s H ex) elt te)(hN:X.N.Nodup)(AR:X.N[iy]? =some y)(hy:Loc X.env.scope y)(AS:swapsWith (.ListComp elt [⟨tg,iter,ifs,0⟩] scope pos) (some (.Name y py)) cT.line X.env=pure true)(hs:∀x,foldedSetIterable iter X.env x=pure x:=by intro _;rfl)(hf:X.fn y=true\/X.env.scope.names.lookup y=some .local:=by first|exact .inl rfl|exact .inr rfl|assumption):PS X (.Assign [.Name y py] (.ListComp elt [⟨tg,iter,ifs,0⟩] scope pos) cT) (Za (UF NB wi g tt te) (QL iy)):=λU s σ H Dn I h=>
 yd AS λ_=>Kp (Q:=λv H'=>QL iy v σ H' Dn.nx) (use:=some (assign (.Name y py) X.env)) (fi:=[]) (λ_ _ p=>p) hc S.f (λy hy e=>absurd e (S.dc.1 y hy).2) rfl hi hg ht he hs Lr I h (Lq (Q:=λv H'=>QL iy v σ H' Dn.nx)) (λD C H' s' m a b c d e f g q=>Lp hN AR hy hf D C H' s' m a b c d e f g q)
end
end
end L2
namespace ax
noncomputable def aJ(m:Int):Int:=10^m.toNat
noncomputable def X1(i:Int):Int:=if i<0 then-i else i
noncomputable def iG(a b:Int):Int:=if decide (a<0) !=decide (b<0)then-(X1 a/X1 b)else X1 a/X1 b
noncomputable def short(a b:Int):Int:=if a*b<0 then 0-X1 a/X1 b else X1 a/X1 b
noncomputable def Xt(u o p:Int):Int:=iG (u*aJ (p-o)) (aJ (o-p))
def JC(m:Int):0<aJ m:=Int.pow_pos (by lia)
def UJ(h:m<=0):aJ m=1:=by
 unfold aJ;rw[Int.toNat_of_nonpos h];rfl
def UK(ha:0<=a)(hb:0<=b):aJ (a+b)=aJ a*aJ b:=by
 unfold aJ;rw[Int.toNat_add ha hb,Int.pow_add]
def xT(ht:0<t):X1 (i*t)=X1 i*t:=by
 unfold X1
 by_cases h:i<0
 .rw[yai h,yai (ybY h ht),Int.neg_mul]
 .rw[yag h,yag (ydM.mpr (yep (ydM.mp h) (ycZ ht)))]
def V6(ht:0<t):X1 t=t:=by unfold X1;rw[yag (by lia)]
def lt_mul{i t:Int}(ht:0<t):decide (i*t<0)=decide (i<0):=by
 by_cases h:i<0
 .rw[tM h,tM (ybY h ht)]
 .rw[tL h,tL (ydM.mpr (yep (ydM.mp h) (ycZ ht)))]
def xU(ht:0<t)(hb:0<b):iG (u*t) b=if u<0 then-(X1 u*t/b)else X1 u*t/b:=by
 unfold iG;rw[lt_mul ht,xT ht,V6 hb,tL (ydM.mpr (ycZ hb))]
 by_cases h:u<0
 .rw[tM h,yai h];rfl
 .rw[tL h,yag h];rfl
def jC(ht:0<t)(hb:0<b):short (u*t) b=if u<0 then-(X1 u*t/b)else X1 u*t/b:=by
 unfold short;rw[xT ht,V6 hb]
 by_cases h:u<0
 .rw[yai h,yai (ybY (ybY h ht) hb)];lia
 .rw[yag h,yag (ydM.mpr (yep (yep (ydM.mp h) (ycZ ht)) (ycZ hb)))]
def SJ(h1:0<=o)(h2:o<=18)(h3:0<=p)(h4:p<=18):Xt u o p=short (u*aJ (18-o)) (aJ (18-p)):=by
 unfold Xt;rw[xU (JC _) (JC _),jC (JC _) (JC _)];have e:X1 u*aJ (p-o)/aJ (o-p)=X1 u*aJ (18-o)/aJ (18-p):=by
  by_cases h:o<=p
  .rw[UJ (show o-p<=0 by lia),ydt,show(18:Int)-o=(p-o)+(18-p) by lia,UK (by lia) (by lia), <-Int.mul_assoc,Int.mul_ediv_cancel _ (ybQ (JC _))]
  .rw[UJ (show p-o<=0 by lia),Int.mul_one,show(18:Int)-p=(o-p)+(18-o) by lia,UK (by lia) (by lia),Int.mul_ediv_mul_of_pos_left _ _ (JC _)]
 rw[e]
def Ls(h:o<=p):Xt u o p=u*aJ (p-o):=by
 unfold Xt;rw[UJ (show o-p<=0 by lia),xU (JC _) (by lia),ydt];unfold X1
 split
 .rw[Int.neg_mul];lia
 .rfl
def xV(h1:o<=p)(h2:p<=18):u*aJ (p-o)*aJ (18-p)=u*aJ (18-o):=by
 rw[Int.mul_assoc, <-UK (by lia) (by lia),show p-o+(18-p)=18-o by lia]
def SK{a b t:Int}(ht:0<t):(a*t=b*t)↔a=b:=⟨λh=>Int.eq_of_mul_eq_mul_right (ybQ ht) h,λh=>by rw[h]⟩
def SM(h:a<=b)(hb:0<=b):aJ a<=aJ b:=by
 by_cases ha:0<=a
 .rw[show b=a+(b-a) by lia,UK ha (by lia)];have:=JC (b-a);have h2:=JC a
  calc aJ a=aJ a*1:=(Int.mul_one _).symm
   _<=aJ a*aJ (b-a):=Int.mul_le_mul_of_nonneg_left (by lia) (ycZ h2)
 .rw[UJ (by lia)];have:=JC b;lia
end ax
namespace bW
open PySem PySem.NumText Builtin Builtin.Str StrLaws
noncomputable abbrev tx(l:List Nat):Str:=⟨l.toArray⟩
def WQ(l:List Nat):(tx l).cps.toList=l:=rfl
def Qu(l:List Nat):(tx l).length=l.length:=by show l.toArray.size=_;rw[lE]
def jD(z:Str):z=tx z.cps.toList:=by cases z;rfl
def len_list(z:Str):z.length=z.cps.toList.length:=by show z.cps.size=_;rw[lD]
def jE(h:tx a=tx b):a=b:=by
 have:=yaF (λz:Str=>z.cps.toList) h;exact this
def Z1(a b:List Nat):tx a++tx b=tx (a++b):=by
 show(⟨a.toArray++b.toArray⟩:Str)=_;rw[List.append_toArray]
noncomputable def dec(n:Nat):List Nat:=(Nat.toDigits 10 n).map Char.toNat
def Uu(n:Nat):PySem.Str.ofString (toString ((n:Nat):Int))=tx (dec n):=by
 rw[jD (PySem.Str.ofString _),PySem.W.KIN.signs_num n];rfl
def SN(n:Nat):digitsVal (dec n)=n:=PySem.W.KIN.val_back n
def yf(n:Nat):AllDigits (dec n):=by
 intro c hc;obtain⟨ch,h1,rfl⟩:=yaY.mp hc;have h:=Nat.isDigit_of_mem_toDigits (b:=10) (by lia) (by lia) h1;unfold Char.isDigit at h;simp only[yax,ybI]at h;exact⟨yeL.mp h.1,yeL.mp h.2⟩
def Lu(n:Nat):1<=(dec n).length:=by
 unfold dec;rw[tK];exact toDigits_len_ge 10 n
def SO(h:n<2^100):(dec n).length<=100:=by
 have:=nat_repr_length_le (n:=n) (k:=100) (by lia) h;unfold dec;rw[tK];have e:(Nat.repr n).length=(Nat.toDigits 10 n).length:=by rw[<-String.length_toList,Nat.toList_repr]
 lia
def SQ(ha:AllDigits a)(hb:AllDigits b):AllDigits (a++b):=λc hc=>(yaq.mp hc).elim (ha c) (hb c)
def SR(k:Nat):AllDigits (replicate k 48):=λc hc=>by rw[yaz hc];lia
def SS(b:List Nat):∀acc:Nat,b.foldl (λacc c=>acc*10+(c-48)) acc=acc*10^b.length+b.foldl (λacc c=>acc*10+(c-48)) 0:=by
 induction b with
 |nil=>intro acc;simp
 |cons c r ih=>
  intro acc;rw[ydd,ydd,ih (acc*10+(c-48)),ih (0*10+(c-48)),tQ,Nat.pow_succ];rw[Nat.add_mul,Nat.zero_mul,ybU,yey,ybP 10,yfd]
def UL(a b:List Nat):digitsVal (a++b)=digitsVal a*10^b.length+digitsVal b:=by
 unfold digitsVal;rw[List.foldl_append,SS]
def yg(k:Nat):digitsVal (replicate k 48)=0:=by
 induction k with
 |zero=>rfl
 |succ k ih=>rw[show replicate (k+1) 48=[48]++replicate k 48 from rfl,UL,ih];simp[digitsVal]
def Lv(h:AllDigits l):digitsVal l<10^l.length:=by
 induction l with
 |nil=>decide
 |cons c r ih=>
  have h1:=ih h.tail;have h2:=h.head;rw[show c::r=[c]++r from rfl,UL,tJ,tP];have e:digitsVal [c]=c-48:=by simp[digitsVal]
  rw[e,Nat.pow_add];have h3:(c-48)*10^r.length<=9*10^r.length:=ycI _ (by lia);lia
noncomputable def Lx(n o:Nat):List Nat:=replicate (o+1-(dec n).length) 48++dec n
def yh(n o:Nat):Txt.zfill (tx (dec n)) ((o:Int)+1)=tx (Lx n o):=by
 have hl:=Qu (dec n);unfold Txt.zfill Lx
 split
 .rename_i h;rw[hl]at h;rw[show o+1-(dec n).length=0 by lia];rfl
 .rename_i h;rw[hl]at h ⊢;have e:((o:Int)+1).toNat-(dec n).length=o+1-(dec n).length:=by lia
  rw[e];unfold zfilled;have hd:=yf n;have hn:=Lu n;cases hc:dec n with
  |nil=>rw[hc]at hn;exact absurd hn (by lia)
  |cons c r=>
   rw[hc]at hd;have hr:=hd.head;have e0:(tx (c::r)).cps[0]? =some c:=rfl;rw[e0];have key:padded (tx (c::r)) (o+1-(c::r).length) 0 48=tx (replicate (o+1-(c::r).length) 48++(c::r)):=by
    unfold padded;rw[jD ⟨_⟩]
    congr 1
    simp
   split
   .rename_i h1;cases h1;lia
   .rename_i h1;cases h1;lia
   .exact key
def WR(l:List Nat)(h:k<=l.length):sliceText (tx l) none (some (k:Int))=tx (l.take k):=by
 have e:=sliceText_nat (tx l) (a:=0) (b:=k) (lF _) (by rw[Qu];exact h);have e2:sliceText (tx l) none (some (k:Int))=sliceText (tx l) (some ((0:Nat):Int)) (some (k:Int)):=by
  unfold sliceText;rw[sliceIdx_none_lo];rfl
 rw[e2,e];simp
def J2(l:List Nat)(h:a<=l.length)(LE:a<=b):sliceText (tx l) (some (a:Int)) (some (b:Int))=tx ((l.drop a).take (b-a)):=by
 by_cases hb:b<=l.length
 .exact sliceText_nat (tx l) LE (by rw[Qu];exact hb)
 .have e2:sliceText (tx l) (some (a:Int)) (some (b:Int))=sliceText (tx l) (some (a:Int)) (some ((l.length:Nat):Int)):=by
   have e3:strSliceIndices (some (a:Int)) (some (b:Int)) 1 (tx l).length=strSliceIndices (some (a:Int)) (some ((l.length:Nat):Int)) 1 (tx l).length:=by
    rw[Qu];unfold strSliceIndices;have h1:¬ ((b:Int)<0):=by lia
    have h2:¬ (((l.length:Nat):Int)<0):=by lia
    have h3:min (b:Int) (l.length:Int)=l.length:=by lia
    have h4:min ((l.length:Nat):Int) (l.length:Int)=l.length:=by lia
    simp only[h1,h2,yaM,h3,h4,show((1:Int)>0)=True from by simp,ybN]
   unfold sliceText;rw[e3]
  rw[e2,sliceText_nat (tx l) h (by rw[Qu];exact tN _)];have e4:(l.drop a).take (l.length-a)=(l.drop a).take (b-a):=by
   rw[yat (by rw[tY];lia),yat (by rw[tY];lia)]
  show tx ((l.drop a).take (l.length-a))=_;rw[e4]
def Kq(l:List Nat)(k:Nat):sliceText (tx l) (some (k:Int)) none=tx (l.drop k):=by
 by_cases h:k<=l.length
 .have e2:sliceText (tx l) (some (k:Int)) none=sliceText (tx l) (some (k:Int)) (some ((l.length:Nat):Int)):=by
   unfold sliceText;rw[sliceIdx_none_hi,Qu]
  rw[e2,J2 l h h];rw[yat (by rw[tY];lia)]
 .rw[yaw (by lia)];have e3:strSliceIndices (some (k:Int)) none 1 (tx l).length=[]:=by
   rw[sliceIdx_none_hi,Qu];unfold strSliceIndices;have h1:¬ ((k:Int)<0):=by lia
   have h2:¬ (((l.length:Nat):Int)<0):=by lia
   have h3:max (0:Int) (min (k:Int) (l.length:Int))=l.length:=by lia
   have h4:max (0:Int) (min ((l.length:Nat):Int) (l.length:Int))=l.length:=by lia
   simp only[h1,h2,yaM,show((1:Int)>0)=True from by simp,ybN,h3,h4];unfold sliceRange;simp
  unfold sliceText;rw[e3]
  split
  .rename_i h1;have:l.length=0:=by
    have h2:(0==(tx l).length)=true:=by simpa using h1
    rw[Qu]at h2;have:=ybl.mp h2;lia
   rw[ybk.mp this]
  .rfl
def sub_one(l:List Nat)(c:Nat):subAt (tx l) ⟨#[c]⟩ 0=(l.head?==some c):=by
 rw[subAt_eq];show((l.drop 0).take 1==[c])=_;cases l with
 |nil=>rfl
 |cons a r=>
  simp only[yco,ycj,ycK,ydS]
  by_cases h:a=c
  .subst h;simp
  .rw[yau.mpr (by simpa using h),yau.mpr (by simpa using h)]
def SU(c:Nat):("0123456789":Str).cps.contains c=decide (48<=c/\c<=57):=by
 have e:("0123456789":Str).cps= #[48,49,50,51,52,53,54,55,56,57]:=by rfl'
 rw[e]
 by_cases h:c<58
 .exact (by rfl':∀c:Nat,c<58->(#[48,49,50,51,52,53,54,55,56,57]:Array Nat).contains c=decide (48<=c/\c<=57)) c h
 .rw[decide_eq_false (λz=>h (Nat.lt_succ_of_le z.2))];exact Bool.eq_false_iff.mpr λz=>h ((by decide:∀x∈([48,49,50,51,52,53,54,55,56,57]:List Nat),x<58) c (yay.mp (by rw[List.contains_toArray]at z;exact z)))
noncomputable instance (l:List Nat):Decidable (AllDigits l):=inferInstanceAs (Decidable (∀c∈l,48<=c/\c<=57))
def yj{l:List Nat}{c:Nat}(h:c∈l.takeWhile p):p c=true:=by
 induction l with
 |nil=>cases h
 |cons a r ih=>
  rw[ycU]at h;cases hp:p a with
  |false=>rw[hp]at h;cases h
  |true=>
   rw[hp,yai rfl]at h;rcases yak.mp h with rfl|h
   .exact hp
   .exact ih h
def yk(l:List Nat):decide (Txt.stripChars (tx l) "0123456789"=(Str.empty:Str))=decide (AllDigits l):=by
 have g:∀c,("0123456789":Str).cps.contains c=true↔(48<=c/\c<=57):=λc=>by rw[SU];simp
 unfold Txt.stripChars Txt.stripBy stripSame stripped stripLo stripHi;simp only[ybN,Qu];generalize hp:(("0123456789":Str).cps.contains:Nat->Bool)=p;have g':∀c,p c=true↔(48<=c/\c<=57):=λc=>by rw[<-hp];exact g c
 by_cases h:AllDigits l
 .rw[tM h,tM];have e1:(tx l).cps.toList.takeWhile p=l:=takeWhile_all λc hc=>(g' c).mpr (h c hc);rw[e1];have e2:(tx l).cps.toList.drop l.length=[]:=yaw (tN _);rw[e2];show(if(l.length==0&&l.length==l.length)=true then tx l else strSub (tx l) l.length l.length)=Str.empty
  by_cases hz:(l.length==0&&l.length==l.length)=true
  .rw[yai hz];have:l.length=0:=by
    simp only[yax,ybl]at hz;exact hz.1
   rw[ybk.mp this];rfl
  .rw[yag hz,jD (strSub _ _ _),strSub_toList,Nat.sub_self,ycK];rfl
 .rw[tL h,tL];have ap:((tx l).cps.toList.takeWhile p).length<l.length:=by
   have hle:((tx l).cps.toList.takeWhile p).length<=l.length:=yez (ycw p);rcases yaZ ((tx l).cps.toList.takeWhile p).length l.length with z|z
   .exact z
   .refine absurd (λc hc=>?_) h;have e:(tx l).cps.toList.takeWhile p=l:=ydz (ycw p) z;rw[<-e]at hc;exact(g' c).mp (yj hc)
  generalize SZ:((tx l).cps.toList.takeWhile p).length=lo at ap;have AU:∃a r,l.drop lo=a::r/\p a=false:=by
   have hd:l.dropWhile p=l.drop lo:=by
    have:=ydp (p:=p) (l:=l);have e3:l.drop lo=((l.takeWhile p)++l.dropWhile p).drop lo:=by rw[this]
    rw[e3,ydA (by rw[<-SZ];exact tN _),yaw (by rw[<-SZ];exact tN _),lz]
   cases hx:l.drop lo with
   |nil=>
    have:=yaF List.length hx;rw[tY,ybc]at this;lia
   |cons a r=>
    exists a,r,Z;rw[hx]at hd;have:=List.head?_dropWhile_not (p:=p) (l:=l);rw[hd]at this;simpa using this
  obtain⟨a,r,hx,di⟩:=AU;have EQ:(tx l).cps.toList.drop lo=a::r:=hx;rw[EQ];have AV:r.length+1=l.length-lo:=by
   have:=yaF List.length hx;rw[tY,tQ]at this;lia
  have hk:((a::r).reverse.takeWhile p).length<=r.length:=by
   rw[ybJ];have hle:((r.reverse++[a]).takeWhile p).length<=r.length:=by
    by_cases ms:∀c∈r.reverse,p c=true
    .rw[List.takeWhile_append_of_pos ms,ycU,di];simp
    .have:((r.reverse++[a]).takeWhile p).length<(r.reverse++[a]).length:=by
      have hle:((r.reverse++[a]).takeWhile p).length<=(r.reverse++[a]).length:=yez (ycw p);rcases yaZ ((r.reverse++[a]).takeWhile p).length (r.reverse++[a]).length with z|z
      .exact z
      .have e:(r.reverse++[a]).takeWhile p=r.reverse++[a]:=ydz (ycw p) z;have:p a=true:=yj (l:=r.reverse++[a]) (by rw[e];simp);rw[di]at this;cases this
     rw[tJ,tZ,tP]at this;lia
   exact hle
  split
  .intro z;have:=yaF (λz:Str=>z.cps.toList.length) z;have e0:l.length=0:=this;lia
  .intro z;have:=yaF (λz:Str=>z.cps.toList.length) z;have e0:(strSub (tx l) lo (l.length-((a::r).reverse.takeWhile p).length)).cps.toList.length=0:=this;rw[strSub_toList,tX,WQ,hx,tQ]at e0;lia
end bW
namespace bt
open PySem.NumText
noncomputable abbrev Rw:=Nat × Nat
noncomputable def Q3(t:List Nat):Nat × List Nat:=match t with
 |40::r=>if 41∈r/\r.takeWhile (· !=41)≠[]/\AllDigits (r.takeWhile (· !=41))/\(r.takeWhile (· !=41)).head?≠some 48 then(digitsVal (r.takeWhile (· !=41)),r.drop ((r.takeWhile (· !=41)).length+1))else(1,t)
 |_=>(1,t)
noncomputable def Jg(rows:List Rw)(c n:Nat):List Rw:=match rows.getLast? with
 |some (c',m)=>if c'=c then rows.dropLast++[(c,n+m)]else rows++[(c,n)]
 |none=>rows++[(c,n)]
noncomputable def Vl:Nat->List Nat->List Rw->List Rw
 |0,_,rows=>rows
 |_,[],rows=>rows
 |k+1,c::t,rows=>Vl k (Q3 t).2 (Jg rows c (Q3 t).1)
noncomputable def rowsOf(l:List Nat):List Rw:=Vl l.length l []
noncomputable def ins(c:Nat):Bool:=[44,66,48,47].contains c
noncomputable def CM:List (List Nat):=[[57],[83,57],[86,57],[83,86,57],[57,86,57],[83,57,86,57]]
structure Facts where
 kind:Nat
 signed:Bool
 before:Nat
 behind:Nat
deriving DecidableEq,Repr
noncomputable def WS:List Rw->Bool->Bool->Nat->Nat->Option (Bool × Nat × Nat)
 |[],s,_,a,b=>some (s,a,b)
 |(c,n)::r,s,p,a,b=>if c=57 then(if p then WS r s p a n else WS r s p n b)else if n>1 then none else if c=83 then WS r true p a b else WS r s true a b
noncomputable def Jc(rows:List Rw):Option Facts:=if CM.contains (rows.map (·.1))then(match WS rows false false 0 0 with
 |some (s,a,b)=>if a+b>18 then none else some ⟨2,s,a,b⟩
 |none=>none)else none
noncomputable def JX(rows:List Rw):Option Facts:=match rows with
 |[(c,n)]=>if(c≠88/\c≠65)\/n>60 then none else some ⟨if c=88 then 0 else 1,false,0,0⟩
 |_=>none
noncomputable def Kr(rows:List Rw):Bool:=match rows with
 |(c,n)::r=>decide (n>1)||(match r.dropWhile (λx=>ins x.1)with|(c',_)::_=>c'==c|[]=>false)
 |[]=>false
noncomputable def Vm:List (List Nat)->List Rw->List Nat->List Nat × List Rw
 |[],rows,M=>(M,rows)
 |ch::more,rows,M=>match rows with
  |(c,n)::r=>if ch.contains c&& !Kr rows then Vm more r (M++[c])else Vm more rows M
  |[]=>Vm more rows M
noncomputable def ZK(rows:List Rw):List Nat × List Rw:=Vm [[43,45],[36]] rows []
noncomputable def JF(place:Nat):List Rw->Nat->Nat × List Rw
 |[],many=>(many,[])
 |(c,n)::r,many=>if c=place then JF place r (many+n)else if ins c then JF place r many else(many,(c,n)::r)
noncomputable def QX(rows:List Rw):List Nat × Nat × Nat × List Rw:=match rows with
 |(c,n)::r=>if[57,90,42,43,45,36].contains c then(let x:=JF c rows 0;let y:=JF 57 x.2 0;([c],x.1,y.1,y.2))else([],0,0,rows)
 |[]=>([],0,0,rows)
noncomputable def JA(rows:List Rw)(place:List Nat):Option Nat × List Rw:=match rows with
 |(46,n)::r=>if n>1\/r=[]then(none,rows)else(match r with
  |(c,m)::r'=>if c≠57/\([c]≠place\/[43,45,36].contains c)then(none,rows)else(some m,r')
  |[]=>(none,rows))
 |_=>(some 0,rows)
noncomputable def J3:List (List Nat):=[[43],[45],[67,82],[68,66]]
noncomputable def KG(rows:List Rw):Option (List Nat):=if rows=[]then some []else if !J3.contains (rows.map (·.1))||rows.any (λx=>decide (x.2>1))then none else some (rows.map (·.1))
noncomputable def Jw(rows:List Rw):Option Facts:=
 let ld:=ZK rows
 let wp:=QX ld.2
 let bp:=JA wp.2.2.2 (if wp.2.2.1=0 then wp.1 else[57])
 let tl:=KG bp.2
 match wp.1,bp.1,tl with
 |[place],some behind,some tail=>
  let fl:Bool:=[43,45,36].contains place
  if fl&&decide (wp.2.1<2)then none
  else
   let shown:=[ld.1.take 1,[place],tail].filter (J3.contains ·)
   if shown.length>1 then none
   else
    let before:=wp.2.1+wp.2.2.1-(if fl then 1 else 0)
    if before+behind>18 then none else some ⟨3,shown.length==1,before,behind⟩
 |_,_,_=>none
noncomputable def JT(rows:List Rw):Option Facts:=match Jc rows with
 |some f=>some f
 |none=>match JX rows with
  |some f=>some f
  |none=>Jw rows
noncomputable def Q0(l:List Nat):Option Facts:=JT (rowsOf l)
end bt
namespace Lw
open PySem PySem.Spec PyProof.Rows L2 bW bt
open Builtin Builtin.Str StrLaws
def Xn(l:List Nat)(c:Nat):(!(occurrences (tx l) (tx [c]) 0 (tx l).length 1).isEmpty)=l.contains c:=by
 rcases occ_head (tx l) (tx [c]) 1 (tN _)with⟨h1,h2⟩|⟨i,t,h1,h2,h3⟩
 .have hn:c∉l:=λhm=>by
   obtain⟨j,hj⟩:=ybV.mp hm;exact h2 j ((subAt_one (tx l) c j).mpr hj)
  rw[h1];simp[hn]
 .have hi:l[i]? =some c:=(subAt_one (tx l) c i).mp h2;have hm:c∈l:=ybV.mpr ⟨i,hi⟩;rw[h1];simp[hm]
def SV(l:List Nat)(c:Nat):Txt.startswith (tx l) (tx [c])=(l.head?==some c):=by
 unfold Txt.startswith;have e:(tx [c])=(⟨#[c]⟩:Str):=rfl;rw[e,sub_one];cases l with
 |nil=>rfl
 |cons a r=>
  rw[tM (by show 0+1<=(tx (a::r)).length;rw[Qu,tQ];lia)];rfl
def V7(a b:List Nat):decide (V.str (tx a)=V.str (tx b))=decide (a=b):=by
 by_cases h:a=b
 .rw[tM h,tM (by rw[h])]
 .rw[tL h,tL λq=>h (jE (V.str.inj q))]
def JU(a b:Nat):decide (V.str (tx [a])=V.str (tx [b]))=decide (a=b):=by
 rw[V7]
 by_cases h:a=b
 .rw[tM h,tM (by rw[h])]
 .rw[tL h,tL λq=>h (ycC q).1]
def SW(n a:Nat):fromIndex n (a:Int)=a:=by
 unfold fromIndex;rw[yag (by lia)];lia
def SX{l:List Nat}{c i:Nat}(hi:l[i]? =some c)(hn:∀k,k<i->l[k]? ≠some c):l.takeWhile (· !=c)=l.take i:=by
 induction l generalizing i with
 |nil=>cases hi
 |cons a r ih=>
  cases i with
  |zero=>
   have:a=c:=by simpa using hi
   subst this;simp
  |succ i=>
   have hb:(a !=c)=true:=by
    have:=hn 0 (yfg _);simpa using this
   rw[ycU,hb];simp only[ybN,ycj];rw[ih (i:=i) (by simpa using hi) λk hk=>by
    have:=hn (k+1) (by lia);simpa using this]
def SY{a c:Nat}(h:l.drop a=40::r)(hc:c≠40):(c∉r/\ya (tx l) (tx [c]) (a:Int)= -1)\/(c∈r/\ya (tx l) (tx [c]) (a:Int)=((a+1+(r.takeWhile (· !=c)).length:Nat):Int)):=by
 have hd:∀i,l[a+i]? =(40::r)[i]? :=λi=>by rw[<-h,ycr]
 unfold ya;rw[SW];rcases occ_head_from (tx l) (tx [c]) a 1 (tN _)with⟨h1,h2⟩|⟨i,t,h1,h2,h3,h4⟩
 .refine .inl ⟨λhm=>?_,by rw[h1]⟩;obtain⟨j,hj⟩:=ybV.mp hm;refine h2 (a+(j+1)) (by lia) ((subAt_one (tx l) c _).mpr ?_);show l[a+(j+1)]? =some c;rw[hd];exact hj
 .have hi:l[i]? =some c:=(subAt_one (tx l) c i).mp h3;obtain⟨k,rfl⟩:∃k,i=a+k:=⟨i-a,by lia⟩;rw[hd]at hi;cases k with
  |zero=>exact absurd (by simpa using hi) (Ne.symm hc)
  |succ k=>
   have hk:r[k]? =some c:=by simpa using hi
   have e:=SX (l:=r) (c:=c) (i:=k) hk λm hm z=>h4 (a+(m+1)) (by lia) (by lia) ((subAt_one (tx l) c _).mpr (by show l[a+(m+1)]? =some c;rw[hd];exact z));refine .inr ⟨ybV.mpr ⟨k,hk⟩,?_⟩;have hkl:=(yaf.mp hk).1;rw[h1,e,tX,ybd (by lia)];show((a+(k+1):Nat):Int)=_
   congr 1
   lia
def wD(l:List Nat){a b:Nat}(h:b<a)(hl:1<=l.length):sliceText (tx l) (some (a:Int)) (some (b:Int))=tx []:=by
 have e3:strSliceIndices (some (a:Int)) (some (b:Int)) 1 (tx l).length=[]:=by
  rw[Qu];unfold strSliceIndices;have h1:¬ ((a:Int)<0):=by lia
  have h2:¬ ((b:Int)<0):=by lia
  have h3:max (0:Int) (min (a:Int) (l.length:Int))≥max (0:Int) (min (b:Int) (l.length:Int)):=by lia
  simp only[h1,h2,yaM,show((1:Int)>0)=True from by simp,ybN];unfold sliceRange;simp;lia
 unfold sliceText;rw[e3]
 split
 .rename_i h1;have:l.length=0:=by
   have h2:(0==(tx l).length)=true:=by simpa using h1
   rw[Qu]at h2;have:=ybl.mp h2;lia
  lia
 .rfl
noncomputable def iH(x:Rw):HO:=.tup [.str (tx [x.1]),.int (x.2:Nat)]
inductive bC (H:Hp):List Addr->List Rw->Prop where
 |nil:bC H [] []
 |cons {r:Addr} {rs:List Addr} {x:Rw} {xs:List Rw}:H r=some (iH x)->bC H rs xs->bC H (r::rs) (x::xs)
section
variable {H:Hp}{rs:List Addr}{rows:List Rw}
def bC.len(h:bC H rs rows):rs.length=rows.length:=by
 induction h with
 |nil=>rfl
 |cons _ _ ih=>rw[tQ,tQ,ih]
def bC.keep(h:bC H rs rows)(e:∀b xs,H b=some (.tup xs)->H' b=some (.tup xs)):bC H' rs rows:=by
 induction h with
 |nil=>exact .nil
 |cons a _ ih=>exact .cons (e _ _ a) ih
def bC.at(h:bC H rs rows):∀{i:Nat}{x:Rw},rows[i]? =some x->∃r,rs[i]? =some r/\H r=some (iH x):=by
 induction h with
 |nil=>intro i x e;cases e
 |cons a _ ih=>
  intro i x e;cases i with
  |zero=>exact⟨_,Z,by have:_=x:=tO e;rw[<-this];exact a⟩
  |succ i=>exact ih (i:=i) (x:=x) e
def bC.app(h:bC H rs rows)(e:H r=some (iH x)):bC H (rs++[r]) (rows++[x]):=by
 induction h with
 |nil=>exact .cons e .nil
 |cons a _ ih=>exact .cons a ih
def bC.dr(h:bC H rs rows):∀k,bC H (rs.drop k) (rows.drop k):=by
 induction h with
 |nil=>intro k;rw[List.drop_nil,List.drop_nil];exact .nil
 |cons a t ih=>
  intro k;cases k with
  |zero=>exact .cons a t
  |succ k=>exact ih k
end
structure au(K:Frag)(H:Hp)(p:Addr)(rs:List Addr)(rows:List Rw):Prop where
 sq:aC K H p (rs.map V.ref)
 rw:bC H rs rows
 le:rows.length<=600
section
variable {K:Frag}{H H':Hp}{p:Addr}{rs:List Addr}{rows:List Rw}{σ:L2.St}{i k:Nat}{Q:VK}
def aC.same{K:Frag}{xs:List V}(e:Qn H H')(h:aC K H a xs):aC K H' a xs:=by
 rcases h with(h|⟨o,h⟩)|h
 .exact .inl (.inl (e _ _ h))
 .exact .inl (.inr ⟨o,e _ _ h⟩)
 .exact .inr h
theorem au.same(R:au K H p rs rows)(e:Qn H H'):au K H' p rs rows:=⟨aC.same e R.sq,R.rw.keep λb xs h=>e _ _ h,R.le⟩
theorem au.len(R:au K H p rs rows):(rs.map V.ref).length=rows.length:=by rw[tK,R.rw.len]
theorem au.at(R:au K H p rs rows)(e:rows[k]? =some x):∃r,cA (rs.map V.ref) (k:Int)=some (.ref r)/\H r=some (iH x):=by
 obtain⟨r,h1,h2⟩:=R.rw.at e;exact⟨r,Zr (by rw[lg,h1];rfl),h2⟩
def jF(h1:σ[i]? =some (some (.ref p)))(h2:∀Q:VK,Q (.int (k:Nat)) H->te σ H Q)(R:au K H p rs rows)(e:rows[k]? =some x)(q:∀r,H r=some (iH x)->Q (.ref r) H):cg (Cw K) (Kz i) te σ H Q:=by
 obtain⟨r,a,b⟩:=R.at e;exact⟨_,h1,h2 _ ⟨p,_,_,_,Z,Z,R.sq,a,q r b⟩⟩
def X2(h1:σ[i]? =some (some (.ref p)))(h2:∀Q:VK,Q (.int (k:Nat)) H->te σ H Q)(R:au K H p rs rows)(e:rows[k]? =some x)(q:Q (.str (tx [x.1])) H):cg (EK K) (cg (Cw K) (Kz i) te) (tC (.int 0)) σ H Q:=
 jF h1 h2 R e λr b=>⟨r,_,_,_,Z,Z,aw.of b,Z,q⟩
def Lz(h1:σ[i]? =some (some (.ref p)))(h2:∀Q:VK,Q (.int (k:Nat)) H->te σ H Q)(R:au K H p rs rows)(e:rows[k]? =some x)(q:Q (.int (x.2:Nat)) H):cg (EK K) (cg (Cw K) (Kz i) te) (tC (.int 1)) σ H Q:=
 jF h1 h2 R e λr b=>⟨r,_,_,_,Z,Z,aw.of b,Z,q⟩
def ZB(h1:σ[i]? =some (some (.ref p)))(R:au K H p rs rows)(q:Q (.int (rows.length:Nat)) H):lI (λxs H Q=>∃p ys,xs=[.ref p]/\(aC K H p ys\/aw K H p ys)/\Q (.int ys.length) H) (Jf (Kz i) WM) σ H Q:=
 ⟨_,h1,p,_,Z,.inl R.sq,by rw[R.len];exact q⟩
def J4(h:σ[i]? =some (some (.int (k:Nat)))):∀Q:VK,Q (.int (k:Nat)) H->Kz i σ H Q:=λQ q=>⟨_,h,q⟩
end
def Xo(l:List Nat):Txt.join "" (l.map λc=>tx [c])=tx l:=by
 show Builtin.Str.glued _ _=_;rw[ydy];have e:("":Str)=⟨#[]⟩:=by rfl'
 rw[e];exact join_ones l
def S0:∀(l:List Nat)(n:Nat),(l.map λc=>tx [c]).foldl (λ(m:Nat)(s:Str)=>m+s.length+("":Str).length) n=n+l.length:=by
 have e:("":Str).length=0:=by rfl'
 intro l
 induction l with
 |nil=>intro n;rfl
 |cons a r ih=>
  intro n;show(r.map λc=>tx [c]).foldl _ (n+(tx [a]).length+("":Str).length)=_;rw[ih,e,Qu,tQ,tQ,ybc];lia
def WT{l:List Nat}(h:l.length<=1000):JoinOk "" (l.map λc=>tx [c])=true:=by
 unfold JoinOk;rw[<-yel,ydT,S0];unfold tooLong;have hz:=zza
 rw[tL (by lia)];rfl
end Lw
namespace bt
open PySem PySem.NumText bW
def LA(t:List Nat):(Q3 t).2.length<=t.length:=by
 unfold Q3
 split
 .split
  .show(List.drop _ _).length<=_;rw[tY,tQ];lia
  .exact tN _
 .exact tN _
def Ta(h:t.head?≠some 40):Q3 t=(1,t):=by
 unfold Q3
 split
 .exact absurd rfl h
 .rfl
def Tb:∀(k k':Nat)(l:List Nat)(rows:List Rw),l.length<=k->l.length<=k'->Vl k l rows=Vl k' l rows:=by
 intro k
 induction k with
 |zero=>
  intro k' l rows h h';cases l with
  |nil=>cases k'<;>rfl
  |cons a r=>simp at h
 |succ k ih=>
  intro k' l rows h h';cases l with
  |nil=>cases k'<;>rfl
  |cons c t=>
   cases k' with
   |zero=>simp at h'
   |succ k'=>
    have:=LA t;rw[tQ]at h h';exact ih k' _ _ (by lia) (by lia)
noncomputable def run(l:List Nat)(rows:List Rw):List Rw:=Vl l.length l rows
def Tc(rows:List Rw):run [] rows=rows:=rfl
def xW(c:Nat)(t:List Nat)(rows:List Rw):run (c::t) rows=run (Q3 t).2 (Jg rows c (Q3 t).1):=by
 show Vl t.length (Q3 t).2 (Jg rows c (Q3 t).1)=_;exact Tb _ _ _ _ (LA t) (tN _)
def run_plain(rows:List Rw)(h:t.head?≠some 40):run (c::t) rows=run t (Jg rows c 1):=by
 rw[xW,Ta h]
noncomputable def aK(rows:List Rw)(l:List Nat):List Rw:=l.foldl (λr c=>Jg r c 1) rows
def yl(rows:List Rw)(a b:List Nat):aK rows (a++b)=aK (aK rows a) b:=List.foldl_append
def Td(hc:c≠40)(h:t.head?≠some 40):∀(m:Nat)(rows:List Rw),run (replicate m c++t) rows=run t (aK rows (replicate m c)):=by
 intro m
 induction m with
 |zero=>intro rows;rfl
 |succ m ih=>
  intro rows;rw[yas,lu,run_plain,ih]
  .rfl
  .cases m with
   |zero=>exact h
   |succ m=>rw[yas,lu,ydS];exact λz=>hc (tO z)
def Ks(rows:List Rw):rows=[]\/∃r c m,rows=r++[(c,m)]:=by
 rcases ybh rows with h|⟨r,x,h⟩
 .exact .inl h
 .exact .inr ⟨r,x.1,x.2,by rw[h,yaT]⟩
def jG(c n:Nat):Jg [] c n=[(c,n)]:=rfl
def X3(rows:List Rw)(c n m:Nat):Jg (rows++[(c,m)]) c n=rows++[(c,n+m)]:=by
 unfold Jg;rw[ybG];simp
def Wu{rows:List Rw}(h:c'≠c):Jg (rows++[(c',m)]) c n=(rows++[(c',m)])++[(c,n)]:=by
 unfold Jg;rw[ybG];simp[h]
def Te(rows:List Rw)(c a b:Nat):Jg (Jg rows c a) c b=Jg rows c (b+a):=by
 rcases Ks rows with rfl|⟨r,c',m,rfl⟩
 .rw[jG,jG];exact X3 [] c b a
 .by_cases h:c'=c
  .subst h;rw[X3,X3,X3,yfd]
  .rw[Wu h,Wu h,X3]
def Tf(c:Nat):∀(m:Nat)(rows:List Rw),aK rows (replicate (m+1) c)=Jg rows c (m+1):=by
 intro m
 induction m with
 |zero=>intro rows;rfl
 |succ m ih=>
  intro rows;rw[yas];show aK (Jg rows c 1) (replicate (m+1) c)=_;rw[ih,Te]
def Tg{c:Nat}(h:∀x∈a,p x=true)(hc:p c=false):(a++c::t).takeWhile p=a:=by
 induction a with
 |nil=>simp[hc]
 |cons x r ih=>
  rw[lu,ycU,h x tW,yai rfl,ih λy hy=>h y (tU _ hy)]
def Num(d:List Nat)(n:Nat):Prop:=d≠[]/\AllDigits d/\d.head?≠some 48/\digitsVal d=n
def Th(h:Num d n)(t:List Nat):Q3 (40::(d++41::t))=(n,t):=by
 have e:(d++41::t).takeWhile (· !=41)=d:=Tg (λx hx=>by have:=h.2.1 x hx;simp;lia) (by simp);show(if 41∈(d++41::t)/\_/\_/\_ then _ else _)=_;rw[e,yai ⟨by simp,h.1,h.2.1,h.2.2.1⟩,h.2.2.2]
 congr 1
 rw[<-ycL,List.drop_left];rfl
def Ti(rows:List Rw)(h:Num d n):run (c::40::(d++41::t)) rows=run t (Jg rows c n):=by
 rw[xW,Th h]
inductive Sh:List Nat->List Nat->Prop
 |nil:Sh [] []
 |out {a b:List Nat} {c:Nat} (m:Nat):Sh a b->c≠40->Sh (a++replicate (m+1) c) (b++replicate (m+1) c)
 |brk {a b d:List Nat} {c:Nat} (m:Nat):Sh a b->c≠40->Num d (m+1)->Sh (a++replicate (m+1) c) (b++(c::40::(d++[41])))
theorem Sh.rows(h:Sh a b):∀(t:List Nat)(rows:List Rw),t.head?≠some 40->run (b++t) rows=run t (aK rows a):=by
 induction h with
 |nil=>intro t rows _;rfl
 |@out a b c m _ hc ih=>
  intro t rows ht;rw[lr,ih _ _ (by rw[yas,lu,ydS];exact λz=>hc (tO z)),Td hc ht,yl]
 |@brk a b d c m _ hc hd ih=>
  intro t rows ht;have e:(c::40::(d++[41]))++t=c::40::(d++41::t):=by simp
  rw[lr,ih _ _ (by rw[lu,ydS];exact λz=>hc (tO z)),e,Ti _ hd,yl,Tf]
def jH(h:Sh a b):rowsOf b=aK [] a:=by
 have:=h.rows [] [] (by simp);rw[lA,Tc]at this;exact this
def ym:∀(a:List Nat),40∉a->Sh a a:=by
 have key:∀(l a:List Nat),40∉l->Sh a a->Sh (a++l) (a++l):=by
  intro l
  induction l with
  |nil=>intro a _ h;rw[lA];exact h
  |cons c t ih=>
   intro a hl h;have e:a++c::t=(a++replicate (0+1) c)++t:=by simp
   rw[e];exact ih _ (λz=>hl (tU _ z)) (Sh.out 0 h λz=>hl (by rw[z];exact tW))
 intro a h;exact key a [] h .nil
def Ub(h:40∉a):rowsOf a=aK [] a:=jH (ym a h)
inductive Ed:List Nat->Nat->List Nat->List Nat->List Nat->List Nat->Prop
 |mk:Ed [] 45 [45,44,45,45,45,44,45,45] [57] [57,57] []
noncomputable def Qv(ac:List Nat):List Nat:=if ac=[]then[]else 46::ac
noncomputable def ZL(M W N ac tail:List Nat):List Nat:=M++(W++(N++(Qv ac++tail)))
noncomputable def sgn(M:List Nat)(first:Nat)(tail:List Nat):Bool:=(M.head?==some 43||M.head?==some 45)||(first==43||first==45)|| !tail.isEmpty
section
variable {ac tail:List Nat}{first:Nat}
def yn:∀tail∈([[],[43],[45],[67,82],[68,66]]:List (List Nat)),KG (aK [] tail)=some tail/\(∀x,(aK [] tail).head?=some x->x.1∈([43,45,67,68]:List Nat))/\(aK [] tail=[]->tail=[])/\(∀x,tail.head?=some x->x∈([43,45,67,68]:List Nat)):=by
 intro tail h;simp only[yak,yaL,ycs]at h;rcases h with rfl|rfl|rfl|rfl|rfl
 .exact⟨by lia,(by intro x hx;cases hx),by lia,(by intro x hx;cases hx)⟩
 all_goals exact⟨by lia,(by intro x hx;cases hx;lia),by lia,(by intro x hx;cases hx;lia)⟩
def Ed.f(E:Ed M first W N ac tail):first∈([57,90,42,43,45,36]:List Nat):=by cases E;lia
def Ed.ld(E:Ed M first W N ac tail):M∈([[],[43],[45],[36],[43,36],[45,36]]:List (List Nat)):=by cases E;lia
def Ed.tl(E:Ed M first W N ac tail):tail∈([[],[43],[45],[67,82],[68,66]]:List (List Nat)):=by cases E;lia
def Ed.Tj(E:Ed M first W N ac tail)(R:List Nat):(W++R).head?=some first:=by cases E;rfl
def Ed.rows(E:Ed M first W N ac tail):aK [] (ZL M W N ac tail)=(M.map λc=>(c,1))++(aK [] W++(aK [] N++(aK [] (Qv ac)++aK [] tail))):=by cases E;rfl'
def Ed.Tn(E:Ed M first W N ac tail)(R:List Rw):ZK ((M.map λc=>(c,1))++(aK [] W++R))=(M,aK [] W++R):=by cases E;rfl
def Ed.whole(E:Ed M first W N ac tail):QX (aK [] W++(aK [] N++(aK [] (Qv ac)++aK [] tail)))=([first],W.count first,N.count 57,aK [] (Qv ac)++aK [] tail):=by cases E;rfl'
def Ed.To(E:Ed M first W N ac tail):JA (aK [] (Qv ac)++aK [] tail) (if N.count 57=0 then[first]else[57])=(some ac.length,aK [] tail):=by cases E;rfl'
noncomputable def bZ(first:Nat):Bool:=([43,45,36]:List Nat).contains first
noncomputable def LB:List Nat:=[43,45,36,57,90,42,44,66,48,47,46,67,82,68]
def Ed.sym(E:Ed M first W N ac tail):∀x∈ZL M W N ac tail,x∈LB:=by cases E;lia
def Ed.FC(E:Ed M first W N ac tail):40∉ZL M W N ac tail:=by cases E;lia
def Ed.CN(E:Ed M first W N ac tail):Q0 (ZL M W N ac tail)=some ⟨3,sgn M first tail,W.count first+N.count 57-(if bZ first=true then 1 else 0),ac.length⟩:=by cases E;rfl'
end
open bW PySem.NumText
noncomputable def un(rows:List Rw):List Nat:=rows.flatMap λx=>replicate x.2 x.1
def jI(a b:List Rw):un (a++b)=un a++un b:=List.flatMap_append
def xX(c n:Nat):un [(c,n)]=replicate n c:=by simp[un]
def Tp(rows:List Rw)(c n:Nat):un (Jg rows c n)=un rows++replicate n c:=by
 rcases Ks rows with rfl|⟨r,c',m,rfl⟩
 .rw[jG,xX];rfl
 .by_cases h:c'=c
  .subst h;rw[X3,jI,jI,xX,xX,lr,List.replicate_append_replicate,Nat.add_comm]
  .rw[Wu h,jI (r++[(c',m)]),xX]
def Tq(l:List Nat):∀rows,un (aK rows l)=un rows++l:=by
 induction l with
 |nil=>intro rows;show un rows=_;rw[lA]
 |cons c t ih=>
  intro rows;show un (aK (Jg rows c 1) t)=_;rw[ih,Tp,lr];rfl
def zI(l:List Nat):un (aK [] l)=l:=by rw[Tq];rfl
noncomputable def YO(c:Nat):Bool:= !([83,86]:List Nat).contains c
noncomputable def cD(rows:List Rw):Nat:=((rows.filter λx=>YO x.1).map (·.2)).sum
def zJ(a b:List Rw):cD (a++b)=cD a+cD b:=by simp[cD]
def UM(c n:Nat):cD [(c,n)]=if YO c=true then n else 0:=by
 unfold cD;rw[ybp]
 split<;>simp
def Tr(rows:List Rw)(c n:Nat):cD (Jg rows c n)=cD rows+if YO c=true then n else 0:=by
 rcases Ks rows with rfl|⟨r,c',m,rfl⟩
 .rw[jG,UM];simp[cD]
 .by_cases h:c'=c
  .subst h;rw[X3,zJ,zJ,UM,UM]
   split<;>lia
  .rw[Wu h,zJ (r++[(c',m)]),UM]
def Ts(l:List Nat):∀rows,cD (aK rows l)=cD rows+(l.filter YO).length:=by
 induction l with
 |nil=>intro rows;rfl
 |cons c t ih=>
  intro rows;show cD (aK (Jg rows c 1) t)=_;rw[ih,Tr,ybp]
  split<;>simp<;>lia
def Tt(l:List Nat):cD (aK [] l)=(l.filter YO).length:=by rw[Ts];simp[cD]
def Pos(n:Nat)(rows:List Rw):Prop:=∀x∈rows,1<=x.2/\x.2<=n/\x.1≠40
def Tu{rows:List Rw}(hp:Pos n rows)(hc:c≠40):Pos (n+1) (Jg rows c 1):=by
 rcases Ks rows with rfl|⟨r,c',m,rfl⟩
 .rw[jG];intro x hx;rw[yao.mp hx];exact⟨tN _,by simp,hc⟩
 .by_cases h:c'=c
  .subst h;rw[X3];intro x hx;rcases yaq.mp hx with hx|hx
   .obtain⟨h1,h2,h3⟩:=hp x (tT _ hx);exact⟨h1,by lia,h3⟩
   .rw[yao.mp hx];obtain⟨h1,h2,h3⟩:=hp (c',m) (by simp);exact⟨by simp,by simp at h2 ⊢;lia,hc⟩
  .rw[Wu h];intro x hx;rcases yaq.mp hx with hx|hx
   .obtain⟨h1,h2,h3⟩:=hp x hx;exact⟨h1,by lia,h3⟩
   .rw[yao.mp hx];exact⟨tN _,by simp,hc⟩
def Tv(l:List Nat):∀(n:Nat)(rows:List Rw),Pos n rows->40∉l->Pos (n+l.length) (aK rows l):=by
 induction l with
 |nil=>intro n rows h _;exact h
 |cons c t ih=>
  intro n rows h LC;have:=ih (n+1) (Jg rows c 1) (Tu h λz=>LC (by rw[z];exact tW)) λz=>LC (tU _ z);have e:n+(c::t).length=n+1+t.length:=by simp;lia
  rw[e];exact this
def Tw(h:40∉l):Pos l.length (aK [] l):=by
 have:=Tv l 0 [] (λx hx=>absurd hx (by simp)) h;rw[ybU]at this;exact this
end bt
namespace L2
open PySem PySem.Spec PyProof.Rows
open Builtin Builtin.Str
section
def Inv.zK{ch:List Addr}(I:Inv X U σ H s)(hf:∀b∈ch,d9 X U H b)(k:∀b o,b∉ch->s.heap.get? b=some o->h'.get? b=some o):Inv X U σ H {s with heap:=h',toks:=t'}:=by
 have dA:∀b u,H b=some u->b∉ch:=λb u e z=>by rw[(hf b z).1]at e;cases e
 refine I.step (g':=s.gens) (d':=s.drawn) (ch:=ch) (λb hb=>?_) (λb o _ _ hc e _=>k b o hc e) (λb o _ _ hc e _=>⟨o.slots,k b o hc e⟩) (λ_ _ _ _ n=>n) (λb o hc e=>⟨o,k b o hc e⟩) (λ_ _ e=>e) (λ_ _ _ e=>e) (λb ps e=>⟨#[],by rw[e];simp⟩) (λm hm=>?_) (λb u e=>?_) I.bare
 .obtain⟨_,f1,_,f3,f4,f5⟩:=hf b hb;exact⟨f3,f1,f4,f5⟩
 .obtain⟨o,es,ep,ho,r⟩:=hm;exact⟨o,es,ep,k _ o (λz=>(hf _ z).2.1 Z) ho,r⟩
 .refine(I.ao b u e).d6 (λc v hc q=>k c v ?_ q) (λ_ q=>q) λ_ _ q=>q;rcases hc with z|z
  .rw[z];exact dA b u e
  .exact dA c _ z
def Inv.zL{t':Nat}{ch:List Addr}{T:Addr}{xs:List V}(I:Inv X U σ H s)(hf:∀b∈ch,d9 X U H b)(k:∀b o,b∉ch->s.heap.get? b=some o->h'.get? b=some o)(hT:s.heap.objs.size<=T)(new:JJ X.prog X.w (upd H T (.tup xs)) h' T (.tup xs)):Inv X U σ (upd H T (.tup xs)) {s with heap:=h',toks:=t'}:=by
 have hn:=I.ao.fresh hT;have dA:∀b u,H b=some u->b∉ch:=λb u e z=>by rw[(hf b z).1]at e;cases e
 have nT:∀b o,H b=some o->upd H T (.tup xs) b=some o:=λb o e=>by rw[Qo (QB e hn)];exact e
 refine I.step (g':=s.gens) (d':=s.drawn) (ch:=ch) (λb hb=>?_) (λb o _ _ hc e _=>k b o hc e) (λb o _ _ hc e _=>⟨o.slots,k b o hc e⟩) (λb o _ e n=>?_) (λb o hc e=>⟨o,k b o hc e⟩) (λb ys e=>nT b _ e) (λb o u e=>nT b _ e) (λb ps e=>⟨#[],by rw[nT b _ e];simp⟩) (λm hm=>?_) (λb u e=>?_) I.bare
 .obtain⟨_,f1,_,f3,f4,f5⟩:=hf b hb;exact⟨f3,f1,f4,f5⟩
 .rw[Qo (λz=>absurd (yaj e) (by rw[z];exact Nat.not_lt.mpr hT))];exact n
 .obtain⟨o,es,ep,ho,r⟩:=hm;exact⟨o,es,ep,k _ o (λz=>(hf _ z).2.1 Z) ho,r⟩
 .by_cases hb:b=T
  .subst hb;rw[Qf]at e;cases e;exact new
  .rw[Qo hb]at e;refine(I.ao b u e).d6 (λc v hc q=>k c v ?_ q) (λc q=>nT c _ q) λc ys q=>nT c _ q;rcases hc with z|z
   .rw[z];exact dA b u e
   .exact dA c _ z
end
noncomputable def AW(z:Str):It:=⟨λi _=>i<z.cps.size,λi H x H'=>∃p c,H p=none/\z.cps[i]? =some c/\x=.ref p/\H'=upd H p (.tup [.int (i:Nat),.str ⟨#[c]⟩]),λi _=>z.cps.size<=i⟩
def wE{P:Program}{w:World}{K:Frag}{es:List Expr}{k:Nat}{pos:Pos}(e it:Addr)(eF:e≠it)(z:Str)(t:Tok):Turn P w K (.Tuple es k pos) (AW z) [e,it] e (λi h=>(∃old,IsEnum h e it (i:Nat) old)/\h.IsStrIter it "str_ascii_iterator" z t (min i z.cps.size)) where
 mem:=by simp
 obj:=λi h st b hb=>by
  obtain⟨⟨old,he⟩,o,ho,hc,hd⟩:=st;rcases yak.mp hb with rfl|hb
  .exact⟨_,he,λv q=>nomatch (show Data.fields _=Data.cell v from q)⟩
  .obtain rfl:b=it:=by simpa using hb
   exact⟨o,ho,λv q=>by rw[hd]at q;cases q⟩
 keep:=λi h h' st kk=>by
  obtain⟨⟨old,he⟩,o,ho,r⟩:=st;exact⟨⟨old,kk e (by simp) _ he⟩,o,kk it (by simp) o ho,r⟩
 item:=by
  intro X hP hw hK hc i U s σ H E I hf st hg;subst hP hw hK;obtain⟨⟨old,he⟩,f8⟩:=st;have dE:i<z.cps.size:=hg;rw[ybd (ycW dE)]at f8;have D:=ycM (prog:=X.prog) (w:=X.w) (A:=X.A.in1) (I.ok.hd hc) it z t;refine wpAny_pyNext_enum_itemD D he f8 dE eF (by simpa using eF) λx h1 tk hx ho FD hT hsz hk=>⟨_,Z,?_⟩;obtain⟨c,u,SC,rfl⟩:=hx;refine yeb ho λh2 AX Id=>?_;have FE:s.heap.objs.size≠e:=λq=>absurd (yaj he) (by rw[<-q];exact lG _);refine⟨.ref s.heap.objs.size,upd H s.heap.objs.size (.tup [.int (i:Nat),.str ⟨#[c]⟩]),I.zL (ch:=[e,it]) hf (λb o hb q=>?_) (tN _) ?_,Z,⟨_,c,I.ao.fresh (tN _),SC,Z,Z⟩,⟨⟨_,AX⟩,?_⟩,λb hb=>?_⟩
  .simp only[yak,yaL,ycs,not_or]at hb;exact(Id.2 b hb.1).trans (hk b o hb.1 hb.2 q)
  .exact⟨by show 2<=sizeLine;lia,[.int (i:Nat) tk,.str ⟨#[c]⟩ u],.cons ⟨_,Z⟩ (.cons ⟨_,Z⟩ .nil),⟨_,(Id.2 _ FE).trans hT,Z,_,Z,Z⟩⟩
  .rw[ybd (show i+1<=z.cps.size from dE)];obtain⟨o,AY,r1⟩:=FD;exact⟨o,(Id.2 it eF.symm).trans AY,r1⟩
  .have ap:b<s.heap.objs.size:=by
    rcases yak.mp hb with q|q
    .rw[q];exact yaj he
    .obtain⟨o,AY,_⟩:=f8;rw[show b=it by simpa using q];exact yaj AY
   rw[Qo (yar ap)];exact(hf b hb).1
 done:=by
  intro X hP hw hK hc i U s σ H E I hf st hg;subst hP hw hK;obtain⟨⟨old,he⟩,f8⟩:=st;have dE:z.cps.size<=i:=hg;rw[yeJ dE]at f8;have D:=ycM (prog:=X.prog) (w:=X.w) (A:=X.A.in1) (I.ok.hd hc) it z t;exact wpAny_pyNext_enum_endD D he f8 λh1 eb=>⟨Z,I.zK (t':=s.toks) (ch:=[e,it]) hf λb o hb q=>eb b o (λr=>hb (by simp[r])) q⟩
 self:=λ_ _ _ _ _ st h=>let ⟨⟨_,he⟩,_⟩:=st;ydq he h
section
def Tx(ta:TA):TI:=λσ H R=>ta σ H λvs H1=>∃z:Str,vs=[.str z]/\z.cps.all (· <128)=true/\R (AW z) H1
def Tz{p pos:Pos}(hg:Gl X "enumerate")(hm:X.mg "enumerate"=none)(ha:PA X [a] ta)(hs:starEach [a] X.env=[(false,eval a X.env)]:=by rfl):PI X (.Tuple es k tp) (.Call (.Name "enumerate" p) [a] [] pos) (Tx ta):=by
 intro U s σ H R I h;refine Call_ (ZV I hg hm boot_enumerate (yav (ay (ha pos U s σ H _ I h) λus s1⟨vs,H1,I1,r1,z,e,hz,q⟩=>?_) hs Z));subst e;obtain⟨u,rfl,t,rfl⟩:=vals1 r1;refine call_enumerate_str λh1 he f8 hsz hk=>?_;rw[show strIterType z="str_ascii_iterator" by unfold strIterType;rw[hz];rfl]at f8;refine ydq (s:={s1 with heap:=h1}) he ?_;refine⟨_,[s1.heap.objs.size+1,s1.heap.objs.size],_,_,H1,Z,I1.kept (t':=s1.toks) hk,wE _ _ (Nat.succ_ne_self _) z t,⟨⟨_,he⟩,by simpa using f8⟩,λb hb=>?_,q⟩;have FB:s1.heap.objs.size<=b:=by
  simp only[yak,yaL,ycs]at hb;rcases hb with rfl|rfl
  .exact Nat.le_succ _
  .exact tN _
 exact I1.kY FB (I1.ao.fresh FB)
end
inductive b0 (w:World):List DictEntry->List (Key × V)->Prop where
 |nil:b0 w [] []
 |cons {h:Int} {x y:Str} {t u:Tok} {es:List DictEntry} {al:List (Key × V)} (e:h=eZ w (.inr x)) (r:b0 w es al):b0 w (⟨h,.str x t,.str y u⟩::es) ((Sum.inr x,.str y)::al)
def b0.pairs{al:List (Key × V)}(h:b0 w es al):∃vs,KV al vs/\Pairs (QY P w) es vs/\vs.map (·.1)=al.map (·.1)/\∀e∈es,∃k,(QY P w).is k e.key=true/\e.hash=eZ w k:=by
 induction h with
 |nil=>exact⟨[],.nil,.nil,Z,λe he=>by cases he⟩
 |@cons hh x y t u es al e r ih=>
  obtain⟨vs,h1,h2,h3,h4⟩:=ih;refine⟨(Sum.inr x,.str y u)::vs,.cons ⟨Z,_,Z⟩ h1,.cons (Ju P w x t) rfl h2,by rw[lC,lC,h3],λq hq=>?_⟩;rcases yak.mp hq with rfl|hq
  .exact⟨_,Ju P w x t,e⟩
  .exact h4 q hq
def yo{K:Frag}{n:Nat}{al:List (Key × V)}(ne:(a==sysModules)=false)(l:K.lookup a=some ⟨.type "dict",none,.dict es n, #[]⟩)(h:b0 w es.toList al)(nd:(al.map (·.1)).Nodup):aD P w K a al:=by
 obtain⟨vs,h1,h2,h3,h4⟩:=h.pairs (P:=P);exact⟨ne,λhp KX=>⟨vs,h1,_,_,_,KX a _ l,⟨Z,Z,Z⟩,Z,λe he=>h4 e (by simpa using he),h2,by rw[h3];exact nd⟩⟩
section
variable {ty:TE}{al:List (Key × V)}
def TB(a:Addr)(al:List (Key × V))(ty td:TE):TE:=λσ H Q=>ty σ H λy H1=>td σ H1 λx H2=>∃k,x=.ref a/\y=kV k/\Q (.bl (Vr al k).isSome) H2
def TC(D:aD X.prog X.w X.K a al)(hi:PE X i ty)(ho:PE X o td):PC X .In i o (TB a al ty td):=by
 intro U s σ H Q I h;refine ay (hi U s σ H _ I h) λiv s1⟨y,H1,I1,ry,q1⟩=>ay (ho U s1 σ H1 _ I1 q1) λu s2⟨x,H2,I2,rx,k,ex,ey,q2⟩=>?_;subst ex ey;obtain rfl:u=Value.ref a:=rx;obtain⟨vs,rel,dd⟩:=D.ok s2.heap I2.bq;refine wpAny_in_of (jp ry) D.ne dd.mapOf ?_;rw[<-(rel.val k).VS];exact⟨.bl _,H2,I2.tok _,Z,q2⟩
end
end L2
namespace bW
open PySem PySem.NumText Builtin Builtin.Str StrLaws
def TF(lo:Option Int)(k n:Nat)(hk:1<=k):strSliceIndices lo (some (-(k:Int))) 1 n=strSliceIndices lo (some ((n-k:Nat):Int)) 1 n:=by
 unfold strSliceIndices;have h1:(-(k:Int)<0):=by lia
 have h2:¬ (((n-k:Nat):Int)<0):=by lia
 have h3:max (0:Int) (min (-(k:Int)+n) n)=max (0:Int) (min ((n-k:Nat):Int) n):=by lia
 simp only[h1,h2,ybN,yaM,h3,show((1:Int)>0)=True from by simp]
def jJ(l:List Nat){k:Nat}(hk:1<=k):sliceText (tx l) none (some (-(k:Int)))=tx (l.take (l.length-k)):=by
 have e:sliceText (tx l) none (some (-(k:Int)))=sliceText (tx l) none (some ((l.length-k:Nat):Int)):=by
  unfold sliceText;rw[TF none k _ hk,Qu]
 rw[e,WR l (by lia)]
def Uc(l:List Nat):sliceText (tx l) none (some (-1))=tx l.dropLast:=by
 have:=jJ l (k:=1) (tN _);rw[List.dropLast_eq_take];exact this
def WU{l:List Nat}(h:l≠[]):∃d,l=l.dropLast++[d]/\l.getLast?=some d:=⟨l.getLast h,(List.dropLast_concat_getLast h).symm,List.getLast?_eq_some_getLast h⟩
noncomputable def pad(n k:Nat):List Nat:=replicate (k-(dec n).length) 48++dec n
def UN(n k:Nat):AllDigits (pad n k):=SQ (SR _) (yf n)
def yp(n k:Nat):digitsVal (pad n k)=n:=by unfold pad;rw[UL,yg,SN,Nat.zero_mul,ybU]
def LD(n k:Nat):pad n k≠[]:=λz=>by
 have h:=yaF List.length z;unfold pad at h;have h2:=Lu n;rw[tJ,ybc]at h;lia
def dec_lt(h:n<10^k)(hk:1<=k):(dec n).length<=k:=by
 rcases yaZ k (dec n).length with q|q
 .exfalso
  by_cases h0:n=0
  .subst h0;have:(dec 0).length=1:=by lia
   lia
  .have h1:(Nat.toDigits 10 n).length<=k:=(Nat.length_toDigits_le_iff (by lia) hk).mpr h;unfold dec at q;rw[tK]at q;lia
 .exact q
def UO(h:n<10^k)(hk:1<=k):(pad n k).length=k:=by
 have:=dec_lt h hk;unfold pad;rw[tJ,lj];lia
def jK(n:Nat){k:Nat}(hk:1<=k):Txt.zfill (tx (dec n)) (k:Int)=tx (pad n k):=by
 obtain⟨o,rfl⟩:∃o,k=o+1:=⟨k-1,by lia⟩;have:=yh n o;push_cast;rw[this];rfl
def TH:∀d:Nat,48<=d->d<=57->("pqrstuvwxy":Str).cps.toList[d-48]? =some (d+64):=by
 intro d h1 h2;have key:∀k:Nat,k<10->("pqrstuvwxy":Str).cps.toList[k]? =some (k+112):=by rfl'
 have:=key (d-48) (by lia);rw[this]
 congr 1
 lia
def TJ:("pqrstuvwxy":Str)=tx [112,113,114,115,116,117,118,119,120,121]:=by rfl'
def TK(h:AllDigits [d]):digitsVal [d]=d-48:=by simp[digitsVal]
end bW
namespace cU
open bW bt PySem.NumText
noncomputable def bH(c:Nat):Option Nat:=if c=44 then some 44 else if c=66 then some 32 else if c=48 then some 48 else if c=47 then some 47 else if c=46 then some 46 else none
noncomputable def bG(b:Bool)(c:Nat):Nat:=if c=36 then 36 else if c=43 then(if b then 45 else 43)else if c=45 then(if b then 45 else 32)else if b then c else 32
noncomputable def bw:List Nat->List Nat->List Nat
 |[],_=>[]
 |c::r,fs=>match bH c with
  |some d=>d::bw r fs
  |none=>fs.headD 48::bw r fs.tail
noncomputable def bf:List Nat->List Nat->Nat
 |[],_=>0
 |c::r,s=>if c=57\/(ins c=false/\s.headD 0≠48)then 0 else bf r s.tail+1
noncomputable def place(c:Nat):Bool:=(bH c).isNone
noncomputable def many(l:List Nat):Nat:=(l.filter place).length
noncomputable def UP(body:List Nat)(u:Nat)(b:Bool):List Nat:=
 if bZ (body.headD 0)=true then replicate (bf body (bw body (pad u (many body)))-1) 32++[bG b (body.headD 0)]++(bw body (pad u (many body))).drop (bf body (bw body (pad u (many body))))
 else replicate (bf body (bw body (pad u (many body)))) (if body.headD 0=42 then 42 else 32)++(bw body (pad u (many body))).drop (bf body (bw body (pad u (many body))))
noncomputable def KH(l:List Nat):List Nat:=if 42∈l then l.map (λc=>if c=46 then 46 else 42)else replicate l.length 32
noncomputable def bI(M body tail:List Nat)(f:Int):List Nat:=
 if f=0/\57∉body/\bZ (body.headD 0)=false then KH (M++body++tail)
 else M.map (bG (decide (f<0)))++UP body f.natAbs (decide (f<0))++tail.map (bG (decide (f<0)))
noncomputable def LF(c:Nat):Nat:=if c=66 then 32 else c
def TL(c:Nat):Prop:=c∈([57,90,42,43,45,36]:List Nat)
def TM(h:TL c):bH c=none/\ins c=false/\c≠46:=by
 have:∀c∈([57,90,42,43,45,36]:List Nat),bH c=none/\ins c=false/\c≠46:=by lia
 exact this c h
def TN(h:ins c=true):bH c=some (LF c)/\c≠57:=by
 have:∀c∈([44,66,48,47]:List Nat),bH c=some (LF c)/\c≠57:=by lia
 exact this c (yay.mp h)
def Wv(a b:List Nat):many (a++b)=many a+many b:=by simp[many]
def V8(c:Nat)(r:List Nat):many (c::r)=(if bH c=none then 1 else 0)+many r:=by
 unfold many place;rw[ybp];cases bH c<;>simp<;>lia
def Kt{r fs:List Nat}(h:bH c=none):bw (c::r) fs=fs.headD 48::bw r fs.tail:=by rw[bw,h]
def Ww{r fs:List Nat}(h:bH c=some d):bw (c::r) fs=d::bw r fs:=by rw[bw,h]
def TQ(h:u<10^k)(hk:1<=k):pad u (k+1)=48::pad u k:=by
 have:=dec_lt h hk;unfold pad;rw[show k+1-(dec u).length=(k-(dec u).length)+1 by lia,yas,lu]
section
variable {first:Nat}{ac tail:List Nat}
theorem _root_.bt.Ed.many(E:Ed M first W N ac tail):many (W++N)=W.count first+N.count 57:=by cases E;lia
def _root_.bt.Ed.FF(E:Ed M first W N ac tail):many (Qv ac)=ac.length:=by cases E;lia
noncomputable def aU(first:Nat)(W N:List Nat):Nat:=W.count first+N.count 57-(if bZ first=true then 1 else 0)
end
end cU
namespace L2
open PySem PySem.Spec PyProof.Rows
def TR{z:Str}{g:TG}{tb:TS}{D:Ends}{σ:St}{H:Hp}(Pv:Nat->St->Hp->Prop)(h0:Pv 0 σ H)(hs:∀i c σ H,z.cps[i]? =some c->Pv i σ H->g (.str ⟨#[c]⟩) σ H λσ2 H2=>tb {D with nx:=Pv (i+1),ct:=Pv (i+1),bk:=D.nx} σ2 H2)(hd:∀σ H,Pv z.cps.size σ H->D.nx σ H):∃W:Nat->Nat->St->Hp->Prop,(∃m,W 0 m σ H)/\∀i m σ H,W i m σ H->
   ((AJ z).stop i H/\D.nx σ H)\/((AJ z).go i H/\∃N:St->Hp->Prop,(∀σ' H',N σ' H'->∃m',m'<m/\W (i+1) m' σ' H')/\∀x H',(AJ z).bT i H x H'->g x σ H' λσ2 H2=>tb {D with nx:=N,ct:=N,bk:=D.nx} σ2 H2):=by
 refine⟨λi m σ H=>m=z.cps.size-i/\i<=z.cps.size/\Pv i σ H,⟨z.cps.size,by simp,lF _,h0⟩,?_⟩;rintro i m σ H ⟨rfl,hi,p⟩
 by_cases ap:i<z.cps.size
 .refine .inr ⟨ap,Pv (i+1),λσ' H' p'=>⟨z.cps.size-(i+1),by lia,Z,ap,p'⟩,λx H' y=>?_⟩;obtain⟨e,c,hc,e2⟩:=y;subst e e2;exact hs i c σ _ hc p
 .have e:i=z.cps.size:=by lia
  subst e;exact .inl ⟨tN _,hd σ H p⟩
def yq{z:Str}{g:TG}{tb:TS}{D:Ends}{σ:St}{H:Hp}(Pv:Nat->St->Hp->Prop)(h0:Pv 0 σ H)(hs:∀i c σ H p,z.cps[i]? =some c->Pv i σ H->H p=none->g (.ref p) σ (upd H p (.tup [.int (i:Nat),.str ⟨#[c]⟩])) λσ2 H2=>tb {D with nx:=Pv (i+1),ct:=Pv (i+1),bk:=D.nx} σ2 H2)(hd:∀σ H,Pv z.cps.size σ H->D.nx σ H):∃W:Nat->Nat->St->Hp->Prop,(∃m,W 0 m σ H)/\∀i m σ H,W i m σ H->
   ((AW z).stop i H/\D.nx σ H)\/((AW z).go i H/\∃N:St->Hp->Prop,(∀σ' H',N σ' H'->∃m',m'<m/\W (i+1) m' σ' H')/\∀x H',(AW z).bT i H x H'->g x σ H' λσ2 H2=>tb {D with nx:=N,ct:=N,bk:=D.nx} σ2 H2):=by
 refine⟨λi m σ H=>m=z.cps.size-i/\i<=z.cps.size/\Pv i σ H,⟨z.cps.size,by simp,lF _,h0⟩,?_⟩;rintro i m σ H ⟨rfl,hi,p⟩
 by_cases ap:i<z.cps.size
 .refine .inr ⟨ap,Pv (i+1),λσ' H' p'=>⟨z.cps.size-(i+1),by lia,Z,ap,p'⟩,λx H' y=>?_⟩;obtain⟨q,c,hq,hc,e,e2⟩:=y;subst e e2;exact hs i c σ _ q hc p hq
 .have e:i=z.cps.size:=by lia
  subst e;exact .inl ⟨tN _,hd σ H p⟩
def yr{z:Str}{n:Nat}{fi:List Nat}{fv:List V}{tt:TT}{tl:TE}(Pv:Nat->List V->Hp->Prop)(h:∀R:VK,R (.str z) H->tl σ H R)(ha:z.cps.all (· <128)=true)(fu:fi.map (λi=>σ[i]?)=fv.map (λv=>some (some v)))(h0:Pv 0 [] H)(hl:∀i vs H,i<=z.cps.size->Pv i vs H->vs.length<=i)(hs:∀i c vs H,z.cps[i]? =some c->Pv i vs H->g (.str ⟨#[c]⟩) (replicate n none++fv.map some) H λσ2 H2=>σ2.drop n=fv.map some/\tt σ2 H2 λb H3=>if b=true then te σ2 H3 λv H4=>Pv (i+1) (vs++[v]) H4 else Pv (i+1) vs H3)(hd:∀vs H,Pv z.cps.size vs H->∀p,H p=none->Q (.ref p) (upd H p (.lst vs)))(hz:z.cps.size<sizeLine):V4 n fi (CG tl) g tt te σ H Q:=by
 refine h _ ⟨z,Z,ha,fv,fu,?_⟩;refine⟨λi m vs H=>m=z.cps.size-i/\i<=z.cps.size/\Pv i vs H,⟨z.cps.size,by simp,lF _,h0⟩,?_⟩;rintro i m vs H ⟨rfl,hi,p⟩;have hv:=hl i vs H hi p
 by_cases ap:i<z.cps.size
 .refine .inr ⟨ap,by lia,Pv (i+1),λmt H' p'=>⟨z.cps.size-(i+1),by lia,Z,ap,p'⟩,λx H' y=>?_⟩;obtain⟨e,c,hc,e2⟩:=y;subst e e2;exact hs i c vs _ hc p
 .have e:i=z.cps.size:=by lia
  subst e;exact .inl ⟨tN _,hd vs H p⟩
def yt(hK:X.K=K0)(ha:PE X a ta)(he:∀whole,isTrue a X.env whole=(do let v<-whole;standAt a.pos;holding [v] (truthy v))):PT X a (λσ H Q=>ta σ H λx H'=>∃k,Cv K0 x H' k/\Q k H'):=by
 subst hK;exact Je ha he
end L2
namespace cU
open bW bt PySem.NumText
noncomputable def dg(c:Nat):Nat:=if 48<=c/\c<=57 then c else 48
noncomputable def bJ(body t:List Nat):List Nat:=((body.zip t).filter (λx=>place x.1)).map (λx=>dg x.2)
noncomputable def fA(M body t:List Nat):Nat:=digitsVal (bJ body (t.drop M.length))
def Xy(c d:Nat)(r t:List Nat):bJ (c::r) (d::t)=if place c=true then dg d::bJ r t else bJ r t:=by
 unfold bJ;rw[List.zip_cons_cons,ybp]
 split<;>rfl
def TU:∀(l t x:List Nat),t.length=l.length->bJ l (t++x)=bJ l t:=by
 intro l
 induction l with
 |nil=>intro t x _;rfl
 |cons c r ih=>
  intro t x h;cases t with
  |nil=>cases h
  |cons d t=>rw[lu,Xy,Xy,ih t x (by simpa using h)]
def TV:∀(l fs:List Nat),AllDigits fs->many l<=fs.length->bJ l (bw l fs)=fs.take (many l):=by
 intro l
 induction l with
 |nil=>intro fs _ _;rfl
 |cons c r ih=>
  intro fs hd hl;rw[V8]at hl ⊢;cases h:bH c with
  |some d=>
   rw[Ww h,Xy,yag (by unfold place;rw[h];simp),yag (by simp),ybU];rw[h,yag (by simp),ybU]at hl;exact ih fs hd hl
  |none=>
   rw[h,yai rfl]at hl;rw[yai rfl];cases fs with
   |nil=>rw[ybc]at hl;lia
   |cons a fs=>
    rw[Kt h,Xy,yai (by unfold place;rw[h];rfl),show 1+many r=many r+1 by lia,ycj];have ha:=hd a tW;rw[show(a::fs).headD 48=a from rfl,show(a::fs).tail=fs from rfl,show dg a=a by unfold dg;rw[yai (by lia)],ih fs (λx hx=>hd x (tU _ hx)) (by rw[tQ]at hl;lia)]
def TX:∀(l s pre:List Nat),s.length=l.length->pre.length=bf l s->(∀x∈pre,dg x=48)->bJ l (pre++s.drop (bf l s))=bJ l s:=by
 intro l
 induction l with
 |nil=>intro s pre _ _ _;rfl
 |cons c r ih=>
  intro s pre hs hp hx;rw[bf]at hp ⊢
  split at hp
  .rename_i hc;rw[yai hc,yco];rw[ybk.mp hp];rfl
  .rename_i hc;rw[yag hc];cases s with
   |nil=>cases hs
   |cons d s=>
    cases pre with
    |nil=>cases hp
    |cons a pre=>
     rw[List.drop_succ_cons,lu,Xy,Xy];rw[show(d::s).tail=s from rfl]at hp ⊢;rw[ih s pre (by simpa using hs) (by simpa using hp) λx h=>hx x (tU _ h)]
     split
     .rename_i db;have hb:bH c=none:=by unfold place at db;cases e:bH c with
       |none=>rfl
       |some x=>rw[e]at db;cases db
      have hi:ins c=false:=by
       cases e:ins c with
       |false=>rfl
       |true=>rw[(TN e).1]at hb;cases hb
      have hd:d=48:=by
       by_cases q:d=48
       .exact q
       .exact absurd (Or.inr ⟨hi,q⟩) hc
      rw[hx a tW,hd];rfl
     .rfl
def TY(h:∀x∈t,dg x=48):digitsVal (bJ l t)=0:=by
 have e:bJ l t=replicate (bJ l t).length 48:=by
  refine List.eq_replicate_iff.mpr ⟨Z,λy hy=>?_⟩;unfold bJ at hy;obtain⟨x,hx,rfl⟩:=yaY.mp hy;exact h _ (ydQ ((yeN.mp hx).1)).2
 rw[e,yg]
def TZ(h:c≠57)(hs:s.headD 0=48):1<=bf (c::r) s:=by
 rw[bf,yag]
 .lia
 .rintro(q|⟨_,q⟩)
  .exact h q
  .exact q hs
def T6:∀(l fs:List Nat),(bw l fs).length=l.length:=by
 intro l
 induction l with
 |nil=>intro fs;rfl
 |cons c r ih=>
  intro fs;cases h:bH c with
  |none=>rw[Kt h,tQ,tQ,ih]
  |some d=>rw[Ww h,tQ,tQ,ih]
def U':∀(l s:List Nat),bf l s<=l.length:=by
 intro l
 induction l with
 |nil=>intro s;exact tN _
 |cons c r ih=>
  intro s;rw[bf,tQ]
  split
  .exact lF _
  .exact Nat.succ_le_succ (ih _)
def V':∀c∈([43,45,36]:List Nat),∀b,dg (bG b c)=48:=by lia
section
variable {first:Nat}{ac tail:List Nat}
def _root_.bt.Ed.cnt(E:Ed M first W N ac tail):W.count first+N.count 57=aU first W N+(if bZ first=true then 1 else 0):=by cases E;lia
def _root_.bt.Ed.dF(E:Ed M first W N ac tail):∃rr,W++N++Qv ac=first::rr:=by cases E;exact⟨_,Z⟩
def _root_.bt.Ed.shape(E:Ed M first W N ac tail)(b:Bool)(h1:1<=aU first W N)(hu:u<10^(aU first W N+ac.length)):∃s pre:List Nat,s=bw (W++N++Qv ac) (pad u (many (W++N++Qv ac)))/\UP (W++N++Qv ac) u b=pre++s.drop (bf (W++N++Qv ac) s)/\pre.length=bf (W++N++Qv ac) s/\(∀x∈pre,dg x=48)/\s.length=(W++N++Qv ac).length/\(pad u (many (W++N++Qv ac))).length=many (W++N++Qv ac)/\
   pre=if bZ first=true then replicate (bf (W++N++Qv ac) s-1) 32++[bG b first]else replicate (bf (W++N++Qv ac) s) (if first=42 then 42 else 32):=by
 have hm:many (W++N++Qv ac)=aU first W N+(if bZ first=true then 1 else 0)+ac.length:=by rw[Wv,E.many,E.FF,E.cnt]
 have AZ:u<10^many (W++N++Qv ac):=yam hu (ybm (by lia) (by lia));have db:=UO AZ (by lia);obtain⟨rr,A0⟩:=E.dF;refine⟨_,if bZ first=true then replicate (bf (W++N++Qv ac) (bw (W++N++Qv ac) (pad u (many (W++N++Qv ac))))-1) 32++[bG b first]else replicate (bf (W++N++Qv ac) (bw (W++N++Qv ac) (pad u (many (W++N++Qv ac))))) (if first=42 then 42 else 32),Z,?_,?_,?_,T6 _ _,db,Z⟩
 .unfold UP;rw[show(W++N++Qv ac).headD 0=first by rw[A0];rfl]
  split<;>rfl
 .split
  .rename_i hf;rw[hf,yai rfl]at hm;have hh:1<=bf (W++N++Qv ac) (bw (W++N++Qv ac) (pad u (many (W++N++Qv ac)))):=by
    have A6:=yay.mp hf;have e:pad u (many (W++N++Qv ac))=48::pad u (aU first W N+ac.length):=by
     rw[hm,show aU first W N+1+ac.length=aU first W N+ac.length+1 by lia,TQ hu (by lia)]
    rw[e,A0];refine TZ (λq=>by rw[q]at A6;exact absurd A6 (by lia)) ?_;rw[Kt (TM E.f).1];rfl
   rw[tJ,lj,tP];lia
  .rw[lj]
 .split
  .rename_i hf;intro x hx;rcases yaq.mp hx with h|h
   .rw[yaz h];rfl
   .rw[yao.mp h];exact V' first (yay.mp hf) b
  .intro x hx;rw[yaz hx]
   split<;>rfl
def _root_.bt.Ed.UQ(E:Ed M first W N ac tail)(b:Bool)(h1:1<=aU first W N)(hu:u<10^(aU first W N+ac.length)):(UP (W++N++Qv ac) u b).length=(W++N++Qv ac).length:=by
 obtain⟨s,pre,_,e,hp,_,hs,_⟩:=E.shape b h1 hu;have:=U' (W++N++Qv ac) s;rw[e,tJ,hp,tY];lia
def _root_.bt.Ed.read(E:Ed M first W N ac tail)(h1:1<=aU first W N)(hf:f.natAbs<10^(aU first W N+ac.length)):fA M (W++N++Qv ac) (bI M (W++N++Qv ac) tail f)=f.natAbs:=by
 unfold fA bI
 split
 .rename_i h;rw[TY,h.1]
  .rfl
  .intro x hx;have hx:=ybn hx;unfold KH at hx
   split at hx
   .obtain⟨c,_,rfl⟩:=yaY.mp hx
    split<;>rfl
   .rw[yaz hx];rfl
 .rw[lr (M.map (bG (decide (f<0)))),show M.length=(M.map (bG (decide (f<0)))).length by rw[tK],List.drop_left,TU _ _ _ (E.UQ _ h1 hf)];obtain⟨s,pre,Wx,e,hp,hx,hs,db,_⟩:=E.shape (decide (f<0)) h1 hf;rw[e,TX _ _ _ hs hp hx,Wx,TV _ _ (UN _ _) (by lia),yat (by lia),yp]
def _root_.bt.Ed.W'(E:Ed M first W N ac tail){u:Nat}(h:sgn M first tail=false):bI M (W++N++Qv ac) tail (-(u:Int))=bI M (W++N++Qv ac) tail (u:Int):=by cases E;exact absurd h (by lia)
def _root_.bt.Ed.Xs(E:Ed M first W N ac tail){u:Nat}(h1:1<=aU first W N)(hu:u<10^(aU first W N+ac.length))(h0:u≠0)(h:sgn M first tail=true):bI M (W++N++Qv ac) tail (u:Int)≠bI M (W++N++Qv ac) tail (-(u:Int)):=by
 intro e;unfold bI at e;rw[yag (λq=>h0 (by have:=q.1;lia)),yag (λq=>h0 (by have:=q.1;lia)),Int.natAbs_neg,yem,tL (show ¬ (u:Int)<0 by lia),tM (show-(u:Int)<0 by lia),lr (M.map (bG false)),lr (M.map (bG true))]at e;obtain⟨e1,e2⟩:=List.append_inj e (by rw[tK,tK]);obtain⟨e2,e3⟩:=List.append_inj e2 ((E.UQ _ h1 hu).trans (E.UQ _ h1 hu).symm);obtain⟨s,pre,hs,es,_,_,_,_,Ix⟩:=E.shape false h1 hu;obtain⟨s',X',CD,sB,_,_,_,_,A7⟩:=E.shape true h1 hu;subst CD;subst hs;have At:bZ first=true/\bG false first≠bG true first:=by cases E;lia
 rw[es,sB,Ix,A7,yai At.1,yai At.1,lr (replicate _ 32),lr (replicate _ 32)]at e2;have e4:=List.append_cancel_left e2;rw[yeS,yeS]at e4;exact At.2 (ycC e4).1
end
end cU
namespace L2
open PySem PySem.Spec PyProof.Rows
open Builtin Builtin.Str
abbrev lX(z TI TO i1 i2:Addr):Prop:=ZipApart z TI TO i1 i2 TI TI
section
variable {prog:Program}{TI TO:Addr}
def WV(D:Draws prog w A i [i] n P S)(st:S k h)(e:Heap.ExtBut c h h')(ne:i≠c):S k h':=
 D.frame _ _ _ st λb hb o q=>by
  obtain rfl:b=i:=by simpa using hb
  exact e _ _ ne q
def yu{Q:Value->Shared->Prop}(D:lX z TI TO i1 i2)(D1:Draws prog w A i1 [i1] n1 P1 S1)(D2:Draws prog w A i2 [i2] n2 P2 S2)(hz:IsZip s.heap z TI TO .none)(lY:IsPair s.heap TI (.ref i1) (.ref i2))(lZ:IsPair s.heap TO a b)(h1:S1 k s.heap)(h2:S2 k s.heap)(hx:k<n1)(hy:k<n2)(hQ:∀x y h' tk,P1 k x->P2 k y->IsZip h' z TI TO (rawInt s.heap.objs.size)->IsPair h' TO x y->S1 (k+1) h'->S2 (k+1) h'->IsPair h' s.heap.objs.size x y->(∀c o,c≠z->c≠TO->c≠i1->c≠i2->s.heap.get? c=some o->h'.get? c=some o)->Q (.ref s.heap.objs.size) {s with heap:=h',toks:=tk}):wpAny (model prog w) A (Builtin.«zip.__next__» ⟨[.ref z],[]⟩) (λfin s'=>∃v,fin=.done (.ret v)/\Q v s') E s:=by
 show wpAny _ _ (field (.ref z) 2>>=_) _ _ _;refine yaa (yaH hz Z (x:=.bool false) Z ?_);show wpAny _ _ (field (.ref z) 3>>=_) _ _ _;refine yaa (yaH hz Z (x:=.ref TI) Z (yaa (ybe lY Z ?_)));show wpAny _ _ (Builtin.SmallTypes.ownedTupleIsFree (.ref z)>>=_) _ _ _;refine yaa ?_;unfold Builtin.SmallTypes.ownedTupleIsFree;refine yaa (yaH hz Z (x:=.none) Z (yac ?_));simp only[ybN];refine yaa (ycX (yaa (yaH hz Z (x:=.ref TO) Z (yaa (yby hz (by simp) λh₁ eG Tm=>?_)))))
 replace eG:IsZip h₁ z TI TO .ellipsis:=eG;refine yaa ?_
 simp only[List.zipIdx_cons,List.zipIdx_nil,yeR,List.forIn_nil];refine yaa (yaa (yeA ?_));show wpAny _ _ (Builtin.SmallTypes.nextOf (.ref i1)>>=_) _ _ _;refine yaa (D1.item k _ _ _ hx (WV D1 h1 Tm.extBut D.i1z) λx h₂ Y' px LG cV=>yac ?_);have dG:IsPair h₂ TO a b:=cV.extBut _ _ D.TOi1 (Tm.extBut _ _ D.TOz lZ);refine yaa (ybe dG Z (yaa (ydF dG λh₃ fB dj=>?_)))
 replace fB:IsPair h₃ TO x b:=fB;refine yaa (yfb (yac (yaa (yaa (yeA ?_)))))
 show wpAny _ _ (Builtin.SmallTypes.nextOf (.ref i2)>>=_) _ _ _;have e2:S2 k h₃:=WV D2 (WV D2 (WV D2 h2 Tm.extBut D.i2z) cV.extBut D.i12.symm) dj.extBut D.TOi2.symm;refine yaa (D2.item k _ _ _ hy e2 λy h₄ Fl py Z' iI=>yac ?_);have A8:IsPair h₄ TO x b:=iI.extBut _ _ D.TOi2 fB;refine yaa (ybe A8 Z (yaa (ydF A8 λh₅ fC iJ=>?_)))
 replace fC:IsPair h₅ TO x y:=fC;refine yaa (yfb (yac (yac (yaa (ybe fC Z (yaa (wpAny_newTuple ?_)))))))
 have hs1:=Tm.1;have Id:=cV.1;have CO:=dj.1;have hs4:=iI.1;have hs5:=iJ.1;have hsz:h₅.objs.size=s.heap.objs.size:=hs5.trans (hs4.trans (CO.trans (Id.trans hs1)));have LH:IsZip h₅ z TI TO .ellipsis:=iJ.extBut _ _ D.TOz.symm (iI.extBut _ _ D.i2z.symm (dj.extBut _ _ D.TOz.symm (cV.extBut _ _ D.i1z.symm eG)));have hk5:∀c o,c≠z->c≠TO->c≠i1->c≠i2->s.heap.get? c=some o->h₅.get? c=some o:=λc o c1 c2 c3 c4 e=>iJ.extBut _ _ c2 (iI.extBut _ _ c4 (dj.extBut _ _ c2 (cV.extBut _ _ c3 (Tm.extBut _ _ c1 e))));have g1:S1 (k+1) h₅:=WV D1 (WV D1 (WV D1 LG dj.extBut D.TOi1.symm) iI.extBut D.i12) iJ.extBut D.TOi1.symm;have g2:S2 (k+1) h₅:=WV D2 Z' iJ.extBut D.TOi2.symm;have A9:z<h₅.objs.size:=yaj LH;show wpAny _ _ (Builtin.SmallTypes.ownedTupleHandOut (.ref z) (.ref h₅.objs.size)>>=_) _ _ _;refine yaa ?_;unfold Builtin.SmallTypes.ownedTupleHandOut;have hz6:IsZip (h₅.push {cls:=.type "tuple",data:=.seq #[x,y]}) z TI TO .ellipsis:=yab _ LH;refine yaa (yby hz6 (by simp) λh₇ FG LI=>?_);replace FG:IsZip h₇ z TI TO (rawInt h₅.objs.size):=FG;refine yby FG (by simp) λh₈ CP LJ=>?_;replace CP:IsZip h₈ z TI TO (rawInt h₅.objs.size):=CP;have up:∀c o,c≠z->h₅.get? c=some o->h₈.get? c=some o:=λc o c1 e=>LJ.extBut _ _ c1 (LI.extBut _ _ c1 (yab _ e));have LK:IsPair h₈ h₅.objs.size x y:=LJ.extBut _ _ (yct A9) (LI.extBut _ _ (yct A9) (yah _ Z));rw[hsz]at CP LK;refine yac ⟨_,Z,?_⟩;show Q (.ref h₅.objs.size) _;rw[hsz];exact hQ x y h₈ _ px py CP (up _ _ D.TOz fC) (D1.frame _ _ _ g1 λb hb o q=>up _ _ (by rw[show b=i1 by simpa using hb];exact D.i1z) q) (D2.frame _ _ _ g2 λb hb o q=>up _ _ (by rw[show b=i2 by simpa using hb];exact D.i2z) q) LK λc o c1 c2 c3 c4 e=>up c o c1 (hk5 c o c1 c2 c3 c4 e)
def QbA(D:lX z TI TO i1 i2)(D1:Draws prog w A i1 [i1] n1 P1 S1)(D2:Draws prog w A i2 [i2] n2 P2 S2)(hz:IsZip s.heap z TI TO .none)(lY:IsPair s.heap TI (.ref i1) (.ref i2))(lZ:IsPair s.heap TO a b)(h1:S1 k s.heap)(h2:S2 k s.heap)(hx:k=n1\/(k<n1/\k=n2))(hE:∀h' e tk,(∀c o,c≠z->c≠TO->c≠i1->c≠i2->s.heap.get? c=some o->h'.get? c=some o)->(∃o,h'.get? e=some o/\o.cls=.type "StopIteration")->E (.ref e) {s with heap:=h',toks:=tk}):wpAny (model prog w) A (Builtin.«zip.__next__» ⟨[.ref z],[]⟩) Q E s:=by
 show wpAny _ _ (field (.ref z) 2>>=_) _ _ _;refine yaa (yaH hz Z (x:=.bool false) Z ?_);show wpAny _ _ (field (.ref z) 3>>=_) _ _ _;refine yaa (yaH hz Z (x:=.ref TI) Z (yaa (ybe lY Z ?_)));show wpAny _ _ (Builtin.SmallTypes.ownedTupleIsFree (.ref z)>>=_) _ _ _;refine yaa ?_;unfold Builtin.SmallTypes.ownedTupleIsFree;refine yaa (yaH hz Z (x:=.none) Z (yac ?_));simp only[ybN];refine yaa (ycX (yaa (yaH hz Z (x:=.ref TO) Z (yaa (yby hz (by simp) λh₁ eG Tm=>?_)))))
 replace eG:IsZip h₁ z TI TO .ellipsis:=eG;refine yaa ?_
 simp only[List.zipIdx_cons,List.zipIdx_nil,yeR,List.forIn_nil];refine yaa (yaa (yeA ?_));show wpAny _ _ (Builtin.SmallTypes.nextOf (.ref i1)>>=_) _ _ _;rcases hx with e|⟨hx,e⟩
 .refine yaa (D1.done _ _ _ (by rw[<-e];exact WV D1 h1 Tm.extBut D.i1z) λh₂ e cV he=>?_);obtain⟨oe,l4,lW⟩:=he;have LL:IsZip h₂ z TI TO .ellipsis:=cV _ _ D.i1z.symm eG;have FH:e≠z:=λx=>by subst x;rw[LL]at l4;cases l4;simp at lW
  exact yby LL (by simp) λh₃ _ dj=>hE h₃ e _ (λc o c1 _ c3 _ x=>dj.extBut _ _ c1 (cV _ _ c3 (Tm.extBut _ _ c1 x))) ⟨oe,dj.extBut _ _ FH l4,lW⟩
 .refine yaa (D1.item k _ _ _ hx (WV D1 h1 Tm.extBut D.i1z) λx h₂ Y' px LG cV=>yac ?_);have dG:IsPair h₂ TO a b:=cV.extBut _ _ D.TOi1 (Tm.extBut _ _ D.TOz lZ);refine yaa (ybe dG Z (yaa (ydF dG λh₃ fB dj=>yaa (yfb (yac (yaa (yaa (yeA ?_))))))));show wpAny _ _ (Builtin.SmallTypes.nextOf (.ref i2)>>=_) _ _ _;have e2:S2 k h₃:=WV D2 (WV D2 (WV D2 h2 Tm.extBut D.i2z) cV.extBut D.i12.symm) dj.extBut D.TOi2.symm;refine yaa (D2.done _ _ _ (by rw[<-e];exact e2) λh₄ e iI he=>?_);obtain⟨oe,l4,lW⟩:=he;have LM:IsZip h₄ z TI TO .ellipsis:=iI _ _ D.i2z.symm (dj.extBut _ _ D.TOz.symm (cV.extBut _ _ D.i1z.symm eG));have FH:e≠z:=λx=>by subst x;rw[LM]at l4;cases l4;simp at lW
  exact yby LM (by simp) λh₅ _ iJ=>hE h₅ e _ (λc o c1 c2 c3 c4 x=>iJ.extBut _ _ c1 (iI _ _ c4 (dj.extBut _ _ c2 (cV.extBut _ _ c3 (Tm.extBut _ _ c1 x))))) ⟨oe,iJ.extBut _ _ FH l4,lW⟩
def yw(D:lX z TI TO i1 i2)(D1:Draws prog w A.in1 i1 [i1] n1 P1 S1)(D2:Draws prog w A.in1 i2 [i2] n2 P2 S2)(hz:IsZip s.heap z TI TO .none)(lY:IsPair s.heap TI (.ref i1) (.ref i2))(lZ:IsPair s.heap TO a b)(h1:S1 k s.heap)(h2:S2 k s.heap)(hx:k<n1)(hy:k<n2)(hQ:∀x y h' tk,P1 k x->P2 k y->IsZip h' z TI TO (rawInt s.heap.objs.size)->IsPair h' TO x y->S1 (k+1) h'->S2 (k+1) h'->IsPair h' s.heap.objs.size x y->(∀c o,c≠z->c≠TO->c≠i1->c≠i2->s.heap.get? c=some o->h'.get? c=some o)->Q (some (.ref s.heap.objs.size)) {s with heap:=h',toks:=tk}):wpAny (model prog w) A (pyNext (.ref z)) Q E s:=by
 have hT:s.TypeIs (.ref z) "zip":=⟨_,hz,Z⟩;unfold pyNext;exact yaa (ydg (yaQ (name:=Str.ofString "__next__") hT ydU (yaN ydU hT F.entry_zip_next (yu D D1 D2 hz lY lZ h1 h2 hx hy λx y h' tk a1 a2 a3 a4 a5 a6 a7 a8=>yac (hQ x y h' tk a1 a2 a3 a4 a5 a6 a7 a8)) (F.args_zip_next_1 _))))
def QbB(D:lX z TI TO i1 i2)(D1:Draws prog w A.in1 i1 [i1] n1 P1 S1)(D2:Draws prog w A.in1 i2 [i2] n2 P2 S2)(hz:IsZip s.heap z TI TO .none)(lY:IsPair s.heap TI (.ref i1) (.ref i2))(lZ:IsPair s.heap TO a b)(h1:S1 k s.heap)(h2:S2 k s.heap)(hx:k=n1\/(k<n1/\k=n2))(hQ:∀h' tk,(∀c o,c≠z->c≠TO->c≠i1->c≠i2->s.heap.get? c=some o->h'.get? c=some o)->Q none {s with heap:=h',toks:=tk}):wpAny (model prog w) A (pyNext (.ref z)) Q E s:=by
 have hT:s.TypeIs (.ref z) "zip":=⟨_,hz,Z⟩;unfold pyNext;refine yaa (ydg (yaQ (name:=Str.ofString "__next__") hT ydU (yaN ydU hT F.entry_zip_next (QbA D D1 D2 hz lY lZ h1 h2 hx λh' e tk hk he=>?_) (F.args_zip_next_1 _))));obtain⟨o,ho,hc⟩:=he;refine yaa (ycP (T:="StopIteration") (b:=true) ⟨o,ho,hc⟩ isSubtype_stop ?_);exact yac (hQ _ _ hk)
end
noncomputable def LN(x y:Str):It:=⟨λi _=>i<x.cps.size/\i<y.cps.size,λi H v H'=>∃p c d,H p=none/\x.cps[i]? =some c/\y.cps[i]? =some d/\v=.ref p/\H'=upd H p (.tup [.str ⟨#[c]⟩,.str ⟨#[d]⟩]),λi _=>min x.cps.size y.cps.size<=i⟩
def LO(z TI TO i1 i2:Addr)(x y:Str)(t u:Tok)(i:Nat)(h:Heap):Prop:=
 IsZip h z TI TO .none/\IsPair h TI (.ref i1) (.ref i2)/\(∃a b,IsPair h TO a b)/\h.IsStrIter i1 "str_ascii_iterator" x t (min i (min x.cps.size y.cps.size))/\h.IsStrIter i2 "str_ascii_iterator" y u (min i (min x.cps.size y.cps.size))
def yx{P:Program}{w:World}{K:Frag}{es:List Expr}{k:Nat}{pos:Pos}{z TI TO i1 i2:Addr}(D:lX z TI TO i1 i2)(x y:Str)(t u:Tok):Turn P w K (.Tuple es k pos) (LN x y) [z,TI,TO,i1,i2] z (LO z TI TO i1 i2 x y t u) where
 mem:=by simp
 obj:=λi h st b hb=>by
  obtain⟨hz,hI,⟨a,c,hO⟩,⟨o1,g1,c1,d1⟩,o2,g2,c2,d2⟩:=st;simp only[yak,yaL,ycs]at hb;rcases hb with rfl|rfl|rfl|rfl|rfl
  .exact⟨_,hz,λv q=>nomatch (show Data.fields _=Data.cell v from q)⟩
  .exact⟨_,hI,λv q=>nomatch (show Data.seq _ _=Data.cell v from q)⟩
  .exact⟨_,hO,λv q=>nomatch (show Data.seq _ _=Data.cell v from q)⟩
  .exact⟨o1,g1,λv q=>by rw[d1]at q;cases q⟩
  .exact⟨o2,g2,λv q=>by rw[d2]at q;cases q⟩
 keep:=λi h h' st kk=>by
  obtain⟨hz,hI,⟨a,c,hO⟩,⟨o1,g1,r1⟩,o2,g2,r2⟩:=st;exact⟨kk _ (by simp) _ hz,kk _ (by simp) _ hI,⟨a,c,kk _ (by simp) _ hO⟩,⟨o1,kk _ (by simp) _ g1,r1⟩,o2,kk _ (by simp) _ g2,r2⟩
 item:=by
  intro X hP hw hK hc i U s σ H E I hf st hg;subst hP hw hK;obtain⟨hz,hI,⟨a,c,hO⟩,s1,s2⟩:=st;obtain⟨l1,l2⟩:i<x.cps.size/\i<y.cps.size:=hg;rw[ybd (ycW (yfe.mpr ⟨l1,l2⟩))]at s1 s2;have D1:=ycM (prog:=X.prog) (w:=X.w) (A:=X.A.in1) (I.ok.hd hc) i1 x t;have D2:=ycM (prog:=X.prog) (w:=X.w) (A:=X.A.in1) (I.ok.hd hc) i2 y u;refine yw D D1 D2 hz hI hO s1 s2 l1 l2 λv1 v2 h1 tk p1 p2 CQ hO1 q1 q2 hT hk=>⟨_,Z,?_⟩;obtain⟨c1,u1,e1,rfl⟩:=p1;obtain⟨c2,u2,e2,rfl⟩:=p2;refine wpAny_letOwnedTupleGo_zip CQ λh2 FI Id=>?_;have up:∀b o,b≠z->h1.get? b=some o->h2.get? b=some o:=λb o hb q=>(Id.2 b hb).trans q;have ap:∀b∈[z,TI,TO,i1,i2],b<s.heap.objs.size:=λb hb=>by
   simp only[yak,yaL,ycs]at hb;rcases hb with rfl|rfl|rfl|rfl|rfl
   .exact yaj hz
   .exact yaj hI
   .exact yaj hO
   .obtain⟨o,g,_⟩:=s1;exact yaj g
   .obtain⟨o,g,_⟩:=s2;exact yaj g
  refine⟨.ref s.heap.objs.size,upd H s.heap.objs.size (.tup [.str ⟨#[c1]⟩,.str ⟨#[c2]⟩]),I.zL (ch:=[z,TI,TO,i1,i2]) hf (λb o hb q=>?_) (tN _) ?_,Z,⟨_,c1,c2,I.ao.fresh (tN _),e1,e2,Z,Z⟩,⟨FI,up _ _ D.TIz (hk _ _ D.TIz D.TITO D.TIi1 D.TIi2 hI),⟨_,_,up _ _ D.TOz hO1⟩,?_,?_⟩,λb hb=>?_⟩
  .simp only[yak,yaL,ycs,not_or]at hb;exact up b o hb.1 (hk b o hb.1 hb.2.2.1 hb.2.2.2.1 hb.2.2.2.2 q)
  .exact⟨by show 2<=sizeLine;lia,[.str ⟨#[c1]⟩ u1,.str ⟨#[c2]⟩ u2],.cons ⟨_,Z⟩ (.cons ⟨_,Z⟩ .nil),⟨_,up _ _ (yct (ap z (by simp))) hT,Z,_,Z,Z⟩⟩
  .rw[ybd (Nat.succ_le_of_lt (yfe.mpr ⟨l1,l2⟩))];obtain⟨o,g,r⟩:=q1;exact⟨o,up _ _ D.i1z g,r⟩
  .rw[ybd (Nat.succ_le_of_lt (yfe.mpr ⟨l1,l2⟩))];obtain⟨o,g,r⟩:=q2;exact⟨o,up _ _ D.i2z g,r⟩
  .rw[Qo (yar (ap b hb))];exact(hf b hb).1
 done:=by
  intro X hP hw hK hc i U s σ H E I hf st hg;subst hP hw hK;obtain⟨hz,hI,⟨a,c,hO⟩,s1,s2⟩:=st;have dE:min x.cps.size y.cps.size<=i:=hg;rw[yeJ dE]at s1 s2;have D1:=ycM (prog:=X.prog) (w:=X.w) (A:=X.A.in1) (I.ok.hd hc) i1 x t;have D2:=ycM (prog:=X.prog) (w:=X.w) (A:=X.A.in1) (I.ok.hd hc) i2 y u;refine QbB D D1 D2 hz hI hO s1 s2 (by lia) λh' tk hk=>⟨Z,I.zK (ch:=[z,TI,TO,i1,i2]) hf λb o hb q=>?_⟩;simp only[yak,yaL,ycs,not_or]at hb;exact hk b o hb.1 hb.2.2.1 hb.2.2.2.1 hb.2.2.2.2 q
 self:=λ_ _ _ _ _ st h=>wpAny_pyIter_zip st.1 h
noncomputable abbrev cj(h:Heap)(x:Str)(t:Tok):Heap:=h.push {cls:=.type "str_ascii_iterator",data:=.fields #[.str x t,.int 0 0]}
noncomputable abbrev su(h:Heap)(x y:Str)(t u:Tok):Heap:=(cj (cj h x t) y u).push {cls:=.type "tuple",data:=.seq #[.ref h.objs.size,.ref (cj h x t).objs.size]}
noncomputable abbrev sx(h:Heap)(x y:Str)(t u:Tok):Heap:=(su h x y t u).push {cls:=.type "tuple",data:=.seq #[.none,.none]}
noncomputable abbrev sy(h:Heap)(x y:Str)(t u:Tok):Heap:=(sx h x y t u).push {cls:=.type "zip",data:=.fields #[.none,.bool false,.bool false,.ref (cj (cj h x t) y u).objs.size,.ref (su h x y t u).objs.size]}
def wF(x y:Str)(t u:Tok):Meets (Builtin.«zip.__new__» ⟨[.type "zip",.str x t,.str y u],[]⟩) (λ_ R s=>x.cps.all (· <128)=true/\y.cps.all (· <128)=true/\R (.ok (.ret (.ref (sx s.heap x y t u).objs.size))) {s with heap:=sy s.heap x y t u}):=
 .of_wp λprog w A R s h=>by
  obtain⟨hp,g,d,tk,os⟩:=s;obtain⟨h1,h2,h⟩:=h;have fD:=sub_zip
  wp_walk using yek h1,yek h2
  exact⟨_,Z,h⟩
def yy{prog:Program}(h1:x.cps.all (· <128)=true)(h2:y.cps.all (· <128)=true)(h:∀h' z TI TO i1 i2,lX z TI TO i1 i2->LO z TI TO i1 i2 x y t u 0 h'->(∀b∈[z,TI,TO,i1,i2],s.heap.objs.size<=b)->(∀c o,s.heap.get? c=some o->h'.get? c=some o)->Q (.ref z) {s with heap:=h'}):wpAny (model prog w) A (call (.type "zip") [.str x t,.str y u]) Q E s:=by
 refine callType_new F.called_zip (by lia) (F.typeCall_zip_2 _ _) (F.newCall_zip_2 _ _) (λobj=>F.args_object_init_3 obj _ _) F.entry_zip_new (wF x y t u) ⟨h1,h2,?_⟩;have z1:(cj s.heap x t).objs.size=s.heap.objs.size+1:=yaR ..;have z2:(cj (cj s.heap x t) y u).objs.size=s.heap.objs.size+2:=(yaR ..).trans (by rw[z1]);have z3:(su s.heap x y t u).objs.size=s.heap.objs.size+3:=(yaR ..).trans (by rw[z2]);have z4:(sx s.heap x y t u).objs.size=s.heap.objs.size+4:=(yaR ..).trans (by rw[z3]);have g5:(sy s.heap x y t u).get? (sx s.heap x y t u).objs.size=some _:=yah _ rfl;have g4:(sy s.heap x y t u).get? (su s.heap x y t u).objs.size=some _:=yab _ (yah _ Z);have g3:(sy s.heap x y t u).get? (cj (cj s.heap x t) y u).objs.size=some _:=yab _ (yab _ (yah _ Z));have g2:(sy s.heap x y t u).get? (cj s.heap x t).objs.size=some _:=yab _ (yab _ (yab _ (yah _ Z)));have g1:(sy s.heap x y t u).get? s.heap.objs.size=some _:=yab _ (yab _ (yab _ (yab _ (yah _ Z))));have D:lX (sx s.heap x y t u).objs.size (cj (cj s.heap x t) y u).objs.size (su s.heap x y t u).objs.size s.heap.objs.size (cj s.heap x t).objs.size:=by
  generalize (sx s.heap x y t u).objs.size=e4 at z4 ⊢;generalize (su s.heap x y t u).objs.size=e3 at z3 ⊢;generalize (cj (cj s.heap x t) y u).objs.size=e2 at z2 ⊢;generalize (cj s.heap x t).objs.size=e1 at z1 ⊢;generalize s.heap.objs.size=e0 at*;constructor<;>(intro q;replace q:@Eq Nat _ _:=q;lia)
 refine⟨⟨_,g5,Z⟩,h _ _ _ _ _ _ D ⟨g5,g3,⟨_,_,g4⟩,?_,?_⟩ ?_ λc o q=>yab _ (yab _ (yab _ (yab _ (yab _ q))))⟩
 .rw[yeT];exact⟨_,g1,Z,Z⟩
 .rw[yeT];exact⟨_,g2,Z,Z⟩
 .intro b hb;simp only[yak,yaL,ycs]at hb;rcases hb with q|q|q|q|q
  .exact yap (ycQ _ 4) (ycu (z4.symm.trans q.symm))
  .exact yap (ycQ _ 2) (ycu (z2.symm.trans q.symm))
  .exact yap (ycQ _ 3) (ycu (z3.symm.trans q.symm))
  .exact ycu q.symm
  .exact yap (ycQ _ 1) (ycu (z1.symm.trans q.symm))
section
def LQ(ta:TA):TI:=λσ H R=>ta σ H λvs H1=>∃x y:Str,vs=[.str x,.str y]/\x.cps.all (· <128)=true/\y.cps.all (· <128)=true/\R (LN x y) H1
def Qd1{es:List Expr}{k:Nat}{tp:Pos}{ta:TA}{p pos:Pos}(hg:Gl X "zip")(hm:X.mg "zip"=none)(ha:PA X [a,b] ta)(hs:starEach [a,b] X.env=[(false,eval a X.env),(false,eval b X.env)]:=by rfl)(Id:starEach [b] X.env=[(false,eval b X.env)]:=by rfl):PI X (.Tuple es k tp) (.Call (.Name "zip" p) [a,b] [] pos) (LQ ta):=by
 intro U s σ H R I h;refine Call_ (ZV I hg hm boot_zip (yav (ay (ha pos U s σ H _ I h) λus s1⟨vs,H1,I1,r1,x,y,e,hx,hy,q⟩=>?_) (by rw[hs,Id]) (by rw[Id];rfl)));subst e;obtain⟨v,w,rfl,⟨t,rfl⟩,u,rfl⟩:=vals2 r1;refine yy hx hy λh1 z TI TO i1 i2 D st nw hk=>?_;refine wpAny_pyIter_zip (s:={s1 with heap:=h1}) st.1 ?_;exact⟨_,[z,TI,TO,i1,i2],_,_,H1,Z,I1.kept (t':=s1.toks) hk,yx D x y t u,st,λb hb=>I1.kY (nw b hb) (I1.ao.fresh (nw b hb)),q⟩
end
def yz{tt:TT}(Pv:Nat->List V->Hp->Prop)(h:∀R:List V->Hp->Prop,R [.str x,.str y] H->ta σ H R)(hx:x.cps.all (· <128)=true)(hy:y.cps.all (· <128)=true)(h0:Pv 0 [] H)(hl:∀i vs H,i<=min x.cps.size y.cps.size->Pv i vs H->vs.length<=i)(hs:∀i c d vs H p,x.cps[i]? =some c->y.cps[i]? =some d->Pv i vs H->H p=none->g (.ref p) (replicate NB.length none) (upd H p (.tup [.str ⟨#[c]⟩,.str ⟨#[d]⟩])) λσ2 H2=>tt σ2 H2 λb H3=>if b=true then te σ2 H3 λv H4=>Pv (i+1) (vs++[v]) H4 else Pv (i+1) vs H3)(hd:∀vs H,Pv (min x.cps.size y.cps.size) vs H->∀p,H p=none->Q (.ref p) (upd H p (.lst vs)))(hz:min x.cps.size y.cps.size<sizeLine):UF NB (LQ ta) g tt te σ H Q:=by
 refine h _ ⟨x,y,Z,hx,hy,?_⟩;exists λi m vs H=>m=min x.cps.size y.cps.size-i/\i<=min x.cps.size y.cps.size/\Pv i vs H,⟨min x.cps.size y.cps.size-0,Z,lF _,h0⟩;rintro i m vs H ⟨rfl,hi,p⟩;have hv:=hl i vs H hi p
 by_cases ap:i<min x.cps.size y.cps.size
 .refine .inr ⟨yfe.mp ap,by lia,Pv (i+1),λmt H' p'=>⟨min x.cps.size y.cps.size-(i+1),by lia,Z,ap,p'⟩,λv H' z=>?_⟩;obtain⟨q,c,d,hq,hc,hd,e,e2⟩:=z;subst e e2;exact hs i c d vs _ q hc hd p hq
 .have e:i=min x.cps.size y.cps.size:=by lia
  subst e;exact .inl ⟨tN _,hd vs H p⟩
def UR{K:Frag}{Y:Heap}{N:List Str}{qual:Str}{scope:Scope}{cd:Value}{L:List Env}{H:Hp}{E:XK}:PassesOwn (model (jn (av P w) P w K mg Y N qual scope f cd A L s H E).prog (jn (av P w) P w K mg Y N qual scope f cd A L s H E).w) (jn (av P w) P w K mg Y N qual scope f cd A L s H E).A (jn (av P w) P w K mg Y N qual scope f cd A L s H E).env (jn (av P w) P w K mg Y N qual scope f cd A L s H E).xe:=by
 dsimp only[jn]
 passes_own
def QfV{K:Frag}{H:Hp}{xs:List V}(nL:zC K=true)(hO:CA H)(h:aC K H a xs):∃o,H a=some (.bY o (.lst xs)):=by
 rcases h with h|⟨o,its,n,hk,hc,_⟩
 .rcases h with h|⟨o,h⟩
  .rcases hO a with z|⟨o,ys,z⟩
   .rw[z]at h;cases h
   .rw[z]at h;cases h
  .exact⟨o,h⟩
 .exact absurd hc (wu nL hk)
def QbC{l:PySem.W.OpenLaw}{n k:Nat}{q:Program}{loose:List Str}{d:DefRec}{K:Params->Frag}{CX:World->de}{sp:World->Sp}{x:Str}(hn:l.most=some n)(iz:n<=sizeLine)(Ax:d.params.defaults=[])(hr:Zd k callerA)(hY:∀(w:World)(h:Heap),YP w h->(K w.params).In h)(nL:∀w:World,zC (K w.params)=true)(F:∀(w:World)(mg:Str->Option Value)(fa:Addr)(h:Heap),(K w.params).In h->h.Ns mainGlobals mg->mg d.name=some (.ref fa)->
   ∃fd:FuncData,(∀(s:Shared)(u:Value),BindsTo s fd ⟨[u],[]⟩ [(x,u)])/\∀Y:Heap,(K w.params).In Y->Y.Ns mainGlobals mg->ak l.prog w (K w.params) mg Y (CX w) k fa fd [x] (sp w))(GE:∀(w:World)(H:Hp)(a:Addr)(ns:List Int),ns.length<=n->(∃o,H a=some (.bY o (.lst (ns.map V.int))))->sp w [.ref a] H (λv _=>v=.bl true) λ_ _ _=>False)(AB:∀(w:World)(H:Hp)(s:Shared)(e:Value)(s':Shared),CX w [] H s (λ_ _ _=>False) e s'->False):PySem.W.WalkO q loose XP YP l.row.toRowW d [] (λf vs=>PySem.call f vs):=
 Rr hn iz Ax hr hY F (λw H a ns h1 h2 h3=>GE w H a ns h1 (QfV (nL w) h2 h3)) AB
section
def QbD:dB X "str.ljust" (λx vs H Q=>∃z i,x=.str z/\vs=[.int i]/\PadOk i=true/\Q (.str (Txt.ljust z i)) H):=by
 intro U s σ H x vs v us Q I rx rv h;obtain⟨z,i,rfl,rfl,hp,q⟩:=h;obtain⟨t,rfl⟩:=rx;obtain⟨u,rfl,t',rfl⟩:=vals1 rv;exact ydo F.slot_str_ljust F.entry_str_ljust (F.args_str_ljust_2 _ _) (gives_str_ljust z i t t' (ycv hp).1 (ycv hp).2) (ycO (fits_padR 32 (ycv hp).2) λt2 k=>⟨.str _,H,I.tok k,⟨t2,Z⟩,q⟩)
def QbE:dB X "str.rjust" (λx vs H Q=>∃z i,x=.str z/\vs=[.int i]/\PadOk i=true/\Q (.str (Txt.rjust z i)) H):=by
 intro U s σ H x vs v us Q I rx rv h;obtain⟨z,i,rfl,rfl,hp,q⟩:=h;obtain⟨t,rfl⟩:=rx;obtain⟨u,rfl,t',rfl⟩:=vals1 rv;exact ydo F.slot_str_rjust F.entry_str_rjust (F.args_str_rjust_2 _ _) (gives_str_rjust z i t t' (ycv hp).1 (ycv hp).2) (ycO (fits_padL 32 (ycv hp).2) λt2 k=>⟨.str _,H,I.tok k,⟨t2,Z⟩,q⟩)
end
inductive bF (w:World):List DictEntry->List (Key × V)->Prop where
 |nil:bF w [] []
 |cons {h:Int} {x:Str} {a:Addr} {t:Tok} {es:List DictEntry} {al:List (Key × V)} (e:h=eZ w (.inr x)) (r:bF w es al):bF w (⟨h,.str x t,.ref a⟩::es) ((Sum.inr x,.ref a)::al)
def bF.pairs{al:List (Key × V)}(h:bF w es al):∃vs,KV al vs/\Pairs (QY P w) es vs/\vs.map (·.1)=al.map (·.1)/\∀e∈es,∃k,(QY P w).is k e.key=true/\e.hash=eZ w k:=by
 induction h with
 |nil=>exact⟨[],.nil,.nil,Z,λe he=>by cases he⟩
 |@cons hh x a t es al e r ih=>
  obtain⟨vs,h1,h2,h3,h4⟩:=ih;refine⟨(Sum.inr x,.ref a)::vs,.cons ⟨Z,Z⟩ h1,.cons (Ju P w x t) rfl h2,by rw[lC,lC,h3],λq hq=>?_⟩;rcases yak.mp hq with rfl|hq
  .exact⟨_,Ju P w x t,e⟩
  .exact h4 q hq
def yA{K:Frag}{n:Nat}{al:List (Key × V)}(ne:(a==sysModules)=false)(l:K.lookup a=some ⟨.type "dict",none,.dict es n, #[]⟩)(h:bF w es.toList al)(nd:(al.map (·.1)).Nodup):aD P w K a al:=by
 obtain⟨vs,h1,h2,h3,h4⟩:=h.pairs (P:=P);exact⟨ne,λhp KX=>⟨vs,h1,_,_,_,KX a _ l,⟨Z,Z,Z⟩,Z,λe he=>h4 e (by simpa using he),h2,by rw[h3];exact nd⟩⟩
def QbF{fd:FuncData}{args:Args}{binds:List (Str × Value)}{name:Str}(h1:bindArgs fd args=nsGet kd name>>=k)(hn:s.heap.Ns kd m)(hv:m name=some v)(h2:k (some v)=pure binds):BindsTo s fd args binds:=
 λ_ _ _ _ hq=>by
  rw[h1];refine yaa (wpAny_nsGet hn ?_);rw[hv,h2];exact yac hq
structure dH(P:Program)(w:World)(K:Frag)(mg:Str->Option Value)(Y:Heap)(k:Nat)(x:Str)(ps:List Str)(dv:V)(sp:Sp):Prop where
 ex:∃f fd d,mg x=some (.ref f)/\keepIn K (.ref f)=true/\Binds K fd ps [d]/\RelV dv d/\Zz1 P w K mg Y k f fd ps sp
noncomputable def sA{α:Type}:List α->List α->List α
 |[a,b,c],[d]=>[a,b,c,d]
 |_,_=>[]
def Qd2{vs zs:List V}{us ws:List Value}(r:Vals vs us)(r2:Vals zs ws):Vals (sA vs zs) (sA us ws):=by
 match r,r2 with
 | .cons a (.cons b (.cons c .nil)),.cons d .nil=>exact .cons a (.cons b (.cons c (.cons d .nil)))
 | .nil,_=>exact .nil
 | .cons _ .nil,_=>exact .nil
 | .cons _ (.cons _ .nil),_=>exact .nil
 | .cons _ (.cons _ (.cons _ (.cons _ _))),_=>exact .nil
 | .cons _ (.cons _ (.cons _ .nil)),.nil=>exact .nil
 | .cons _ (.cons _ (.cons _ .nil)),.cons _ (.cons _ _)=>exact .nil
def Qd3{us ws:List α}(h:(sA us ws).length=4):∃a b c d,us=[a,b,c]/\ws=[d]:=by
 match us,ws,h with
 |[a,b,c],[d],_=>exact⟨a,b,c,d,Z,Z⟩
structure bO(P:Program)(w:World)(K:Frag)(mg:Str->Option Value)(Y:Heap)(k:Nat)(x:Str)(ps ks:List Str)(sp:Sp):Prop where
 ex:∃f fd,mg x=some (.ref f)/\keepIn K (.ref f)=true/\b7 K fd ps ks sA sA/\Zz1 P w K mg Y k f fd ps sp
section
variable {X:Cx}{k k':Nat}{x:Str}{ps ks:List Str}{dv:V}{sp:Sp}{E:XK}{p pos:Pos}{e:Expr}{es:List Expr}{t tk:TA}{Ev:List Keyword}
def dH.pe(D:dH X.prog X.w X.K X.mg X.Y k x ps dv sp)(hr:Zd k' X.A)(hk:k<=k')(hg:Gl X x)(hx:Passes (av X.prog X.w) X E)(ha:PA X (e::es) t)(mo:(x==("__debug__":Str))=false:=by lia)(he:starEach (e::es) X.env=(false,eval e X.env)::starEach es X.env:=by rfl)(db:(backTo pos (starEach es X.env)).any (·.1)=false:=by rfl):PE X (.Call (.Name x p) (e::es) [] pos) (XW sp [dv] E t):=by
 obtain⟨f,fd,d,h1,h2,h3,h5,h4⟩:=D.ex;exact vF h4 (hr.mono hk) hg h1 h2 h3 (.cons h5 .nil) hx ha mo he db
def bO.pe(D:bO X.prog X.w X.K X.mg X.Y k x ps ks sp)(hr:Zd k' X.A)(hk:k<=k')(hg:Gl X x)(hx:Passes (av X.prog X.w) X E)(ha:PA X (e::es) t)(Ao:PK X Ev tk)(ms:(backToKw pos (keywordEach Ev X.env)).all (·.1.isSome)=true:=by rfl)(Ap:(backToKw pos (keywordEach Ev X.env)).filterMap (·.1)=ks:=by rfl)(mo:(x==("__debug__":Str))=false:=by lia)(he:starEach (e::es) X.env=(false,eval e X.env)::starEach es X.env:=by rfl)(db:((backTo pos (starEach (e::es) X.env)).any (·.1)||(backToKw pos (keywordEach Ev X.env)).any (·.1.isNone))=false:=by rfl):PE X (.Call (.Name x p) (e::es) Ev pos) (vI sp sA E t tk):=by
 obtain⟨f,fd,h1,h2,h3,h4⟩:=D.ex;exact xC h4 (hr.mono hk) hg h1 h2 h3 hx ha Ao ms Ap mo he db
end
def LR{K:Frag}{x:Str}(X:K.In h)(G:h.Ns N m)(e:nsIn K N x=some (some v)):m x=some v:=by
 obtain⟨o,es,ep,ho,hd,_,hf⟩:=G;unfold nsIn at e
 split at e
 .rename_i c d es2 n2 sl q;have z:=X _ _ q;rw[ho]at z;cases z;cases hd
  split at e
  .rename_i en he;cases e;rw[<-hf];unfold nsFind findBy;rw[<-Array.find?_toList,he];rfl
  .split at e<;>cases e
 .cases e
structure aN(K:Frag)(x:Str)(st:Stmt)(nm:Str)(v:Value):Prop where
 ex:∃(f kd:Addr)(oc:Value)(od:Option Addr)(doc pm:Value)(an:Option Addr)(am ct:Value)(ge:Array (Option Value)),nsIn K mainGlobals x=some (some (.ref f))/\
  K.lookup f=some ⟨oc,od,.func (fnOf x x (Q8 st) (QS st) (Qe st) .none (.ref kd) doc pm an am ct),ge⟩/\codeIn K am x=true/\keepIn K (.ref f)=true/\nsOkIn K kd=true/\nsIn K kd nm=some (some v)
def yB{K:Frag}{x:Str}{st:Stmt}{nm:Str}{od an:Option Addr}{ge:Array (Option Value)}{doc pm am ct:Value}(a:nsIn K mainGlobals x=some (some (.ref f)))(l:K.lookup f=some ⟨oc,od,.func (fnOf x x (Q8 st) (QS st) (Qe st) .none (.ref kd) doc pm an am ct),ge⟩)(c:codeIn K am x=true)(k:keepIn K (.ref f)=true)(n:nsOkIn K kd=true)(d:nsIn K kd nm=some (some v)):aN K x st nm v:=
 ⟨f,kd,oc,od,doc,pm,an,am,ct,ge,a,l,c,k,n,d⟩
section
variable {P:Program}{w:World}{K:Frag}{mg:Str->Option Value}{Y h:Heap}{x:Str}{st:Stmt}{k:Nat}{sp:Sp}
def aN.QiL{v0:Value}(D:aN K x st p4 v0)(X:K.In h)(G:h.Ns mainGlobals mg)(ao:∀f fd,az K x x st f fd->Zz1 P w K mg Y k f fd [p1,p2,p3,p4] sp)(hb:∀(kV doc pm:Value)(an:Option Addr)(am ct:Value)(u1 u2 u3 v:Value),bindArgs (fnOf x x (Q8 st) (QS st) (Qe st) .none kV doc pm an am ct) ⟨[u1,u2,u3],[(p4,v)]⟩=pure [(p1,u1),(p2,u2),(p3,u3),(p4,v)]):bO P w K mg Y k x [p1,p2,p3,p4] [p4] sp:=by
 obtain⟨f,kd,oc,od,doc,pm,an,am,ct,ge,a,l,c,kp,n,d⟩:=D.ex;refine⟨f,_,mg_of X G a,kp,⟨λs us ws _ hl=>?_,Qd2⟩,ao f _ ⟨⟨oc,od,.ref kd,doc,pm,an,am,ct,ge,Z,l,c⟩,kp⟩⟩;obtain⟨u1,u2,u3,v,rfl,rfl⟩:=Qd3 hl;exact .of_eq (hb (.ref kd) doc pm an am ct u1 u2 u3 v)
end
inductive ck (m:Sem (List (Str × Value))) (n:Sem (Option Value)) (v:Value) (b:List (Str × Value)):Prop where
 |mk {σ τ:Type} (g1:Option Value->Sem σ) (g2:σ->Sem τ) (g3:τ->Sem (List (Str × Value))) (h1:m=Sem.bind (Sem.bind (Sem.bind n g1) g2) g3) (h2:Sem.bind (Sem.bind (g1 (some v)) g2) g3=pure b):ck m n v b
theorem ck.binds{fd:FuncData}{args:Args}{binds:List (Str × Value)}{name:Str}(B:ck (bindArgs fd args) (nsGet kd name) v binds)(hn:s.heap.Ns kd m)(hv:m name=some v):BindsTo s fd args binds:=by
 obtain⟨g1,g2,g3,h1,h2⟩:=B;refine QbF (k:=λo=>(g1 o>>=g2)>>=g3) (h1.trans ?_) hn hv h2;show(nsGet kd name>>=g1>>=g2)>>=g3=nsGet kd name>>=λo=>(g1 o>>=g2)>>=g3;rw[bind_assoc,bind_assoc]
 congr 1
 funext o
 rw[bind_assoc]
def yC{K:Frag}{n:Nat}(l:K.lookup N=some ⟨c,d,.dict es n,sl⟩)(h:(es.toList.all λe=>match e.key with| .str _ _=>true|_=>false)=true):nsOkIn K N=true:=by
 unfold nsOkIn;rw[l];show Array.all es _=true;rw[<-Array.all_toList];exact h
noncomputable def sC{α:Type}:List α->List α->List α
 |[a,b],[d]=>[a,b,d]
 |_,_=>[]
def Qd4{vs zs:List V}{us ws:List Value}(r:Vals vs us)(r2:Vals zs ws):Vals (sC vs zs) (sC us ws):=by
 match r,r2 with
 | .cons a (.cons b .nil),.cons d .nil=>exact .cons a (.cons b (.cons d .nil))
 | .nil,_=>exact .nil
 | .cons _ .nil,_=>exact .nil
 | .cons _ (.cons _ (.cons _ _)),_=>exact .nil
 | .cons _ (.cons _ .nil),.nil=>exact .nil
 | .cons _ (.cons _ .nil),.cons _ (.cons _ _)=>exact .nil
def Qd5{us ws:List α}(h:(sC us ws).length=3):∃a b d,us=[a,b]/\ws=[d]:=by
 match us,ws,h with
 |[a,b],[d],_=>exact⟨a,b,d,Z,Z⟩
structure bP(P:Program)(w:World)(K:Frag)(mg:Str->Option Value)(Y:Heap)(k:Nat)(x:Str)(ps ks:List Str)(sp:Sp):Prop where
 ex:∃f fd,mg x=some (.ref f)/\keepIn K (.ref f)=true/\b7 K fd ps ks sC sC/\Zz1 P w K mg Y k f fd ps sp
section
variable {X:Cx}{k k':Nat}{x:Str}{ps ks:List Str}{dv:V}{sp:Sp}{E:XK}{p pos:Pos}{e:Expr}{es:List Expr}{t tk:TA}{Ev:List Keyword}
def bP.pe(D:bP X.prog X.w X.K X.mg X.Y k x ps ks sp)(hr:Zd k' X.A)(hk:k<=k')(hg:Gl X x)(hx:Passes (av X.prog X.w) X E)(ha:PA X (e::es) t)(Ao:PK X Ev tk)(ms:(backToKw pos (keywordEach Ev X.env)).all (·.1.isSome)=true:=by rfl)(Ap:(backToKw pos (keywordEach Ev X.env)).filterMap (·.1)=ks:=by rfl)(mo:(x==("__debug__":Str))=false:=by lia)(he:starEach (e::es) X.env=(false,eval e X.env)::starEach es X.env:=by rfl)(db:((backTo pos (starEach (e::es) X.env)).any (·.1)||(backToKw pos (keywordEach Ev X.env)).any (·.1.isNone))=false:=by rfl):PE X (.Call (.Name x p) (e::es) Ev pos) (vI sp sC E t tk):=by
 obtain⟨f,fd,h1,h2,h3,h4⟩:=D.ex;exact xC h4 (hr.mono hk) hg h1 h2 h3 hx ha Ao ms Ap mo he db
end
section
variable {P:Program}{w:World}{K:Frag}{mg:Str->Option Value}{Y h:Heap}{x:Str}{st:Stmt}{k:Nat}{sp:Sp}{p1 p2 p3:Str}
def aN.QiM(D:aN K x st p3 (.bool b))(X:K.In h)(G:h.Ns mainGlobals mg)(ao:∀f fd,az K x x st f fd->Zz1 P w K mg Y k f fd [p1,p2,p3] sp)(hb:∀(kd:Addr)(doc pm:Value)(an:Option Addr)(am ct:Value)(u1 u2:Value),ck (bindArgs (fnOf x x (Q8 st) (QS st) (Qe st) .none (.ref kd) doc pm an am ct) ⟨[u1,u2],[]⟩) (nsGet kd p3) (.bool b) [(p1,u1),(p2,u2),(p3,.bool b)]):dH P w K mg Y k x [p1,p2,p3] (.bl b) sp:=by
 obtain⟨f,kd,oc,od,doc,pm,an,am,ct,ge,a,l,c,kp,n,d⟩:=D.ex;refine⟨f,_,.bool b,mg_of X G a,kp,λs us KX hl=>?_,Z,ao f _ ⟨⟨oc,od,.ref kd,doc,pm,an,am,ct,ge,Z,l,c⟩,kp⟩⟩;have Nk:s.heap.Ns kd (s.heap.nsMap kd):=.of_isNs (isNs_of_in KX n);have h3:us.length=2:=by simpa using hl
 match us,h3 with
 |[u1,u2],_=>exact(hb kd doc pm an am ct u1 u2).binds Nk (LR KX Nk d)
def aN.QfX{v0:Value}(D:aN K x st p3 v0)(X:K.In h)(G:h.Ns mainGlobals mg)(ao:∀f fd,az K x x st f fd->Zz1 P w K mg Y k f fd [p1,p2,p3] sp)(hb:∀(kV doc pm:Value)(an:Option Addr)(am ct:Value)(u1 u2 v:Value),bindArgs (fnOf x x (Q8 st) (QS st) (Qe st) .none kV doc pm an am ct) ⟨[u1,u2],[(p3,v)]⟩=pure [(p1,u1),(p2,u2),(p3,v)]):bP P w K mg Y k x [p1,p2,p3] [p3] sp:=by
 obtain⟨f,kd,oc,od,doc,pm,an,am,ct,ge,a,l,c,kp,n,d⟩:=D.ex;refine⟨f,_,mg_of X G a,kp,⟨λs us ws _ hl=>?_,Qd4⟩,ao f _ ⟨⟨oc,od,.ref kd,doc,pm,an,am,ct,ge,Z,l,c⟩,kp⟩⟩;obtain⟨u1,u2,v,rfl,rfl⟩:=Qd5 hl;exact .of_eq (hb (.ref kd) doc pm an am ct u1 u2 v)
end
inductive Dv where
 |aq|bl (b:Bool)|int (i:Int)|str (x:Str)|tup (ds:List Dv)
mutual
noncomputable def Dv.depth:Dv->Nat
 | .tup ds=>Dv.JY ds+1
 |_=>0
noncomputable def Dv.JY:List Dv->Nat
 |[]=>0
 |d::ds=>max (Dv.depth d) (Dv.JY ds)
end
mutual
noncomputable def Dv.aV:Dv->Dv->Bool
 | .aq,.aq=>true
 | .bl a,.bl b=>a==b
 | .bl a,.int b=>(if a then 1 else 0)==b
 | .int a,.bl b=>a==(if b then 1 else 0)
 | .int a,.int b=>a==b
 | .str a,.str b=>a==b
 | .tup xs,.tup ys=>Dv.vm xs ys
 |_,_=>false
noncomputable def Dv.vm:List Dv->List Dv->Bool
 |[],[]=>true
 |x::xs,y::ys=>Dv.aV x y&&Dv.vm xs ys
 |_,_=>false
end
mutual
inductive ag (H:Hp):V->Dv->Prop where
 |aq:ag H .aq .aq
 |bl {b:Bool}:ag H (.bl b) (.bl b)
 |int {i:Int}:ag H (.int i) (.int i)
 |str {x:Str}:ag H (.str x) (.str x)
 |tup {a:Addr} {xs:List V} {ds:List Dv} (h:H a=some (.tup xs)) (t:aj H xs ds):ag H (.ref a) (.tup ds)
inductive aj (H:Hp):List V->List Dv->Prop where
 |nil:aj H [] []
 |cons {x:V} {d:Dv} {xs:List V} {ds:List Dv} (h:ag H x d) (t:aj H xs ds):aj H (x::xs) (d::ds)
end
theorem aj.length:∀{xs:List V}{ds:List Dv},aj H xs ds->xs.length=ds.length
 |_,_,.nil=>rfl
 |_,_,.cons _ t=>yaF (· +1) t.length
theorem aj.zM:∀{xs:List V}{ds:List Dv}{i:Nat}{x:V},aj H xs ds->xs[i]? =some x->∃d,ds[i]? =some d/\ag H x d
 |_,_,_,_,.nil,e=>by simp at e
 |_,_,0,_,.cons h _,e=>by
  simp at e;subst e;exact⟨_,Z,h⟩
 |_,_,i+1,x,.cons _ t,e=>by
  obtain⟨d,h1,h2⟩:=aj.zM (i:=i) (x:=x) t (by simpa using e);exact⟨d,by simpa using h1,h2⟩
theorem aj.append:∀{xs ys:List V}{ds es:List Dv},aj H xs ds->aj H ys es->aj H (xs++ys) (ds++es)
 |_,_,_,_,.nil,q=>q
 |_,_,_,_,.cons h t,q=>.cons h (aj.append t q)
theorem aj.take:∀{xs:List V}{ds:List Dv}(n:Nat),aj H xs ds->aj H (xs.take n) (ds.take n)
 |_,_,0,_=>.nil
 |_,_,_+1,.nil=>.nil
 |_,_,n+1,.cons h t=>.cons h (aj.take n t)
theorem aj.drop:∀{xs:List V}{ds:List Dv}(n:Nat),aj H xs ds->aj H (xs.drop n) (ds.drop n)
 |_,_,0,t=>t
 |_,_,_+1,.nil=>.nil
 |_,_,n+1,.cons _ t=>aj.drop n t
mutual
theorem ag.keep(k:∀b ys,H b=some (.tup ys)->H' b=some (.tup ys)):∀{x:V}{d:Dv},ag H x d->ag H' x d
 |_,_,.aq=>.aq
 |_,_,.bl=>.bl
 |_,_,.int=>.int
 |_,_,.str=>.str
 |_,_,.tup h t=>.tup (k _ _ h) (aj.keep k t)
theorem aj.keep(k:∀b ys,H b=some (.tup ys)->H' b=some (.tup ys)):∀{xs:List V}{ds:List Dv},aj H xs ds->aj H' xs ds
 |_,_,.nil=>.nil
 |_,_,.cons h t=>.cons (ag.keep k h) (aj.keep k t)
end
def ag.same{x:V}(h:ag H x d)(S:Qn H H'):ag H' x d:=h.keep (λb ys e=>S _ _ e)
def aj.same{H H':Hp}{xs:List V}{ds:List Dv}(h:aj H xs ds)(S:Qn H H'):aj H' xs ds:=h.keep (λb ys e=>S _ _ e)
section
variable {X:Cx}{U:List (Addr × Obj)}{σ:St}{H:Hp}{s:Shared}
mutual
theorem ag.inj(I:Inv X U σ H s):∀{x:V}{d e:Dv},ag H x d->ag H x e->d=e
 |_,_,_,.aq,.aq=>rfl
 |_,_,_,.bl,.bl=>rfl
 |_,_,_,.int,.int=>rfl
 |_,_,_,.str,.str=>rfl
 |_,_,_,.tup h t,.tup h2 t2=>by
  have e:=I.VL (.inl (.inl h)) (.inl (.inl h2));subst e;rw[aj.inj I t t2]
theorem aj.inj(I:Inv X U σ H s):∀{xs:List V}{ds es:List Dv},aj H xs ds->aj H xs es->ds=es
 |_,_,_,.nil,.nil=>rfl
 |_,_,_,.cons h t,.cons h2 t2=>by rw[ag.inj I h h2,aj.inj I t t2]
end
end
mutual
theorem Dv.Xz:∀d:Dv,d.aV d=true
 | .aq=>rfl
 | .bl b=>by cases b<;>rfl
 | .int i=>by unfold Dv.aV;exact ybg i
 | .str x=>by unfold Dv.aV;exact ybg x
 | .tup ds=>by unfold Dv.aV;exact Dv.V9 ds
theorem Dv.V9:∀ds:List Dv,Dv.vm ds ds=true
 |[]=>rfl
 |d::ds=>by unfold Dv.vm;rw[Dv.Xz d,Dv.V9 ds];rfl
end
theorem Dv.ZH:∀(ds es:List Dv),Dv.vm ds es=((List.range (min ds.length es.length)).all (λj=>((ds[j]?).getD .aq).aV ((es[j]?).getD .aq))&&ds.length==es.length)
 |[],[]=>rfl
 |[],e::es=>rfl
 |d::ds,[]=>rfl
 |d::ds,e::es=>by
  unfold Dv.vm;rw[Dv.ZH ds es,tQ,tQ,show min (ds.length+1) (es.length+1)=min ds.length es.length+1 by lia,List.range_succ_eq_map,yex,List.all_map,Bool.and_assoc]
  congr 1
  congr 1
  exact yda.mpr (by simp)
theorem Dv.Ku:∀{ds:List Dv}{i:Nat}{d:Dv},ds[i]? =some d->d.depth<=Dv.JY ds
 |[],_,_,e=>by simp at e
 |x::xs,0,d,e=>by
  simp at e;subst e;unfold Dv.JY;lia
 |x::xs,i+1,d,e=>by
  have:=Dv.Ku (ds:=xs) (i:=i) (d:=d) (by simpa using e);unfold Dv.JY;lia
section
variable {X:Cx}{U:List (Addr × Obj)}{σ:St}{H:Hp}{s:Shared}
def ag.LU(I:Inv X U σ H s)(hd:d.depth<=N)(hx:ag H x d)(hy:ag H y e)(hu:A.units+N<cLine)(rx:RelV x u)(ry:RelV y v)(ih:∀n,N=n+1->∀(d e:Dv)(x y:V),d.depth<=n->ag H x d->ag H y e->∀{A:Around}{u v:Value},A.units+n<cLine->RelV x u->RelV y v->SeqAt.EqAt A s u v (d.aV e)):SeqAt.EqAt A s u v (d.aV e):=by
 cases hx with
 |aq=>
  cases rx;cases hy with
  |aq=>
   cases ry;exact .same _
  |@bl b2=>
   cases ry;exact SeqAt.EqAt.none_bool b2
  |@int i2=>
   obtain⟨ty,rfl⟩:=ry;exact SeqAt.EqAt.none_int i2 ty
  |@str z2=>
   obtain⟨ty,rfl⟩:=ry;exact SeqAt.EqAt.none_str z2 ty
  |@tup a2 ys es h2 t2=>
   obtain rfl:v=Value.ref a2:=ry;obtain⟨ce,r2,p2,_⟩:=I.tuple (.inl (.inl h2));exact SeqAt.EqAt.none_tuple p2 (by lia)
 |@bl b=>
  cases rx;cases hy with
  |aq=>
   cases ry;exact SeqAt.EqAt.bool_none b
  |@bl b2=>
   cases ry;exact SeqAt.EqAt.bool_bool b b2
  |@int i2=>
   obtain⟨ty,rfl⟩:=ry;exact SeqAt.EqAt.bool_int b i2 ty
  |@str z2=>
   obtain⟨ty,rfl⟩:=ry;exact SeqAt.EqAt.bool_str b z2 ty
  |@tup a2 ys es h2 t2=>
   obtain rfl:v=Value.ref a2:=ry;obtain⟨ce,r2,p2,_⟩:=I.tuple (.inl (.inl h2));exact SeqAt.EqAt.bool_tuple b p2 (by lia)
 |@int i=>
  obtain⟨tx,rfl⟩:=rx;cases hy with
  |aq=>
   cases ry;exact SeqAt.EqAt.int_none i tx
  |@bl b2=>
   cases ry;exact SeqAt.EqAt.int_bool i tx b2
  |@int i2=>
   obtain⟨ty,rfl⟩:=ry;exact SeqAt.EqAt.int_int i tx i2 ty
  |@str z2=>
   obtain⟨ty,rfl⟩:=ry;exact yed i tx z2 ty
  |@tup a2 ys es h2 t2=>
   obtain rfl:v=Value.ref a2:=ry;obtain⟨ce,r2,p2,_⟩:=I.tuple (.inl (.inl h2));exact SeqAt.EqAt.int_tuple i tx p2 (by lia)
 |@str z=>
  obtain⟨tx,rfl⟩:=rx;cases hy with
  |aq=>
   cases ry;exact SeqAt.EqAt.str_none z tx
  |@bl b2=>
   cases ry;exact SeqAt.EqAt.str_bool z tx b2
  |@int i2=>
   obtain⟨ty,rfl⟩:=ry;exact yee z tx i2 ty
  |@str z2=>
   obtain⟨ty,rfl⟩:=ry;exact SeqAt.EqAt.str_str z tx z2 ty
  |@tup a2 ys es h2 t2=>
   obtain rfl:v=Value.ref a2:=ry;obtain⟨ce,r2,p2,_⟩:=I.tuple (.inl (.inl h2));exact SeqAt.EqAt.str_tuple z tx p2 (by lia)
 |@tup a xs ds h t=>
  obtain rfl:u=Value.ref a:=rx;obtain⟨its,r1,p1,_⟩:=I.tuple (.inl (.inl h));cases hy with
  |aq=>
   cases ry;exact SeqAt.EqAt.tuple_none p1 (by lia)
  |@bl b2=>
   cases ry;exact SeqAt.EqAt.tuple_bool b2 p1 (by lia)
  |@int i2=>
   obtain⟨ty,rfl⟩:=ry;exact SeqAt.EqAt.tuple_int i2 ty p1 (by lia)
  |@str z2=>
   obtain⟨ty,rfl⟩:=ry;exact SeqAt.EqAt.tuple_str z2 ty p1 (by lia)
  |@tup a2 ys es h2 t2=>
   obtain rfl:v=Value.ref a2:=ry;obtain⟨ce,r2,p2,_⟩:=I.tuple (.inl (.inl h2));obtain⟨n,rfl⟩:∃n,N=n+1:=⟨N-1,by have:=hd;unfold Dv.depth at this;lia⟩;have fE:=t.length;have sd:=t2.length;have q1:=r1.length;have q2:=r2.length;have z:=SeqAt.RcAt.tuples (A:=A) (s:=s) (e:=λj=>((ds[j]?).getD .aq).aV ((es[j]?).getD .aq)) p1 p2 (by lia) (VY (U:=U) (σ:=σ) (H:=H) (n:=n) r1 r2 λj x y u v g1 g2 w1 w2=>?_)
   .rw[lE,lE, <-q1, <-q2,fE,sd, <-Dv.ZH]at z
    by_cases ne:a=a2
    .subst ne;rw[ag.inj I (.tup h t) (.tup h2 t2),Dv.Xz];exact .same _
    .unfold Dv.aV;exact .of_refs ne z
   .obtain⟨d1,k1,k2⟩:=t.zM g1;obtain⟨e1,m1,m2⟩:=t2.zM g2;show SeqAt.EqAt A.in1 s u v (((ds[j]?).getD .aq).aV ((es[j]?).getD .aq));rw[k1,m1];exact ih n rfl d1 e1 x y (yap (Dv.Ku k1) (by have:=hd;unfold Dv.depth at this;lia)) k2 m2 (by show A.units+1+n<cLine;lia) w1 w2
def ag.at(I:Inv X U σ H s):∀(n:Nat)(d e:Dv)(x y:V),d.depth<=n->ag H x d->ag H y e->∀{A:Around}{u v:Value},A.units+n<cLine->RelV x u->RelV y v->SeqAt.EqAt A s u v (d.aV e):=by
 intro n
 induction n with
 |zero=>
  intro d e x y hd hx hy A u v hu rx ry;exact ag.LU I hd hx hy hu rx ry λn hn=>absurd hn (by lia)
 |succ n ih=>
  intro d e x y hd hx hy A u v hu rx ry;refine ag.LU I hd hx hy hu rx ry λm hm=>?_;obtain rfl:n=m:=by lia
  exact ih
def ag.QiN(I:Inv X U σ H s)(hd:d.depth<=n)(hx:ag H x d)(hy:ag H y e)(hu:X.A.units+n<cLine)(rx:RelV x u)(ry:RelV y v):SeqAt.RcNeAt X.A s u v (!(d.aV e)):=by
 cases hx with
 |aq=>
  cases rx;cases hy with
  |aq=>
   cases ry;exact SeqAt.RcNeAt.none_none
  |@bl b2=>
   cases ry;exact SeqAt.RcNeAt.none_bool b2
  |@int i2=>
   obtain⟨ty,rfl⟩:=ry;exact SeqAt.RcNeAt.none_int i2 ty
  |@str z2=>
   obtain⟨ty,rfl⟩:=ry;exact SeqAt.RcNeAt.none_str z2 ty
  |@tup a2 ys es h2 t2=>
   obtain rfl:v=Value.ref a2:=ry;obtain⟨ce,r2,p2,_⟩:=I.tuple (.inl (.inl h2));exact SeqAt.RcNeAt.none_tuple p2 (by lia)
 |@bl b=>
  cases rx;cases hy with
  |aq=>
   cases ry;exact SeqAt.RcNeAt.bool_none b
  |@bl b2=>
   cases ry;exact SeqAt.RcNeAt.bool_bool b b2
  |@int i2=>
   obtain⟨ty,rfl⟩:=ry;exact SeqAt.RcNeAt.bool_int b i2 ty
  |@str z2=>
   obtain⟨ty,rfl⟩:=ry;exact SeqAt.RcNeAt.bool_str b z2 ty
  |@tup a2 ys es h2 t2=>
   obtain rfl:v=Value.ref a2:=ry;obtain⟨ce,r2,p2,_⟩:=I.tuple (.inl (.inl h2));exact SeqAt.RcNeAt.bool_tuple b p2 (by lia)
 |@int i=>
  obtain⟨tx,rfl⟩:=rx;cases hy with
  |aq=>
   cases ry;exact SeqAt.RcNeAt.int_none i tx
  |@bl b2=>
   cases ry;exact SeqAt.RcNeAt.int_bool i tx b2
  |@int i2=>
   obtain⟨ty,rfl⟩:=ry;exact SeqAt.RcNeAt.int_int i tx i2 ty
  |@str z2=>
   obtain⟨ty,rfl⟩:=ry;exact SeqAt.RcNeAt.int_str i tx z2 ty
  |@tup a2 ys es h2 t2=>
   obtain rfl:v=Value.ref a2:=ry;obtain⟨ce,r2,p2,_⟩:=I.tuple (.inl (.inl h2));exact SeqAt.RcNeAt.int_tuple i tx p2 (by lia)
 |@str z=>
  obtain⟨tx,rfl⟩:=rx;cases hy with
  |aq=>
   cases ry;exact SeqAt.RcNeAt.str_none z tx
  |@bl b2=>
   cases ry;exact SeqAt.RcNeAt.str_bool z tx b2
  |@int i2=>
   obtain⟨ty,rfl⟩:=ry;exact SeqAt.RcNeAt.str_int z tx i2 ty
  |@str z2=>
   obtain⟨ty,rfl⟩:=ry;exact SeqAt.RcNeAt.str_str z tx z2 ty
  |@tup a2 ys es h2 t2=>
   obtain rfl:v=Value.ref a2:=ry;obtain⟨ce,r2,p2,_⟩:=I.tuple (.inl (.inl h2));exact SeqAt.RcNeAt.str_tuple z tx p2 (by lia)
 |@tup a xs ds h t=>
  obtain rfl:u=Value.ref a:=rx;obtain⟨its,r1,p1,_⟩:=I.tuple (.inl (.inl h));cases hy with
  |aq=>
   cases ry;exact SeqAt.RcNeAt.tuple_none p1 (by lia)
  |@bl b2=>
   cases ry;exact SeqAt.RcNeAt.tuple_bool b2 p1 (by lia)
  |@int i2=>
   obtain⟨ty,rfl⟩:=ry;exact SeqAt.RcNeAt.tuple_int i2 ty p1 (by lia)
  |@str z2=>
   obtain⟨ty,rfl⟩:=ry;exact SeqAt.RcNeAt.tuple_str z2 ty p1 (by lia)
  |@tup a2 ys es h2 t2=>
   obtain rfl:v=Value.ref a2:=ry;obtain⟨ce,r2,p2,_⟩:=I.tuple (.inl (.inl h2));have fE:=t.length;have sd:=t2.length;have q1:=r1.length;have q2:=r2.length;have Rs:Dv.JY ds+1<=n:=by have:=hd;unfold Dv.depth at this;exact this
   have z:=SeqAt.RcNeAt.tuples (A:=X.A) (s:=s) (e:=λj=>((ds[j]?).getD .aq).aV ((es[j]?).getD .aq)) p1 p2 (by lia) (VY (U:=U) (σ:=σ) (H:=H) (n:=n) r1 r2 λj x y u v g1 g2 w1 w2=>?_)
   .rw[lE,lE, <-q1, <-q2,fE,sd, <-Dv.ZH]at z;unfold Dv.aV;exact z
   .obtain⟨d1,k1,k2⟩:=t.zM g1;obtain⟨e1,m1,m2⟩:=t2.zM g2;show SeqAt.EqAt X.A.in1 s u v (((ds[j]?).getD .aq).aV ((es[j]?).getD .aq));rw[k1,m1];exact ag.at I (n-1) d1 e1 x y (yap (Dv.Ku k1) (by lia)) k2 m2 (by show X.A.units+1+(n-1)<cLine;lia) w1 w2
def Qhs(n:Nat)(neg:Bool):R2:=λx y H Q=>∃d e,ag H x d/\ag H y e/\d.depth<=n/\Q (.bl (if neg then !(d.aV e)else d.aV e)) H
def zN(hu:X.A.units+n<cLine):aQ X (compareOp .NotEq) (Qhs n true):=by
 intro U s σ H x y v u Q I rx ry h;obtain⟨d,e,hx,hy,hd,q⟩:=h;exact ag.QiN I hd hx hy hu rx ry X.prog X.w X.xe _ ⟨.bl _,H,I,Z,q⟩
end
section
variable {prog:Program}{tt:Addr}
def QfY(g:s.heap.IsTupleIter j tt n)(gt:s.heap.IsTuple tt its)(gv:its[n]? =some v)(k:∀h',h'.IsTupleIter j tt (n+1)->Heap.SameBut j s.heap h'->Q v {s with heap:=h'}):wpAny (model prog w) A (Builtin.SmallTypes.nextOf (.ref j)) Q E s:=by
 obtain⟨o,ho,hc,hd⟩:=id g;obtain⟨ol,sD,_,nl,Gc⟩:=gt;unfold Builtin.SmallTypes.nextOf;refine yaa (yaQ (name:=Str.ofString "__next__") g.typeIs ybO (yaN ybO g.typeIs ydV ?_ (ydK _)));show wpAny _ _ (field (.ref j) 0>>=_) _ _ s;refine yaa (yaH ho hd (x:=.ref tt) Z ?_);show wpAny _ _ (if(Value.ref tt==Value.none)=true then _ else _) _ _ s;rw[yag (show ¬ ((Value.ref tt==Value.none)=true)from yal)];show wpAny _ _ (field (.ref j) 1>>=_) _ _ s;refine yaa (yaH ho hd (x:=.int n 0) Z ?_);show wpAny _ _ (seqItems? (.ref tt)>>=_) _ _ s;refine yaa (ybe sD Gc ?_);simp only[lH,gv];refine yaa (wpAny_setField ho hd (by simp) (yac ⟨v,Z,yac (k _ ?_ (ydW ..))⟩));exact⟨_,ybt _ ho (Obj.isFreed_of_fields (Obj.data_mapFields hd _)),(Obj.cls_mapFields ..).trans hc,by rw[Obj.data_mapFields hd];simp[rawInt]⟩
def Qd6(hh:A.handled=none)(g:s.heap.IsTupleIter j tt n)(gt:s.heap.IsTuple tt its)(gv:its[n]? =none)(k:∀h' e,Heap.ExtBut j s.heap h'->(∃o,h'.get? e=some o/\o.cls=.type "StopIteration")->E (.ref e) {s with heap:=h'}):wpAny (model prog w) A (Builtin.SmallTypes.nextOf (.ref j)) Q E s:=by
 obtain⟨o,ho,hc,hd⟩:=id g;obtain⟨ol,sD,_,nl,Gc⟩:=gt;unfold Builtin.SmallTypes.nextOf;refine yaa (yaQ (name:=Str.ofString "__next__") g.typeIs ybO (yaN ybO g.typeIs ydV ?_ (ydK _)));show wpAny _ _ (field (.ref j) 0>>=_) _ _ s;refine yaa (yaH ho hd (x:=.ref tt) Z ?_);show wpAny _ _ (if(Value.ref tt==Value.none)=true then _ else _) _ _ s;rw[yag (show ¬ ((Value.ref tt==Value.none)=true)from yal)];show wpAny _ _ (field (.ref j) 1>>=_) _ _ s;refine yaa (yaH ho hd (x:=.int n 0) Z ?_);show wpAny _ _ (seqItems? (.ref tt)>>=_) _ _ s;refine yaa (ybe sD Gc ?_);simp only[lH,gv];refine yaa (ycX (yaa (wpAny_setField ho hd (by simp) ?_)));show wpAny _ _ (newExc (.type "StopIteration") []>>=_) _ _ _;refine yaa ?_;simp only[newExc,newTuple];refine yaa (yaW ?_ (by size_fits));refine yaa (m:=firstArgMember _ _) (ybC (a:=Value.none) (by first|rfl|(simp only[firstArgMember];rfl)) ?_);refine yaW ?_ (by size_fits);simp only[raiseNew];refine yaa (wpAny_handled ?_)
 first|rw[show A.in1.handled=none from hh]|rw[hh]
 refine yaa (yac (wpAny_throw ?_));exact k _ _ (((ydW ..).extBut.push _).push _) ⟨_,yah _ rfl,Z⟩
end
inductive Sk where|tp|ls
def iK(k:Sk)(h:Heap)(it a:Addr)(i:Nat):Prop:=match k with| .tp=>h.IsTupleIter it a i| .ls=>h.IsListIter it a i
def sE(k:Sk)(h:Heap)(a:Addr)(its:Array Value):Prop:=match k with| .tp=>h.IsTuple a its| .ls=>h.IsList a its
def LV{prog:Program}(k:Sk)(hh:A.handled=none)(it a:Addr)(ne:a≠it)(its:Array Value):Draws prog w A it [it,a] its.size (λi v=>its[i]? =some v) (λi h=>iK k h it a i/\sE k h a its):=by
 cases k with
 |ls=>exact Draws.list hh it a ne its
 |tp=>
  exact{live:=λ_ _ st=>let ⟨o,ho,_⟩:=st.1;⟨o,ho⟩,frame:=λ_ _ _ st hk=>⟨let ⟨o,ho,r⟩:=st.1;⟨o,hk it (by simp) o ho,r⟩,let ⟨o,ho,r⟩:=st.2;⟨o,hk a (by simp) o ho,r⟩⟩,item:=λi s Q E hi st hQ=>(by
       refine QfY st.1 st.2 (v:=its[i]) (by simp[hi]) λh' g hs=>?_;exact hQ _ h' s.toks (by simp[hi]) ⟨g,let ⟨o,ho,r⟩:=st.2;⟨o,(hs.2 a ne).trans ho,r⟩⟩ hs),done:=λs Q E st hE=>Qd6 hh st.1 st.2 (by simp) hE}
def iL(k:Sk)(K:Frag)(H:Hp)(a:Addr)(xs:List V):Prop:=match k with| .tp=>aw K H a xs| .ls=>aC K H a xs
def Inv.sk{X:Cx}{U:List (Addr × Obj)}{σ:St}{xs:List V}(I:Inv X U σ H s)(h:iL k X.K H a xs):∃its:List Value,Vals xs its/\sE k s.heap a its.toArray/\xs.length<=sizeLine:=by
 cases k with
 |tp=>
  obtain⟨its,r,p,z⟩:=I.tuple h;exact⟨its,r,p,z⟩
 |ls=>
  obtain⟨its,r,p,z⟩:=I.list h;exact⟨its,r,p.isList,z⟩
def Inv.Qf0{X:Cx}{U:List (Addr × Obj)}{σ:St}{xs ys:List V}(I:Inv X U σ H s)(h:iL k X.K H a xs)(h':iL k X.K H a ys):xs=ys:=by
 obtain⟨its,r,p,_⟩:=I.sk h;obtain⟨ce,r2,p2,_⟩:=I.sk h';have e:its=ce:=by
  cases k with
  |tp=>
   obtain⟨o,ho,_,n,hd⟩:=p;obtain⟨o2,Ps,_,n2,hd2⟩:=p2;obtain rfl:=tO (ho.symm.trans Ps);have:=hd.symm.trans hd2;injection this with q;simpa using q
  |ls=>
   obtain⟨o,ho,_,n,hd⟩:=p;obtain⟨o2,Ps,_,n2,hd2⟩:=p2;obtain rfl:=tO (ho.symm.trans Ps);have:=hd.symm.trans hd2;injection this with q;simpa using q
 subst e;exact Vals.inj r r2
def CS(h:a≠b):Value.type a≠Value.type b:=λz=>h (by injection z)
def LW{it a:Addr}(g:iK k h it a i)(p:sE k h a its):a≠it:=by
 cases k with
 |tp=>
  obtain⟨o,ho,hc,_⟩:=g;obtain⟨o2,Ps,df,_⟩:=p;rintro rfl;obtain rfl:=tO (ho.symm.trans Ps);exact CS (by lia) (hc.symm.trans df)
 |ls=>
  obtain⟨o,ho,hc,_⟩:=g;obtain⟨o2,Ps,df,_⟩:=p;rintro rfl;obtain rfl:=tO (ho.symm.trans Ps);exact CS (by lia) (hc.symm.trans df)
def LX{it a:Addr}(g:iK k h it a i):∃o,h.get? it=some o/\∀v,o.data≠ .cell v:=by
 cases k with
 |tp=>obtain⟨o,ho,hc,hd⟩:=g;exact⟨o,ho,λv q=>by rw[hd]at q;cases q⟩
 |ls=>obtain⟨o,ho,hc,hd⟩:=g;exact⟨o,ho,λv q=>by rw[hd]at q;cases q⟩
def yD{it a:Addr}(g:iK k h it a i)(kk:∀o,h.get? it=some o->h'.get? it=some o):iK k h' it a i:=by
 cases k with
 |tp=>obtain⟨o,ho,r⟩:=g;exact⟨o,kk o ho,r⟩
 |ls=>obtain⟨o,ho,r⟩:=g;exact⟨o,kk o ho,r⟩
def Qf2(p:sE k h a its)(e:h.get? a=some o):o.cls=.type "tuple"\/o.cls=.type "list":=by
 cases k with
 |tp=>obtain⟨o2,ho,hc,_⟩:=p;obtain rfl:=tO (e.symm.trans ho);exact .inl hc
 |ls=>obtain⟨o2,ho,hc,_⟩:=p;obtain rfl:=tO (e.symm.trans ho);exact .inr hc
noncomputable def FK(k:Sk)(K:Frag)(a:Addr):It:=⟨λi H=>∃xs x,iL k K H a xs/\xs[i]? =some x,λi H v H'=>∃p,H p=none/\v=.ref p/\∀xs,iL k K H a xs->∃x,xs[i]? =some x/\H'=upd H p (.tup [.int (i:Nat),x]),λi H=>∃xs,iL k K H a xs/\xs.length=i⟩
def wG{P:Program}{w:World}{K:Frag}{es:List Expr}{n:Nat}{pos:Pos}(k:Sk)(e it a:Addr)(eF:e≠it):Turn P w K (.Tuple es n pos) (FK k K a) [e,it] e (λi h=>(∃old,IsEnum h e it (i:Nat) old)/\iK k h it a i) where
 mem:=by simp
 obj:=λi h st b hb=>by
  obtain⟨⟨old,he⟩,g⟩:=st;rcases yak.mp hb with rfl|hb
  .exact⟨_,he,λv q=>nomatch (show Data.fields _=Data.cell v from q)⟩
  .obtain rfl:b=it:=by simpa using hb
   exact LX g
 keep:=λi h h' st kk=>by
  obtain⟨⟨old,he⟩,g⟩:=st;exact⟨⟨old,kk e (by simp) _ he⟩,yD g λo=>kk it (by simp) o⟩
 item:=by
  intro X hP hw hK hc i U s σ H E I hf st hg;subst hP hw hK;obtain⟨⟨old,he⟩,g⟩:=st;obtain⟨xs,x,hq,hx⟩:=hg;obtain⟨its,rv,p,hz⟩:=I.sk hq;obtain⟨u,hu,ru⟩:=rv.get hx;have ap:i<its.toArray.size:=by
   rw[lE];exact(yaf.mp hu).1
  have hea:e≠a:=λq=>by
   rcases Qf2 p (q▸he)with z|z
   .exact CS (by lia) z
   .exact CS (by lia) z
  have D:=LV (prog:=X.prog) (w:=X.w) (A:=X.A.in1) k (I.ok.hd hc) it a (LW g p) its.toArray;refine wpAny_pyNext_enum_itemD D he ⟨g,p⟩ ap eF (by simp[eF,hea]) λv h1 tk hv ho FD hT hsz hk=>⟨_,Z,?_⟩;obtain rfl:v=u:=by
   have:its.toArray[i]? =some u:=by simpa using hu
   exact tO (hv.symm.trans this)
  refine yeb ho λh2 AX Id=>?_;have FE:s.heap.objs.size≠e:=λq=>absurd (yaj he) (by rw[<-q];exact lG _);refine⟨.ref s.heap.objs.size,upd H s.heap.objs.size (.tup [.int (i:Nat),x]),I.zL (ch:=[e,it]) hf (λb o hb q=>?_) (tN _) ?_,Z,⟨_,I.ao.fresh (tN _),Z,λys hy=>⟨x,by rw[I.Qf0 hy hq];exact hx,Z⟩⟩,⟨⟨_,AX⟩,?_⟩,λb hb=>?_⟩
  .simp only[yak,yaL,ycs,not_or]at hb;exact(Id.2 b hb.1).trans (hk b o hb.1 hb.2 q)
  .exact⟨by show 2<=sizeLine;lia,[.int (i:Nat) tk,v],.cons ⟨_,Z⟩ (.cons ru .nil),⟨_,(Id.2 _ FE).trans hT,Z,_,Z,Z⟩⟩
  .exact yD FD.1 λo q=>(Id.2 it eF.symm).trans q
  .have ap:b<s.heap.objs.size:=by
    rcases yak.mp hb with q|q
    .rw[q];exact yaj he
    .obtain⟨o,AY,_⟩:=LX g;rw[show b=it by simpa using q];exact yaj AY
   rw[Qo (yar ap)];exact(hf b hb).1
 done:=by
  intro X hP hw hK hc i U s σ H E I hf st hg;subst hP hw hK;obtain⟨⟨old,he⟩,g⟩:=st;obtain⟨xs,hq,hx⟩:=hg;obtain⟨its,rv,p,hz⟩:=I.sk hq;have hl:=rv.length;have D:=LV (prog:=X.prog) (w:=X.w) (A:=X.A.in1) k (I.ok.hd hc) it a (LW g p) its.toArray;have f8:iK k s.heap it a its.toArray.size/\sE k s.heap a its.toArray:=⟨by rw[lE, <-hl,hx];exact g,p⟩;exact wpAny_pyNext_enum_endD D he f8 λh1 eb=>⟨Z,I.zK (t':=s.toks) (ch:=[e,it]) hf λb o hb q=>eb b o (λr=>hb (by simp[r])) q⟩
 self:=λ_ _ _ _ _ st h=>let ⟨⟨_,he⟩,_⟩:=st;ydq he h
noncomputable abbrev CT(h:Heap)(a:Addr):Heap:=h.push {cls:=.type "tuple_iterator",data:=.fields #[.ref a,.int 0 0]}
noncomputable abbrev LY(h:Heap)(a:Addr):Heap:=(CT h a).push {cls:=.type "enumerate",data:=.fields #[.none,.bool false,.ref h.objs.size,rawInt 0,.none,.none]}
open AutoSeq1 (wpAny_loadPart')in
def yE(a:Addr)(its:Array Value)(n:Nat)(dd:Option Addr)(sl:Array (Option Value)):Meets (Builtin.«enumerate.__new__» ⟨[.type "enumerate",.ref a],[]⟩) (λ_ R s=>s.heap.get? a=some ⟨.type "tuple",dd,.seq its n,sl⟩/\R (.ok (.ret (.ref (CT s.heap a).objs.size))) {s with heap:=LY s.heap a}):=
 .of_wp λprog w A R s h=>by
  obtain⟨hp,g,d,tk,os⟩:=s;obtain⟨hl,h⟩:=h;have fD:=sub_enumerate;have hT:Heap.IsTuple (Shared.heap ⟨hp,g,d,tk,os⟩) a its:=⟨_,hl,Z,n,Z⟩
  wp_walk using ybs hl
  refine wpAny_stack_any λst=>yac ?_
  split
  .rename_i c _ _ _ _ _;cases(c==Value.type "enumerate")<;>(wp_walk using ybs hl,yeg hT;exact⟨_,Z,h⟩)
  .wp_walk using ybs hl,yeg hT
   exact⟨_,Z,h⟩
def QbH{prog:Program}(hT:s.heap.IsTuple a its)(h:∀h',IsEnum h' (s.heap.objs.size+1) s.heap.objs.size 0 .none->h'.IsTupleIter s.heap.objs.size a 0->h'.objs.size=s.heap.objs.size+2->(∀b o,s.heap.get? b=some o->h'.get? b=some o)->Q (.ref (s.heap.objs.size+1)) {s with heap:=h'}):wpAny (model prog w) A (call (.type "enumerate") [.ref a]) Q E s:=by
 obtain⟨⟨c,dd,dt,sl⟩,hl,hc,n,hd⟩:=hT
 replace hc:c=.type "tuple":=hc
 replace hd:dt=.seq its n:=hd
 subst hc hd;refine callType_new F.called_enumerate (by lia) (F.typeCall_enumerate_1 _) (F.newCall_enumerate_1 _) (λobj=>F.args_object_init_2 obj _) F.entry_enumerate_new (yE a its n dd sl) ⟨hl,?_⟩;have hz:(CT s.heap a).objs.size=s.heap.objs.size+1:=yaR ..;have he:IsEnum (LY s.heap a) (CT s.heap a).objs.size s.heap.objs.size 0 .none:=yah _ rfl;rw[hz]at he;show _/\_;rw[hz];exact⟨⟨_,he,Z⟩,h _ he ⟨_,yab _ (yah _ Z),Z,Z⟩ (by rw[yaR,hz]) λb o x=>yab _ (yab _ x)⟩
def QbI{prog:Program}(k:Sk)(p:sE k s.heap a its)(h:∀h',IsEnum h' (s.heap.objs.size+1) s.heap.objs.size 0 .none->iK k h' s.heap.objs.size a 0->(∀b o,s.heap.get? b=some o->h'.get? b=some o)->Q (.ref (s.heap.objs.size+1)) {s with heap:=h'}):wpAny (model prog w) A (call (.type "enumerate") [.ref a]) Q E s:=by
 cases k with
 |tp=>exact QbH p λh' h1 h2 _ h4=>h h' h1 h2 h4
 |ls=>exact call_enumerate_list p λh' h1 h2 _ h4=>h h' h1 h2 h4
section
def Qf3(k:Sk)(K:Frag)(ta:TA):TI:=λσ H R=>ta σ H λvs H1=>∃a,vs=[.ref a]/\(∃xs,iL k K H1 a xs)/\R (FK k K a) H1
def QbJ(k:Sk){p pos:Pos}(hg:Gl X "enumerate")(hm:X.mg "enumerate"=none)(ha:PA X [a] ta)(hs:starEach [a] X.env=[(false,eval a X.env)]:=by rfl):PI X (.Tuple es n tp) (.Call (.Name "enumerate" p) [a] [] pos) (Qf3 k X.K ta):=by
 intro U s σ H R I h;refine Call_ (ZV I hg hm boot_enumerate (yav (ay (ha pos U s σ H _ I h) λus s1⟨vs,H1,I1,r1,aa,e,⟨xs,hq⟩,q⟩=>?_) hs Z));subst e;obtain⟨u,rfl,rfl⟩:=vals1 r1;obtain⟨its,rv,po,hz⟩:=I1.sk hq;refine QbI k po λh1 he f8 hk=>?_;refine ydq (s:={s1 with heap:=h1}) he ?_;refine⟨_,[s1.heap.objs.size+1,s1.heap.objs.size],_,_,H1,Z,I1.kept (t':=s1.toks) hk,wG k _ _ aa (Nat.succ_ne_self _),⟨⟨_,he⟩,f8⟩,λb hb=>?_,q⟩;have FB:s1.heap.objs.size<=b:=by
  simp only[yak,yaL,ycs]at hb;rcases hb with rfl|rfl
  .exact Nat.le_succ _
  .exact tN _
 exact I1.kY FB (I1.ao.fresh FB)
end
structure Fix(J:It)(n:Nat)(Ok:Hp->Prop)(item:Nat->Hp->V->Hp->Prop):Prop where
 go:∀i H,Ok H->i<n->J.go i H
 stop:∀H,Ok H->J.stop n H
 bT:∀i H v H',Ok H->i<n->J.bT i H v H'->item i H v H'
section
variable {Ok:Hp->Prop}{item:Nat->Hp->V->Hp->Prop}
def WW{g:TG}{tb:TS}{D:Ends}{σ:St}{H:Hp}(F:Fix J n Ok item)(Pv:Nat->St->Hp->Prop)(h0:Pv 0 σ H)(ho:∀i σ H,i<=n->Pv i σ H->Ok H)(hs:∀i v σ H H',i<n->Pv i σ H->item i H v H'->g v σ H' λσ2 H2=>tb {D with nx:=Pv (i+1),ct:=Pv (i+1),bk:=D.nx} σ2 H2)(hd:∀σ H,Pv n σ H->D.nx σ H):∃W:Nat->Nat->St->Hp->Prop,(∃m,W 0 m σ H)/\∀i m σ H,W i m σ H->
   (J.stop i H/\D.nx σ H)\/(J.go i H/\∃N:St->Hp->Prop,(∀σ' H',N σ' H'->∃m',m'<m/\W (i+1) m' σ' H')/\∀x H',J.bT i H x H'->g x σ H' λσ2 H2=>tb {D with nx:=N,ct:=N,bk:=D.nx} σ2 H2):=by
 refine⟨λi m σ H=>m=n-i/\i<=n/\Pv i σ H,⟨n,by simp,lF _,h0⟩,?_⟩;rintro i m σ H ⟨rfl,hi,p⟩;have ok:=ho i σ H hi p
 by_cases ap:i<n
 .exact .inr ⟨F.go i H ok ap,Pv (i+1),λσ' H' p'=>⟨n-(i+1),by lia,Z,ap,p'⟩,λx H' y=>hs i x σ H H' ap p (F.bT i H x H' ok ap y)⟩
 .have e:i=n:=by lia
  subst e;exact .inl ⟨F.stop H ok,hd σ H p⟩
def jL{nn:Nat}{fi:List Nat}{fv:List V}{tt:TT}(F:Fix J n Ok item)(Pv:Nat->List V->Hp->Prop)(h:∀R:It->Hp->Prop,(∀H1,Pv 0 [] H1->R J H1)->wi σ H R)(fu:fi.map (λi=>σ[i]?)=fv.map (λv=>some (some v)))(ho:∀i vs H,i<=n->Pv i vs H->Ok H/\vs.length<=i)(hs:∀i v vs H H',i<n->Pv i vs H->item i H v H'->g v (replicate nn none++fv.map some) H' λσ2 H2=>σ2.drop nn=fv.map some/\tt σ2 H2 λb H3=>if b=true then te σ2 H3 λv H4=>Pv (i+1) (vs++[v]) H4 else Pv (i+1) vs H3)(hd:∀vs H,Pv n vs H->∀p,H p=none->Q (.ref p) (upd H p (.lst vs)))(hz:n<sizeLine):V4 nn fi wi g tt te σ H Q:=by
 refine h _ λH1 h0=>⟨fv,fu,λi m vs H=>m=n-i/\i<=n/\Pv i vs H,⟨n,by simp,lF _,h0⟩,?_⟩;rintro i m vs H ⟨rfl,hi,p⟩;obtain⟨ok,hv⟩:=ho i vs H hi p
 by_cases ap:i<n
 .exact .inr ⟨F.go i H ok ap,by lia,Pv (i+1),λmt H' p'=>⟨n-(i+1),by lia,Z,ap,p'⟩,λx H' y=>hs i x vs H H' ap p (F.bT i H x H' ok ap y)⟩
 .have e:i=n:=by lia
  subst e;exact .inl ⟨F.stop H ok,hd vs H p⟩
end
def CU{xs:List V}(h:i<xs.length):∃x,xs[i]? =some x:=⟨_,yad h⟩
def LZ{K:Frag}{xs:List V}:Fix (da K a) xs.length (λH=>aw K H a xs) (λi H v H'=>H'=H/\xs[i]? =some v):=
 ⟨λi H ok h=>let ⟨x,e⟩:=CU h;⟨xs,x,ok,e⟩,λH ok=>⟨xs,ok,tN _⟩,λi H v H' ok _ y=>⟨y.1,y.2 _ ok⟩⟩
def FL{K:Frag}{xs:List V}:Fix (c9 K a) xs.length (λH=>aC K H a xs) (λi H v H'=>H'=H/\xs[i]? =some v):=
 ⟨λi H ok h=>let ⟨x,e⟩:=CU h;⟨xs,x,ok,e⟩,λH ok=>⟨xs,ok,tN _⟩,λi H v H' ok _ y=>⟨y.1,y.2 _ ok⟩⟩
def FN{lo:Int}:Fix (i9 lo n) n (λ_=>True) (λi H v H'=>H'=H/\v=.int (lo+i)):=⟨λi H _ h=>h,λH _=>tN _,λi H v H' _ _ y=>y⟩
def QiO{k:Sk}{K:Frag}{xs:List V}:Fix (FK k K a) xs.length (λH=>iL k K H a xs) (λi H v H'=>∃p x,H p=none/\v=.ref p/\xs[i]? =some x/\H'=upd H p (.tup [.int (i:Nat),x])):=
 ⟨λi H ok h=>let ⟨x,e⟩:=CU h;⟨xs,x,ok,e⟩,λH ok=>⟨xs,ok,Z⟩,λi H v H' ok _⟨p,hp,e,y⟩=>let ⟨x,h1,h2⟩:=y xs ok;⟨p,x,hp,e,h1,h2⟩⟩
noncomputable abbrev xY(led:Bool):Obj:={cls:=.type "set",dict:=none,data:=.set #[] 0 (.fresh 0 0 led)}
section
def Inv.Qd7{t':Nat}{ch:List Addr}{T:Addr}{nw:HO}(I:Inv X U σ H s)(hf:∀b∈ch,d9 X U H b)(k:∀b o,b∉ch->s.heap.get? b=some o->h'.get? b=some o)(hT:s.heap.objs.size<=T)(new:JJ X.prog X.w (upd H T nw) h' T nw):Inv X U σ (upd H T nw) {s with heap:=h',toks:=t'}:=by
 have hn:=I.ao.fresh hT;have dA:∀b u,H b=some u->b∉ch:=λb u e z=>by rw[(hf b z).1]at e;cases e
 have nT:∀b o,H b=some o->upd H T nw b=some o:=λb o e=>by rw[Qo (QB e hn)];exact e
 refine I.step (g':=s.gens) (d':=s.drawn) (ch:=ch) (λb hb=>?_) (λb o _ _ hc e _=>k b o hc e) (λb o _ _ hc e _=>⟨o.slots,k b o hc e⟩) (λb o _ e n=>?_) (λb o hc e=>⟨o,k b o hc e⟩) (λb ys e=>nT b _ e) (λb o u e=>nT b _ e) (λb ps e=>⟨#[],by rw[nT b _ e];simp⟩) (λm hm=>?_) (λb u e=>?_) I.bare
 .obtain⟨_,f1,_,f3,f4,f5⟩:=hf b hb;exact⟨f3,f1,f4,f5⟩
 .rw[Qo (λz=>absurd (yaj e) (by rw[z];exact Nat.not_lt.mpr hT))];exact n
 .obtain⟨o,es,ep,ho,r⟩:=hm;exact⟨o,es,ep,k _ o (λz=>(hf _ z).2.1 Z) ho,r⟩
 .by_cases hb:b=T
  .subst hb;rw[Qf]at e;cases e;exact new
  .rw[Qo hb]at e;refine(I.ao b u e).d6 (λc v hc q=>k c v ?_ q) (λc q=>nT c _ q) λc ys q=>nT c _ q;rcases hc with z|z
   .rw[z];exact dA b u e
   .exact dA c _ z
end
open AutoSeq1 (wpAny_loadPart')
section
variable {prog:Program}
def Ya:isSubtype (.type "range_iterator") (.type "reversed")=pure false:=by rw[yds];kernel_rfl
noncomputable abbrev sF(i j:Int):Obj:={cls:=.type "range_iterator",data:=.fields #[rawInt (i+(Builtin.Range.rangeSize i j 1-1)*1),rawInt (Builtin.Range.rangeSize i j 1),rawInt (-1)]}
def Qd8(hr:IsRange s.heap r i j 1 t u v)(b: -(2^40)<=i/\i<2^40/\ -(2^40)<=j/\j<2^40)(q:Q (.ref s.heap.objs.size) {s with heap:=s.heap.push (sF i j)}):wpAny (model prog w) A (call (.builtin "range.__reversed__") [.ref r]) Q E s:=by
 have hT:s.TypeIs (.ref r) "range":=⟨_,hr,Z⟩;refine yaN F.slot_range_reversed hT F.entry_range_reversed ?_ (F.args_range_reversed_1 _);have hf:∀x:Int, -(2^41)<=x->x<=2^41->Builtin.Range.rangeFitsLong x=true:=λx h1 h2=>by
  unfold Builtin.Range.rangeFitsLong;rw[tM (show-(2^63)<=x by lia),tM (show x<2^63 by lia)];rfl
 have hn:0<=Builtin.Range.rangeSize i j 1/\Builtin.Range.rangeSize i j 1<=2^41:=by
  unfold Builtin.Range.rangeSize;rw[yai (by lia)]
  split
  .rw[ydt];lia
  .lia
 unfold Builtin.«range.__reversed__»;refine yaa (ybC (a:=Value.ref r) Z ?_);unfold Builtin.Range.rangeFields;refine yaa (yaa (yaH hr Z (x:=.int i t) Z ?_));refine yaa (ybC (a:=some i) Z ?_);refine yaa (yaH hr Z (x:=.int j u) Z ?_);refine yaa (ybC (a:=some j) Z ?_);refine yaa (yaH hr Z (x:=.int 1 v) Z ?_);refine yaa (ybC (a:=some 1) Z (yac ?_));dsimp only;rw[hf i (by lia) (by lia),hf j (by lia) (by lia),hf 1 (by lia) (by lia),hf (-1) (by lia) (by lia),hf (i-1) (by lia) (by lia),hf (Builtin.Range.rangeSize i j 1) (by lia) (by lia)];exact yaa (yaW (yac ⟨_,Z,q⟩))
def jM(hr:IsRange s.heap r i j 1 t u v)(b: -(2^40)<=i/\i<2^40/\ -(2^40)<=j/\j<2^40)(q:Q₁ (.ref s.heap.objs.size) {s with heap:=s.heap.push (sF i j)}):codeAny (model prog w) A (.call (.builtin "reversed.__new__") ⟨[.type "reversed",.ref r],[]⟩) (wants Q₁ E) s:=by
 have hT:s.TypeIs (.ref r) "range":=⟨_,hr,Z⟩;refine yeU ?_;show wpAny _ A.in1 (do checkBuiltinCall "reversed.__new__" ⟨[.type "reversed",.ref r],[]⟩;again (.builtin "reversed.__new__" ⟨[.type "reversed",.ref r],[]⟩)) _ _ s;refine yaa (ybC (F.newCall_reversed_1 _) (yac ⟨ycA ydG _,ybK F.entry_reversed_new ?_⟩));rw[ybE ydG _];unfold Builtin.«reversed.__new__»;refine yaa (ybC (newClass_reversed _) ?_)
 try dsimp only
 refine yaa (ybC (a:=()) (by first|rfl|kernel_rfl) ?_);refine yaa (ybC (a:=()) (by first|rfl|kernel_rfl) ?_)
 try dsimp only
 refine yaa (yaO hT F.slot_range_reversed.lookup ?_)
 try dsimp only
 refine yaa (ybC (F.slot_range_reversed.bind _) ?_)
 try dsimp only
 first
 |rw[yag (show ¬ ((Value.builtin "range.__reversed__"==Value.none)=true)from yal)]
 |(show wpAny _ _ (if(Value.builtin "range.__reversed__"==Value.none)=true then _ else _) _ _ _;rw[yag (show ¬ ((Value.builtin "range.__reversed__"==Value.none)=true)from yal)])
 refine yaa (ycX ?_);refine yaa (m:=runValue (.call (.builtin "range.__reversed__") ⟨[.ref r],[]⟩)) (show wpAny _ _ (call (.builtin "range.__reversed__") [.ref r]) _ _ _ from Qd8 hr b ?_)
 first
 |exact yac q
 |exact yaa (yac (yac q))
def jN(hr:IsRange s.heap r i j 1 t u v)(b: -(2^40)<=i/\i<2^40/\ -(2^40)<=j/\j<2^40)(q:Q (.ref s.heap.objs.size) {s with heap:=s.heap.push (sF i j)}):wpAny (model prog w) A (call (.type "reversed") [.ref r]) Q E s:=by
 refine callType_other (U:="range_iterator") (Q₁:=λobj s₁=>obj=.ref s.heap.objs.size/\s₁={s with heap:=s.heap.push (sF i j)}) (by rfl') F.create_reversed ⟨_,_,F.mro_reversed⟩ F.made_reversed Ya (F.typeCall_reversed_1 _) (jM hr b ⟨Z,Z⟩) ?_;rintro obj s₁ ⟨rfl,rfl⟩;exact⟨⟨_,yah _ rfl,Z⟩,q⟩
end
section
def QiP(ta:TA):TI:=λσ H R=>ta σ H λvs H1=>∃i j:Int,vs=[.int i,.int j]/\(-(2^40)<=i/\i<2^40/\ -(2^40)<=j/\j<2^40)/\R (si (i+((j-i).toNat:Nat)-1) (-1) (j-i).toNat) H1
def yF(i j:Int):Builtin.Range.rangeSize i j 1=(((j-i).toNat:Nat):Int):=by
 unfold Builtin.Range.rangeSize;rw[yai (by lia)]
 split<;>simp<;>lia
end
def ag.wH(h:ag H v d)(e:H l=some o)(n1:∀ys,o≠ .tup ys):ag (upd H l o') v d:=
 h.keep (λb ys q=>by rw[Qo (Ei q e λz=>n1 ys z.symm)];exact q)
def aj.wH(h:aj H v d)(e:H l=some o)(n1:∀ys,o≠ .tup ys):aj (upd H l o') v d:=
 h.keep (λb ys q=>by rw[Qo (Ei q e λz=>n1 ys z.symm)];exact q)
def ag.xZ(h:ag H v (.str x)):v=.str x:=by cases h;rfl
def ag.l9(h:ag H v (.int i)):v=.int i:=by cases h;rfl
def ag.Ud{ds:List Dv}(h:ag H v (.tup ds)):∃a xs,v=.ref a/\H a=some (.tup xs)/\aj H xs ds:=by cases h with|tup h t=>exact⟨_,_,Z,h,t⟩
section
variable {prog:Program}
def QbL(t b:Addr)(ys:Array Value)(n n2:Nat)(dd o7:Option Addr)(sl o8:Array (Option Value)):Meets (Builtin.«tuple.__add__» ⟨[.ref t,.ref b],[]⟩) (λ_ R s=>s.heap.get? t=some ⟨.type "tuple",dd,.seq #[] n,sl⟩/\s.heap.get? b=some ⟨.type "tuple",o7,.seq ys n2,o8⟩/\R (.ok (.ret (.ref b))) s):=
 .of_wp λprog w A R s h=>by
  obtain⟨hp,g,d,tk,os⟩:=s;obtain⟨hl,hb,h⟩:=h;have f2:=AutoSeq1.sub_tuple_tuple
  wp_walk using ybs hl,ybs hb
  exact⟨_,Z,h⟩
def QbM{ws:List Value}(ht:IsTup s.heap t #[])(hb:IsTup s.heap b ws.toArray)(q:Q (.ref b) s):wpAny (model prog w) A (binaryOp .Add (.ref t) (.ref b)) Q E s:=by
 obtain⟨⟨cls,dd,data,sl⟩,ho,hc,n,hd⟩:=id ht;obtain⟨⟨EG,o7,data2,o8⟩,Ps,df,n2,hd2⟩:=id hb;simp only at hc hd df hd2;subst hc hd df hd2;exact concat_meets ⟨_,ho,Z⟩ ⟨_,Ps,Z⟩ yeF seq_tuple_add slot_tuple_add entry_tuple_add (yeG _ _) (QbL t b ws.toArray n n2 dd o7 sl o8) ⟨ho,Ps,q⟩
open HT in
def yG{lo hi:Option Int}(ht:IsTup s.heap t its)(hs:s.heap.IsSliceOf sl vl vu .none)(pl:IsPart vl lo)(pu:IsPart vu hi)(hw:aF its.size 0 lo=0/\aF its.size its.size hi=its.size)(q:Q (.ref t) s):wpAny (model prog w) A (getItem (.ref t) (.ref sl)) Q E s:=by
 obtain⟨os,lJ,SC,fe⟩:=id hs;have EH:s.TypeIs (.ref sl) "slice":=⟨os,lJ,SC⟩;unfold getItem
 try with_reducible refine ybf ?_
 first|refine yaa (yac ?_)|skip
 refine yaa (wpAny_sequenceKey ht.typeIs (by lia) ?_);refine yaa (yaQ (name:=Str.ofString "__getitem__") ht.typeIs ybr (yaN ybr ht.typeIs entry_tuple_getitem ?_ (args_tuple_getitem _ _)));show wpAny _ _ (Builtin.Tuple.tupleItemsOf (.ref t)>>=_) _ _ s;refine yaa (tupleItemsOf_ ht ?_);refine yaa (ydu EH ?_);rw[yai (by lia)];refine yaa (XV hs pl pu ?_);rw[hw.1,hw.2];show wpAny _ _ (if(((0:Nat):Int)==0&&(1:Int)==1&&(its.size-0)==its.size)=true then _ else _) _ _ s;rw[yai (by simp)];obtain⟨⟨cls,dd,data,Ah⟩,ho,hc,n,hd⟩:=id ht;simp only at hc hd;subst hc hd
 wp_walk using ybs ho
 exact⟨_,Z,yac q⟩
end
section
def QbN:aQ X (binaryOp .Add) (λx y H Q=>∃a b ys,x=.ref a/\y=.ref b/\Rd H a (.tup [])/\Rd H b (.tup ys)/\Q (.ref b) H):=by
 intro U s σ H x y v u Q I rx ry h;obtain⟨a,b,ys,rfl,rfl,ha,hb,q⟩:=h;cases rx;cases ry;obtain⟨its,r1,p1,_⟩:=I.tuple (.inl ha);obtain⟨ce,r2,p2,_⟩:=I.tuple (.inl hb);obtain rfl:its=[]:=r1.Uy.mpr rfl;exact QbM p1 p2 ⟨.ref b,H,I,Z,q⟩
def jO:R2:=λx y H Q=>∃a b xs ys,x=.ref a/\y=.ref b/\Rd H a (.tup xs)/\Rd H b (.tup ys)/\xs.length+ys.length<=sizeLine/\(xs=[]->Q (.ref b) H)/\(xs≠[]->ys=[]->Q (.ref a) H)/\(xs≠[]->ys≠[]->∀p,H p=none->Q (.ref p) (upd H p (.tup (xs++ys))))
def Yb:aQ X (binaryOp .Add) jO:=by
 intro U s σ H x y v u Q I rx ry h;obtain⟨a,b,xs,ys,rfl,rfl,ha,hb,hz,q0,q1,q2⟩:=h
 by_cases hx:xs=[]
 .subst hx;exact QbN U s σ H _ _ v u Q I rx ry ⟨a,b,ys,Z,Z,ha,hb,q0 rfl⟩
 .exact PN U s σ H _ _ v u Q I rx ry ⟨a,b,xs,ys,Z,Z,.inl ha,.inl hb,hx,hz,q1 hx,q2 hx⟩
def jO.deep{ds es:List Dv}(hx:ag H x (.tup ds))(hy:ag H y (.tup es))(hz:ds.length+es.length<=sizeLine)(k:∀v H',Qn H H'->ag H' v (.tup (ds++es))->Q v H'):jO x y H Q:=by
 obtain⟨a,xs,rfl,h1,t1⟩:=hx.Ud;obtain⟨b,ys,rfl,h2,t2⟩:=hy.Ud;have l1:=t1.length;have l2:=t2.length;refine⟨a,b,xs,ys,Z,Z,.inl h1,.inl h2,by lia,λz=>?_,λ_ z=>?_,λ_ _ p hp=>?_⟩
 .subst z;obtain rfl:ds=[]:=ybk.mp l1.symm;exact k _ _ (Qn.refl _) hy
 .subst z;obtain rfl:es=[]:=ybk.mp l2.symm;rw[lA]at k;exact k _ _ (Qn.refl _) hx
 .have S:=Qn.new (o:=.tup (xs++ys)) hp;exact k _ _ S (.tup Qf ((t1.same S).append (t2.same S)))
def QE:Au X (λx y H Q=>∃p xs i v,x=.ref p/\y=.int i/\Rd H p (.tup xs)/\cA xs i=some v/\Q v H):=λvalue slice U s σ H x y v u Q I rx ry⟨p,xs,i,z,e1,e2,hq,he,q⟩ hs=>JE value slice U s σ H x y v u Q I rx ry ⟨p,xs,i,z,e1,e2,.inl hq,he,q⟩ hs
def l':V->Option Int->Option Int->Hp->VK->Prop:=λx lo hi H Q=>∃a xs,x=.ref a/\Rd H a (.tup xs)/\((HT.aF xs.length 0 lo=0/\HT.aF xs.length xs.length hi=xs.length)->Q (.ref a) H)/\(¬ (HT.aF xs.length 0 lo=0/\HT.aF xs.length xs.length hi=xs.length)->∀p,H p=none->Q (.ref p) (upd H p (.tup (jc xs lo hi))))
def Qeb:As X l':=by
 intro U s σ H x v vl vu lo hi sl Q I rx hs pl pu h;obtain⟨a,xs,rfl,hx,q1,q2⟩:=h
 by_cases hw:HT.aF xs.length 0 lo=0/\HT.aF xs.length xs.length hi=xs.length
 .cases rx;obtain⟨its,r,ht,hz⟩:=I.tuple (.inl hx);have hlen:its.toArray.size=xs.length:=by rw[lE];exact r.length.symm
  exact⟨"tuple",_,PyProof.Rows.slot_tuple_getitem.lookup,ht.typeIs,yG ht hs pl pu (by rw[hlen];exact hw) ⟨.ref a,H,I,Z,q1 hw⟩⟩
 .exact IP U s σ H (.ref a) v vl vu lo hi sl Q I rx hs pl pu ⟨a,xs,Z,.inl hx,hw,q2 hw⟩
def QbO(xs:List V)(a c:Nat):jc xs (some (a:Int)) (some (c:Int))=(xs.take c).drop a:=by
 unfold jc;rw[HT.Xx,HT.Xx,List.drop_take]
 by_cases h:a<=xs.length
 .rw[show min a xs.length=a by lia];apply ybH;intro i;rw[yen,yen]
  by_cases h1:i<min c xs.length-a
  .rw[yai h1,yai (by lia)]
  .rw[yag h1]
   by_cases h2:i<c-a
   .rw[yai h2,ycr,ybT (by lia)]
   .rw[yag h2]
 .rw[show min a xs.length=xs.length by lia,ycn,ycD,ycq (by lia),ycD]
def l'.deep{lo:Nat}{ds:List Dv}(hx:ag H x (.tup ds))(k:∀v H',Qn H H'->ag H' v (.tup ((ds.take hi).drop lo))->Q v H'):l' x (some (lo:Int)) (some (hi:Int)) H Q:=by
 obtain⟨a,xs,rfl,h1,t1⟩:=hx.Ud;have l1:=t1.length;refine⟨a,xs,Z,.inl h1,λz=>?_,λ_ p hp=>?_⟩
 .rw[HT.Xx,HT.Xx]at z;refine k _ _ (Qn.refl _) ?_;have e:(ds.take hi).drop lo=ds:=by
   by_cases h0:ds=[]
   .rw[h0];simp
   .have:0<ds.length:=List.length_pos_iff.mpr h0;rw[yat (by lia),show lo=0 by lia,yco]
  rw[e];exact hx
 .have S:=Qn.new (o:=.tup (jc xs (some (lo:Int)) (some (hi:Int)))) hp;have t2:aj H (jc xs (some (lo:Int)) (some (hi:Int))) ((ds.take hi).drop lo):=by
   rw[QbO];exact(t1.take hi).drop lo
  exact k _ _ S (.tup Qf (t2.same S))
noncomputable def tyD:Dv->String
 | .aq=>"NoneType"
 | .bl _=>"bool"
 | .int _=>"int"
 | .str _=>"str"
 | .tup _=>"tuple"
end
def ag.ty{K:Frag}{H:Hp}{v:V}{d:Dv}(h:ag H v d):br K H v (.type (tyD d)):=by
 cases h with
 |aq=>exact .aq
 |bl=>exact .bl _
 |int=>exact .int _
 |str=>exact .str _
 |tup h t=>exact .tup h
section
variable {Ok:Hp->Prop}{item:Nat->Hp->V->Hp->Prop}
def wI{ds:List Dv}(h:aj H vs (ds.take i))(S:Qn H H')(e:ds[i]? =some d)(hu:ag H' u d):aj H' (vs++[u]) (ds.take (i+1)):=by
 rw[yaK,e];exact(h.same S).append (.cons hu .nil)
def WX{nn:Nat}{fi:List Nat}{fv:List V}(F:Fix J n Ok item)(ds:List Dv)(hn:ds.length=n)(h:∀R:It->Hp->Prop,(∀H1,Qn H H1->R J H1)->wi σ H R)(fu:fi.map (λi=>σ[i]?)=fv.map (λv=>some (some v)))(ho:∀H1,Qn H H1->Ok H1)(hs:∀i v H1 H2 d(R:V->Hp->Prop),ds[i]? =some d->Qn H H1->item i H1 v H2->(∀u H4,Qn H1 H4->ag H4 u d->R u H4)->g v (replicate nn none++fv.map some) H2 λσ2 H3=>σ2.drop nn=fv.map some/\te σ2 H3 R)(hd:∀xs H1 p,Qn H H1->aj H1 xs ds->H1 p=none->Q (.ref p) (upd H1 p (.lst xs)))(hz:n<sizeLine):V4 nn fi wi g fo te σ H Q:=by
 refine jL F (λi vs H1=>Qn H H1/\aj H1 vs (ds.take i)) (λR k=>h R λH1 S=>k H1 ⟨S,.nil⟩) fu (λi vs H1 hi⟨S,t⟩=>⟨ho H1 S,by rw[t.length,tX];lia⟩) ?_ ?_ hz
 .rintro i v vs H1 H2 hi ⟨S,t⟩ it;have e:ds[i]? =some ds[i]:=yad (by lia);exact hs i v H1 H2 _ (λu H4=>Qn H H4/\aj H4 (vs++[u]) (ds.take (i+1))) e S it λu H4 S4 du=>⟨S.trans S4,wI t S4 e du⟩
 .rintro vs H1 ⟨S,t⟩ p hp;rw[yat (by lia)]at t;exact hd vs H1 p S t hp
def QbP{xs:List V}{ds:List Dv}(t:aj H xs ds)(hp:H p=none):ag (upd H p (.tup xs)) (.ref p) (.tup ds):=.tup Qf (t.same (Qn.new hp))
end
def Qf4(h:te σ H D.rt):i8 te D σ H:=h
def l'.Qhv{ds:List Dv}(hx:ag H x (.tup ds))(k:∀v H',Qn H H'->ag H' v (.tup (ds.take hi))->Q v H'):l' x none (some (hi:Int)) H Q:=by
 have h:=l'.deep (lo:=0) (hi:=hi) (Q:=Q) hx (by simpa using k);obtain⟨a,xs,e,h1,h2,h3⟩:=h;refine⟨a,xs,e,h1,λz=>h2 ?_,λz p hp=>?_⟩
 .rw[HT.Xx,yeT];exact⟨Z,z.2⟩
 .have e2:jc xs none (some (hi:Int))=jc xs (some ((0:Nat):Int)) (some (hi:Int)):=by unfold jc;rw[HT.xE,show HT.aF xs.length 0 (some ((0:Nat):Int))=0 by rw[HT.Xx,yeT]]
  rw[e2];exact h3 (λy=>z ⟨Z,y.2⟩) p hp
def Wy{tt:TT}(h:wi σ H λJ H1=>V4 n fi (λ_ H R=>R J H) g tt te σ H1 Q):V4 n fi wi g tt te σ H Q:=h
section
def JM{pos pos':Pos}(hN:X.N.Nodup)(hi:X.N[i]? =some x)(hx:Loc X.env.scope x)(he:aA X e te)(hs:swapsWith e (some (.Name x pos')) pos.line X.env=pure false)(hf:X.fn x=true):b9 X (.Assign [.Name x pos'] e pos) (Za te (QL i)):=⟨Qt hN hi hx he.pe hs (.inl hf)⟩
def yH{tg iter:Expr}{body:List Stmt}{pos:Pos}(hp:PassesOwn (model X.prog X.w) X.A X.env X.xe)(hc:X.calm=true)(hi:PI X tg iter wi)(hg:PG X tg g)(hb:cN X body tb)(hs:∀x,foldedSetIterable iter X.env x=pure x):b9 X (.For tg iter body [] pos) (IA wi g tb):=⟨ZW hp hc hi hg hb.ps hs⟩
def Jr{pos:Pos}(he:aA X e te):b9 X (.Return (some e) pos) (i8 te):=⟨Qp he.pe⟩
end
noncomputable def isStar:Expr->Bool
 | .Starred .. =>true
 |_=>false
def Zs{env:Env}(h:isStar e=false):starEach (e::es) env=(false,eval e env)::starEach es env:=by
 cases e<;>first|rfl|cases h
section
variable {to:TE}{name:Str}{apos bv:Pos}{id:String}
def Qy(ha:PE X e te)(hr:PA X es t)(h:isStar e=false:=by rfl):PA X (e::es) (Jf te t):=Qa ha hr (Zs h)
def Qf5(pa:PlainAttrs T)(slot:Slot T name id)(Aw:typeOf (.builtin id)=pure (.type "method_descriptor"))(hm:dB X id r)(ho:PE X o to)(ha:PA X [e] t)(h:isStar e=false:=by rfl)(Ch:attributeBase o name X.env (eval o X.env)=eval o X.env:=by rfl)(lm:(apos.endLine==bv.line)=true:=by rfl):PE X (.Call (.Attribute o name apos) [e] [] bv) (Cy X.K T r to t):=by
 refine JL pa slot Aw hm ho ha Ch ?_ lm (Zs h) rfl;rw[Zs h];rfl
def QbQ(ha:PA X [e] t)(h:isStar e=false)(lm:(apos.endLine==bv.line)=true):PE X (.Call (.Attribute (.Constant (.str x) j p) "join" apos) [e] [] bv) (Cy X.K "str" (λx vs H Q=>∃(z:Str)(p:Addr)(ys:List Str),x=.str z/\vs=[.ref p]/\aC X.K H p (ys.map V.str)/\JoinOk z ys=true/\Q (.str (Txt.join z ys)) H) (tC (.str x)) t):=
 Qf5 yaA ybR ybS X0 Qk ha h rfl lm
def yI(ha:iD X [e] t)(h:isStar e=false)(lm:(apos.endLine==bv.line)=true):aA X (.Call (.Attribute (.Constant (.str x) j p) "join" apos) [e] [] bv) (Cy X.K "str" (λx vs H Q=>∃(z:Str)(p:Addr)(ys:List Str),x=.str z/\vs=[.ref p]/\aC X.K H p (ys.map V.str)/\JoinOk z ys=true/\Q (.str (Txt.join z ys)) H) (tC (.str x)) t):=⟨QbQ ha.pa h lm⟩
def L0{pos:Pos}{op:Operator}{r:R2}(hr:aQ X (binaryOp op) r)(ha:aA X a ta)(hb:aA X b tb):aA X (.BinOp a op b pos) (cg r ta tb):=⟨QG hr ha.pe hb.pe⟩
def JP(ha:aA X e te)(hr:iD X es t)(h:isStar e=false):iD X (e::es) (Jf te t):=⟨Qa ha.pe hr.pa (Zs h)⟩
def Qf6{pos:Pos}(hc:PT X c tA)(ha:aA X a ta)(hb:aA X b tb):aA X (.IfExp c a b pos) (Ir tA ta tb):=⟨Jd hc ha.pe hb.pe⟩
def X4{pos:Pos}(h:iD X es t):aA X (.Tuple es k pos) (EE t):=⟨Qs h.pa⟩
def L9{t1 u:TS}{pos:Pos}(hc:PT X c tc)(ha:cN X a t1)(hb:cN X b u):b9 X (.If c a b pos) (Ai tc t1 u):=⟨QN hc ha.ps hb.ps⟩
def ZM:cN X [] Q1:=⟨Qw⟩
end
def zO:typeLookup (.type "tuple") "__reversed__"=pure none:=by rw[ybv,yaP];kernel_rfl
def Yc:typeLookup (.type "tuple") "__getitem__"=pure (some (.builtin "tuple.__getitem__")):=by rw[ybv,yaP];kernel_rfl
def sub_tuple_dict:isSubtype (.type "tuple") (.type "dict")=pure false:=by rw[yds];kernel_rfl
abbrev Zz(h:Heap)(it a:Addr)(i:Int):Prop:=h.get? it=some {cls:=.type "reversed",data:=.fields #[.ref a,rawInt i]}
def wJ(a:Addr)(xs:Array Value):Meets (Builtin.«reversed.__new__» ⟨[.type "reversed",.ref a],[]⟩) (λ_ R s=>IsTup s.heap a xs/\((xs.size:Nat):Int)<2^63/\∀k,R (.ok (.ret (.ref s.heap.objs.size))) {s with heap:=s.heap.push {cls:=.type "reversed",data:=.fields #[.ref a,rawInt ((xs.size:Int)-1)]},toks:=k}):=
 .of_wp λprog w A R s h=>by
  obtain⟨hp,g,d,tk,os⟩:=s;obtain⟨h1,hl,h⟩:=h;have fD:=yck;have ht:Shared.TypeIs ⟨hp,g,d,tk,os⟩ (.ref a) "tuple":=by obtain⟨o,e,c,_⟩:=h1;exact⟨o,e,c⟩
  have hx:=zO;have hy:=Yc;have hd:=sub_tuple_dict;have p1:IsTup (Shared.heap ⟨hp,g,d,tk,os⟩) a xs:=h1
  wp_walk using yaO ht hx ?_,yaO ht hy ?_,len_tuple p1 hl ?_
  exact⟨_,Z,h _⟩
def J5:Slot "reversed" (Str.ofString "__next__") "reversed.__next__":=Slot.of (owner:="reversed") (n:="__next__") (by rw[ybv,yaP];kernel_rfl) (by rfl') (by rfl') (by rfl') (Or.inl (by rfl')) yck (by rfl')
def Wz:Slot "reversed" (Str.ofString "__iter__") "reversed.__iter__":=Slot.of (owner:="reversed") (n:="__iter__") (by rw[ybv,yaP];kernel_rfl) (by rfl') (by rfl') (by rfl') (Or.inl (by rfl')) yck (by rfl')
def KI:entryFor table "reversed.__next__"=some Builtin.«reversed.__next__»:=entryFor_of_tree (by kernel_rfl)
def WA(a:Value):argsOk "reversed.__next__" {pos:=[a]}:=by first|with_unfolding_all rfl|kernel_rfl
def US(a:Value):argsOk "reversed.__iter__" {pos:=[a]}:=by first|with_unfolding_all rfl|kernel_rfl
def zP:isSubtype (.type "reversed") (.type "object")=pure true:=by rw[yds];kernel_rfl
def UT:Slot "reversed" (Str.ofString "__init__") "object.__init__":=Slot.of (owner:="object") (n:="__init__") (by rw[ybv,yaP];kernel_rfl) (by rfl') (by rfl') (by rfl') (Or.inl (by rfl')) zP (by rfl')
def wK:TypeCalled "reversed" "reversed.__new__" "object.__init__":=⟨by lia,F.create_reversed,⟨_,_,F.mro_reversed⟩,F.made_reversed,ydG,yck,UT⟩
def YQ:entryFor table "reversed.__iter__"=some Builtin.«dict_keyiterator.__iter__»:=entryFor_alias (id':="dict_keyiterator.__iter__") (by rw[fastTable_eq_tree];kernel_rfl) (by first|kernel_rfl|rfl') (by first|kernel_rfl|rfl') (by rw[fastTable_eq_tree];kernel_rfl)
section
variable {prog:Program}
def yJ{it a:Addr}{i:Nat}{xs:Array Value}{x:Value}{Q:Value->Shared->Prop}(h:Zz s.heap it a (i:Int))(hT:IsTup s.heap a xs)(hi:i<xs.size)(hl:((xs.size:Nat):Int)<2^63)(hx:xs[i]? =some x)(hQ:∀h' k,Zz h' it a ((i:Int)-1)->Heap.SameBut it s.heap h'->Q x {s with heap:=h',toks:=k}):wpAny (model prog w) A (Builtin.«reversed.__next__» ⟨[.ref it],[]⟩) (λfin s'=>∃v,fin=.done (.ret v)/\Q v s') E s:=by
 have ht:Shared.TypeIs s (.ref a) "tuple":=by obtain⟨o,e,c,_⟩:=hT;exact⟨o,e,c⟩
 have hn:¬ ((i:Int)<0):=by lia
 show wpAny _ _ (field (.ref it) 0>>=_) _ _ _;refine yaa (yaH h Z (x:=.ref a) Z ?_);refine yaa (yaH h Z (x:=rawInt (i:Int)) Z ?_);unfold rawInt;dsimp only;rw[yag hn];refine yaa (yaO ht Yc ?_);rw[yag (by lia)];refine yaa (wpAny_mkInt ?_);refine yaa (ydg (getItem_tuple (s:={s with toks:=s.toks+1}) (j:=i) hT (by lia) (by lia) ?_ hx ?_))
 .unfold seqIndex?;dsimp only;rw[yag hn,yai (by simp;lia)];rfl
 dsimp only;refine yaa (yaH (s:={s with toks:=s.toks+1}) h Z (x:=rawInt (i:Int)) Z ?_);unfold rawInt;dsimp only;refine yaa (yby (s:={s with toks:=s.toks+1}) h (by simp) λh₁ eG Tm=>?_);exact yac ⟨_,Z,hQ _ _ eG Tm⟩
def QbR{it a:Addr}(h:Zz s.heap it a (-1))(hh:A.handled=none)(hE:∀h' e k,(∀c o,c≠it->s.heap.get? c=some o->h'.get? c=some o)->(∃o,h'.get? e=some o/\o.cls=.type "StopIteration")->E (.ref e) {s with heap:=h',toks:=k}):wpAny (model prog w) A (Builtin.«reversed.__next__» ⟨[.ref it],[]⟩) Q E s:=by
 show wpAny _ _ (field (.ref it) 0>>=_) _ _ _;refine yaa (yaH h Z (x:=.ref a) Z ?_);refine yaa (yaH h Z (x:=rawInt (-1)) Z ?_);unfold rawInt;dsimp only;rw[yai (by lia)];refine yaa (ycX ?_)
 wp_walk
 refine wpAny_raiseNew_none hh ?_;refine hE _ _ _ (λc o hc e=>?_) ⟨_,yah _ rfl,Z⟩;refine yab _ (yab _ ?_);rw[Heap.get?_update_ne _ _ _ _ hc,Heap.get?_update_ne _ _ _ _ hc];exact e
def XA{it a:Addr}(h:Zz s.heap it a i)(hQ:Q (.ref it) s):wpAny (model prog w) A (pyIter (.ref it)) Q E s:=
 have hT:s.TypeIs (.ref it) "reversed":=⟨_,h,Z⟩
 wpAny_pyIter_slot hT Wz (yaN Wz hT YQ (id (yac ⟨_,Z,"reversed",.builtin "reversed.__next__",hT,J5.lookup,hQ⟩)) (US _))
def Yd{it a:Addr}{i:Nat}{xs:Array Value}(h:Zz s.heap it a (i:Int))(hT:IsTup s.heap a xs)(hi:i<xs.size)(hl:((xs.size:Nat):Int)<2^63)(hx:xs[i]? =some x)(hQ:∀h' k,Zz h' it a ((i:Int)-1)->Heap.SameBut it s.heap h'->Q (some x) {s with heap:=h',toks:=k}):wpAny (model prog w) A (pyNext (.ref it)) Q E s:=by
 have eJ:s.TypeIs (.ref it) "reversed":=⟨_,h,Z⟩;unfold pyNext;exact yaa (ydg (yaQ (name:=Str.ofString "__next__") eJ J5 (yaN J5 eJ KI (yJ h hT hi hl hx λh' k a1 a2=>yac (hQ h' k a1 a2)) (WA _))))
def Ue{it a:Addr}(h:Zz s.heap it a (-1))(hh:A.handled=none)(hQ:∀h' k,(∀c o,c≠it->s.heap.get? c=some o->h'.get? c=some o)->Q none {s with heap:=h',toks:=k}):wpAny (model prog w) A (pyNext (.ref it)) Q E s:=by
 have eJ:s.TypeIs (.ref it) "reversed":=⟨_,h,Z⟩;unfold pyNext;refine yaa (ydg (yaQ (name:=Str.ofString "__next__") eJ J5 (yaN J5 eJ KI (QbR h hh λh' e k hk he=>?_) (WA _))));obtain⟨o,ho,hc⟩:=he;refine yaa (ycP (T:="StopIteration") (b:=true) ⟨o,ho,hc⟩ isSubtype_stop ?_);exact yac (hQ _ _ hk)
def jP{xs:Array Value}(hT:IsTup s.heap a xs)(hl:((xs.size:Nat):Int)<2^63)(hQ:∀k,Q (.ref s.heap.objs.size) {s with heap:=s.heap.push {cls:=.type "reversed",data:=.fields #[.ref a,rawInt ((xs.size:Int)-1)]},toks:=k}):wpAny (model prog w) A (call (.type "reversed") [.ref a]) Q E s:=
 callType_new wK (by lia) (F.typeCall_reversed_1 _) (F.newCall_reversed_1 _) (λobj=>F.args_object_init_2 obj _) F.entry_reversed_new (wJ a xs) ⟨hT,hl,λk=>⟨⟨_,yah _ rfl,Z⟩,hQ k⟩⟩
end
noncomputable def FO(K:Frag)(a:Addr)(n:Nat):It:=⟨λi H=>∃xs x,aw K H a xs/\xs.length=n/\i<n/\xs[n-1-i]? =some x,λi H v H'=>H'=H/\∀xs,aw K H a xs->xs[n-1-i]? =some v,λi H=>i=n⟩
def yK{P:Program}{w:World}{K:Frag}{tg:Expr}(a it:Addr)(n:Nat):Turn P w K tg (FO K a n) [it] it (λi h=>i<=n/\Zz h it a ((n:Int)-1-(i:Int))) where
 mem:=by simp
 obj:=λi h st b hb=>by
  have e:b=it:=by simpa using hb
  subst e;exact⟨_,st.2,λv z=>nomatch (show Data.fields _=Data.cell v from z)⟩
 keep:=λi h h' st k=>⟨st.1,k it (by simp) _ st.2⟩
 item:=by
  intro X hP hw hK hc i U s σ H E I hf st hg;subst hP hw hK;obtain⟨xs,x,hq,hl,hi,hx⟩:=hg;obtain⟨its,rv,p,hz⟩:=I.tuple hq;obtain⟨u,hu,ru⟩:=rv.get hx;obtain⟨f0,f1,f2,f3,f4,f5⟩:=hf it (by simp);have e1:(n:Int)-1-(i:Int)=((n-1-i:Nat):Int):=by lia
  have Do:=st.2;rw[e1]at Do;have hlen:=rv.length;have CV:=Xm;refine Yd (xs:=its.toArray) (x:=u) Do p (by rw[lE];lia) (by rw[lE];lia) (by simpa using hu) λh' k Db sb=>?_;have I1:Inv X U σ H {s with heap:=h',toks:=k}:=I.turned (t':=k) (λb o hb e=>(sb.2 b hb).trans e) f0 f1 f3 f4 f5;have e2:((n-1-i:Nat):Int)-1=(n:Int)-1-((i+1:Nat):Int):=by lia
  rw[e2]at Db;exact⟨u,Z,kZ (s:={s with heap:=h',toks:=k}) Db rfl rfl (by lia) ⟨x,H,I1,ru,⟨Z,λys hy=>by rw[I.VL hy hq];exact hx⟩,⟨by lia,Db⟩,λb hb=>(hf b hb).1⟩⟩
 done:=by
  intro X hP hw hK hc i U s σ H E I hf st hg;subst hP hw hK;have hg:i=n:=hg;obtain⟨f0,f1,f2,f3,f4,f5⟩:=hf it (by simp);have Do:=st.2;rw[show(n:Int)-1-(i:Int)= -1 by lia]at Do;exact Ue Do (I.ok.hd hc) λh' k eb=>⟨Z,I.turned (t':=k) (λb o hb e=>eb b o hb e) f0 f1 f3 f4 f5⟩
 self:=λ_ _ _ _ _ st h=>XA st.2 h
section
def QiQ(K:Frag)(ta:TA):TI:=λσ H R=>ta σ H λvs H1=>∃a xs,vs=[.ref a]/\aw K H1 a xs/\R (FO K a xs.length) H1
def Qec{p pos:Pos}(hg:Gl X "reversed")(hm:X.mg "reversed"=none)(ha:PA X [e] ta)(h1:isStar e=false):PI X tg (.Call (.Name "reversed" p) [e] [] pos) (QiQ X.K ta):=by
 intro U s σ H R I h;refine Call_ (ZV I hg hm ydJ (yav (ay (ha pos U s σ H _ I h) λus s1⟨vs,H1,I1,r1,a,xs,e,hq,q⟩=>?_) (Zs h1) Z));subst e;obtain⟨u,rfl,rfl⟩:=vals1 r1;obtain⟨its,rv,pp,hz⟩:=I1.tuple hq;have hlen:=rv.length;have CV:=Xm;refine jP (xs:=its.toArray) pp (by rw[lE];lia) λk=>?_;have g:Zz (s1.heap.push {cls:=.type "reversed",data:=.fields #[.ref a,rawInt ((its.toArray.size:Int)-1)]}) s1.heap.objs.size a ((xs.length:Int)-1-((0:Nat):Int)):=by
  have e:(xs.length:Int)-1-((0:Nat):Int)=(its.toArray.size:Int)-1:=by rw[lE];lia
  rw[e];exact yah _ rfl
 refine XA (s:={s1 with heap:=s1.heap.push {cls:=.type "reversed",data:=.fields #[.ref a,rawInt ((its.toArray.size:Int)-1)]},toks:=k}) g ?_;refine⟨s1.heap.objs.size,[s1.heap.objs.size],_,_,H1,Z,I1.kept (t':=k) λb o e=>yab _ e,yK a _ xs.length,⟨lF _,g⟩,λb hb=>?_,q⟩;obtain rfl:b=s1.heap.objs.size:=by simpa using hb
 exact I1.kY (tN _) (I1.ao.fresh (tN _))
end
def Qhx{K:Frag}{xs:List V}:Fix (FO K a xs.length) xs.length (λH=>aw K H a xs) (λi H v H'=>H'=H/\xs[xs.length-1-i]? =some v):=
 ⟨λi H ok h=>let ⟨x,e⟩:=CU (xs:=xs) (i:=xs.length-1-i) (by lia);⟨xs,x,ok,Z,h,e⟩,λH ok=>rfl,λi H v H' ok _ y=>⟨y.1,y.2 _ ok⟩⟩
section
open Classical in
def zQ(hr:Zd k A):A.units+16<cLine:=Nat.lt_of_le_of_lt (by lia:A.units+16<=A.units+64) hr.units
def Qed{p p2 pos PP:Pos}(hg:Gl X "reversed")(hm:X.mg "reversed"=none)(hg2:Gl X "range")(hm2:X.mg "range"=none)(ha:PA X [a] ta)(h1:isStar a=false):PI X tg (.Call (.Name "reversed" p) [.Call (.Name "range" p2) [a] [] PP] [] pos) (QiP (λσ H Q=>ta σ H λvs H1=>Q (.int 0::vs) H1)):=by
 intro U s σ H R I h;have CO:starEach [.Call (.Name "range" p2) [a] [] PP] X.env=[(false,eval (.Call (.Name "range" p2) [a] [] PP) X.env)]:=rfl;refine Call_ (ZV I hg hm ydJ (yav ?_ CO Z));rw[CO];show wpAny _ _ (spliced ((false,eval (.Call (.Name "range" p2) [a] [] PP) X.env)::[])) _ _ s;refine ybx ?_;refine Call_ (ZV I hg2 hm2 boot_range (yav (ay (ha PP U s σ H _ I h) λus s1⟨vs,H1,I1,r1,i,j,e,bd,q⟩=>?_) (Zs h1) Z));obtain⟨rfl,rfl⟩:(0:Int)=i/\vs=[.int j]:=by
  injection e with e1 e2;injection e1 with e1;exact⟨e1,e2⟩
 obtain⟨v1,rfl,⟨t,rfl⟩⟩:=vals1 r1;refine call_range_1 (ycd ?_);have I2:Inv X U σ H1 {s1 with heap:=s1.heap.push {cls:=.type "range",data:=.fields #[.int 0 s1.toks,.int j t,.int 1 (s1.toks+1)]},toks:=s1.toks+1+1}:=I1.kept λb o e=>yab _ e;refine jN (s:={s1 with heap:=s1.heap.push {cls:=.type "range",data:=.fields #[.int 0 s1.toks,.int j t,.int 1 (s1.toks+1)]},toks:=s1.toks+1+1}) (IsRange.new ..) bd ?_;generalize L':({s1 with heap:=s1.heap.push {cls:=.type "range",data:=.fields #[.int 0 s1.toks,.int j t,.int 1 (s1.toks+1)]},toks:=s1.toks+1+1}:Shared)=s2 at I2;have hit:IsRangeIter (s2.heap.push (sF 0 j)) s2.heap.objs.size (0+((j-0).toNat:Nat)-1+((0:Nat):Int)*(-1)) ((((j-0).toNat:Nat):Int)-((0:Nat):Int)) (-1):=by
  have e1:0+((j-0).toNat:Nat)-1+((0:Nat):Int)*(-1)=0+(Builtin.Range.rangeSize 0 j 1-1)*1:=by rw[yF];simp
  have e2:(((j-0).toNat:Nat):Int)-((0:Nat):Int)=Builtin.Range.rangeSize 0 j 1:=by rw[yF];simp
  rw[e1,e2];exact yah _ rfl
 refine ydl (s:={s2 with heap:=s2.heap.push (sF 0 j)}) hit ?_;refine⟨s2.heap.objs.size,[s2.heap.objs.size],_,_,H1,Z,I2.kept (t':=s2.toks) λb o e=>yab _ e,V3 _ _ (-1) _,hit,λb hb=>?_,q⟩;obtain rfl:b=s2.heap.objs.size:=by simpa using hb
 exact I2.kY (tN _) (I2.ao.fresh (tN _))
end
structure cv(X:Cx)(e:Expr)(t:TT):Prop where
 pt:PT X e t
structure CW(X:Cx)(e:Expr)(t:TT):Prop where
 pw:PW X e t
section
variable {rest:List Expr}{pos apos bv:Pos}{to:TE}{t1:TT}{sp:Sp}{id:String}{name:Str}
def x0(h:aA X (.Call f es ks pos) te):cv X (.Call f es ks pos) (tB te):=⟨XX h.pe⟩
def yL(h:cv X a t1):cv X (.UnaryOp .Not a pos) (Iq t1):=⟨Wf h.pt⟩
def yM(h:cv X a t1):CW X (.BoolOp .Or [a] pos) t1:=⟨JW h.pt⟩
def Ma(h:cv X a t1)(hb:CW X (.BoolOp .Or (b::rest) pos) t2):CW X (.BoolOp .Or (a::b::rest) pos) (Ip t1 t2):=⟨ZU h.pt hb.pw⟩
def Mb(h:CW X e t1):cv X e t1:=⟨h.pw.pt⟩
def XB{s1 s2:List Stmt}(hc:cv X c t1)(ha:cN X s1 u1)(hb:cN X s2 u2):b9 X (.If c s1 s2 pos) (Ai t1 u1 u2):=⟨QN hc.pt ha.ps hb.ps⟩
def yN(D:Def X.prog X.w X.K X.mg X.Y k x ps sp)(hr:Zd k' X.A)(hk:k<=k')(hg:Gl X x)(hx:Passes (av X.prog X.w) X E)(ha:iD X [e] t)(h:isStar e=false)(mo:(x==("__debug__":Str))=false):aA X (.Call (.Name x p) [e] [] pos) (XW sp [] E t):=⟨D.pe hr hk hg hx ha.pa mo (Zs h) rfl⟩
def X5(D:Def X.prog X.w X.K X.mg X.Y k x ps sp)(hr:Zd k' X.A)(hk:k<=k')(hg:Gl X x)(hx:Passes (av X.prog X.w) X E)(ha:iD X [e,f] t)(h:isStar e=false)(h2:isStar f=false)(mo:(x==("__debug__":Str))=false):aA X (.Call (.Name x p) [e,f] [] pos) (XW sp [] E t):=⟨D.pe hr hk hg hx ha.pa mo (Zs h) (by rw[Zs h2];rfl)⟩
def QbS(ha:aA X a ta)(hb:aA X b tb):aA X (.BoolOp .And [a,b] pos) (Ep ta tb):=⟨Y6 ha.pe (Y5 hb.pe)⟩
end
structure aX(P:Program)(w:World)(K:Frag)(mg:Str->Option Value)(Y:Heap)(C:Addr)(k:Nat)(m:Str)(ps:List Str)(sp:Sp):Prop where
 cl:cu K C
 ex:∃f fd,Meth K C m f/\Binds K fd ps []/\Zz1 P w K mg Y k f fd ps sp
structure dI(P:Program)(w:World)(K:Frag)(mg:Str->Option Value)(Y:Heap)(C:Addr)(k:Nat)(x:Str)(ps:List Str)(sp:Sp):Prop where
 mgC:mg x=some (.ref C)
 ex:∃f fd,Mk K C f/\Binds K fd ps []/\Zz1 P w K mg Y k f fd ps sp
section
variable {X:Cx}{E:XK}{o e:Expr}{es:List Expr}{ta:TE}{t:TA}{k k':Nat}{x m:Str}{ps:List Str}{sp:Sp}{C:Addr}{pl:Sem Bool}{p pos apos:Pos}
def aX.pe(D:aX X.prog X.w X.K X.mg X.Y C k m ps sp)(hr:Zd k' X.A)(hk:k<=k')(hx:Passes (av X.prog X.w) X E)(he:PE X o ta)(ha:PA X (e::es) t)(f8:starEach (e::es) X.env=(false,eval e X.env)::starEach es X.env:=by rfl)(db:(backTo pos (starEach es X.env)).any (·.1)=false:=by rfl)(ht:eval (.Call (.Attribute o m apos) (e::es) [] pos) X.env=(do
   let ov<-eval o X.env
   standAt apos.atName
   let (f,first)<-holding [ov] (getMethod ov m pl)
   callWith pos f first (backTo pos (starEach (e::es) X.env)) (backToKw pos (keywordEach [] X.env))):=by rfl):PE X (.Call (.Attribute o m apos) (e::es) [] pos) (Ux C m sp [] E ta t):=by
 obtain⟨f,fd,hm,hb,F⟩:=D.ex;exact vG he D.cl hm F (hr.mono hk) hb .nil hx ha f8 db ht
def dI.pe(D:dI X.prog X.w X.K X.mg X.Y C k x ps sp)(hr:Zd k' X.A)(hk:k+1<=k')(hg:Gl X x)(hx:Passes (av X.prog X.w) X E)(ha:PA X (e::es) t)(mo:(x==("__debug__":Str))=false:=by lia)(he:starEach (e::es) X.env=(false,eval e X.env)::starEach es X.env:=by rfl)(db:(backTo pos (starEach es X.env)).any (·.1)=false:=by rfl):PE X (.Call (.Name x p) (e::es) [] pos) (IJ C sp [] E t):=by
 obtain⟨f,fd,qMa,hb,F⟩:=D.ex;exact PB qMa F (hr.mono hk) hg D.mgC hb .nil hx ha mo he db
end
open Builtin in
section
variable {P:Program}{w:World}{K:Frag}{mg:Str->Option Value}{Y h:Heap}{x:Str}{st:Stmt}{k:Nat}{sp:Sp}{p1 p2 p3 p4:Str}
def ai.d0(D:ai K x st)(X:K.In h)(G:h.Ns mainGlobals mg)(ao:∀f fd,az K x x st f fd->Zz1 P w K mg Y k f fd [] sp)(hb:∀(kV doc pm:Value)(an:Option Addr)(am ct:Value),bindArgs (fnOf x x (Q8 st) (QS st) (Qe st) .none kV doc pm an am ct) ⟨[],[]⟩=pure []):Def P w K mg Y k x [] sp:=
 D.def X G ao λkV doc pm an am ct us hl=>match us,hl with|[],_=>hb kV doc pm an am ct
def ai.d1(D:ai K x st)(X:K.In h)(G:h.Ns mainGlobals mg)(ao:∀f fd,az K x x st f fd->Zz1 P w K mg Y k f fd [p1] sp)(hb:∀(kV doc pm:Value)(an:Option Addr)(am ct:Value)(u1:Value),bindArgs (fnOf x x (Q8 st) (QS st) (Qe st) .none kV doc pm an am ct) ⟨[u1],[]⟩=pure [(p1,u1)]):Def P w K mg Y k x [p1] sp:=
 D.def X G ao λkV doc pm an am ct us hl=>match us,hl with|[u1],_=>hb kV doc pm an am ct u1
def ai.d2(D:ai K x st)(X:K.In h)(G:h.Ns mainGlobals mg)(ao:∀f fd,az K x x st f fd->Zz1 P w K mg Y k f fd [p1,p2] sp)(hb:∀(kV doc pm:Value)(an:Option Addr)(am ct:Value)(u1 u2:Value),bindArgs (fnOf x x (Q8 st) (QS st) (Qe st) .none kV doc pm an am ct) ⟨[u1,u2],[]⟩=pure [(p1,u1),(p2,u2)]):Def P w K mg Y k x [p1,p2] sp:=
 D.def X G ao λkV doc pm an am ct us hl=>match us,hl with|[u1,u2],_=>hb kV doc pm an am ct u1 u2
def ai.d3(D:ai K x st)(X:K.In h)(G:h.Ns mainGlobals mg)(ao:∀f fd,az K x x st f fd->Zz1 P w K mg Y k f fd [p1,p2,p3] sp)(hb:∀(kV doc pm:Value)(an:Option Addr)(am ct:Value)(u1 u2 u3:Value),bindArgs (fnOf x x (Q8 st) (QS st) (Qe st) .none kV doc pm an am ct) ⟨[u1,u2,u3],[]⟩=pure [(p1,u1),(p2,u2),(p3,u3)]):Def P w K mg Y k x [p1,p2,p3] sp:=
 D.def X G ao λkV doc pm an am ct us hl=>match us,hl with|[u1,u2,u3],_=>hb kV doc pm an am ct u1 u2 u3
def ai.d4(D:ai K x st)(X:K.In h)(G:h.Ns mainGlobals mg)(ao:∀f fd,az K x x st f fd->Zz1 P w K mg Y k f fd [p1,p2,p3,p4] sp)(hb:∀(kV doc pm:Value)(an:Option Addr)(am ct:Value)(u1 u2 u3 u4:Value),bindArgs (fnOf x x (Q8 st) (QS st) (Qe st) .none kV doc pm an am ct) ⟨[u1,u2,u3,u4],[]⟩=pure [(p1,u1),(p2,u2),(p3,u3),(p4,u4)]):Def P w K mg Y k x [p1,p2,p3,p4] sp:=
 D.def X G ao λkV doc pm an am ct us hl=>match us,hl with|[u1,u2,u3,u4],_=>hb kV doc pm an am ct u1 u2 u3 u4
end
structure MethAt(K:Frag)(C:Addr)(m q:Str)(st:Stmt):Prop where
 ex:∃f fd,Meth K C m f/\az K m q st f fd
def yO{K:Frag}{m q:Str}{st:Stmt}{od an:Option Addr}{ge:Array (Option Value)}{kV doc pm am ct:Value}(a:findIn K (.ref C) m=some (some (.ref f)))(i:isFn K (.ref f)=true)(l:K.lookup f=some ⟨oc,od,.func (fnOf m q (Q8 st) (QS st) (Qe st) .none kV doc pm an am ct),ge⟩)(c:codeIn K am q=true)(k:keepIn K (.ref f)=true):MethAt K C m q st:=
 ⟨f,_,⟨a,i,k⟩,⟨⟨oc,od,kV,doc,pm,an,am,ct,ge,Z,l,c⟩,k⟩⟩
section
variable {P:Program}{w:World}{K:Frag}{mg:Str->Option Value}{Y:Heap}{C:Addr}{x m q:Str}{st:Stmt}{k:Nat}{p1 p2:Str}{sp:Sp}
def MethAt.Mc(D:MethAt K C m q st)(cl:cu K C)(ao:∀f fd,az K m q st f fd->Zz1 P w K mg Y k f fd [p1,p2] sp)(hb:∀(kV doc pm:Value)(an:Option Addr)(am ct:Value)(u1 u2:Value),bindArgs (fnOf m q (Q8 st) (QS st) (Qe st) .none kV doc pm an am ct) ⟨[u1,u2],[]⟩=pure [(p1,u1),(p2,u2)]):aX P w K mg Y C k m [p1,p2] sp:=by
 obtain⟨f,fd,qMa,F⟩:=D.ex;exact⟨cl,f,fd,qMa,F.binds (ps:=[p1,p2]) λkV doc pm an am ct us hl=>match us,hl with|[u1,u2],_=>hb kV doc pm an am ct u1 u2,ao f fd F⟩
def MethAt.dc2(D:MethAt K C "__init__" q st)(hx:mg x=some (.ref C))(mk:makesIn K C=true)(kp:keepIn K (.ref C)=true)(ao:∀f fd,az K "__init__" q st f fd->Zz1 P w K mg Y k f fd [p1,p2] sp)(hb:∀(kV doc pm:Value)(an:Option Addr)(am ct:Value)(u1 u2:Value),bindArgs (fnOf "__init__" q (Q8 st) (QS st) (Qe st) .none kV doc pm an am ct) ⟨[u1,u2],[]⟩=pure [(p1,u1),(p2,u2)]):dI P w K mg Y C k x [p1,p2] sp:=by
 obtain⟨f,fd,qMa,F⟩:=D.ex;exact⟨hx,f,fd,⟨mk,qMa.at_,qMa.fn,kp⟩,F.binds (ps:=[p1,p2]) λkV doc pm an am ct us hl=>match us,hl with|[u1,u2],_=>hb kV doc pm an am ct u1 u2,ao f fd F⟩
end
section
variable {P:Program}{w:World}{K:Frag}{mg:Str->Option Value}{Y:Heap}{C:Addr}{m q:Str}{st:Stmt}{k:Nat}{p1 p2 p3:Str}{sp:Sp}
def MethAt.FP(D:MethAt K C m q st)(cl:cu K C)(ao:∀f fd,az K m q st f fd->Zz1 P w K mg Y k f fd [p1,p2,p3] sp)(hb:∀(kV doc pm:Value)(an:Option Addr)(am ct:Value)(u1 u2 u3:Value),bindArgs (fnOf m q (Q8 st) (QS st) (Qe st) .none kV doc pm an am ct) ⟨[u1,u2,u3],[]⟩=pure [(p1,u1),(p2,u2),(p3,u3)]):aX P w K mg Y C k m [p1,p2,p3] sp:=by
 obtain⟨f,fd,qMa,F⟩:=D.ex;exact⟨cl,f,fd,qMa,F.binds (ps:=[p1,p2,p3]) λkV doc pm an am ct us hl=>match us,hl with|[u1,u2,u3],_=>hb kV doc pm an am ct u1 u2 u3,ao f fd F⟩
end
def yP:typeLookup (.type "reversed") "__len__"=pure none:=by rw[ybv,yaP];kernel_rfl
def XC:Slot "reversed" (Str.ofString "__length_hint__") "reversed.__length_hint__":=Slot.of (owner:="reversed") (n:="__length_hint__") (by rw[ybv,yaP];kernel_rfl) (by rfl') (by rfl') (by rfl') (Or.inr (by rfl')) yck (by rfl')
def YR:entryFor table "reversed.__length_hint__"=some Builtin.«reversed.__length_hint__»:=entryFor_of_tree (by kernel_rfl)
def UU(a:Value):argsOk "reversed.__length_hint__" {pos:=[a]}:=by first|with_unfolding_all rfl|kernel_rfl
section
variable {prog:Program}
def UV{it a:Addr}{xs:Array Value}(h:Zz s.heap it a ((xs.size:Int)-1))(hT:IsTup s.heap a xs)(hl:((xs.size:Nat):Int)<2^63)(hQ:∀t k,Q (.int (xs.size:Nat) t) {s with toks:=k}):wpAny (model prog w) A (call (.builtin "reversed.__length_hint__") [.ref it]) Q E s:=by
 refine yaN XC ⟨_,h,Z⟩ YR ?_ (UU _);show wpAny _ _ (field (.ref it) 0>>=_) _ _ _;refine yaa (yaH h Z (x:=.ref a) Z ?_);refine ycg (λLE=>Bool.noConfusion LE) (λ_=>?_);refine yaa (len_tuple hT (by lia) ?_);refine yaa (m:=asInt? _) (yac ?_);refine yaa (yaH (s:={s with toks:=s.toks+1+1}) h Z (x:=rawInt ((xs.size:Int)-1)) Z ?_);refine ycg (λLE=>absurd LE (by lia)) (λ_=>?_);have e:(xs.size:Int)-1+1=((xs.size:Nat):Int):=by lia
 rw[e];exact yaa (wpAny_mkInt (yac ⟨_,Z,hQ _ _⟩))
def yQ{it a:Addr}{xs:Array Value}(h:Zz s.heap it a ((xs.size:Int)-1))(hT:IsTup s.heap a xs)(hl:xs.size<=sizeLine)(hQ:∀b k,Q b {s with toks:=k}):wpAny (model prog w) A (Builtin.List.listLengthHint (.ref it)) Q E s:=by
 have hR:s.TypeIs (.ref it) "reversed":=⟨_,h,Z⟩;have CV:=Xm;unfold Builtin.List.listLengthHint;refine yaa (yaO hR yP ?_);refine ycg (λLE=>Bool.noConfusion LE) (λ_=>?_);refine ycg (λLE=>Bool.noConfusion LE) (λ_=>?_);refine yaa (yaO hR XC.lookup ?_);generalize bf:("reversed.__length_hint__":String)=CF
 wp_delta
 rw[show splitId CF=some ("reversed","__length_hint__")from by subst bf;rfl'];subst bf;refine yaa (ycP (T:="reversed") (b:=true) hR (by rw[yds];kernel_rfl) ?_);refine ycg (λLE=>absurd LE (by lia)) (λ_=>?_);refine ycg (λLE=>absurd LE (by rfl')) (λ_=>?_);refine yaa (ycX ?_);refine yaa (ybC (XC.bind _) ?_);refine yaa (ydg (UV h hT (by lia) λt k=>?_));dsimp only;have e1:asInt? (Value.int ((xs.size:Nat):Int) t)=pure (some ((xs.size:Nat):Int)):=rfl;have AC:Builtin.List.listTooLong (((xs.size:Nat):Int).toNat)=false:=by
  show decide (_>sizeLine)=false;exact tL (by lia)
 have eE:Builtin.List.listFitsIndex ((xs.size:Nat):Int)=true:=by
  unfold Builtin.List.listFitsIndex;rw[yax];exact⟨tM (by lia),tM (by lia)⟩
 have eK:¬ ((xs.size:Nat):Int)<0:=by lia
 generalize ((xs.size:Nat):Int)=n at e1 AC eE eK ⊢;refine yaa (ybC e1 ?_);dsimp only;rw[eE,AC,yag (by lia),yag eK,yag (by lia)];exact yac (hQ _ _)
def x5(xs:Array Value)(i:Nat)(v:Value):Prop:=xs[xs.size-1-i]? =some v
def wL(hh:A.handled=none)(I a:Addr)(re:I≠a)(xs:Array Value)(hl:((xs.size:Nat):Int)<2^63):Walks prog w A I [I,a] [I] xs.size (x5 xs) (λi h=>i<=xs.size/\Zz h I a ((xs.size:Int)-1-(i:Int))/\IsTup h a xs) where
 sub:=λb hb=>by simp at hb;simp[hb]
 frame:=λi h h' st hk=>⟨st.1,hk I (by simp) _ st.2.1,by obtain⟨o,e,r⟩:=st.2.2;exact⟨o,hk a (by simp) o e,r⟩⟩
 item:=λi s Q E hi st hQ=>by
  have e1:(xs.size:Int)-1-(i:Int)=((xs.size-1-i:Nat):Int):=by lia
  have Do:=st.2.1;rw[e1]at Do;obtain⟨x,hx⟩:∃x,xs[xs.size-1-i]? =some x:=⟨_,yaS (by lia)⟩;refine Yd Do st.2.2 (by lia) hl hx λh' k Db sb=>hQ x h' k hx ⟨hi,?_,?_⟩ λb o hb e=>(sb.2 b (λz=>hb (by simp[z]))).trans e
  .rw[show(xs.size:Int)-1-((i+1:Nat):Int)=((xs.size-1-i:Nat):Int)-1 by lia];exact Db
  .obtain⟨o,e,r⟩:=st.2.2;exact⟨o,(sb.2 a (Ne.symm re)).trans e,r⟩
 done:=λs Q E st hQ=>by
  have Do:=st.2.1;rw[show(xs.size:Int)-1-(xs.size:Int)= -1 by lia]at Do;exact Ue Do hh λh' k eb=>hQ h' k λb o hb e=>eb b o (λz=>hb (by simp[z])) e
 self:=λ_ _ _ _ st hQ=>XA st.2.1 hQ
def yR{it a:Addr}{xs:Array Value}(hh:A.handled=none)(hr:Zz s.heap it a ((xs.size:Int)-1))(hT:IsTup s.heap a xs)(hlen:xs.size<=sizeLine)(S:Addr)(hS:s.heap.get? S=some {cls:=.type "list",data:=.seq #[]})(hR:∀h' tk Cl c',(∀b o,b≠S->b≠it->s.heap.get? b=some o->h'.get? b=some o)->h'.get? S=some {cls:=.type "list",dict:=none,data:=.seq Cl c',slots:= #[]}->ItemsOf (x5 xs) Cl xs.size->R (.ok (.ret .none)) {s with heap:=h',toks:=tk}):wpAny (model prog w) A.in1 (Builtin.«list.__init__» ⟨[.ref S,.ref it],[]⟩) (λfin s'=>match fin with| .done f=>R (.ok f) s'| .again c'=>c'.quiet=true/\codeAny (model prog w) A c' R s') (λe s'=>R (.error e) s') s:=by
 have CV:=Xm;have re:it≠a:=λz=>by
  obtain⟨o,e,c,n,d⟩:=hT;rw[<-z,hr]at e;cases e;cases d
 have fF:S≠it:=λz=>by rw[z,hr]at hS;simp at hS
 have FQ:S≠a:=λz=>by
  obtain⟨o,e,c,n,d⟩:=hT;rw[<-z,hS]at e;cases e;simp at c
 show wpAny _ _ (do let old<-Builtin.List.listItems (.ref S);Builtin.List.listUpdate (.ref S) (λ_=> #[]);letGo old.toList.reverse;Builtin.List.listExtendWith (.ref S) (.ref it) .none) _ _ s;refine yaa ?_;unfold Builtin.List.listItems;refine yaa (ybe hS Z (yac ?_));show wpAny _ _ (updateSeq S (λ_=> #[])>>=λ_=>letGo (#[]:Array Value).toList.reverse>>=λ_=>Builtin.List.listExtendWith (.ref S) (.ref it) .none) _ _ s;refine yaa (yeV hS Z (yaa (yfb ?_)));have g2:=ybt (Obj.mapSeq (λ_=>(#[]:Array Value))) hS rfl;have Ba:∀b o,b≠S->s.heap.get? b=some o->(s.heap.update S (Obj.mapSeq (λ_=>(#[]:Array Value)))).get? b=some o:=λb o hb e=>(ybL _ _ (Ne.symm hb)).trans e;generalize s.heap.update S (Obj.mapSeq (λ_=>(#[]:Array Value)))=hp at g2 Ba;have dJ:Zz hp it a ((xs.size:Int)-1):=Ba _ _ (Ne.symm fF) hr;have eJ:IsTup hp a xs:=by obtain⟨o,e,r⟩:=hT;exact⟨o,Ba _ _ (Ne.symm FQ) e,r⟩
 have hI:Shared.TypeIs {s with heap:=hp} (.ref it) "reversed":=⟨_,dJ,Z⟩;have W:=(wL (prog:=prog) (w:=w) (A:=A.in1) hh it a re xs (by lia)).toS;have key:∀(h:Heap)(c₁ tk:Nat),Zz h it a ((xs.size:Int)-1)->IsTup h a xs->(∀b o,b≠S->s.heap.get? b=some o->h.get? b=some o)->
   h.get? S=some {cls:=.type "list",data:=.seq #[] c₁}->codeAny (model prog w) A (.builtin "list.extend.loop" ⟨[.ref S,.ref it,.none],[]⟩) R {s with heap:=h,toks:=tk}:=by
  intro h c₁ tk hit sG hk Fe;refine codeAny_extend_loopS W hlen S (λhm=>by simp at hm;rcases hm with z|z;exact fF z;exact FQ z) .none xs.size 0 _ #[] c₁ rfl (lF _) ⟨lF _,by simpa using hit,sG⟩ Fe (ItemsOf.nil _) λs' Cl c' hm eB IO=>?_;rw[Moved.eq_with hm];refine hR s'.heap s'.toks Cl c' (λb o hb FB e=>hm.heap b o (λog=>?_) (hk b o hb e)) eB IO;rcases yak.mp og with e'|og
  .exact hb e'
  .exact FB (yao.mp og)
 unfold Builtin.List.listExtendWith;refine yaa (ydu (T:="reversed") hI ?_);have h1:Builtin.List.listSameRef (.ref S) (.ref it)=false:=by simp[Builtin.List.listSameRef,fF]
 have h2:(Value.type "reversed"==Value.type "list")=false:=by lia
 have h3:(Value.type "reversed"==Value.type "tuple")=false:=by lia
 simp only[h1,h2,h3,Bool.or_false,yan,yaM];refine yaa (XA (s:={s with heap:=hp}) dJ ?_);refine yaa (ybf (yQ (s:={s with heap:=hp}) dJ eJ hlen λb k=>?_));refine ycg (λ_=>?_) (λ_=>yac ⟨ycA ydR _,key _ _ _ dJ eJ Ba g2⟩);refine yaa (ycX ?_);refine yaa ?_;show wpAny _ _ (updateSeq S (·.push .none)>>=λ_=>updateSeq S (·.pop)) _ _ _;refine yaa (yeV (s:={s with heap:=hp,toks:=k}) g2 Z ?_);have Md:=ybt (Obj.mapSeq (·.push Value.none)) g2 rfl;refine yeV (hz:=by seq_fits) Md rfl ?_;have hS3:=ybt (Obj.mapSeq (·.pop)) Md rfl;have oh:∀b o,b≠S->hp.get? b=some o->((hp.update S (Obj.mapSeq (·.push Value.none))).update S (Obj.mapSeq (·.pop))).get? b=some o:=λb o hb e=>(ybL _ _ (Ne.symm hb)).trans ((ybL _ _ (Ne.symm hb)).trans e);refine yac ⟨ycA ydR _,key _ _ _ (oh _ _ (Ne.symm fF) dJ) ?_ (λb o hb e=>oh b o hb (Ba b o hb e)) hS3⟩;obtain⟨o,e,r⟩:=eJ;exact⟨o,oh _ _ (Ne.symm FQ) e,r⟩
end
def Qee{xs:List V}{acc:Array Value}(r:Vals xs its)(h:ItemsOf (x5 its.toArray) acc its.toArray.size):Vals xs.reverse acc.toList:=by
 have hl:=r.length;have e:acc.toList=its.reverse:=by
  apply ybH;intro j
  by_cases hj:j<its.length
  .have h1:acc.size=its.length:=by rw[h.1,lE]
   obtain⟨v,hv⟩:∃v,acc[j]? =some v:=⟨_,yaS (by lia)⟩;have h2:=h.2 j v hv;unfold x5 at h2;rw[lE,List.getElem?_toArray]at h2;rw[yeQ,hv,ydx hj,h2]
  .have h1:acc.size=its.length:=by rw[h.1,lE]
   rw[ybT (by rw[lD];lia),ybT (by rw[tZ];lia)]
 rw[e];clear h e hl
 induction r with
 |nil=>exact .nil
 |cons a r ih=>
  rw[ybJ,ybJ];exact ih.append (.cons a .nil)
section
def Qhy(K:Frag)(ta:TA):TE:=λσ H Q=>ta σ H λvs H1=>∃a xs,vs=[.ref a]/\aw K H1 a xs/\∀l,H1 l=none->Q (.ref l) (upd H1 l (.lst xs.reverse))
def WY{p q cQ bv:Pos}(hc:X.calm=true)(hgl:Gl X "list")(Me:X.mg "list"=none)(hg:Gl X "reversed")(hm:X.mg "reversed"=none)(ha:PA X [e] ta)(h1:isStar e=false):PE X (.Call (.Name "list" q) [.Call (.Name "reversed" p) [e] [] cQ] [] bv) (Qhy X.K ta):=by
 intro U s σ H Q I h;refine yaX (ZV I hgl Me boot_list ?_ (by lia) (by lia));refine yav ?_ (Zs Z) rfl;rw[Zs (e:=.Call (.Name "reversed" p) [e] [] cQ) rfl];refine ybx ?_;refine yaX (ZV I hg hm ydJ ?_ (by lia) (by lia));refine yav (ay (ha cQ U s σ H _ I h) λus s1⟨vs,H1,I1,r1,a,xs,e,hq,q⟩=>?_) (Zs h1) rfl;subst e;obtain⟨u,rfl,rfl⟩:=vals1 r1;obtain⟨its,rv,pp,hz⟩:=I1.tuple hq;have hlen:=rv.length;have CV:=Xm;refine jP (xs:=its.toArray) pp (by rw[lE];lia) λk=>?_;refine ycd ?_;have g:Zz (s1.heap.push {cls:=.type "reversed",data:=.fields #[.ref a,rawInt ((its.toArray.size:Int)-1)]}) s1.heap.objs.size a ((its.toArray.size:Int)-1):=yah _ rfl;have Mf:IsTup (s1.heap.push {cls:=.type "reversed",data:=.fields #[.ref a,rawInt ((its.toArray.size:Int)-1)]}) a its.toArray:=by obtain⟨o,e,r⟩:=pp;exact⟨o,yab _ e,r⟩
 have up:∀b o,s1.heap.get? b=some o->(s1.heap.push {cls:=.type "reversed",data:=.fields #[.ref a,rawInt ((its.toArray.size:Int)-1)]}).get? b=some o:=λb o e=>yab _ e;have hsz:s1.heap.objs.size<(s1.heap.push {cls:=.type "reversed",data:=.fields #[.ref a,rawInt ((its.toArray.size:Int)-1)]}).objs.size:=yaj g;generalize s1.heap.push {cls:=.type "reversed",data:=.fields #[.ref a,rawInt ((its.toArray.size:Int)-1)]}=h2 at g Mf up hsz;refine callType_codes (Q₁:=λobj s₁=>obj=.ref h2.objs.size/\s₁={s1 with heap:=h2.push {cls:=.type "list",data:=.seq #[]},toks:=k}) F.called_list (F.typeCall_list_1 _) F.entry_list_init (code_list_new _ ⟨Z,Z⟩) λobj s₁ h₁=>?_;obtain⟨rfl,rfl⟩:=h₁;have g1:(h2.push {cls:=.type "list",data:=.seq #[]}).get? h2.objs.size=some {cls:=.type "list",data:=.seq #[]}:=yah _ rfl;have pp3:IsTup (h2.push {cls:=.type "list",data:=.seq #[]}) a its.toArray:=by obtain⟨o,e,r⟩:=Mf;exact⟨o,yab _ e,r⟩
 refine⟨⟨_,g1,Z⟩,F.args_list_init_2 _ _,yR (s:={s1 with heap:=h2.push {cls:=.type "list",data:=.seq #[]},toks:=k}) (A:=X.A.in1) (I1.ok.hd hc) (yab _ g) pp3 (by rw[lE];lia) _ g1 λh' tk acc c' hk hS IO=>⟨Z,?_⟩⟩;have rv2:=Qee rv IO;have GM:H1 h2.objs.size=none:=I1.ao.fresh (ycW hsz);refine⟨.ref h2.objs.size,_,I1.laid (t':=tk) (λb o e=>hk b o (yar (yaj (up b o e))) (yar (yaj e)) (yab _ (up b o e))) (ycW hsz) (show JJ X.prog X.w _ h' _ (.lst xs.reverse)from⟨?_,acc.toList,c',rv2,by rw[Array.toArray_toList];exact hS⟩),Z,q _ GM⟩;rw[tZ];lia
end
open PySem PySem.SeqAt
open MeetsSeq MeetsSeq2 MeetsSeq3 SeqRoads2
open PySem PySem.Spec PyProof.Rows PySem.SeqAt
open PySem PySem.Spec PyProof.Rows PySem.SeqAt PySem.W
def jQ{xs:List V}{us:List Value}(r:Vals xs us){i:Nat}(h:us[i]? =some u):∃x,xs[i]? =some x/\RelV x u:=by
 have hl:=r.length;have hi:=(yaf.mp h).1;have k:xs[i]? =some xs[i]:=yad (by lia);obtain⟨u',e,q⟩:=r.get k;rw[h]at e;cases e;exact⟨_,k,q⟩
end L2
namespace K35
open PySem PySem.W PyProof.Rows
variable {lt:Nat->Nat->Bool}
end K35
namespace L2
open PySem PySem.Spec PyProof.Rows
open PySem PySem.Spec PyProof.Rows PySem.W
end L2
namespace aH
open PySem PySem.SetTable
noncomputable def path(t:SetTable)(h:Int):Nat->Probe
 |0=>t.probeStart h
 |n+1=>t.advance (path t h n)
abbrev Small(m:Nat):Prop:=m=7
noncomputable def sH(m:Nat):Nat->Nat->Nat
 |0,i=>i
 |d+1,i=>sH m d ((i*5+1) % (m+1))
def QbT:∀i,i<=7->∀e,e<=7->∃d,d<=7/\sH 7 d i=e:=by rfl'
def Qef(hm:Small m)(hi:i<=m)(he:e<=m):∃d,d<=m/\sH m d i=e:=by
 cases hm;exact QbT i hi e he
noncomputable def run(t:SetTable)(i P:Nat):Probe:={j:=i,more:=runEnd t.mask i-i,i:=i,perturb:=P,dummy:=none}
def Qeg(m i:Nat):runEnd m i-i<=9:=by unfold runEnd;split<;>lia
theorem x6(e:path t h n=run t i P):∀k,k<=runEnd t.mask i-i->path t h (n+k)={run t i P with j:=i+k,more:=runEnd t.mask i-i-k}
 |0,_=>by rw[yfh,e];rfl
 |k+1,hk=>by
  have ih:=x6 e k (by lia);show t.advance (path t h (n+k))=_;rw[ih];unfold advance;rw[yai (by show runEnd t.mask i-i-k>0;lia)];show({run t i P with j:=i+k+1,more:=runEnd t.mask i-i-k-1}:Probe)=_;rw[show i+k+1=i+(k+1) by lia,show runEnd t.mask i-i-k-1=runEnd t.mask i-i-(k+1) by lia]
def yS(e:path t h n=run t i P):path t h (n+(runEnd t.mask i-i)+1)=run t ((i*5+1+P/32) % (t.mask+1)) (P/32):=by
 have:=x6 e (runEnd t.mask i-i) (tN _);show t.advance (path t h (n+(runEnd t.mask i-i)))=_;rw[this];unfold advance;rw[yag (by show ¬ (runEnd t.mask i-i-(runEnd t.mask i-i)>0);lia)];rfl
theorem WZ:∀(d n i P:Nat),path t h n=run t i P->i<=t.mask->∃n' i',n'<=n+10*d/\path t h n'=run t i' (P/32^d)/\i'<=t.mask/\(P=0->i'=sH t.mask d i)
 |0,n,i,P,e,hi=>⟨n,i,by lia,by rw[Nat.pow_zero,Nat.div_one];exact e,hi,λ_=>rfl⟩
 |d+1,n,i,P,e,hi=>by
  have h1:=yS e;have hr:=Qeg t.mask i;obtain⟨n',i',a,b,c,z⟩:=WZ d _ _ _ h1 (by have:=yff (i*5+1+P/32) (show 0<t.mask+1 by lia);lia);refine⟨n',i',by lia,?_,c,λhp=>?_⟩
  .rw[b,Nat.div_div_eq_div_mul,Nat.pow_succ,ybP]
  .subst hp;rw[z (by rw[Nat.zero_div])];show sH t.mask d ((i*5+1+0/32) % (t.mask+1))=sH t.mask (d+1) i;rw[Nat.zero_div,yfh];rfl
def Qeh(h:Int):bits h<2^64:=by
 unfold bits;have h1:=ybw h (show(2^64:Int)≠0 by lia);have h2:=yba h (show(0:Int)<2^64 by lia);lia
def QbU(hm:Small t.mask)(h:Int)(he:e<=t.mask):∃n,n<10*turns t.mask/\(path t h n).j=e:=by
 have e0:path t h 0=run t (bits h % (t.mask+1)) (bits h):=rfl;have hi0:bits h % (t.mask+1)<=t.mask:=by have:=yff (bits h) (show 0<t.mask+1 by lia);lia
 obtain⟨n1,i1,a1,b1,c1,_⟩:=WZ 13 0 _ _ e0 hi0;have hz:bits h/32^13=0:=Nat.div_eq_of_lt (yam (Qeh h) (by lia));rw[hz]at b1;obtain⟨d,hd,hde⟩:=Qef hm c1 he;obtain⟨n2,i2,a2,b2,c2,z2⟩:=WZ d n1 i1 0 b1 c1;exists n2,?_
 .unfold turns;lia
 .rw[b2, <-hde, <-z2 rfl];rfl
structure Ok(hs:List Int)(t:SetTable):Prop where
 mask:Small t.mask
 iM:t.dummies= #[]
 len:t.place.size=hs.length
 ups:t.place.toList.Pairwise (· < ·)
 le:∀x∈t.place.toList,x<=t.mask
 on:∀q∈hs.zip t.place.toList,∃n,(path t q.1 n).j=q.2/\∀m,m<n->(path t q.1 m).j∈t.place.toList
def Zd(hs:List Int)(t:SetTable):Prop:=hs.length*5<t.mask*3
def Ok.up(o:Ok hs t):∀i j(hi:i<t.place.size)(hj:j<t.place.size),i<j->t.place[i]<t.place[j]:=λi j hi hj h=>by
 have:=List.pairwise_iff_getElem.mp o.ups i j (by simpa using hi) (by simpa using hj) h;simpa using this
def QbV(f m:Nat)(led:Bool):Ok [] (SetTable.fresh f m led):=
 ⟨Z,Z,Z,List.Pairwise.nil,λx hx=>by simp[SetTable.fresh]at hx,λq hq=>by simp at hq⟩
def wM(f m:Nat)(led:Bool):Zd [] (SetTable.fresh f m led):=by show 0*5<7*3;lia
theorem UW{xs:Array Nat}(up:∀i k(hi:i<xs.size)(hk:k<xs.size),i<k->xs[i]<xs[k]):∀(f lo hi:Nat),hi<=xs.size->lo<=hi->hi-lo<=f->(∀k(hk:k<xs.size),k<lo->xs[k]<j)->(∀k(hk:k<xs.size),hi<=k->j<=xs[k])->
  below.go xs j f lo hi<=xs.size/\(∀k(hk:k<xs.size),k<below.go xs j f lo hi->xs[k]<j)/\(∀k(hk:k<xs.size),below.go xs j f lo hi<=k->j<=xs[k])
 |0,lo,hi,h1,h2,h3,a,b=>by
  unfold below.go;exact⟨by lia,a,λk hk hl=>b k hk (by lia)⟩
 |f+1,lo,hi,h1,h2,h3,a,b=>by
  unfold below.go
  by_cases ap:lo<hi
  .rw[yai ap];have hm:(lo+hi)/2<xs.size:=by lia
   have e:xs.getD ((lo+hi)/2) j=xs[(lo+hi)/2]:=by simp[Array.getD,hm]
   dsimp only;rw[e]
   by_cases hc:xs[(lo+hi)/2]<j
   .rw[yai hc];refine UW up f _ hi h1 (by lia) (by lia) (λk hk hl=>?_) b
    by_cases z:k=(lo+hi)/2
    .subst z;exact hc
    .exact ybu (up k _ hk hm (by lia)) hc
   .rw[yag hc];refine UW up f lo _ (by lia) (by lia) (by lia) a λk hk hl=>?_
    by_cases z:k=(lo+hi)/2
    .subst z;lia
    .have:=up _ k hm hk (by lia);lia
  .rw[yag ap];exact⟨by lia,a,λk hk hl=>b k hk (by lia)⟩
def below_at(o:Ok hs t)(j:Nat):below t.place j<=t.place.size/\(∀k(hk:k<t.place.size),k<below t.place j->t.place[k]<j)/\(∀k(hk:k<t.place.size),below t.place j<=k->j<=t.place[k]):=
 UW o.up _ 0 _ (tN _) (lF _) (by lia) (λk _ h=>by lia) (λk hk h=>by lia)
def ZN(o:Ok hs t)(h:t.place[i]? =some j):t.slot j=.live i:=by
 obtain⟨hi,e⟩:=yec.mp h;obtain⟨b1,b2,b3⟩:=below_at o j;have:below t.place j=i:=by
  rcases Nat.lt_trichotomy (below t.place j) i with z|z|z
  .have h1:=b3 _ (by lia) (tN _);have h2:=o.up (below t.place j) i (by lia) hi z;lia
  .exact z
  .have:=b2 i hi z;lia
 unfold slot;dsimp only;rw[this,h];simp
def wN(o:Ok hs t)(h:j∉t.place.toList):t.slot j=.empty:=by
 unfold slot;dsimp only;have h1:(t.place[below t.place j]? ==some j)=false:=by
  cases e:t.place[below t.place j]? with
  |none=>rfl
  |some x=>
   have:x∈t.place.toList:=ycG.mpr (Array.mem_of_getElem? e);have hx:x≠j:=λz=>h (z▸this);simp[hx]
 rw[h1];have h2:has t.dummies j=false:=by rw[o.iM];rfl
 rw[h2];simp
def yT(o:Ok hs t)(r:Zd hs t):∃e,e<=t.mask/\e∉t.place.toList:=by
 have ap:t.place.toList.length<(List.range (t.mask+1)).length:=by
  have:=o.len;unfold Zd at r;simp only[lD,List.length_range];lia
 have:∃e∈List.range (t.mask+1),e∉t.place.toList:=by
  refine ycN λhn=>?_;have ms:∀e∈List.range (t.mask+1),e∈t.place.toList:=λe he=>ycN λz=>hn ⟨e,he,z⟩;have Mg:(List.range (t.mask+1)).Nodup:=List.nodup_range;have:=List.Nodup.length_le_of_subset Mg ms;lia
 obtain⟨e,he,hn⟩:=this;exact⟨e,by simpa using Nat.lt_succ_iff.mp (by simpa using he),hn⟩
def Uf(o:Ok hs t)(r:Zd hs t)(h:Int):∃N,N<10*turns t.mask/\(path t h N).j∉t.place.toList/\∀m,m<N->(path t h m).j∈t.place.toList:=by
 obtain⟨e,he,hn⟩:=yT o r;obtain⟨n,hn1,iz⟩:=QbU o.mask h he;have key:∀n,(path t h n).j∉t.place.toList->∃N,N<=n/\(path t h N).j∉t.place.toList/\∀m,m<N->(path t h m).j∈t.place.toList:=by
  intro n
  induction n using Nat.strongRecOn with
  |ind n ih=>
   intro hf
   by_cases hm:∃m,m<n/\(path t h m).j∉t.place.toList
   .obtain⟨m,h1,h2⟩:=hm;obtain⟨N,a,b⟩:=ih m h1 h2;exact⟨N,by lia,b⟩
   .exact⟨n,tN _,hf,λm Mh=>ycN λz=>hm ⟨m,Mh,z⟩⟩
 obtain⟨N,a,b⟩:=key n (by rw[iz];exact hn);exact⟨N,by lia,b⟩
theorem Ug(t:SetTable)(h:Int):∀n,(path t h n).dummy=none
 |0=>rfl
 |n+1=>by
  have:=Ug t h n;show(t.advance (path t h n)).dummy=none;unfold advance
  split
  .exact this
  .exact this
theorem x8(o:Ok hs t){hashAt:Nat->Int}(hN:(path t h N).j∉t.place.toList)(ap:∀m,m<N->(path t h m).j∈t.place.toList):∀(d f n:Nat),n+d=N->d<f->
  (probe.go t hashAt h f (path t h n)=some (.empty (path t h N).j none)/\∀m,n<=m->m<N->∀i,t.place[i]? =some (path t h m).j->hashAt i≠h)\/
  ∃m i,n<=m/\m<N/\t.place[i]? =some (path t h m).j/\hashAt i=h/\probe.go t hashAt h f (path t h n)=some (.candidate (path t h m).j i (path t h (m+1)))/\∀m',n<=m'->m'<m->∀i,t.place[i]? =some (path t h m').j->hashAt i≠h
 |0,f,n,hd,hf=>by
  obtain⟨f,rfl⟩:∃f',f=f'+1:=⟨f-1,by lia⟩;have:n=N:=by lia
  subst this;refine .inl ⟨?_,λm h1 h2=>by lia⟩;unfold probe.go;rw[wN o hN,Ug]
 |d+1,f,n,hd,hf=>by
  obtain⟨f,rfl⟩:∃f',f=f'+1:=⟨f-1,by lia⟩;have GT:=ap n (by lia);obtain⟨i,hi,e⟩:=ybF.mp GT;have hp:t.place[i]? =some (path t h n).j:=by
   rw[lD]at hi;rw[yaS hi];simpa using e
  have uniq:∀i',t.place[i']? =some (path t h n).j->i'=i:=λi' h'=>by
   have a1:=ZN o h';rw[ZN o hp]at a1;cases a1;rfl
  unfold probe.go;rw[ZN o hp];dsimp only
  by_cases hc:hashAt i=h
  .rw[yai (by rw[hc];exact ybg h)];exact .inr ⟨n,i,tN _,by lia,hp,hc,Z,λm' h1 h2=>by lia⟩
  .rw[yag (by rw[ybl];exact hc)];rcases x8 o hN ap d f (n+1) (by lia) (by lia)with⟨r,q⟩|⟨m,i2,h1,h2,h3,h4,r,q⟩
   .refine .inl ⟨r,λm h1 h2 i' h'=>?_⟩
    by_cases z:m=n
    .subst z;rw[uniq i' h'];exact hc
    .exact q m (by lia) h2 i' h'
   .refine .inr ⟨m,i2,by lia,h2,h3,h4,r,λm' h1' h2' i' h'=>?_⟩
    by_cases z:m'=n
    .subst z;rw[uniq i' h'];exact hc
    .exact q m' (by lia) h2' i' h'
theorem ZO(e:t'.mask=t.mask)(h:Int):∀n,path t' h n=path t h n
 |0=>by show t'.probeStart h=t.probeStart h;unfold probeStart;rw[e]
 |n+1=>by
  show t'.advance (path t' h n)=t.advance (path t h n);rw[ZO e h n];unfold advance;rw[e]
def Qf7(o:Ok hs t)(hN:(path t h N).j∉t.place.toList)(ap:∀m,m<N->(path t h m).j∈t.place.toList)(hle:(path t h N).j<=t.mask):(t.put (path t h N).j).1.place.toList=t.place.toList.take (below t.place (path t h N).j)++(path t h N).j::t.place.toList.drop (below t.place (path t h N).j)/\
  Ok (hs.take (below t.place (path t h N).j)++h::hs.drop (below t.place (path t h N).j)) (t.put (path t h N).j).1:=by
 obtain⟨b1,b2,b3⟩:=below_at o (path t h N).j;have ep:(t.put (path t h N).j).1.place.toList=t.place.toList.take (below t.place (path t h N).j)++(path t h N).j::t.place.toList.drop (below t.place (path t h N).j):=by
  unfold put;exact SetTable.toList_insertAt _ _ _
 have em:(t.put (path t h N).j).1.mask=t.mask:=rfl;have mem:∀x,x∈(t.put (path t h N).j).1.place.toList↔x=(path t h N).j\/x∈t.place.toList:=λx=>by
  rw[ep,yaq,yak];have:=ybW (below t.place (path t h N).j) t.place.toList;constructor
  .rintro(z|z|z)
   .exact .inr (ycJ z)
   .exact .inl z
   .exact .inr (ybn z)
  .rintro(z|z)
   .exact .inr (.inl z)
   .rw[<-this]at z;rcases yaq.mp z with z|z
    .exact .inl z
    .exact .inr (.inr z)
 have lo:∀x∈t.place.toList.take (below t.place (path t h N).j),x<(path t h N).j:=λx hx=>by
  obtain⟨i,hi,e⟩:=ybF.mp hx;rw[tX,lD]at hi;have:=b2 i (by lia) (by lia);rw[List.getElem_take]at e;rw[<-e];simpa using this
 have hi:∀x∈t.place.toList.drop (below t.place (path t h N).j),(path t h N).j<x:=λx hx=>by
  have EQ:=ybn hx;obtain⟨i,hi,e⟩:=ybF.mp hx;rw[tY,lD]at hi;have:=b3 (below t.place (path t h N).j+i) (by lia) (by lia);rw[List.getElem_drop]at e;have h1:(path t h N).j<=x:=by rw[<-e];simpa using this
  have h2:x≠(path t h N).j:=λz=>hN (z▸EQ);lia
 refine⟨ep,o.mask,?_,?_,?_,λx hx=>?_,λq hq=>?_⟩
 .unfold put;dsimp only;have:has t.dummies (path t h N).j=false:=by rw[o.iM];rfl
  rw[this];exact o.iM
 .have h1:=yaF List.length ep;rw[lD]at h1;have:=o.len;rw[h1];simp only[tJ,tX,tQ,tY,lD];lia
 .rw[ep];refine List.pairwise_append.mpr ⟨o.ups.sublist (List.take_sublist _ _),List.pairwise_cons.mpr ⟨hi,o.ups.sublist (List.drop_sublist _ _)⟩,λa ha b hb=>?_⟩;rcases yak.mp hb with rfl|hb
  .exact lo a ha
  .exact ybu (lo a ha) (hi b hb)
 .rcases(mem x).mp hx with rfl|z
  .exact hle
  .exact o.le x z
 .rw[ep,List.zip_append (by simp only[tX,lD];have:=o.len;lia),List.zip_cons_cons]at hq;have old:q∈hs.zip t.place.toList->∃n,(path (t.put (path t h N).j).1 q.1 n).j=q.2/\∀m,m<n->(path (t.put (path t h N).j).1 q.1 m).j∈(t.put (path t h N).j).1.place.toList:=λz=>by
   obtain⟨n,e1,e2⟩:=o.on q z;exact⟨n,by rw[ZO em];exact e1,λm hm=>by rw[ZO em];exact(mem _).mpr (.inr (e2 m hm))⟩
  have split:hs.zip t.place.toList=(hs.take (below t.place (path t h N).j)).zip (t.place.toList.take (below t.place (path t h N).j))++(hs.drop (below t.place (path t h N).j)).zip (t.place.toList.drop (below t.place (path t h N).j)):=by
   rw[<-List.zip_append (by simp only[tX,lD];have:=o.len;lia),ybW,ybW]
  rcases yaq.mp hq with z|z
  .exact old (by rw[split];exact tT _ z)
  .rcases yak.mp z with rfl|z
   .exact⟨N,by rw[ZO em],λm hm=>by rw[ZO em];exact(mem _).mpr (.inr (ap m hm))⟩
   .exact old (by rw[split];exact tR _ z)
theorem yU(hm:Small t.mask)(h:Int):∀n,(path t h n).i<=t.mask/\(path t h n).j+(path t h n).more<=t.mask
 |0=>by
  have h1:bits h % (t.mask+1)<=t.mask:=by have:=yff (bits h) (show 0<t.mask+1 by lia);lia
  exists h1;show bits h % (t.mask+1)+(runEnd t.mask (bits h % (t.mask+1))-bits h % (t.mask+1))<=t.mask;unfold runEnd
  split<;>lia
 |n+1=>by
  obtain⟨h1,h2⟩:=yU hm h n;show(t.advance (path t h n)).i<=t.mask/\(t.advance (path t h n)).j+(t.advance (path t h n)).more<=t.mask;unfold advance
  split
  .exact⟨h1,by show(path t h n).j+1+((path t h n).more-1)<=t.mask;lia⟩
  .have h3:((path t h n).i*5+1+(path t h n).perturb/32) % (t.mask+1)<=t.mask:=by have:=yff ((path t h n).i*5+1+(path t h n).perturb/32) (show 0<t.mask+1 by lia);lia
   exists h3;show((path t h n).i*5+1+(path t h n).perturb/32) % (t.mask+1)+(runEnd t.mask (((path t h n).i*5+1+(path t h n).perturb/32) % (t.mask+1))-((path t h n).i*5+1+(path t h n).perturb/32) % (t.mask+1))<=t.mask;generalize ((path t h n).i*5+1+(path t h n).perturb/32) % (t.mask+1)=x at h3;unfold runEnd
   split<;>lia
end aH
namespace L2
open PySem PySem.Spec PyProof.Rows PySem.SeqAt
mutual
inductive HD (h:Heap):Value->Dv->Prop where
 |int (i:Int) (t:Tok):HD h (.int i t) (.int i)
 |str (x:Str) (t:Tok):HD h (.str x t) (.str x)
 |tup {a:Addr} {o:Obj} {us:List Value} {n:Nat} {ds:List Dv} (e:h.get? a=some o) (c:o.cls=.type "tuple") (d:o.data=.seq us.toArray n) (t:bQ h us ds):HD h (.ref a) (.tup ds)
inductive bQ (h:Heap):List Value->List Dv->Prop where
 |nil:bQ h [] []
 |cons {u:Value} {d:Dv} {us:List Value} {ds:List Dv} (a:HD h u d) (t:bQ h us ds):bQ h (u::us) (d::ds)
end
mutual
theorem HD.keep(k:∀b o,h.get? b=some o->o.cls=.type "tuple"->h'.get? b=some o):∀{u:Value}{d:Dv},HD h u d->HD h' u d
 |_,_,.int i t=>.int i t
 |_,_,.str x t=>.str x t
 |_,_,.tup e c d t=>.tup (k _ _ e c) c d (bQ.keep k t)
theorem bQ.keep(k:∀b o,h.get? b=some o->o.cls=.type "tuple"->h'.get? b=some o):∀{us:List Value}{ds:List Dv},bQ h us ds->bQ h' us ds
 |_,_,.nil=>.nil
 |_,_,.cons a t=>.cons (HD.keep k a) (bQ.keep k t)
end
theorem bQ.length:∀{us:List Value}{ds:List Dv},bQ h us ds->us.length=ds.length
 |_,_,.nil=>rfl
 |_,_,.cons _ t=>by rw[tQ,tQ,bQ.length t]
theorem bQ.at:∀{us:List Value}{ds:List Dv},bQ h us ds->∀{i:Nat}{u:Value},us[i]? =some u->∃d,ds[i]? =some d/\HD h u d
 |_,_,.nil,i,u,e=>by cases e
 |_,_,.cons a t,0,u,e=>by cases e;exact⟨_,Z,a⟩
 |_,_,.cons a t,i+1,u,e=>bQ.at t (by simpa using e)
mutual
noncomputable def Dv.hk:Dv->Bool
 | .int _=>true
 | .str _=>true
 | .tup ds=>Dv.oi ds
 |_=>false
noncomputable def Dv.oi:List Dv->Bool
 |[]=>true
 |d::ds=>Dv.hk d&&Dv.oi ds
end
mutual
theorem ag.hd{X:Cx}{U:List (Addr × Obj)}{σ:St}(I:Inv X U σ H s):∀{x:V}{d:Dv},ag H x d->d.hk=true->∀{u:Value},RelV x u->HD s.heap u d
 |_,_,.aq,h,_,_=>by cases h
 |_,_,.bl,h,_,_=>by cases h
 |_,_,.int,_,_,r=>by obtain⟨t,rfl⟩:=r;exact .int _ _
 |_,_,.str,_,_,r=>by obtain⟨t,rfl⟩:=r;exact .str _ _
 |_,_,.tup g t,h,_,r=>by
  cases r;obtain⟨its,rv,⟨o,e,c,n,d⟩,_⟩:=I.tuple (.inl (.inl g));exact .tup e c d (aj.hd I t (by unfold Dv.hk at h;exact h) rv)
theorem aj.hd{X:Cx}{U:List (Addr × Obj)}{σ:St}(I:Inv X U σ H s):∀{xs:List V}{ds:List Dv},aj H xs ds->Dv.oi ds=true->∀{us:List Value},Vals xs us->bQ s.heap us ds
 |_,_,.nil,_,_,r=>by cases r;exact .nil
 |_,_,.cons a t,h,_,r=>by
  unfold Dv.oi at h;obtain⟨h1,h2⟩:=(yax _ _).mp h;cases r with
  |cons r1 r2=>exact .cons (ag.hd I a h1 r1) (aj.hd I t h2 r2)
end
mutual
noncomputable def Jo(w:World):Dv->Int
 | .int i=>eZ w (.inl i)
 | .str x=>eZ w (.inr x)
 | .tup ds=>reduceHash (Builtin.Tuple.tupleHashOf (wO w ds))
 |_=>0
noncomputable def wO(w:World):List Dv->List Int
 |[]=>[]
 |d::ds=>Jo w d::wO w ds
end
theorem Ye(w:World):∀ds:List Dv,wO w ds=ds.map (Jo w)
 |[]=>rfl
 |d::ds=>by rw[lC, <-Ye w ds];rfl
def QbW(w:World){ds:List Dv}{i:Nat}(e:ds[i]? =some d):(wO w ds)[i]? =some (Jo w d):=by rw[Ye,lg,e];rfl
section
variable {prog:Program}
def QbX{us:List Value}(hu:A.units<cLine)(ho:s.heap.get? a=some o)(hc:o.cls=.type "tuple")(hd:o.data=.seq us.toArray n)(hl:us.length=hs.length)(item:∀(B:Around)(i:Nat)(u:Value)(h:Int)(tk:Nat)(E':Value->Shared->Prop)(Q':Int->Shared->Prop),B.units<=A.units+1->us[i]? =some u->hs[i]? =some h->(∀IR,Q' h {s with toks:=IR})->wpAny (model prog w) B (pyHash u) Q' E' {s with toks:=tk})(h:∀tk,Q (reduceHash (Builtin.Tuple.tupleHashOf hs)) {s with toks:=tk}):wpAny (model prog w) A (pyHash (.ref a)) Q E s:=by
 have hT:s.TypeIs (.ref a) "tuple":=⟨o,ho,hc⟩;unfold pyHash
 first|unfold pyHashByItsType|skip
 first|refine yaa (wpAny_cRoomFor_or (.inr hu) ?_)|skip
 refine yaa (yaO hT F.slot_tuple_hash.lookup ?_);show wpAny _ _ (if(some (Value.builtin "tuple.__hash__")==some Value.none)=true then _ else _) Q E s;rw[yag (by rw[beq_builtin_none];exact yal)];refine yaa (yaO hT F.slot_tuple_hash.lookup ?_);show wpAny _ _ (callSpecialIfBoundUnlessNone? (.ref a) "__hash__" _>>=_) Q E s;refine yaa (wpAny_callSpecialIfBoundUnlessNone?_slot hT F.slot_tuple_hash (yaN F.slot_tuple_hash hT F.entry_tuple_hash ?_ (F.args_tuple_hash_1 _)));show wpAny _ _ (Builtin.Tuple.tupleItemsOf (.ref a)>>=_) _ _ s;refine yaa (wpAny_tupleItemsOf ho hd (yaa ?_));rw[<-ydh];refine ycR _ (λrest(b:Array Int) s'=>∃i,rest=us.drop i/\b.toList=hs.take i/\i<=us.length/\∃tk,s'={s with toks:=tk}) _ ?_ ?_ _ _ ⟨0,Z,Z,lF _,s.toks,Z⟩
 .rintro x rest b s' ⟨i,hr,hb,hi,tk,rfl⟩;have ap:i<us.length:=by
   rcases yaZ i us.length with z|z
   .exact z
   .rw[ycq z]at hr;cases hr
  have hx:us[i]? =some x:=by
   have:=yaF (λl=>l[0]?) hr;simpa using this.symm
  have hr':rest=us.drop (i+1):=by
   have:=yaF (λl=>l.drop 1) hr;simpa[ycL]using this
  have hh:hs[i]? =some (hs[i]'(by lia)):=yad (by lia);have nx:∀IR,∃j,rest=us.drop j/\(b.push (hs[i]'(by lia))).toList=hs.take j/\j<=us.length/\∃tk,({s with toks:=IR}:Shared)={s with toks:=tk}:=λIR=>⟨i+1,hr',by rw[Array.toList_push,hb,yaK,hh];rfl,by lia,IR,Z⟩;refine yaa (item _ i x _ tk _ _ (tN _) hx hh λIR=>?_)
  first
   |exact yac (nx IR)
   |exact yaa (yac (yac (nx IR)))
 .rintro b s' ⟨i,hr,hb,hi,tk,rfl⟩;have hie:i=us.length:=by
   rcases yaZ i us.length with z|z
   .rw[yaI z]at hr;cases hr
   .lia
  have hb':b.toList=hs:=by rw[hb,hie,hl,ycm]
  show wpAny _ _ (retInt (Builtin.Tuple.tupleHashOf b.toList)) _ _ _;rw[hb'];refine wpAny_ret_mkInt ?_;show wpAny _ _ (if(decide (-(2:Int)^63<=Builtin.Tuple.tupleHashOf hs)&&decide (Builtin.Tuple.tupleHashOf hs<2^63))=true then _ else _) Q E _;unfold reduceHash at h
  by_cases hr:(decide (-(2:Int)^63<=Builtin.Tuple.tupleHashOf hs)&&decide (Builtin.Tuple.tupleHashOf hs<2^63))=true
  .rw[yai hr];rw[yai hr]at h;exact yac (h _)
  .rw[yag hr];rw[yag hr]at h;exact yaa (ycX (yac (h _)))
def HD.hash:∀(n:Nat){u:Value}{d:Dv}{s:Shared},d.depth<=n->HD s.heap u d->∀{A:Around}{E:Value->Shared->Prop}{Q:Int->Shared->Prop},A.units+n<cLine->(∀tk,Q (Jo w d) {s with toks:=tk})->wpAny (model prog w) A (pyHash u) Q E s:=by
 intro n
 induction n with
 |zero=>
  intro u d s hn hu A E Q hA h;cases hu with
  |int i t=>exact(QY prog w).pyHash (k:=.inl i) (VG i t) (h _)
  |str x t=>exact(QY prog w).pyHash (k:=.inr x) (VH x t) (h _)
  |tup e c dd t=>unfold Dv.depth at hn;lia
 |succ n ih=>
  intro u d s hn hu A E Q hA h;cases hu with
  |int i t=>exact(QY prog w).pyHash (k:=.inl i) (VG i t) (h _)
  |str x t=>exact(QY prog w).pyHash (k:=.inr x) (VH x t) (h _)
  |@tup a o us m ds e c dd t=>
   have hl:=t.length;have dM:Dv.JY ds<=n:=by have:=hn;unfold Dv.depth at this;lia
   have hlL:(wO w ds).length=ds.length:=by rw[Ye,tK]
   refine QbX (hs:=wO w ds) (by lia) e c dd (by lia) (λB i u' h' tk E' Q' hB hu' hh' hq=>?_) λtk=>?_
   .obtain⟨d',Rs,hD⟩:=t.at hu';have:=QbW w Rs;rw[hh']at this;cases this;exact ih (s:={s with toks:=tk}) (yap (Dv.Ku Rs) dM) hD (by lia) λIR=>hq IR
   .have:=h tk;unfold Jo at this;exact this
def HD.quiet:∀(n:Nat){u:Value}{d:Dv}{s:Shared},d.depth<=n->HD s.heap u d->∀{A:Around}{E:Value->Shared->Prop}{Q:Bool->Shared->Prop},Q true s->wpAny (model prog w) A (eqIsQuiet n u) Q E s:=by
 intro n
 induction n with
 |zero=>
  intro u d s hn hu A E Q h;cases hu with
  |int i t=>rw[ydr 0 rfl];exact yac h
  |str x t=>rw[ydr 0 rfl];exact yac h
  |tup e c dd t=>unfold Dv.depth at hn;lia
 |succ n ih=>
  intro u d s hn hu A E Q h;cases hu with
  |int i t=>rw[ydr _ rfl];exact yac h
  |str x t=>rw[ydr _ rfl];exact yac h
  |@tup a o us m ds e c dd t=>
   have dM:Dv.JY ds<=n:=by have:=hn;unfold Dv.depth at this;lia
   have hT:s.TypeIs (.ref a) "tuple":=⟨o,e,c⟩;unfold eqIsQuiet;refine yaa (yaO hT F.slot_tuple_eq.lookup ?_);show wpAny _ _ (isInstance (.ref a) (.type "tuple")>>=_) _ _ s;refine yaa (ycP hT isSubtype_tuple_tuple ?_);simp only[ydi,yan,yaM];refine yaa (ybe e dd (yaa ?_));show wpAny _ _ (forIn us.toArray _ _) _ _ s;rw[<-ydh];refine ycR _ (λrest r s'=>r.1=none/\s'=s/\∃es,Dv.JY es<=n/\bQ s.heap rest es) _ ?_ ?_ _ _ ⟨Z,Z,ds,dM,t⟩
   .rintro v rest r s' ⟨hr,rfl,es,FT,ht⟩;cases ht with
    |@cons _ d0 _ sB hv ht=>
     unfold Dv.JY at FT;refine yaa (ih (by lia) hv ?_);simp only[ydi,yan,yaM];exact yac ⟨Z,Z,sB,by lia,ht⟩
   .rintro⟨r1,r2⟩ s' ⟨hr,rfl,_⟩;simp only at hr;subst hr;exact yac h
def HD.yV:∀(n:Nat){u:Value}{d:Dv}{s:Shared},d.depth<=n->HD s.heap u d->∀{A:Around}{E:Value->Shared->Prop}{Q:Bool->Shared->Prop},Q false s->wpAny (model prog w) A (ofAClassStatement n u) Q E s:=by
 intro n
 induction n with
 |zero=>
  intro u d s hn hu A E Q h;cases hu with
  |int i t=>unfold ofAClassStatement;exact yac h
  |str x t=>unfold ofAClassStatement;exact yac h
  |tup e c dd t=>unfold Dv.depth at hn;lia
 |succ n ih=>
  intro u d s hn hu A E Q h;cases hu with
  |int i t=>unfold ofAClassStatement;exact yac h
  |str x t=>unfold ofAClassStatement;exact yac h
  |@tup a o us m ds e c dd t=>
   have dM:Dv.JY ds<=n:=by have:=hn;unfold Dv.depth at this;lia
   have hT:s.TypeIs (.ref a) "tuple":=⟨o,e,c⟩;unfold ofAClassStatement;refine yaa (ydu hT ?_);show wpAny _ _ (if("tuple"=="tuple")=true then _ else _) _ _ _;rw[yai (by lia)];refine yaa (yac ?_);simp only[ydi,yan,yaM];refine yaa (ybe e dd (yaa ?_));rw[<-ydh];refine ycR _ (λrest r s'=>r.1=none/\s'=s/\∃es,Dv.JY es<=n/\bQ s.heap rest es) _ ?_ ?_ _ _ ⟨Z,Z,ds,dM,t⟩
   .rintro v rest r s' ⟨hr,rfl,es,FT,ht⟩;cases ht with
    |@cons _ d0 _ sB hv ht=>
     unfold Dv.JY at FT;refine yaa (ih (by lia) hv ?_);simp only[yan,yaM];exact yac ⟨Z,Z,sB,by lia,ht⟩
   .rintro⟨r1,r2⟩ s' ⟨hr,rfl,_⟩;simp only at hr;subst hr;exact yac h
def HD.Qhz:∀(n:Nat){u:Value}{d:Dv}{s:Shared},HD s.heap u d->∀{A:Around}{E:Value->Shared->Prop}{Q:Bool->Shared->Prop},(∀b,Q b s)->wpAny (model prog w) A (hashByValue n u) Q E s:=by
 intro n
 induction n with
 |zero=>
  intro u d s hu A E Q h;cases hu<;>(unfold hashByValue;exact yac (h _))
 |succ n ih=>
  intro u d s hu A E Q h;cases hu with
  |int i t=>unfold hashByValue;exact yac (h _)
  |str x t=>unfold hashByValue;exact yac (h _)
  |@tup a o us m ds e c dd t=>
   have hT:s.TypeIs (.ref a) "tuple":=⟨o,e,c⟩;unfold hashByValue;refine yaa (yaO hT F.slot_tuple_hash.lookup ?_);show wpAny _ _ (seqItems? (.ref a)>>=_) _ _ s;refine yaa (ybe e dd (yaa ?_));show wpAny _ _ (forIn us.toArray _ _) _ _ s;rw[<-ydh];refine ycR _ (λrest r s'=>s'=s/\r.1=none/\∃es,bQ s.heap rest es) _ ?_ ?_ _ _ ⟨Z,Z,ds,t⟩
   .rintro v rest r s' ⟨rfl,hr,es,ht⟩;cases ht with
    |@cons _ d0 _ sB hv ht=>
     refine yaa (ih hv λb=>?_);cases b with
     |true=>exact yac ⟨Z,Z,sB,ht⟩
     |false=>exact yac (yac (h _))
   .rintro⟨r1,r2⟩ s' ⟨rfl,hr,_⟩;simp only at hr;subst hr;exact yac (h _)
end
mutual
theorem Dv.Mi:∀{d e:Dv},d.hk=true->e.hk=true->d.aV e=true->d=e
 | .int a,.int b,_,_,h=>by unfold Dv.aV at h;rw[yeP h]
 | .str a,.str b,_,_,h=>by unfold Dv.aV at h;rw[yeP h]
 | .tup ds,.tup es,h1,h2,h=>by
  unfold Dv.aV at h;unfold Dv.hk at h1 h2;rw[Dv.Mj h1 h2 h]
 | .int _,.str _,_,_,h=>by unfold Dv.aV at h;cases h
 | .int _,.tup _,_,_,h=>by unfold Dv.aV at h;cases h
 | .str _,.int _,_,_,h=>by unfold Dv.aV at h;cases h
 | .str _,.tup _,_,_,h=>by unfold Dv.aV at h;cases h
 | .tup _,.int _,_,_,h=>by unfold Dv.aV at h;cases h
 | .tup _,.str _,_,_,h=>by unfold Dv.aV at h;cases h
 | .aq,_,h,_,_=>by unfold Dv.hk at h;cases h
 | .bl _,_,h,_,_=>by unfold Dv.hk at h;cases h
 | .int _,.aq,_,h,_=>by unfold Dv.hk at h;cases h
 | .int _,.bl _,_,h,_=>by unfold Dv.hk at h;cases h
 | .str _,.aq,_,h,_=>by unfold Dv.hk at h;cases h
 | .str _,.bl _,_,h,_=>by unfold Dv.hk at h;cases h
 | .tup _,.aq,_,h,_=>by unfold Dv.hk at h;cases h
 | .tup _,.bl _,_,h,_=>by unfold Dv.hk at h;cases h
theorem Dv.Mj:∀{ds es:List Dv},Dv.oi ds=true->Dv.oi es=true->Dv.vm ds es=true->ds=es
 |[],[],_,_,_=>rfl
 |d::ds,e::es,h1,h2,h=>by
  unfold Dv.oi at h1 h2;unfold Dv.vm at h;obtain⟨a1,a2⟩:=(yax _ _).mp h1;obtain⟨b1,b2⟩:=(yax _ _).mp h2;obtain⟨c1,c2⟩:=(yax _ _).mp h;rw[Dv.Mi a1 b1 c1,Dv.Mj a2 b2 c2]
 |[],_::_,_,_,h=>by unfold Dv.vm at h;cases h
 |_::_,[],_,_,h=>by unfold Dv.vm at h;cases h
end
def HD.eq:∀(n:Nat){u v:Value}{d e:Dv}{s:Shared},d.depth<=n->HD s.heap u d->HD s.heap v e->∀{A:Around},A.units+n<cLine->EqAt A s u v (d.aV e):=by
 have key:∀(N:Nat){u v:Value}{d e:Dv}{s:Shared},d.depth<=N->HD s.heap u d->HD s.heap v e->∀{A:Around},A.units+N<cLine->(∀n,N=n+1->∀{u v:Value}{d e:Dv},d.depth<=n->HD s.heap u d->HD s.heap v e->∀{A:Around},A.units+n<cLine->EqAt A s u v (d.aV e))->EqAt A s u v (d.aV e):=by
  intro N u v d e s hN hu hv A hA ih;cases hu with
  |int i t=>
   cases hv with
   |int j t2=>exact EqAt.int_int i t j t2
   |str y t2=>exact EqAt.int_str i t y t2
   |tup e2 c2 d2 _=>exact EqAt.int_tuple i t ⟨_,e2,c2,_,d2⟩ (by lia)
  |str x t=>
   cases hv with
   |int j t2=>exact EqAt.str_int x t j t2
   |str y t2=>exact EqAt.str_str x t y t2
   |tup e2 c2 d2 _=>exact EqAt.str_tuple x t ⟨_,e2,c2,_,d2⟩ (by lia)
  |@tup a o us m ds e1 c1 d1 t1=>
   cases hv with
   |int j t2=>exact EqAt.tuple_int j t2 ⟨_,e1,c1,_,d1⟩ (by lia)
   |str y t2=>exact EqAt.tuple_str y t2 ⟨_,e1,c1,_,d1⟩ (by lia)
   |@tup a2 o2 CY m2 es e2 c2 d2 t2=>
    have cR:∃n,N=n+1:=⟨N-1,by unfold Dv.depth at hN;lia⟩;obtain⟨n,rfl⟩:=cR;have dM:Dv.JY ds<=n:=by have:=hN;unfold Dv.depth at this;lia
    have q1:=t1.length;have q2:=t2.length
    by_cases LE:a=a2
    .subst LE;rw[e1]at e2;cases e2;rw[d1]at d2;injection d2 with h1 _;have:us=CY:=by simpa using yaF Array.toList h1
     subst this;have inj:∀{us:List Value}{ds es:List Dv},bQ s.heap us ds->bQ s.heap us es->ds=es:=by
      have FU:∀(n:Nat){u:Value}{d e:Dv},d.depth<=n->HD s.heap u d->HD s.heap u e->d=e:=by
       intro n
       induction n with
       |zero=>
        intro u d e hn h1 h2;cases h1 with
        |int i t=>cases h2;rfl
        |str x t=>cases h2;rfl
        |tup _ _ _ _=>unfold Dv.depth at hn;lia
       |succ n ih=>
        intro u d e hn h1 h2;cases h1 with
        |int i t=>cases h2;rfl
        |str x t=>cases h2;rfl
        |@tup b ob vs k fs g1 g2 g3 g4=>
         cases h2 with
         |@tup _ ob2 vs2 k2 sI f1 f2 f3 f4=>
          rw[g1]at f1;cases f1;rw[g3]at f3;injection f3 with z _;have:vs=vs2:=by simpa using yaF Array.toList z
          subst this;have hL:Dv.JY fs<=n:=by unfold Dv.depth at hn;lia
          have go:∀{vs:List Value}{fs sI:List Dv},Dv.JY fs<=n->bQ s.heap vs fs->bQ s.heap vs sI->fs=sI:=by
           intro vs
           induction vs with
           |nil=>intro fs sI _ a b;cases a;cases b;rfl
           |cons v vs FW=>
            intro fs sI hL a b;cases a with
            |cons a1 a2=>
             cases b with
             |cons b1 b2=>
              unfold Dv.JY at hL;rw[ih (by lia) a1 b1,FW (by lia) a2 b2]
          rw[go hL g4 f4]
      intro us
      induction us with
      |nil=>intro ds es a b;cases a;cases b;rfl
      |cons v vs FW=>
       intro ds es a b;cases a with
       |cons a1 a2=>
        cases b with
        |cons b1 b2=>rw[FU _ (tN _) a1 b1,FW a2 b2]
     rw[inj t1 t2,Dv.Xz];exact EqAt.same _
    .have z:=RcAt.tuples (A:=A) (s:=s) (e:=λj=>((ds[j]?).getD .aq).aV ((es[j]?).getD .aq)) ⟨o,e1,c1,m,d1⟩ ⟨o2,e2,c2,m2,d2⟩ (by lia) λj h1 h2=>by
      rw[lE]at h1 h2;obtain⟨x,k1,k2⟩:=t1.at (yad h1);obtain⟨y,m1,m2'⟩:=t2.at (yad h2);have g1:us.toArray[j]=us[j]:=by simp
      have g2:CY.toArray[j]=CY[j]:=by simp
      rw[g1,g2];show EqAt A.in1 s us[j] CY[j] (((ds[j]?).getD .aq).aV ((es[j]?).getD .aq));rw[k1,m1];exact ih n rfl (yap (Dv.Ku k1) dM) k2 m2' (by show A.units+1+n<cLine;lia)
     rw[lE,lE,q1,q2]at z;rw[<-Dv.ZH]at z;unfold Dv.aV;exact .of_refs LE z
 intro n
 induction n with
 |zero=>intro u v d e s hn hu hv A hA;exact key 0 hn hu hv hA λn z=>by lia
 |succ n ih=>
  intro u v d e s hn hu hv A hA;exact key (n+1) hn hu hv hA λm z=>by
   obtain rfl:m=n:=by lia
   exact λ{u v d e} a b c{A} d'=>ih a b c d'
open PySem.SetTable (probe turns)
def Yf(o:aH.Ok hs t)(hN:(aH.path t h N).j∉t.place.toList)(ap:∀m,m<N->(aH.path t h m).j∈t.place.toList)(cW:N<10*turns t.mask)(eK:n0<=N)(hp:p=aH.path t h n0)(heq:t.probe ha h p=r):(r=some (.empty (aH.path t h N).j none)/\∀m,n0<=m->m<N->∀i,t.place[i]? =some (aH.path t h m).j->ha i≠h)\/
  ∃m i,n0<=m/\m<N/\t.place[i]? =some (aH.path t h m).j/\ha i=h/\r=some (.candidate (aH.path t h m).j i (aH.path t h (m+1)))/\∀m',n0<=m'->m'<m->∀i,t.place[i]? =some (aH.path t h m').j->ha i≠h:=by
 subst hp;subst heq;exact aH.x8 o hN ap (N-n0) (10*turns t.mask) n0 (by lia) (by lia)
def wP(o:aH.Ok hs t)(hN:(aH.path t h N).j∉t.place.toList)(ap:∀m,m<N->(aH.path t h m).j∈t.place.toList)(cW:N<10*turns t.mask)(eK:n0<=N):∃met,t.probe ha h (aH.path t h n0)=some met:=by
 rcases Yf o (ha:=ha) hN ap cW eK rfl rfl with⟨r,_⟩|⟨m,i,_,_,_,_,r,_⟩<;>exact⟨_,r⟩
section
variable {prog:Program}
def Qei(hx:HD s.heap x d)(hd:d.depth<=8)(l:List Value)(hl:∀y∈l,∃e,HD s.heap y e/\e.depth<=8)(h:Q false s):wpAny (model prog w) A (searchCouldBeSeen x l) Q E s:=by
 unfold searchCouldBeSeen;refine yaa ?_;refine ycR _ (λrest r s'=>r.1=none/\s'=s/\∀y∈rest,∃e,HD s.heap y e/\e.depth<=8) _ ?_ ?_ _ _ ⟨Z,Z,hl⟩
 .rintro y rest r s' ⟨hr,rfl,ms⟩;have iN:∀y∈rest,∃e,HD s'.heap y e/\e.depth<=8:=λz hz=>ms z (tU _ hz);obtain⟨e,hy,he⟩:=ms y tW;dsimp only
  split<;>split
  all_goals first
   |exact yac ⟨rfl,rfl,iN⟩
   |(refine yaa (HD.quiet 8 hd hx ?_)
     simp only[ydi,yan,yaM];refine yaa (HD.quiet 8 he hy ?_);simp only[ydi,yan,yaM];refine yaa (HD.yV 8 hd hx ?_);simp only[yan,yaM];refine yaa (HD.yV 8 he hy ?_);simp only[yan,yaM];exact yac ⟨rfl,rfl,iN⟩)
 .rintro⟨r1,r2⟩ s' ⟨hr,rfl,_⟩;simp only at hr;subst hr;exact yac h
noncomputable abbrev ents(w:World)(es:List (Value × Dv)):List (Int × Value):=es.map λe=>(Jo w e.2,e.1)
noncomputable abbrev hashes(w:World)(es:List (Value × Dv)):List Int:=es.map λe=>Jo w e.2
structure aY(h:Heap)(e:Value × Dv):Prop where
 hd:HD h e.1 e.2
 dp:e.2.depth<=7
 hk:e.2.hk=true
 rf:∃b,e.1=.ref b
def Uh{ad:Bool}(hu:A.units+8<cLine)(ho:s.heap.get? a=some o)(hd:o.data=.set (ents w es).toArray ep t)(ok:aH.Ok (hashes w es) t)(rm:aH.Zd (hashes w es) t)(el:∀e∈es,aY s.heap e)(hx:aY s.heap (x,d))(cW:N<10*turns t.mask)(hN:(aH.path t (Jo w d) N).j∉t.place.toList)(ap:∀m,m<N->(aH.path t (Jo w d) m).j∈t.place.toList):∀(k n0 fuel:Nat)(dN:Option SetTable.Probe),N-n0=k->n0<=N->k<fuel->dN.getD (t.probeStart (Jo w d))=aH.path t (Jo w d) n0->(∀m,m<n0->∀(i:Nat) e,t.place[i]? =some (aH.path t (Jo w d) m).j->es[i]? =some e->e.2≠d)->
   ((∃e∈es,e.2=d)->∀r:Option Nat,(ad=false->r.isSome=true)->Q (.there r) s)->((∀e∈es,e.2≠d)->Q (.free (aH.path t (Jo w d) N).j false) s)->wpAny (model prog w) A (setSearchFrom a x (Jo w d) ad fuel dN) Q E s:=by
 have hsz:(ents w es).toArray.size=es.length:=by rw[lE,tK]
 have hlen:t.place.size=es.length:=by rw[ok.len,tK]
 have iO:t.fill=es.length:=by show t.place.size+t.dummies.size=_;rw[ok.iM,hlen];rfl
 have fG:es.length*5<t.mask*3:=by have:=rm;unfold aH.Zd at this;rwa[tK]at this
 have hf:t.fits (ents w es).toArray.size=true:=by
  rw[hsz];simp only[SetTable.fits,yax,ybl,ybI];exact⟨hlen,by lia⟩
 have hgw:t.gaveWay=false:=by
  unfold SetTable.gaveWay;rw[ok.mask];rfl
 intro k
 induction k using Nat.strongRecOn with
 |ind k ih=>
  intro n0 fuel dN hk eK hfu f8 seen GT P3;obtain⟨fuel,rfl⟩:∃f,fuel=f+1:=⟨fuel-1,by lia⟩;unfold setSearchFrom;refine yaa (ycE ho hd hf ?_);dsimp only;rw[hgw];simp only[yan,yaM];rw[f8];have found:∀{e:Value × Dv},e∈es->e.2=d->∃m i,n0<=m/\m<N/\t.place[i]? =some (aH.path t (Jo w d) m).j/\es[i]? =some e:=λ{e} he dO=>by
   obtain⟨i,hi,rfl⟩:=ybF.mp he;have db:t.place[i]? =some (t.place[i]'(by lia)):=yaS (by lia);have hz:(Jo w es[i].2,t.place[i]'(by lia))∈(hashes w es).zip t.place.toList:=by
    refine ybF.mpr ⟨i,by simp[ydX];lia,?_⟩;simp
   obtain⟨m,e1,e2⟩:=ok.on _ hz;rw[dO]at e1 e2;have hmN:m<N:=by
    rcases Nat.lt_trichotomy m N with z|z|z
    .exact z
    .subst z;exact absurd (by rw[e1];simp) hN
    .exact absurd (e2 N z) hN
   refine⟨m,i,?_,hmN,by rw[e1];exact db,yad hi⟩;rcases yaZ m n0 with z|z
   .exact absurd dO (seen m z i _ (by rw[e1];exact db) (yad hi))
   .exact z
  have uniq:∀{i i' j:Nat},t.place[i]? =some j->t.place[i']? =some j->i=i':=λh1 h2=>by
   have:=aH.ZN ok h1;rw[aH.ZN ok h2]at this;cases this;rfl
  split
  .rename_i met heq;rcases Yf ok hN ap cW eK rfl heq with⟨r,q⟩|⟨m,i,h1,h2,h3,h4,r,q⟩
   .cases r;refine yac (P3 λe he dO=>?_);obtain⟨m,i,h1,h2,h3,h4⟩:=found he dO;refine q m h1 h2 i h3 ?_;show((((ents w es).toArray)[i]?).map (·.1)).getD 0=Jo w d;have:((ents w es).toArray)[i]? =some (Jo w e.2,e.1):=by simp[h4]
    rw[this,dO];rfl
   .cases r;have FS:i<es.length:=by
     have:=(yec.mp h3).1;lia
    have eF:es[i]? =some es[i]:=yad FS;have dP:((ents w es).toArray)[i]? =some (Jo w es[i].2,es[i].1):=by simp[eF]
    have E1:=el es[i] (yeI FS);obtain⟨b,hb⟩:=E1.rf;refine if fH:t.led=true then ?led else ?Bb
    case' led=>
     rw[fH];simp only[ydi,yan,yaM]
    case' Bb=>
     rw[(Bool.not_eq_true _).mp fH];simp only[Bool.not_false,ybN];refine yaa (Qei hx.hd (by have:=hx.dp;lia) _ (λy hy=>by
      obtain⟨e,he,rfl⟩:=yaY.mp hy;have iC:e∈ents w es:=by
       have:=(Array.mem_filter.mp (ycG.mp he)).1;simpa using this
      obtain⟨e0,h0,rfl⟩:=yaY.mp iC;exact⟨e0.2,(el e0 h0).hd,by have:=(el e0 h0).dp;lia⟩) ?_)
     simp only[yan,yaM]
    all_goals
     rw[dP];dsimp only;refine yaa (ybf (HD.eq 7 E1.dp E1.hd hx.hd (by lia) prog w _ _ ?_));refine yaa (ycE ho hd hf ?_);dsimp only;cases hq:es[i].2.aV d with
     |true=>
      have FX:t.sameMemory t.moves t.mask=some true:=by unfold SetTable.sameMemory;rw[ybg];rfl
      have Ml:∃e∈es,e.2=d:=⟨es[i],yeI FS,Dv.Mi E1.hk hx.hk hq⟩;cases ad with
      |true=>
       rw[Bool.true_and,yai rfl];exact yac (GT Ml none λz=>nomatch z)
      |false=>
       rw[yfa];simp only[yan,yaM];rw[FX];dsimp only;rw[yai rfl,aH.ZN ok h3];dsimp only;rw[dP];dsimp only;rw[hb];refine yaa (wpAny_isSame_ref_self (yaa (yac ?_)));rw[yai rfl];dsimp only;rw[yai trivial];exact yac (GT Ml _ λ_=>rfl)
     |false=>
      rw[yeo];simp only[yan,yaM];have FX:t.sameMemory t.moves t.mask=some true:=by unfold SetTable.sameMemory;rw[ybg];rfl
      rw[FX];dsimp only;rw[yai rfl,aH.ZN ok h3];dsimp only;rw[dP];dsimp only;rw[hb];refine yaa (wpAny_isSame_ref_self (yaa (yac ?_)));rw[yai rfl];dsimp only;refine ih (N-(m+1)) (by lia) (m+1) fuel _ rfl (by lia) (by lia) rfl (λm' Mh i' e' oj iC=>?_) GT P3
      by_cases z1:m'<n0
      .exact seen m' z1 i' e' oj iC
      .by_cases z2:m'=m
       .subst z2;obtain rfl:=uniq h3 oj;rw[eF]at iC;cases iC;intro z;rw[z,Dv.Xz]at hq;cases hq
       .intro z;refine q m' (by lia) (by lia) i' oj ?_;show((((ents w es).toArray)[i']?).map (·.1)).getD 0=Jo w d;have:((ents w es).toArray)[i']? =some (Jo w e'.2,e'.1):=by simp[iC]
        rw[this,z];rfl
  .rename_i heq;exact(heq _ (Classical.choose_spec (wP ok hN ap cW eK))).elim
end
open PySem.SetTable (probe turns below)
structure bX(w:World)(h:Heap)(a:Addr)(es:List (Value × Dv)):Prop where
 ex:∃o ep t,h.get? a=some o/\o.ExactSet/\o.data=.set (ents w es).toArray ep t/\aH.Ok (hashes w es) t/\aH.Zd (hashes w es) t/\t.led= !w.params.followText "set-order"
 el:∀e∈es,aY h e
 nd:(es.map (·.2)).Nodup
theorem aY.keep(E:aY h e)(k:∀b o,h.get? b=some o->o.cls=.type "tuple"->h'.get? b=some o):aY h' e:=⟨E.hd.keep k,E.dp,E.hk,E.rf⟩
theorem bX.keep(S:bX w h a es)(k:∀b o,h.get? b=some o->(o.cls=.type "tuple"\/b=a)->h'.get? b=some o):bX w h' a es:=by
 obtain⟨o,ep,t,ho,r⟩:=S.ex;exact⟨⟨o,ep,t,k a o ho (.inr Z),r⟩,λe he=>(S.el e he).keep λb o h1 h2=>k b o h1 (.inl h2),S.nd⟩
section
variable {prog:Program}
def QbY(hu:A.units+8<cLine)(S:bX w s.heap a es)(hx:aY s.heap (x,d))(hl:es.length<4)(hQ:∀b h' sB,Heap.SameBut a s.heap h'->bX w h' a sB->((∃e∈es,e.2=d)/\sB=es\/(∀e∈es,e.2≠d)/\sB.Perm (es++[(x,d)]))->Q b {s with heap:=h'}):wpAny (model prog w) A (setAddHashed a x (Jo w d)) Q E s:=by
 obtain⟨o,ep,t,ho,hex,hd,ok,rm,led⟩:=S.ex;obtain⟨bx,om⟩:=hx.rf;have om:x=.ref bx:=om;have hlen:t.place.size=es.length:=by rw[ok.len,tK]
 have iO:t.fill=es.length:=by show t.place.size+t.dummies.size=_;rw[ok.iM,hlen];rfl
 have fG:es.length*5<t.mask*3:=by have:=rm;unfold aH.Zd at this;rwa[tK]at this
 have hsz:(ents w es).toArray.size=es.length:=by rw[lE,tK]
 have hf:t.fits (ents w es).toArray.size=true:=by
  rw[hsz];simp only[SetTable.fits,yax,ybl,ybI];exact⟨hlen,by lia⟩
 have Bc:∀{h':Heap},Heap.SameBut a s.heap h'->∀b o',s.heap.get? b=some o'->o'.cls=.type "tuple"->h'.get? b=some o':=λ{h'} sb b o' e c=>by
  refine(sb.2 b λz=>?_).trans e;rw[z,ho]at e;cases e;rw[hex.1]at c;injection c with c;exact absurd c (by lia)
 obtain⟨N,cW,hN,ap⟩:=aH.Uf ok rm (Jo w d);unfold setAddHashed setAddHashedIn;refine ybf (yaa (ycE ho hd hf ?_));dsimp only;rw[show byScan x (ents w es).toArray=false by rw[om];rfl];simp only[yan,yaM];refine yaa (Uh hu ho hd ok rm S.el hx cW hN ap N 0 100000 none (by lia) (lF _) (by unfold turns at cW;rw[ok.mask]at cW;lia) Z (λm hm=>by lia) (λGT _ _=>?_) λP3=>?_)
 .refine yac ?_;have:=hQ false s.heap es (Heap.SameBut.refl _ _) S (.inl ⟨GT,Z⟩);exact this
 .dsimp only;refine yaa (ycE ho hd hf ?_);dsimp only;obtain⟨ep1,fI⟩:=aH.Qf7 ok hN ap (by have:=(aH.yU ok.mask (Jo w d) N).2;lia);have bl:=(aH.below_at ok (aH.path t (Jo w d) N).j).1;have dP:SetTable.insertAt (ents w es).toArray (below t.place (aH.path t (Jo w d) N).j) (Jo w d,x)=(ents w (es.take (below t.place (aH.path t (Jo w d) N).j)++(x,d)::es.drop (below t.place (aH.path t (Jo w d) N).j))).toArray:=by
   apply Array.toList_inj.mp;rw[SetTable.toList_insertAt];simp[ents,yeB,yeC]
  have hhs:hashes w (es.take (below t.place (aH.path t (Jo w d) N).j)++(x,d)::es.drop (below t.place (aH.path t (Jo w d) N).j))=(hashes w es).take (below t.place (aH.path t (Jo w d) N).j)++Jo w d::(hashes w es).drop (below t.place (aH.path t (Jo w d) N).j):=by
   simp[hashes,yeB,yeC]
  have sJ:(es.take (below t.place (aH.path t (Jo w d) N).j)++(x,d)::es.drop (below t.place (aH.path t (Jo w d) N).j)).Perm (es++[(x,d)]):=by
   refine List.perm_middle.trans ?_;rw[ybW];exact(List.perm_append_singleton _ _).symm
  rw[show(t.put (aH.path t (Jo w d) N).j).2=below t.place (aH.path t (Jo w d) N).j from rfl,dP];rw[<-hhs]at fI;generalize es.take (below t.place (aH.path t (Jo w d) N).j)++(x,d)::es.drop (below t.place (aH.path t (Jo w d) N).j)=On at fI sJ ⊢;have fE:On.length=es.length+1:=by rw[sJ.length_eq,tJ];rfl
  have el1:∀e∈On,aY s.heap e:=λe he=>by
   rcases yaq.mp (sJ.mem_iff.mp he)with z|z
   .exact S.el e z
   .rw[yao.mp z];exact hx
  have nd1:(On.map (·.2)).Nodup:=by
   refine(sJ.map (·.2)).nodup_iff.mpr ?_;rw[lq,List.nodup_append];refine⟨S.nd,by simp,λy hy z hz=>?_⟩;obtain⟨e,he,rfl⟩:=yaY.mp hy;have:z=d:=by simpa using hz
   rw[this];exact P3 e he
  generalize Mm:(t.put (aH.path t (Jo w d) N).j).1=t1 at fI ⊢;have eM:t1.mask=t.mask:=by rw[<-Mm];rfl
  have dF:t1.led=t.led:=by rw[<-Mm];rfl
  have any:∀t2:SetTable,t2.mask=t1.mask->t2.place=t1.place->t2.dummies=t1.dummies->t2.led=t1.led->wpAny (model prog w) A (do
    storeSet a (ents w On).toArray t2
    if(!false&&t2.tooFull)=true then setRelay a (SetTable.grown ((ents w es).toArray.size+1))
    pure true) Q E s:=λt2 e1 e2 e3 eL=>by
   have FY:aH.Ok (hashes w On) t2:=⟨by rw[e1];exact fI.mask,by rw[e3];exact fI.iM,by rw[e2];exact fI.len,by rw[e2];exact fI.ups,by rw[e2,e1];exact fI.le,λq hq=>by
    rw[e2]at hq ⊢;obtain⟨n,a1,a2⟩:=fI.on q hq;exact⟨n,by rw[aH.ZO e1];exact a1,λm hm=>by rw[aH.ZO e1];exact a2 m hm⟩⟩
   have ut:t2.place.size=On.length:=by rw[FY.len,tK]
   have At:t2.fill=On.length:=by show t2.place.size+t2.dummies.size=_;rw[FY.iM,ut];rfl
   have CQ:(ents w On).toArray.size=On.length:=by rw[lE,tK]
   have ge1:(s.heap.update a (Obj.putSet (ents w On).toArray t2)).get? a=some {o with data:=.set (ents w On).toArray (ep+1) t2}:=by
    have:=ybt (Obj.putSet (ents w On).toArray t2) ho (by rw[putSet_of _ _ hd];rfl);rw[putSet_of _ _ hd]at this;exact this
   have Mn:=ydW s.heap a (Obj.putSet (ents w On).toArray t2);have hf2:t2.fits (ents w On).toArray.size=true:=by
    rw[CQ];simp only[SetTable.fits,yax,ybl,ybI];exists ut;rw[At,e1,eM];lia
   refine yaa (wpAny_storeSet_of ho hd ?_ (by rw[CQ,yaG];lia));have Ty:¬ t2.tooFull=true:=λz=>by
    unfold SetTable.tooFull at z;rw[At,e1,eM,ok.mask]at z;have:=ybi z;have:=sJ.length_eq;rw[tJ,tP]at this;lia
   rw[yag (by rw[(Bool.not_eq_true _).mp Ty];lia)];refine yac ?_;refine hQ true _ On Mn ⟨⟨_,ep+1,t2,ge1,hex,Z,FY,?_,by rw[eL,dF,led]⟩,λe he=>(el1 e he).keep (Bc Mn),nd1⟩ (.inr ⟨P3,sJ⟩);unfold SetTable.tooFull at Ty;unfold aH.Zd;rw[tK];rw[At]at Ty;have:¬ (On.length*5≥t2.mask*3):=λz=>Ty (tM z);lia
  cases db:t1.plain with
  |true=>
   simp only[ybN];refine yaa (HD.Qhz 8 hx.hd λb=>?_);cases b with
   |true=>simp only[ybN];exact any t1 rfl rfl rfl rfl
   |false=>simp only[yan,yaM];exact any _ rfl rfl rfl rfl
  |false=>
   simp only[yan,yaM];refine yaa (yac ?_);simp only[ybN];exact any t1 rfl rfl rfl rfl
end
open PySem PySem.Spec PyProof.Rows
def sL(es:List (Value × Dv))(ds:List Dv):Prop:=∀d,(∃e∈es,e.2=d)↔d∈ds
structure Mv(wr:List Addr)(s s':Shared):Prop where
 heap:∀b o,b∉wr->s.heap.get? b=some o->s'.heap.get? b=some o
 gens:s'.gens=s.gens
 drawn:s'.drawn=s.drawn
 os:s'.os=s.os
theorem Mv.trans{wr:List Addr}(h1:Mv wr a b)(h2:Mv wr b c):Mv wr a c:=⟨λx o hx e=>h2.heap x o hx (h1.heap x o hx e),h2.gens.trans h1.gens,h2.drawn.trans h1.drawn,h2.os.trans h1.os⟩
def Mv.of{wr Mo:List Addr}{a b:Shared}(h:Moved wr (λx y=>x=y) a b)(hs:∀x∈wr,x∈Mo):Mv Mo a b:=⟨λx o hx e=>h.heap x o (λz=>hx (hs x z)) e,h.gens.symm,h.drawn,h.os⟩
def Bd(items:Array Value)(ds:List Dv)(es:List (Value × Dv)):Prop:=∀e∈es,∃j:Nat,items[j]? =some e.1/\ds[j]? =some e.2
section
variable {prog:Program}
def yW{items:Array Value}{ds:List Dv}(hh:A.in1.handled=none)(hu:A.units+9<cLine)(hIl:l≠I)(lU:S≠I)(hSl:S≠l)(fe:ds.length=items.size)(h12:items.size<=4):∀(m i:Nat)(s:Shared)(es:List (Value × Dv)),items.size-i=m->i<=items.size->s.heap.IsListIter I l i->s.heap.IsList l items->(∀(j:Nat)(v:Value)(d:Dv),items[j]? =some v->ds[j]? =some d->aY s.heap (v,d))->bX w s.heap S es->sL es (ds.take i)->es.length<=i->Bd items ds es->
   (∀s' sB,Mv [S,I] s s'->bX w s'.heap S sB->sL sB ds->sB.length<=items.size->Bd items ds sB->R (.ok (.ret .none)) s')->codeAny (model prog w) A (.builtin "set.update.loop" ⟨[.ref S,.ref I],[]⟩) R s:=by
 have W:=WO (prog:=prog) (w:=w) (A:=A.in1) hh I l hIl items;intro m
 induction m with
 |zero=>
  intro i s es hk hi hit hl oo hS hj hle GM hR;obtain rfl:i=items.size:=by lia
  refine ybK F.entry_set_update_loop ?_;rw[ybE ydj _];show wpAny _ A.in1 (pyNext (.ref I)>>=_) _ _ s;refine yaa (W.done s _ _ ⟨hit,hl⟩ λs' hm=>?_);show wpAny _ A.in1 (ret Value.none) _ _ s';have kI:∀b o,b≠I->s.heap.get? b=some o->s'.heap.get? b=some o:=λb o hb e=>hm.heap b o (by simpa using hb) e;obtain⟨oI,eI,cI,_⟩:=id hit;refine yac (hR s' es (Mv.of hm λb hb=>tU _ hb) (hS.keep λb o e c=>kI b o (λz=>?_) e) (by rw[<-fe,ycm]at hj;exact hj) hle GM);rcases c with c|c
  .rw[z,eI]at e;cases e;rw[cI]at c;injection c with c;exact absurd c (by lia)
  .exact lU (c.symm.trans z)
 |succ m ih=>
  intro i s es hk hi hit hl oo hS hj hle GM hR;have ap:i<items.size:=by lia
  refine ybK F.entry_set_update_loop ?_;rw[ybE ydj _];show wpAny _ A.in1 (pyNext (.ref I)>>=_) _ _ s;refine yaa (W.item i s _ _ ap ⟨hit,hl⟩ λv s' hP Be hm=>?_);have kI:∀b o,b≠I->s.heap.get? b=some o->s'.heap.get? b=some o:=λb o hb e=>hm.heap b o (by simpa using hb) e;obtain⟨oI,eI,cI,_⟩:=id hit;have nI:∀b o,s.heap.get? b=some o->o.cls=.type "tuple"->b≠I:=λb o e c z=>by
   rw[z,eI]at e;cases e;rw[cI]at c;injection c with c;exact absurd c (by lia)
  have CZ:ds[i]? =some (ds[i]'(by lia)):=yad (by lia);generalize ds[i]'(by lia)=d at CZ;have eB:bX w s'.heap S es:=hS.keep λb o e c=>kI b o (c.elim (λc=>nI b o e c) λc=>by rw[c];exact lU) e;have hE:aY s'.heap (v,d):=(oo i v d hP CZ).keep λb o e c=>kI b o (nI b o e c) e;show wpAny _ A.in1 (holding [v] (setAdd S v)>>=_) _ _ s';refine yaa (ybf ?_);unfold setAdd;refine ybf (yaa (HD.hash 7 hE.dp hE.hd (by show A.units+1+7<cLine;lia) λtk=>?_));refine QbY (s:={s' with toks:=tk}) (by show A.units+1+8<cLine;lia) eB hE (by lia) λb h' sB sb L' tz=>?_;have FZ:h'.IsListIter I l (i+1):=Be.1.at λo e=>(sb.2 I lU.symm).trans e;have sd:h'.IsList l items:=Be.2.at λo e=>(sb.2 l hSl.symm).trans e;obtain⟨oS,epS,tS,eS,xS,_⟩:=eB.ex;have kT:∀b o,s'.heap.get? b=some o->o.cls=.type "tuple"->h'.get? b=some o:=λb o e c=>by
   refine(sb.2 b λz=>?_).trans e;rw[z,eS]at e;cases e;rw[xS.1]at c;injection c with c;exact absurd c (by lia)
  have hj2:sL sB (ds.take (i+1)):=λd'=>by
   rw[yaK,CZ];show _↔d'∈ds.take i++[d];rw[yaq,yao, <-hj d'];rcases tz with⟨⟨e0,C3,fJ⟩,rfl⟩|⟨ST,pm⟩
   .exact⟨λz=>.inl z,λz=>z.elim id λz=>⟨e0,C3,fJ.trans z.symm⟩⟩
   .constructor
    .rintro⟨e,he,dO⟩;rcases yaq.mp (pm.mem_iff.mp he)with z|z
     .exact .inl ⟨e,z,dO⟩
     .rw[yao.mp z]at dO;exact .inr dO.symm
    .rintro(⟨e,he,dO⟩|z)
     .exact⟨e,pm.mem_iff.mpr (tT _ he),dO⟩
     .exact⟨(v,d),pm.mem_iff.mpr (tR _ (yao.mpr Z)),z.symm⟩
  have F0:sB.length<=i+1:=by
   rcases tz with⟨_,rfl⟩|⟨_,pm⟩
   .lia
   .rw[pm.length_eq,tJ];show es.length+1<=i+1;lia
  have F2:Bd items ds sB:=λe he=>by
   rcases tz with⟨_,rfl⟩|⟨_,pm⟩
   .exact GM e he
   .rcases yaq.mp (pm.mem_iff.mp he)with z|z
    .exact GM e z
    .rw[yao.mp z];exact⟨i,hP,CZ⟩
  refine yac ⟨ycA ydj _,ih (i+1) {s' with heap:=h',toks:=tk} sB (by lia) ap FZ sd (λj v' d' a b=>((oo j v' d' a b).keep λb o e c=>kI b o (nI b o e c) e).keep kT) L' hj2 F0 F2 λfc F4 F9 F' Ga Gb Gd=>?_⟩;refine hR fc F4 (Mv.trans (b:={s' with heap:=h',toks:=tk}) (Mv.trans (b:=s') (Mv.of hm λb hb=>tU _ hb) ⟨λb o hb e=>?_,Z,Z,Z⟩) F9) F' Ga Gb Gd;exact(sb.2 b λz=>hb (by rw[z];exact tW)).trans e
end
open PySem.SetTable (below)
section
variable {prog:Program}
def QbZ(a:Value)(h:Q₁ (.ref s.heap.objs.size) {s with heap:=s.heap.push (xY (!w.params.followText "set-order"))}):codeAny (model prog w) A (.call (.builtin "set.__new__") ⟨[.type "set",a],[]⟩) (wants Q₁ E) s:=by
 refine yeU ?_;show wpAny _ _ (do checkBuiltinCall "set.__new__" ⟨[.type "set",a],[]⟩;again (.builtin "set.__new__" ⟨[.type "set",a],[]⟩)) _ _ _;refine yaa (ybC (F.newCall_set_1 a) (yac ⟨ycA F.plain_set_new _,ybK F.entry_set_new ?_⟩));rw[ybE F.plain_set_new _];unfold Builtin.«set.__new__» Builtin.Frozenset.newClass;have fD:=sub_set_self;obtain⟨hp,g,d,tk,os⟩:=s;dsimp only
 wp_walk
 refine wpAny_askSetting (yac ?_);dsimp only;simp only[newObj];exact yaa (wpAny_alloc (yac (yac h)))
def wQ{s:Shared}{a:Addr}{ds:List Dv}(hh:A.handled=none)(hu:A.units+64<cLine)(hT0:s.heap.IsList a its)(oo:∀(j:Nat)(v:Value)(d:Dv),its[j]? =some v->ds[j]? =some d->aY s.heap (v,d))(fe:ds.length=its.size)(hb:its.size<=4)(h:∀(h':Heap)(tk:Nat)(es:List (Value × Dv)),bX w h' s.heap.objs.size es->sL es ds->es.length<=its.size->Bd its ds es->(∀b o,b<s.heap.objs.size->s.heap.get? b=some o->h'.get? b=some o)->Q (.ref s.heap.objs.size) {s with heap:=h',toks:=tk}):wpAny (model prog w) A (call (.type "set") [.ref a]) Q E s:=by
 obtain⟨c,tl,hmro⟩:=F.called_set.mro;have Mp:=F.called_set.made;have fD:=F.called_set.sub;refine yer (yeU ?_);show wpAny _ _ (callAny (.type "set") _) _ _ _;refine yac ⟨Code.quiet_builtin _ (by rfl'),ybK F.entry_type_call ?_⟩;rw[Around.under_plain (weight_type_call_type "set" [.ref a] []) rfl];have h1:=F.called_set.notType;have h2:=F.called_set.canCreate;have hct:=F.typeCall_set_1 (.ref a)
 repeat (any_goals (first|assumption|wp_step))
 refine ycY (QbZ (.ref a) (E:=E) (Q₁:=λobj s₁=>∃led:Bool,led=(!w.params.followText "set-order")/\obj=.ref s.heap.objs.size/\s₁={s with heap:=s.heap.push (xY led)}) ⟨_,Z,Z,Z⟩) λr s₁ hr=>?_;cases r with
 |error e=>exact hr
 |ok fl=>
  cases fl with
  |ret obj=>
   obtain⟨led,fH,rfl,rfl⟩:=hr;have hS:(s.heap.push (xY led)).get? s.heap.objs.size=some (xY led):=yah _ rfl;have hT:Shared.TypeIs {s with heap:=s.heap.push (xY led)} (.ref s.heap.objs.size) "set":=⟨_,hS,Z⟩;have hli:=F.called_set.init.lookup;have hbi:=F.called_set.init.bind (.ref s.heap.objs.size)
   repeat (any_goals (first|assumption|wp_step))
   refine ycY (yca (R:=wants (λr s₂=>r=.none/\∃h' tk es,s₂={s with heap:=h',toks:=tk}/\bX w h' s.heap.objs.size es/\sL es ds/\es.length<=its.size/\Bd its ds es/\(∀b o,b<s.heap.objs.size->s.heap.get? b=some o->h'.get? b=some o)) E) F.called_set.init.plain F.entry_set_init (check_set_init_1 hT ?_)) λr₂ s₂ Ge=>?_
   .obtain⟨⟨ocls,Bf,Mq,oq⟩,sD,Mr,nl,Gc⟩:=hT0;simp only at Mr Gc;subst Mr;subst Gc;have Gf:(s.heap.push (xY led)).get? a=some {cls:=.type "list",dict:=Bf,data:=.seq its nl,slots:=oq}:=yab _ sD;have hsls:=F.sub_list_set;have hslf:=F.sub_list_frozenset;have re:(Value.type "list"==Value.type "dict")=false:=by lia
    have fE:(s.heap.push (xY led)).IsList a its:=⟨_,Gf,Z,nl,Z⟩;unfold Builtin.«set.__init__» noKeywords Builtin.Frozenset.updateFrom;generalize hPI:pyIter=PI
    wp_walk
    subst hPI;refine ydn fE ?_;refine yaa (wpAny_runValue ?_);have Ms:a<s.heap.objs.size:=yaj sD;have Fj:A.in1.in1.in1.handled=none:=by simp[hh]
    have Gg:a≠(s.heap.push (xY led)).objs.size:=by rw[yaR];exact yar (ycB Ms)
    have lU:s.heap.objs.size≠(s.heap.push (xY led)).objs.size:=by rw[yaR];exact yar (ycl _)
    have up:∀b o,s.heap.get? b=some o->((s.heap.push (xY led)).push {cls:=.type "list_iterator",data:=.fields #[.ref a,.int 0 0]}).get? b=some o:=λb o e=>yab _ (yab _ e);refine yW (I:=(s.heap.push (xY led)).objs.size) (l:=a) (S:=s.heap.objs.size) (ds:=ds) Fj (by show A.units+1+1+9<cLine;lia) Gg lU (yct Ms) fe hb (its.size-0) 0 _ [] (by lia) (lF _) ⟨_,yah _ rfl,Z,Z⟩ (fE.push _) (λj v d a b=>(oo j v d a b).keep λb o e _=>up b o e) ?hS0 (λd=>⟨λ⟨e,he,_⟩=>(nomatch he),λz=>by rw[ycK]at z;cases z⟩) (tN _) (λe he=>nomatch he) λs' sB hm eB hj hle GM=>?hR
    case hS0=>
     have Gh:((s.heap.push (xY led)).push {cls:=.type "list_iterator",data:=.fields #[.ref a,.int 0 0]}).get? s.heap.objs.size=some (xY led):=yab _ hS;exact⟨⟨_,0,_,Gh,⟨Z,Z,Z⟩,Z,aH.QbV 0 0 led,aH.wM 0 0 led,fH⟩,λe he=>(nomatch he),List.nodup_nil⟩
    case hR=>
     obtain⟨h',g',d',IR,fb⟩:=s';obtain rfl:g'=s.gens:=hm.gens;obtain rfl:d'=s.drawn:=hm.drawn;obtain rfl:fb=s.os:=hm.os;show wpAny _ _ _ _ _ _;refine yac ?_;show wpAny _ _ (ret Value.none) _ _ _;refine yac ⟨Z,h',IR,sB,Z,eB,hj,hle,GM,λb o hb e=>?_⟩;have C4:b≠s.heap.objs.size:=yar hb;have FB:b≠(s.heap.push (xY led)).objs.size:=by rw[yaR];exact yar (ycB hb)
     exact hm.heap b o (by simp only[yak,yao,yaL,ycs,not_or];exact⟨C4,FB⟩) (up b o e)
   .cases r₂ with
    |error e=>exact Ge
    |ok fl2=>
     cases fl2 with
     |ret r=>
      obtain⟨rfl,h',tk,es,rfl,eB,hj,hle,GM,Gi⟩:=Ge
      repeat (any_goals (first|assumption|wp_step))
      exact h _ _ es eB hj hle GM Gi
     |_=>exact Ge.elim
  |_=>exact hr.elim
end
open PySem PySem.Spec PyProof.Rows PySem.W
noncomputable def iP(w:World)(a:Addr)(ys:List V)(ds:List Dv):HO:=.ext λh=>∃es:List (Value × Dv),(∃o ep t,h.get? a=some o/\o.ExactSet/\o.data=.set (ents w es).toArray ep t/\aH.Ok (hashes w es) t/\aH.Zd (hashes w es) t/\t.led= !w.params.followText "set-order")/\(es.map (·.2)).Nodup/\sL es ds/\es.length<=4/\∀e∈es,∃(j:Nat)(y:V),ys[j]? =some y/\RelV y e.1/\ds[j]? =some e.2
def jR(ds:List Dv):Prop:=∀d∈ds,(∃es,d=.tup es)/\d.hk=true/\d.depth<=7
def zR{X:Cx}{U:List (Addr × Obj)}{σ:St}{ys:List V}{ds:List Dv}(I:Inv X U σ H s)(hD:aj H ys ds)(hk:jR ds){j:Nat}{x:V}(hx:ys[j]? =some x)(hd:ds[j]? =some d)(rx:RelV x u):aY s.heap (u,d):=by
 obtain⟨d',Rs,dx⟩:=hD.zM hx;rw[hd]at Rs;cases Rs;obtain⟨⟨es,rfl⟩,h1,h2⟩:=hk d (lh hd);exists dx.hd I h1 rx,h2,h1;cases dx with
 |tup g t=>cases rx;exact⟨_,Z⟩
section
def wR(hc:X.calm=true)(hu:X.A.units+64<cLine):WL X (.type "set") (λxs H Q=>∃(p:Addr)(ys:List V)(ds:List Dv),xs=[.ref p]/\aC X.K H p ys/\aj H ys ds/\jR ds/\ys.length<=4/\∀q,H q=none->Q (.ref q) (upd H q (iP X.w q ys ds))):=by
 intro U s σ H xs us Q I r h;obtain⟨p,ys,ds,rfl,hq,hD,hk,hy,q⟩:=h;obtain⟨u,rfl,ru⟩:=vals1 r;obtain rfl:u=Value.ref p:=ru;obtain⟨its,rv,pl,hl⟩:=I.list hq;have hlen:=rv.length;have Gc:=hD.length;have hsz:its.toArray.size=ys.length:=by rw[lE,hlen]
 refine wQ (ds:=ds) (I.ok.hd hc) hu pl.isList (λj v d hv hd=>?_) (by lia) (by lia) λh' tk es hS hj hle GM Gi=>?_
 .have hv:its[j]? =some v:=by simpa using hv
  obtain⟨x,hx,rx⟩:=jQ rv hv;exact zR I hD hk hx hd rx
 .have hn:=I.ao.fresh (tN s.heap.objs.size);refine⟨.ref s.heap.objs.size,upd H s.heap.objs.size (iP X.w s.heap.objs.size ys ds),?_,Z,q _ hn⟩;refine I.Qd7 (ch:=[]) (λb hb=>by cases hb) (λb o _ e=>Gi b o (yaj e) e) (tN _) ?_;refine⟨⟨es,hS.ex,hS.nd,hj,by lia,λe he=>?_⟩,?_,λh1 h2⟨es,⟨o,ep,t,z,r⟩,r2⟩ kk=>⟨es,⟨o,ep,t,kk o z,r⟩,r2⟩⟩
  .obtain⟨j,h1,h2⟩:=GM e he;have h1:its[j]? =some e.1:=by simpa using h1
   obtain⟨x,hx,rx⟩:=jQ rv h1;exact⟨j,x,hx,rx,h2⟩
  .obtain⟨o,ep,t,ho,_⟩:=hS.ex;exact⟨o,ho⟩
end
open Builtin Builtin.Str
section
def Qej(hu:X.A.units+1+n<cLine):aQ X (compareOp .NotEq) (λx y H Q=>∃a b xs ys ds es,x=.ref a/\y=.ref b/\aC X.K H a xs/\aC X.K H b ys/\aj H xs ds/\aj H ys es/\Dv.JY ds<=n/\Q (.bl (!(Dv.vm ds es))) H):=by
 intro U s σ H x y v u Q I rx ry h;obtain⟨a,b,xs,ys,ds,es,rfl,rfl,ha,hb,t,t2,hd,q⟩:=h;obtain rfl:v=Value.ref a:=rx;obtain rfl:u=Value.ref b:=ry;obtain⟨its,r1,p1,_⟩:=I.list ha;obtain⟨ce,r2,p2,_⟩:=I.list hb;have l1:=r1.length;have l2:=r2.length;have m1:=t.length;have m2:=t2.length
 by_cases hl:ds.length=es.length
 .refine SeqAt.RcNeAt.lists (e:=λj=>((ds[j]?).getD .aq).aV ((es[j]?).getD .aq)) p1.isList p2.isList (by rw[lE,lE];lia) (by lia) (VY (U:=U) (σ:=σ) (H:=H) (n:=n) r1 r2 λj x y u v g1 g2 w1 w2=>?_) X.prog X.w X.xe _ ?_
  .obtain⟨d1,k1,k2⟩:=t.zM g1;obtain⟨e1,k3,k4⟩:=t2.zM g2;show SeqAt.EqAt X.A.in1 s u v (((ds[j]?).getD .aq).aV ((es[j]?).getD .aq));rw[k1,k3];exact ag.at I n d1 e1 x y (yap (Dv.Ku k1) hd) k2 k4 (by show X.A.units+1+n<cLine;lia) w1 w2
  .have e:=Dv.ZH ds es;rw[hl,Nat.min_self,ybg,Bool.and_true]at e;refine⟨.bl _,H,I,?_,q⟩;rw[e];show Value.bool _=Value.bool _;rw[lE, <-l1,m1,hl]
 .have e:Dv.vm ds es=false:=by rw[Dv.ZH,beq_false_of_ne hl,yeo]
  rw[e]at q;refine SeqAt.RcNeAt.lists_lengths p1.isList p2.isList (by rw[lE,lE];simp;lia) (by lia) _ _ _ _ ?_;exact⟨.bl true,H,I,Z,q⟩
end
structure bR(P:Program)(w:World)(K:Frag)(mg:Str->Option Value)(Y:Heap)(C:Addr)(k:Nat)(m:Str)(ps:List Str)(dv:V)(sp:Sp):Prop where
 cl:cu K C
 ex:∃f fd d,Meth K C m f/\Binds K fd ps [d]/\RelV dv d/\Zz1 P w K mg Y k f fd ps sp
section
variable {X:Cx}{E:XK}{o e:Expr}{es:List Expr}{ta:TE}{t:TA}{k k':Nat}{m:Str}{ps:List Str}{sp:Sp}{C:Addr}{pl:Sem Bool}{pos apos:Pos}{dv:V}
def bR.pe(D:bR X.prog X.w X.K X.mg X.Y C k m ps dv sp)(hr:Zd k' X.A)(hk:k<=k')(hx:Passes (av X.prog X.w) X E)(he:PE X o ta)(ha:PA X (e::es) t)(f8:starEach (e::es) X.env=(false,eval e X.env)::starEach es X.env:=by rfl)(db:(backTo pos (starEach es X.env)).any (·.1)=false:=by rfl)(ht:eval (.Call (.Attribute o m apos) (e::es) [] pos) X.env=(do
   let ov<-eval o X.env
   standAt apos.atName
   let (f,first)<-holding [ov] (getMethod ov m pl)
   callWith pos f first (backTo pos (starEach (e::es) X.env)) (backToKw pos (keywordEach [] X.env))):=by rfl):PE X (.Call (.Attribute o m apos) (e::es) [] pos) (Ux C m sp [dv] E ta t):=by
 obtain⟨f,fd,d,hm,hb,hd,F⟩:=D.ex;exact vG he D.cl hm F (hr.mono hk) hb (.cons hd .nil) hx ha f8 db ht
end
structure MethAtD(K:Frag)(C:Addr)(m q:Str)(st:Stmt)(nm:Str)(v:Value):Prop where
 ex:∃(f kd:Addr)(oc:Value)(od:Option Addr)(doc pm:Value)(an:Option Addr)(am ct:Value)(ge:Array (Option Value)),Meth K C m f/\
  K.lookup f=some ⟨oc,od,.func (fnOf m q (Q8 st) (QS st) (Qe st) .none (.ref kd) doc pm an am ct),ge⟩/\codeIn K am q=true/\nsOkIn K kd=true/\nsIn K kd nm=some (some v)
def wT{K:Frag}{m q:Str}{st:Stmt}{nm:Str}{od an:Option Addr}{ge:Array (Option Value)}{doc pm am ct:Value}(a:findIn K (.ref C) m=some (some (.ref f)))(i:isFn K (.ref f)=true)(l:K.lookup f=some ⟨oc,od,.func (fnOf m q (Q8 st) (QS st) (Qe st) .none (.ref kd) doc pm an am ct),ge⟩)(c:codeIn K am q=true)(k:keepIn K (.ref f)=true)(n:nsOkIn K kd=true)(d:nsIn K kd nm=some (some v)):MethAtD K C m q st nm v:=
 ⟨f,kd,oc,od,doc,pm,an,am,ct,ge,⟨a,i,k⟩,l,c,n,d⟩
def MethAtD.Mt{K:Frag}{Y:Heap}{m q:Str}{st:Stmt}{k:Nat}{p1 p2 p3 p4:Str}{sp:Sp}{b:Bool}(D:MethAtD K C m q st p4 (.bool b))(cl:cu K C)(ao:∀f fd,az K m q st f fd->Zz1 P w K mg Y k f fd [p1,p2,p3,p4] sp)(hb:∀(kd:Addr)(doc pm:Value)(an:Option Addr)(am ct:Value)(u1 u2 u3:Value),ck (bindArgs (fnOf m q (Q8 st) (QS st) (Qe st) .none (.ref kd) doc pm an am ct) ⟨[u1,u2,u3],[]⟩) (nsGet kd p4) (.bool b) [(p1,u1),(p2,u2),(p3,u3),(p4,.bool b)]):bR P w K mg Y C k m [p1,p2,p3,p4] (.bl b) sp:=by
 obtain⟨f,kd,oc,od,doc,pm,an,am,ct,ge,qMa,l,c,n,d⟩:=D.ex;refine⟨cl,f,_,.bool b,qMa,λs us KX hl=>?_,Z,ao f _ ⟨⟨oc,od,.ref kd,doc,pm,an,am,ct,ge,Z,l,c⟩,qMa.kp⟩⟩;have Nk:s.heap.Ns kd (s.heap.nsMap kd):=.of_isNs (isNs_of_in KX n);have h3:us.length=3:=by simpa using hl
 match us,h3 with
 |[u1,u2,u3],_=>exact(hb kd doc pm an am ct u1 u2 u3).binds Nk (LR KX Nk d)
open PySem.SetTable (turns)
section
variable {prog:Program}
def Qek(hu:A.units+32<cLine)(ho:s.heap.get? a=some o)(hex:o.ExactSet)(hd:o.data=.set (ents w es).toArray ep t)(ok:aH.Ok (hashes w es) t)(rm:aH.Zd (hashes w es) t)(el:∀e∈es,aY s.heap e)(hx:aY s.heap (x,d))(h:∀b tk,(b=true↔∃e∈es,e.2=d)->Q (.bool b) {s with toks:=tk}):wpAny (model prog w) A (compareOp .In x (.ref a)) Q E s:=by
 have hT:s.TypeIs (.ref a) "set":=⟨o,ho,hex.1⟩;obtain⟨bx,om⟩:=hx.rf;have om:x=.ref bx:=om;have hsz:(ents w es).toArray.size=es.length:=by rw[lE,tK]
 have hlen:t.place.size=es.length:=by rw[ok.len,tK]
 have fG:es.length*5<t.mask*3:=by have:=rm;unfold aH.Zd at this;rwa[tK]at this
 have iO:t.fill=es.length:=by show t.place.size+t.dummies.size=_;rw[ok.iM,hlen];rfl
 have hf:t.fits (ents w es).toArray.size=true:=by
  rw[hsz];simp only[SetTable.fits,yax,ybl,ybI];exact⟨hlen,by lia⟩
 obtain⟨N,cW,hN,ap⟩:=aH.Uf ok rm (Jo w d);show wpAny _ _ (do return .bool (<-contains (.ref a) x)) Q E s;refine yaa ?_;unfold contains
 try with_reducible refine ybf ?_
 refine yaa (yaO hT F.slot_set_contains.lookup ?_);rw[yag (by rw[beq_builtin_none];exact yal)];refine yaa (wpAny_callSpecialUnlessNone?_slot (name:=Str.ofString "__contains__") hT F.slot_set_contains (yaN F.slot_set_contains hT entry_set_contains ?_ (F.args_set_contains_2 _ _)));unfold Builtin.«frozenset.__contains__» Builtin.Frozenset.oneOther;simp only[List.isEmpty_nil,bind_assoc];unfold Builtin.Frozenset.addrOf Builtin.Frozenset.withSetAsKey setContains;refine yaa (yac ?_)
 try dsimp only
 refine yaa (yac ?_)
 try dsimp only
 refine yaa (wpAny_tryCatch (ybf ?_));refine yaa (HD.hash 7 hx.dp hx.hd (by show A.units+1+7<cLine;lia) λtk=>?_);have eJ:∀e∈es,aY ({s with toks:=tk}:Shared).heap e:=el;unfold setFind setFindIn;refine yaa (yaa (ycE (s:={s with toks:=tk}) ho hd hf ?_));dsimp only;rw[show byScan x (ents w es).toArray=false by rw[om];rfl];simp only[yan,yaM];refine yaa (Uh (ad:=false) (s:={s with toks:=tk}) (by show A.units+1+8<cLine;lia) ho hd ok rm el hx cW hN ap N 0 100000 none (by lia) (lF _) (by unfold turns at cW;rw[ok.mask]at cW;lia) Z (λm hm=>by lia) (λGT r hr=>?_) λP3=>?_)
 .refine yac (yac ?_);rw[hr rfl];exact yac ⟨_,Z,yaV (yac (h true tk ⟨λ_=>GT,λ_=>rfl⟩))⟩
 .exact yac (yac (yac ⟨_,Z,yaV (yac (h false tk ⟨λz=>(nomatch z),λ⟨e,he,z⟩=>absurd z (P3 e he)⟩))⟩))
end
def Qga(w:World):R2:=λx y H Q=>∃(p:Addr)(ys:List V)(ds:List Dv)(d:Dv),y=.ref p/\H p=some (iP w p ys ds)/\aj H ys ds/\jR ds/\ag H x d/\jR [d]/\∀b:Bool,(b=true↔d∈ds)->Q (.bl b) H
def Qb0(hw:X.w=w0)(hu:X.A.units+32<cLine):aQ X (compareOp .In) (Qga w0):=by
 subst hw;intro U s σ H x y v u Q I rx ry h;obtain⟨p,ys,ds,d,rfl,hp,hD,hk,hd,Gj,q⟩:=h;obtain rfl:u=Value.ref p:=ry;obtain⟨⟨es,⟨o,ep,t,ho,hex,Gk,ok,rm,led⟩,Mg,hj,hle,Gm⟩,_⟩:=I.ao p _ hp;have oo:∀e∈es,aY s.heap e:=λe he=>by
  obtain⟨j,y,h1,h2,h3⟩:=Gm e he;exact zR I hD hk h1 h3 h2
 have hx:aY s.heap (v,d):=zR (j:=0) (ys:=[x]) (ds:=[d]) I (.cons hd .nil) Gj rfl rfl rx;refine Qek hu ho hex Gk ok rm oo hx λb tk hb=>⟨.bl b,H,I.kept (t':=tk) λ_ _ e=>e,Z,q b (hb.trans (hj d))⟩
def QhA(b:Bool)(ta:TE):TE:=λσ H Q=>ta σ H λx H1=>∃c,x=.bl c/\Q (.bl (c !=b)) H1
def Qel{j pos'}(ha:PE X a ta):PC X .IsNot a (.Constant (.bool b) j pos') (QhA b ta):=by
 intro U s σ H Q I h;refine ay (ha U s σ H _ I h) λv s1⟨x,H1,I1,r1,c,e,q1⟩=>?_;subst e;cases r1;refine Constant_bool ?_;have z:EP X U σ Q (.bool (c !=b)) s1:=⟨.bl _,H1,I1,Z,q1⟩;cases c<;>cases b<;>exact yac z
end L2
def ot:0<=PySem.sizeLine:=by rw[ych];lia
def eN:1<=PySem.sizeLine:=by rw[ych];lia
def bj:2<=PySem.sizeLine:=by rw[ych];lia
def Bg:3<=PySem.sizeLine:=by rw[ych];lia
def sM:4<=PySem.sizeLine:=by rw[ych];lia
def sL5:5<=PySem.sizeLine:=by rw[ych];lia
namespace Lw
open PySem PySem.Spec PyProof.Rows L2 bW bt
section
variable {P:Program}{w:World}{K:Frag}{mg:Str->Option Value}{Y:Heap}{f:Addr}{fd:FuncData}{tk:Nat->Tok}{c kr:Nat->Addr}
noncomputable def top(i:Nat):Stmt:=PySem.Challenge.pw_boxmoves_k46_whole_sums_in_areas.main.body.getD i (.Pass ⟨0,0,0,0⟩)
noncomputable abbrev UX:Stmt:=top 16
def WB:af ["many","power","turn"] ["many"] (Qe UX):=by constructor<;>rfl'
noncomputable abbrev X6:Stmt:=top 17
def UY:af ["text"] ["text"] (Qe X6):=by constructor<;>rfl'
noncomputable abbrev KP:Stmt:=top 18
def Zn:af ["text","number","start","part"] ["text"] (Qe KP):=by constructor<;>rfl'
noncomputable abbrev X7:Stmt:=top 19
def J6:af ["number","above","parts","part"] ["number"] (Qe X7):=by constructor<;>rfl'
noncomputable abbrev WC:Stmt:=top 30
def W0:af ["picture","rows","facts"] ["picture"] (Qe WC):=by constructor<;>rfl'
noncomputable abbrev WD:Stmt:=top 32
def W1:af ["picture","rows","facts"] ["picture"] (Qe WD):=by constructor<;>rfl'
noncomputable abbrev Z2:Stmt:=top 33
def XD:af ["picture","rows","facts"] ["picture"] (Qe Z2):=by constructor<;>rfl'
noncomputable abbrev J7:Stmt:=top 34
def Zt:af ["kind","picture","rows","facts"] ["kind","picture"] (Qe J7):=by constructor<;>rfl'
noncomputable abbrev XE:Stmt:=top 35
def YS:af ["rows"] ["rows"] (Qe XE):=by constructor<;>rfl'
noncomputable abbrev Yg:Stmt:=top 36
def Ze:af ["thing","rows","at","symbol","many"] ["thing"] (Qe Yg):=by constructor<;>rfl'
noncomputable abbrev W2:Stmt:=top 37
def KQ:af ["text","at","end","number"] ["text","at"] (Qe W2):=by constructor<;>rfl'
noncomputable abbrev W3:Stmt:=top 38
def XF:af ["rows","facts"] ["rows"] (Qe W3):=by constructor<;>rfl'
noncomputable abbrev Xc:Stmt:=top 39
def Q4:af ["rows","symbol","many","signed","behind_point","figures"] ["rows"] (Qe Xc):=by constructor<;>rfl'
noncomputable abbrev XG:Stmt:=top 40
def Xd:af ["rows","symbol","many"] ["rows"] (Qe XG):=by constructor<;>rfl'
noncomputable abbrev Xe:Stmt:=top 41
def QI:af ["rows","lead","start","place","many","nines","behind","end","tail","floats","shown","before"] ["rows"] (Qe Xe):=by constructor<;>rfl'
noncomputable abbrev Xf:Stmt:=top 42
def Q5:af ["rows","lead","start","place","many","nines","behind","end"] ["rows"] (Qe Xf):=by constructor<;>rfl'
noncomputable abbrev Yh:Stmt:=top 43
def ZI:af ["rows","lead","at","choice"] ["rows"] (Qe Yh):=by constructor<;>rfl'
noncomputable abbrev KR:Stmt:=top 44
def Zo:af ["rows","at","symbol","many","behind"] ["rows","at"] (Qe KR):=by constructor<;>rfl'
noncomputable abbrev Yi:Stmt:=top 45
def Zf:af ["rows","at","place","many","nines","behind"] ["rows","at"] (Qe Yi):=by constructor<;>rfl'
noncomputable abbrev X8:Stmt:=top 46
def JG:af ["rows","at","place","many","nines"] ["rows","at"] (Qe X8):=by constructor<;>rfl'
noncomputable abbrev KS:Stmt:=top 47
def Z3:af ["rows","at","place","many"] ["rows","at","place"] (Qe KS):=by constructor<;>rfl'
noncomputable abbrev XH:Stmt:=top 48
def Xg:af ["rows","at","place","symbol","many"] ["rows","at","place"] (Qe XH):=by constructor<;>rfl'
noncomputable abbrev Yj:Stmt:=top 49
def Ui:af ["rows","at","tail"] ["rows","at"] (Qe Yj):=by constructor<;>rfl'
noncomputable abbrev W4:Stmt:=top 51
def JV:af ["layout","signs","left","items","times","item"] ["layout"] (Qe W4):=by constructor<;>rfl'
noncomputable abbrev zS:Stmt:=top 52
def UZ:af ["layout","path","start","item"] ["layout","path"] (Qe zS):=by constructor<;>rfl'
noncomputable abbrev J8:Stmt:=top 53
def KJ:af ["layout","path","other","others"] ["layout","path","other"] (Qe J8):=by constructor<;>rfl'
noncomputable abbrev U0:Stmt:=top 55
def ZC:af ["layout","path","start","items","item","step","ahead"] ["layout","path"] (Qe U0):=by constructor<;>rfl'
noncomputable abbrev Zu:Stmt:=top 56
def Ja:af ["items","with_tables","paths","left","path","item","number"] ["items","with_tables"] (Qe Zu):=by constructor<;>rfl'
noncomputable abbrev X9:Stmt:=top 57
def U1:af ["path","items"] ["path","items"] (Qe X9):=by constructor<;>rfl'
noncomputable abbrev yX:Stmt:=top 58
def Qem:af ["item"] ["item"] (Qe yX):=by constructor<;>rfl'
noncomputable abbrev W5:Stmt:=top 59
def zT:af ["thing"] ["thing"] (Qe W5):=by constructor<;>rfl'
noncomputable abbrev WE:Stmt:=top 60
def Zg:af ["items","step","name","number","under","at","item"] ["items","step"] (Qe WE):=by constructor<;>rfl'
noncomputable abbrev Ka:Stmt:=top 61
def U2:af ["step"] ["step"] (Qe Ka):=by constructor<;>rfl'
noncomputable abbrev JR:Stmt:=top 62
def W6:af ["item","number"] ["item","number"] (Qe JR):=by constructor<;>rfl'
noncomputable abbrev s_same:Stmt:=top 64
def U3:af ["one","other","first","second","places"] ["one","other"] (Qe s_same):=by constructor<;>rfl'
noncomputable abbrev zU:Stmt:=top 65
def Vw:af ["one","other","first","second","places"] ["one","other"] (Qe zU):=by constructor<;>rfl'
noncomputable abbrev Gn:Stmt:=top 66
def yY:af ["amount","places","units","own"] ["amount","places"] (Qe Gn):=by constructor<;>rfl'
noncomputable abbrev Yk:Stmt:=top 67
def wU:af ["amount","places","units","own","by","twice","nearest"] ["amount","places"] (Qe Yk):=by constructor<;>rfl'
noncomputable abbrev U4:Stmt:=top 68
def Yl:af ["amount","before","behind","units","kept"] ["amount","before","behind"] (Qe U4):=by constructor<;>rfl'
noncomputable abbrev W7:Stmt:=top 69
def Ym:af ["one","other","places"] ["one","other"] (Qe W7):=by constructor<;>rfl'
noncomputable abbrev Xh:Stmt:=top 70
def Kb:af ["number","by","quotient"] ["number","by"] (Qe Xh):=by constructor<;>rfl'
noncomputable abbrev Vx:Stmt:=top 75
def JQ:af ["picture","amount","rows","signed","before","behind","lead","body","tail","units","is_below"] ["picture","amount"] (Qe Vx):=by constructor<;>rfl'
noncomputable abbrev ZD:Stmt:=top 76
def QP:af ["picture","text","rows","signed","before","behind","lead","body","tail","pairs","units","choice"] ["picture","text"] (Qe ZD):=by constructor<;>rfl'
noncomputable abbrev Xi:Stmt:=top 77
def Yn:af ["body"] ["body"] (Qe Xi):=by constructor<;>rfl'
noncomputable abbrev XI:Stmt:=top 78
def YT:af ["symbols"] ["symbols"] (Qe XI):=by constructor<;>rfl'
noncomputable abbrev KU:Stmt:=top 79
def jS:af ["symbols","is_below"] ["symbols","is_below"] (Qe KU):=by constructor<;>rfl'
noncomputable abbrev KY:Stmt:=top 80
def Z4:af ["body","units","is_below","signs","hidden","place"] ["body","units","is_below"] (Qe KY):=by constructor<;>rfl'
noncomputable abbrev U5:Stmt:=top 81
def ZP:af ["body","units","symbol","many","figures","signs","used"] ["body","units"] (Qe U5):=by constructor<;>rfl'
noncomputable abbrev KZ:Stmt:=top 82
def Kc:af ["body","signs","at","symbol"] ["body","signs"] (Qe KZ):=by constructor<;>rfl'
noncomputable abbrev Z5:Stmt:=top 87
def Jx:af ["picture","amount","rows","signed","before","behind","units","figures"] ["picture","amount"] (Qe Z5):=by constructor<;>rfl'
noncomputable abbrev XJ:Stmt:=top 88
def Jl:af ["picture","content","rows","signed","before","behind","last","is_below","figures","units"] ["picture","content"] (Qe XJ):=by constructor<;>rfl'
noncomputable abbrev x9:Stmt:=top 89
def Yo:af ["content","picture","other","right","source","target","text","moved"] ["content","picture","other","right"] (Qe x9):=by constructor<;>rfl'
noncomputable abbrev Vy:Stmt:=top 90
def Xp:af ["picture","amount","nearest","rows","signed","before","behind","result"] ["picture","amount","nearest"] (Qe Vy):=by constructor<;>rfl'
noncomputable abbrev zV:Stmt:=top 91
def ka:af ["picture","kind"] ["picture"] (Qe zV):=by constructor<;>rfl'
noncomputable abbrev De:Stmt:=top 92
def Qgb:af ["picture","amount"] ["picture","amount"] (Qe De):=by constructor<;>rfl'
noncomputable abbrev ZE:Stmt:=top 93
def Xj:af ["content","picture","kind","figures"] ["content","picture"] (Qe ZE):=by constructor<;>rfl'
noncomputable abbrev Xk:Stmt:=top 94
def Yp:af ["content","picture","signed","before","behind","units","places"] ["content","picture"] (Qe Xk):=by constructor<;>rfl'
noncomputable abbrev Yq:Stmt:=top 95
def wV:af ["text","size","right"] ["text","size","right"] (Qe Yq):=by constructor<;>rfl'
noncomputable abbrev ZQ:Stmt:=inClass (top 98) 0
def Vs:af ["self","layout"] ["self","layout"] (Qe ZQ):=by constructor<;>rfl'
noncomputable abbrev W8:Stmt:=inClass (top 98) 4
def XL:af ["self","path","start","size","picture"] ["self","path"] (Qe W8):=by constructor<;>rfl'
noncomputable abbrev ZF:Stmt:=inClass (top 98) 5
def Zj:af ["self","path","start","size","picture"] ["self","path"] (Qe ZF):=by constructor<;>rfl'
noncomputable abbrev XM:Stmt:=inClass (top 98) 6
def Z6:af ["self","path","text","start","size","picture"] ["self","path","text"] (Qe XM):=by constructor<;>rfl'
noncomputable abbrev Z7:Stmt:=inClass (top 98) 8
def J9:af ["self","path","amount","nearest","start","size","picture","content"] ["self","path","amount","nearest"] (Qe Z7):=by constructor<;>rfl'
noncomputable abbrev XN:Stmt:=inClass (top 98) 9
def Kd:af ["self","path","other","right","source","target"] ["self","path","other","right"] (Qe XN):=by constructor<;>rfl'
noncomputable abbrev JH:Stmt:=inClass (top 98) 10
def QT:af ["self","path","other","source","target","ways","held","way"] ["self","path","other"] (Qe JH):=by constructor<;>rfl'
noncomputable abbrev XO:Stmt:=inClass (top 98) 14
def YU:af ["self","word","held"] ["self","word","held"] (Qe XO):=by constructor<;>rfl'
noncomputable abbrev JN:Stmt:=top 99
def Jm:af ["layout","parts","left","item"] ["layout"] (Qe JN):=by constructor<;>rfl'
noncomputable abbrev Z8:Stmt:=top 100
def U6:af ["picture","kinds"] ["picture","kinds"] (Qe Z8):=by constructor<;>rfl'
noncomputable abbrev Ke:Stmt:=top 101
def U7:af ["held","start","text"] ["held","start","text"] (Qe Ke):=by constructor<;>rfl'
noncomputable abbrev XQ:Stmt:=top 102
def Js:af ["held","source","target","right","start","size","picture","other_start","other_size","other_picture","content"] ["held","source","target","right"] (Qe XQ):=by constructor<;>rfl'
noncomputable abbrev K7:Stmt:=top 104
def Zp:af ["_law_script","_law_town","_law_many","_law_at","_law_rest","_law_number"] ["_law_script","_law_town","_law_many"] (Qe K7):=by constructor<;>rfl'
noncomputable abbrev Kf:Stmt:=top 105
def U8:af [] [] (Qe Kf):=by constructor<;>rfl'
noncomputable abbrev Zv:Stmt:=top 106
def JI:af ["_law_script","_law_town","_law_figures","_law_far","_law_units","_law_places","_law_k"] ["_law_script","_law_town","_law_figures","_law_far"] (Qe Zv):=by constructor<;>rfl'
noncomputable abbrev Kg:Stmt:=top 107
def ZG:af ["_law_many","_law_row","_law_inner","_law_seen"] ["_law_many"] (Qe Kg):=by constructor<;>rfl'
noncomputable abbrev U9:Stmt:=top 108
def ZA:af ["_law_script","_law_town","_law_many","_law_items_here","_law_area","_law_due","_law_k","_law_at","_law_one","_law_path","_law_before","_law_fits_so","_law_parts","_law_whole","_law_part"] ["_law_script"] (Qe U9):=by constructor<;>rfl'
def zW:Sp:=λvs H Q _=>∃m:Int,vs=[.int m]/\ -(2^62)<=m/\m<2^62/\Q (.int (ax.aJ m)) H
def yZ(F:az K "ten_to" "ten_to" UX f fd)(O:Own mg):Zz1 P w K mg Y 1 f fd ["many"] zW:=by
 refine okN F WB (by nofun) λam A L s H vs Q E hr h=>?_
 obtain⟨m,rfl,h1,h2,k⟩:=h;refine⟨_,(Qd (Qt (i:=1) WB.nd Z Zz0 Qj)
  (Qd (ZW yaB Z (XY Z O.range (Qa (pv 0) Qb)) (Qi (i:=2) WB.nd Z Zz0) (Qg (Qt (i:=1) WB.nd Z Zz0 (QG Wj (pv 1) Qj))))
  (Qg (Qp (pv 1))))),?_⟩
 refine⟨_,Z,m,Z,h1,h2,ji (n:=m.toNat) (λi σ H2=>∃v,σ=[some (.int m),some (.int (10^i)),v]/\H2=H) ⟨none,Z,Z⟩ ?_ ?_⟩
 .rintro i σ H2 hi ⟨v,rfl,rfl⟩;refine⟨_,Z,_,_,Z,Z,.inr ⟨by lia,by lia⟩,?_⟩;exact⟨_,by rw[Int.pow_succ];rfl,Z⟩
 .rintro σ H2 ⟨v,rfl,rfl⟩;exact⟨_,Z,k⟩
def Yr(h:m<=40):(ax.aJ m).natAbs<2^200:=by
 have h1:=ax.SM (a:=m) (b:=40) h (by lia);have h2:=ax.JC m;have h3:ax.aJ 40<2^200:=by lia
 lia
def big{a:Int}(h:a.natAbs<2^200):a.natAbs<2^2000:=yam h (by lia)
structure Txt(K:Frag)(mg:Str->Option Value)(tk:Nat->Tok)(c kr:Nat->Addr):Prop where
 uZ:mg "BoxError"=some (.ref (c 0))
 rX:mg "NoPicture"=some (.ref (c 1))
 uw:mg "NoRoom"=some (.ref (c 2))
 mL:mg "NoFigures"=some (.ref (c 5))
 rY:mg "NoLetters"=some (.ref (c 6))
 ux:mg "NoMove"=some (.ref (c 7))
 rj:mg "NoPath"=some (.ref (c 8))
 ub:mg "NoAmount"=some (.ref (c 9))
 uo:mg "NoGroup"=some (.ref (c 10))
 ur:mg "BadSize"=some (.ref (c 11))
 tG:mg "NoBack"=some (.ref (c 12))
 gU:mg "FIGURES"=some (.str "0123456789" (tk 0))
 nN:mg "PART"=some (.int 18 (tk 1))
 gP:mg "INSERTED"=some (.str ",B0/" (tk 2))
 pN:mg "SIGNS"=some (.str "+-" (tk 3))
 gD:mg "FLOATING"=some (.str "+-$" (tk 4))
 nO:mg "PLACES"=some (.str "9Z*+-$" (tk 5))
 gm:mg "MOST_FIGURES"=some (.int 18 (tk 6))
 gR:mg "MOST_SIGNS"=some (.int 60 (tk 7))
 gx:mg "LAST_BELOW"=some (.str "pqrstuvwxy" (tk 8))
 gh:mg "LETTERS_AND_BLANK"=some (.str "abcdefghijklmnopqrstuvwxyzABCDEFGHIJKLMNOPQRSTUVWXYZ " (tk 9))
 mf:mg "BESIDE"=some (.ref (kr 3))
 mh:mg "NOT_BELOW"=some (.ref (kr 4))
 pO:mg "BELOW"=some (.ref (kr 5))
 gE:mg "WITH_AMOUNTS"=some (.ref (kr 6))
 pP:mg "MOVES"=some (.ref (kr 7))
 gF:mg "NUMBER_FORMS"=some (.ref (kr 0))
 pk:mg "SHOWN"=some (.ref (kr 1))
 gA:mg "PLAIN_KINDS"=some (.ref (kr 2))
 uY:∀H,aw K H (kr 0) [.str "9",.str "S9",.str "V9",.str "SV9",.str "9V9",.str "S9V9"]
 pq:∀H,aw K H (kr 1) [.str "+",.str "-",.str "CR",.str "DB"]
 u0:∀H,aw K H (kr 6) [.str "number",.str "edited"]
 uy:∀H,aw K H (kr 8) [.str "number",.str "edited",.str "text"]
 uz:∀H,aw K H (kr 9) [.str "number",.str "edited",.str "text"]
 uA:∀H,aw K H (kr 10) [.str "number",.str "edited",.str "text",.str "letters"]
 uB:∀H,aw K H (kr 11) [.str "text",.str "letters"]
 rZ:dh K (c 1)
 uC:dh K (c 2)
 mM:dh K (c 5)
 r6:dh K (c 6)
 uD:dh K (c 7)
 rl:dh K (c 8)
 uc:dh K (c 9)
 uu:dh K (c 10)
 uv:dh K (c 11)
 r8:kitOne K (.type "str") (.type "str")=some true
 r9:kitOne K (.type "int") (.type "str")=some false
 tH:kitOne K (.type "NoneType") (.type "str")=some false
 tI:kitOne K (.type "tuple") (.type "str")=some false
noncomputable def jT:List (Key × V):=[(Sum.inr "X",.str "text"),(Sum.inr "A",.str "letters")]
def Ys:Sp:=λvs H Q _=>∃z:Str,vs=[.str z]/\z.length<=1000/\Q (.bl (decide (z.cps.toList≠[]/\NumText.AllDigits z.cps.toList))) H
def Yt(z:Str):decide (V.str z=V.str "")=decide (z.cps.toList=[]):=by
 have e:("":Str)=tx []:=by rfl'
 rw[e]
 by_cases h:z.cps.toList=[]
 .rw[tM h,tM];rw[jD z,h]
 .rw[tL h,tL];intro q;exact h (by rw[V.str.inj q])
def Qaa(z:Str):decide (V.str (Txt.stripChars z "0123456789")=V.str "")=decide (NumText.AllDigits z.cps.toList):=by
 rw[Yt, <-yk z.cps.toList];have e:tx z.cps.toList=z:=(jD z).symm;rw[e]
 by_cases h:(Txt.stripChars z "0123456789").cps.toList=[]
 .rw[tM h,tM];rw[jD (Txt.stripChars _ _),h];rfl
 .rw[tL h,tL];intro q;exact h (by rw[q];rfl)
def qa(F:az K "is_figures" "is_figures" X6 f fd)(T:Txt K mg tk c kr):Zz1 P w K mg Y 1 f fd ["text"] Ys:=by
 refine okN F UY (by nofun) λam A L s H vs Q E hr h=>?_
 obtain⟨z,rfl,hl,k⟩:=h;exists _,(Qg (Qp (Y6 (JS Xl (pv 0) Qk (Qq _)) (Y5 (JS Jk (JL yaA slot_str_strip type_str_strip UG (pv 0) (Qa (QK (v:=V.str "0123456789") Z T.gU ⟨_,Z⟩) Qb)) Qk (Qq _))))));exists _,Z,Z,_,Z;refine bE (λh=>?_) (λh=>?_)
 .exists _,Z,Z,z,"0123456789",Z,Z,yap hl (by lia),Z;rw[Yt]at h;refine Eq.mp (yaF (λb=>Q (.bl b) H) ?_) k;rw[Qaa];have re:z.cps.toList≠[]:=λq=>by rw[tM q]at h;cases h
  by_cases hd:NumText.AllDigits z.cps.toList
  .rw[tM hd,tM ⟨re,hd⟩]
  .rw[tL hd,tL λq=>hd q.2]
 .rw[Yt]at h;have re:z.cps.toList=[]:=by
   by_cases q:z.cps.toList=[]
   .exact q
   .rw[tL q]at h;cases h
  refine Eq.mp (yaF (λb=>Q (.bl b) H) ?_) k;exact tL λq=>q.1 re
def wW:Sp:=λvs H Q _=>∃z:Str,vs=[.str z]/\NumText.AllDigits z.cps.toList/\z.length<=500/\Q (.int (NumText.digitsVal z.cps.toList:Nat)) H
def jU(F:az K "number_of" "number_of" KP f fd)(O:Own mg)(T:Txt K mg tk c kr)(gg:Def P w K mg Y 1 "ten_to" ["many"] zW):Zz1 P w K mg Y 2 f fd ["text"] wW:=by
 refine okN F Zn (by nofun) λam A L s H vs Q E hr h=>?_
 obtain⟨z,rfl,hd,h2,k⟩:=h;have eO:=len_list z;refine⟨_,(Qd (Qt (i:=1) Zn.nd Z Zz0 Qj)
  (Qd (ZW yaB Z (v9 Z O.range (Qa Qj (Qa (Qx Q2 Z O.len ybb (Qa (pv 0) Qb)) (Qa (QK (v:=V.int 18) Z T.nN ⟨_,Z⟩) Qb)))) (Qi (i:=2) Zn.nd Z Zz0) (Qd (Qt (i:=3) Zn.nd Z Zz0 (QR Zc (pv 0) (QQ (pv 2)) (QQ (QG Jj (pv 2) (QK (v:=V.int 18) Z T.nN ⟨_,Z⟩)))))
  (Qg (Qt (i:=1) Zn.nd Z Zz0 (QG Jj (QG vW (pv 1) (gg.pq hr Qr (Qa (Qx Q2 Z O.len ybb (Qa (pv 3) Qb)) Qb))) (XZ Wq Z O.int boot_int (Qa (pv 3) Qb)))))))
  (Qg (Qp (pv 1))))),?_⟩
 have hn:Builtin.Range.rangeSize 0 (z.length:Int) 18=(((z.length+17)/18:Nat):Int):=by
  unfold Builtin.Range.rangeSize;rw[yai (by lia)]
  split<;>lia
 refine⟨_,Z,z,Z,yap h2 (by lia),0,(z.length:Int),18,_,Z,⟨by lia,by lia,by lia,by lia,by lia,by lia⟩,hn,wB (λi σ H2=>∃x2 x3,σ=[some (.str z),some (.int (NumText.digitsVal (z.cps.toList.take (18*i)):Nat)),x2,x3]/\H2=H) ⟨none,none,Z,Z⟩ ?_ ?_⟩
 .rintro i σ H2 hi ⟨x2,x3,rfl,rfl⟩;have hi18:18*i<z.length:=by lia
  have hs:StrLaws.sliceText z (some (0+(i:Int)*18)) (some (0+(i:Int)*18+18))=tx ((z.cps.toList.drop (18*i)).take 18):=by
   have e1:(0+(i:Int)*18)=((18*i:Nat):Int):=by lia
   have e2:(0+(i:Int)*18+18)=((18*i+18:Nat):Int):=by lia
   rw[e2,e1];have:=J2 z.cps.toList (a:=18*i) (b:=18*i+18) (by lia) (by lia);rw[<-jD z,show 18*i+18-18*i=18 by lia]at this;exact this
  refine⟨_,Z,_,Z,_,Z,_,Z,_,_,Z,Z,_,Z,z,Z,yap h2 (by lia),?_⟩;rw[hs];have Mu:NumText.AllDigits ((z.cps.toList.drop (18*i)).take 18):=λc hc=>hd c (ybn (ycJ hc));have db:((z.cps.toList.drop (18*i)).take 18).length<=18:=by rw[tX];lia
  have iQ:1<=((z.cps.toList.drop (18*i)).take 18).length:=by rw[tX,tY];lia
  have Go:z.cps.toList.take (18*(i+1))=z.cps.toList.take (18*i)++(z.cps.toList.drop (18*i)).take 18:=by rw[show 18*(i+1)=18*i+18 by lia,List.take_add]
  generalize (z.cps.toList.drop (18*i)).take 18=pl at Mu db iQ Go;have AC:=Qu pl;have hv0:=Lv (l:=z.cps.toList.take (18*i)) λc hc=>hd c (ycJ hc);have hv1:NumText.digitsVal (z.cps.toList.take (18*i))<10^500:=yam hv0 (ybm (by lia) (by rw[tX];lia));refine⟨_,Z,_,Z,tx pl,Z,by rw[AC];exact yap db (by lia),_,Z,by lia,by lia,_,_,Z,Z,⟨ybu hv1 (by lia),big (Yr (by lia))⟩,?_⟩;exists _,Z,tx pl,_,Z,yeZ Mu (λq=>by rw[WQ]at q;rw[q]at iQ;exact absurd iQ (by lia)) (by rw[AC];lia),by rw[AC];lia,_,_,Z,Z;have et:ax.aJ (((tx pl).length:Nat):Int)=((10^pl.length:Nat):Int):=by
   unfold ax.aJ;rw[lH,AC];push_cast;rfl
  have key:((NumText.digitsVal (z.cps.toList.take (18*i)):Nat):Int)*ax.aJ (((tx pl).length:Nat):Int)+((NumText.digitsVal (tx pl).cps.toList:Nat):Int)=((NumText.digitsVal (z.cps.toList.take (18*(i+1))):Nat):Int):=by
   rw[Go,UL,et,WQ];push_cast;rfl
  refine⟨some (.int (0+(i:Int)*18)),some (.str (tx pl)),?_,Z⟩;rw[<-key];rfl
 .rintro σ H2 ⟨x2,x3,rfl,rfl⟩;exists _,Z;rw[yat (by lia)];exact k
def zX:Sp:=λvs H Q _=>∃(l:List Nat)(a:Nat),vs=[.str (tx l),.int (a:Nat)]/\l.length<=500/\a<=l.length/\∀b,a<=b->b<=l.length->(Q3 (l.drop a)).2=l.drop b->∀q,H q=none->Q (.ref q) (upd H q (.tup [.int ((Q3 (l.drop a)).1:Nat),.int (b:Nat)]))
def Qb2(h:t.take 1≠[40]):Q3 t=(1,t):=by
 unfold Q3
 split
 .exact absurd rfl h
 .rfl
def Qab(h:¬ (41∈r/\r.takeWhile (· !=41)≠[]/\NumText.AllDigits (r.takeWhile (· !=41))/\(r.takeWhile (· !=41)).head?≠some 48)):Q3 (40::r)=(1,40::r):=yag h
def wX(h:41∈r/\r.takeWhile (· !=41)≠[]/\NumText.AllDigits (r.takeWhile (· !=41))/\(r.takeWhile (· !=41)).head?≠some 48):Q3 (40::r)=(NumText.digitsVal (r.takeWhile (· !=41)),r.drop ((r.takeWhile (· !=41)).length+1)):=yai h
def jV(a:Nat):(a:Int)+1=((a+1:Nat):Int):=by lia
def zY(F:az K "times_at" "times_at" W2 f fd)(O:Own mg)(T:Txt K mg tk c kr)(gj:Def P w K mg Y 1 "is_figures" ["text"] Ys)(hZ:Def P w K mg Y 2 "number_of" ["text"] wW):Zz1 P w K mg Y 3 f fd ["text","at"] zX:=by
 refine okN F KQ (by nofun) λam A L s H vs Q E hr h=>?_
 obtain⟨l,a,rfl,hl,ha,k⟩:=h;have hz:=zza
 have AC:=Qu l;have e40:("(":Str)=tx [40]:=by rfl'
 have e41:(")":Str)=tx [41]:=by rfl'
 have e48:("0":Str)=tx [48]:=by rfl'
 refine⟨_,(Qd (QN (Ql Xl (QR Zc (pv 0) (QQ (pv 1)) (QQ (QG Jj (pv 1) Qj))) Qk (Qq _)) (Qg (Qp (Qs (Qa Qj (Qa (pv 1) Qb))))) Qw)
  (Qd (Qt (i:=2) KQ.nd Z Zz0 (JL yaA slot_str_find type_str_find Sd (pv 0) (Qa Qk (Qa (pv 1) Qb))))
  (Qd (Qt (i:=3) KQ.nd Z Zz0 (QR Zc (pv 0) (QQ (QG Jj (pv 1) Qj)) (QQ (Qx (VN Z) Z O.max boot_max (Qa (pv 2) (Qa (pv 1) Qb))))))
  (Qd (QN (PW.pt (ZU (Wf (XX (gj.pq hr Qr (Qa (pv 3) Qb)))) (JW (XX (JL yaA slot_str_startswith type_str_startswith UH (pv 3) (Qa Qk Qb)))))) (Qg (Qp (Qs (Qa Qj (Qa (pv 1) Qb))))) Qw)
  (Qg (Qp (Qs (Qa (hZ.pq hr Qr (Qa (pv 3) Qb)) (Qa (QG Jj (pv 2) Qj) Qb))))))))),?_⟩
 refine⟨_,Z,_,Z,_,Z,_,Z,_,_,Z,Z,_,Z,tx l,Z,by lia,?_⟩;rw[jV,J2 l (a:=a) (b:=a+1) ha (by lia),show a+1-a=1 by lia];exists Z,_,Z;have stop:Q3 (l.drop a)=(1,l.drop a)->∀q,H q=none->Q (.ref q) (upd H q (.tup [.int 1,.int (a:Nat)])):=λe q hq=>by
  have:=k a (tN _) ha (by rw[e]) q hq;rw[e]at this;exact this
 rw[e40,V7];refine bE (λh1=>?_) (λh1=>?_)
 .refine⟨_,Z,bj,stop (Qb2 λe=>?_)⟩;rw[e]at h1;cases h1
 have h2:(l.drop a).take 1=[40]:=by
  by_cases e:(l.drop a).take 1=[40]
  .exact e
  .rw[tL e]at h1;cases h1
 obtain⟨r,ou⟩:∃r,l.drop a=40::r:=by
  cases e:l.drop a with
  |nil=>rw[e]at h2;cases h2
  |cons b r=>
   rw[e]at h2;have:b=40:=(ycC h2).1;exact⟨r,by rw[this]⟩
 have AV:l.length=a+(r.length+1):=by
  have:=yaF List.length ou;rw[tY,tQ]at this;lia
 have dQ:¬ (41∈r/\r.takeWhile (· !=41)≠[]/\NumText.AllDigits (r.takeWhile (· !=41))/\(r.takeWhile (· !=41)).head?≠some 48)->∀q,H q=none->Q (.ref q) (upd H q (.tup [.int 1,.int (a:Nat)])):=λz=>stop (by rw[ou];exact Qab z);exists _,Z,Z,_,Z,tx l,")",(a:Int),Z,Z;rw[e41];have iR:=SY (c:=41) ou (by lia);generalize ya (tx l) (tx [41]) (a:Int)=e at iR;refine⟨_,Z,_,Z,_,_,Z,Z,_,Z,_,Z,_,Z,_,_,Z,_,Z,tx l,Z,by lia,?_⟩;rw[jV];rcases iR with⟨ST,rfl⟩|⟨GT,rfl⟩
 .have es:StrLaws.sliceText (tx l) (some ((a+1:Nat):Int)) (some (if(a:Int)> -1 then(a:Int)else-1))=tx []:=by
   rw[yai (by lia)];exact wD l (by lia) (by lia)
  rw[es];exists _,Z,tx [],Z,by rw[Qu];lia,_,Z;refine bE (λ_=>?_) (λq=>?_)
  .exact⟨_,Z,bj,dQ λq=>ST q.1⟩
  .have:decide ((tx []).cps.toList≠[]/\NumText.AllDigits (tx []).cps.toList)=false:=tL λz=>z.1 rfl;rw[this]at q;cases q
 .generalize hn:r.takeWhile (· !=41)=n;have hnl:n.length<=r.length:=by rw[<-hn];exact(yeM _).length_le
  have hnr:n.length<r.length:=by
   rcases yaZ n.length r.length with h|h
   .exact h
   .have e:n=r:=by rw[<-hn]at h ⊢;exact(yeM _).eq_of_length_le h
    rw[<-e, <-hn]at GT;have:=yj GT;simp at this
  have Go:r.take n.length=n:=by
   have:=ydp (p:=(· !=41)) (l:=r);rw[hn]at this;rw[<-this,List.take_left]
  have es:StrLaws.sliceText (tx l) (some ((a+1:Nat):Int)) (some (if(a:Int)>((a+1+n.length:Nat):Int)then(a:Int)else((a+1+n.length:Nat):Int)))=tx n:=by
   rw[yag (by lia),J2 l (by lia) (by lia),show a+1+n.length-(a+1)=n.length by lia];have:l.drop (a+1)=r:=by rw[<-ycL,ou];rfl
   rw[this,Go]
  rw[es];have hnt:=Qu n;exists _,Z,tx n,Z,by lia,_,Z;refine bE (λq=>?_) (λq=>?_)
  .refine⟨_,Z,bj,dQ λz=>?_⟩;rw[hn]at z;have:decide ((tx n).cps.toList≠[]/\NumText.AllDigits (tx n).cps.toList)=true:=tM ⟨z.2.1,z.2.2.1⟩;rw[this]at q;cases q
  have Bh:n≠[]/\NumText.AllDigits n:=by
   by_cases z:n≠[]/\NumText.AllDigits n
   .exact z
   .have:decide ((tx n).cps.toList≠[]/\NumText.AllDigits (tx n).cps.toList)=false:=tL z;rw[this]at q;cases q
  exists _,Z,Z,tx n,"0",Z,Z,trivial,_,Z;rw[e48,SV];refine bE (λq2=>?_) (λq2=>?_)
  .refine⟨_,Z,bj,dQ λz=>?_⟩;rw[hn]at z;exact z.2.2.2 (by simpa using q2)
  have Bi:41∈r/\r.takeWhile (· !=41)≠[]/\NumText.AllDigits (r.takeWhile (· !=41))/\(r.takeWhile (· !=41)).head?≠some 48:=by
   rw[hn];exact⟨GT,Bh.1,Bh.2,by simpa using q2⟩
  have hn1:1<=n.length:=by cases n with|nil=>exact absurd rfl Bh.1|cons=>simp
  refine⟨_,Z,tx n,Z,Bh.2,by lia,_,Z,_,_,Z,Z,bj,λp hp=>?_⟩;have et:=wX Bi;rw[hn]at et;have:=k (a+1+n.length+1) (by lia) (by lia) (by
   rw[ou,et];show r.drop (n.length+1)=_;have e1:l.drop (a+1)=r:=by rw[<-ycL,ou];rfl
   rw[<-e1,ycL]
   congr 1) p hp
  rw[ou,et]at this;exact this
def QiR(v:V)(H:Hp):Prop:=v=.aq\/(∃i,v=.int i)\/∃a xs,v=.ref a/\H a=some (.tup xs)
def kc(K:Frag):Sp:=λvs H Q _=>∃(v:V)(rows:List Rw),vs=[v]/\((∃l,v=.str (tx l)/\l.length<=500/\rows=rowsOf l)\/(QiR v H/\rows=[]))/\∀p rs H',Qn H H'->au K H' p rs rows->Q (.ref p) H'
def Qb3(t:List Nat):(Q3 t).2.length<=t.length:=by
 unfold Q3
 split
 .split
  .show(List.drop _ _).length<=_;rw[tY,tQ];lia
  .exact tN _
 .exact tN _
def qc{c:TT}(Good:L2.St->Hp->Prop)(rest:∀σ' H',Good σ' H'->u D σ' H')(h:(∀σ' H',Good σ' H'->u D σ' H')->c σ H λb H1=>if b=true then t {D with nx:=u D} σ H1 else u D σ H1):Zb (Ai c t Q1) u D σ H:=h rest
def bC.last{rs:List Addr}{rows:List Rw}(h:bC H rs rows):(rs=[]/\rows=[])\/∃IN r Da x,rs=IN++[r]/\rows=Da++[x]/\bC H IN Da/\H r=some (iH x):=by
 induction h with
 |nil=>exact .inl ⟨Z,Z⟩
 |@cons r rs x xs a t ih=>
  rcases ih with⟨rfl,rfl⟩|⟨IN,r',Da,x',rfl,rfl,h1,h2⟩
  .exact .inr ⟨[],r,[],x,Z,Z,.nil,a⟩
  .exact .inr ⟨r::IN,r',x::Da,x',Z,Z,.cons a h1,h2⟩
def add_nil(c n:Nat):Jg [] c n=[]++[(c,n)]:=rfl
def add_same(rows:List Rw)(c n m:Nat):Jg (rows++[(c,m)]) c n=rows++[(c,n+m)]:=by
 unfold Jg;rw[ybG];simp
def Qac{rows:List Rw}{c c' n m:Nat}(h:c'≠c):Jg (rows++[(c',m)]) c n=(rows++[(c',m)])++[(c,n)]:=by
 unfold Jg;rw[ybG];simp[h]
def wY(F:az K "rows_of" "rows_of" Yg f fd)(O:Own mg)(T:Txt K mg tk c kr)(pB:Def P w K mg Y 3 "times_at" ["text","at"] zX):Zz1 P w K mg Y 4 f fd ["thing"] (kc K):=by
 refine okN F Ze (by nofun) λam A L s H vs Q E hr h=>?_
 obtain⟨v,rows,rfl,hv,k⟩:=h;have hz:=zza
 refine⟨_,(Qd (QN (Wf (XX (Qx Wr Z O.lR ydk (Qa (pv 0) (Qa (VJ (v:=V.ty "str") Z O.str boot_str Z) Qb))))) (Qg (Qp (Wk Qb))) Qw)
  (Qd (Qt (i:=1) Ze.nd Z Zz0 (Wk Qb))
  (Qd (Qt (i:=2) Ze.nd Z Zz0 Qj)
  (Qd (Xv yaB (Ql Vq (pv 2) (Qx Q2 Z O.len ybb (Qa (pv 0) Qb)) (Qq _)) (Qd (Qt (i:=3) Ze.nd Z Zz0 (QC Wl (pv 0) (pv 2) (λ_ _=>rfl)))
  (Qd (QW (pB.pq hr Qr (Qa (pv 0) (Qa (QG Jj (pv 2) Qj) Qb))) (QM Z (Qh (Qi (i:=4) Ze.nd Z Zz0) (Qh (Qi (i:=2) Ze.nd Z Zz0) Qz))))
  (Qd (QN (PW.pt (Zx (Je (pv 1) (λ_=>rfl)) (J0 (Ql Jk (QC JE (QC Jv (pv 1) (Wi ZX Qj) (λ_ _=>rfl)) Qj (λ_ _=>rfl)) (pv 3) (Qq _))))) (Qg (Wg (i:=4) Ze.nd Z Zz0 (QC JE (xF yaC yeD yeE xH (pv 1)) Qj (λ_ _=>rfl)) Vi)) Qw)
  (Qg (Q7 (JL yaC yaD yaE JO (pv 1) (Qa (Qs (Qa (pv 3) (Qa (pv 4) Qb))) Qb))))))))
  (Qg (Qp (pv 1))))))),?_⟩
 rcases hv with⟨l,rfl,hl,rfl⟩|⟨hv,rfl⟩
 .have AC:=Qu l;exists _,Z,.str (tx l),V.ty "str",true,Z,Z,.inl ⟨_,.str _,T.r8⟩,true,Z;refine QO ⟨ot,λp hp=>?_⟩;have S1:=Qn.new (o:=.lst []) hp;refine⟨λm σ H2=>∃(a:Nat)(rs:List Addr)(rows:List Rw)(x3 x4:Option V)(kf:Nat),m=l.length-a/\a<=l.length/\σ=[some (.str (tx l)),some (.ref p),some (.int (a:Nat)),x3,x4]/\H2 p=some (.lst (rs.map V.ref))/\bC H2 rs rows/\Qn H H2/\rows.length<=a/\(l.drop a).length<=kf/\rowsOf l=Vl kf (l.drop a) rows,⟨l.length,0,[],[],none,none,l.length,Z,lF _,Z,Qf,.nil,S1,tN _,by simp,Z⟩,?_⟩;rintro m σ H2 ⟨a,rs,rows,x3,x4,kf,rfl,hal,rfl,ut,R2,S2,Mw,Df,Dg⟩;exists _,Z,_,Z,tx l,Z,by lia,_,_,Z,Z,_,Z;refine bE (λh1=>?_) (λh1=>?_)
  .have ha:a<l.length:=by have:=ybi h1;lia
   obtain⟨ch,NE⟩:∃ch,l[a]? =some ch:=⟨_,yad ha⟩;have eP:l.drop a=ch::l.drop (a+1):=by rw[yaI ha];congr 1;rw[yad ha]at NE;exact tO NE
   exists _,λ_ _ h=>h,_,Z,_,Z,tx l,(a:Int),ch,Z,Z,by lia,Zr NE;refine⟨_,Z,_,Z,_,_,Z,Z,l,a+1,Z,hl,by lia,λb C4 FB ow q hq=>⟨q,_,Z,aw.of Qf,Z,_,_,Z,_,_,Z,Z,?_⟩⟩;have S3:=Qn.new (o:=.tup [.int ((Q3 (l.drop (a+1))).1:Nat),.int (b:Nat)]) hq;generalize hH3:upd H2 q (.tup [.int ((Q3 (l.drop (a+1))).1:Nat),.int (b:Nat)])=H3 at S3;have eQ:=S3 _ _ ut;have R3:=R2.keep λb xs h=>S3 _ _ h;have lw:=S2.trans S3;clear hH3 hq S3 ut R2 S2;cases kf with
   |zero=>rw[eP]at Df;exact absurd Df (by simp)
   |succ kf=>
   rw[eP]at Dg Df;have ox:rowsOf l=Vl kf (Q3 (l.drop (a+1))).2 (Jg rows ch (Q3 (l.drop (a+1))).1):=Dg;have Bj:(Q3 (l.drop (a+1))).2.length<=kf:=by
    have:=Qb3 (l.drop (a+1));rw[tQ]at Df;lia
   rw[ow]at ox Bj;generalize (Q3 (l.drop (a+1))).1=n at ox;dsimp only;refine qc (λσ' H'=>∃(iS:List Addr)(TD:List Rw)(nn:Nat),σ'=[some (.str (tx l)),some (.ref p),some (.int (b:Nat)),some (.str (tx [ch])),some (.int (nn:Nat))]/\H' p=some (.lst (iS.map V.ref))/\bC H' iS TD/\Qn H H'/\Jg rows ch n=TD++[(ch,nn)]/\TD.length<=rows.length) ?_ (λrest=>?_)
   .rintro σ' H4 ⟨iS,TD,nn,rfl,dR,R4,S4,Mx,hle⟩;refine⟨_,Z,.inl ⟨Z,_,.inl (.inl dR)⟩,_,Z,_,Z,bj,λq2 eC=>?_⟩;have S5:=Qn.new (o:=.tup [.str (tx [ch]),.int (nn:Nat)]) eC;have g5:upd H4 q2 (.tup [.str (tx [ch]),.int (nn:Nat)]) q2=some (iH (ch,nn)):=Qf;generalize upd H4 q2 (.tup [.str (tx [ch]),.int (nn:Nat)])=H5 at S5 g5;have iT:=S5 _ _ dR;have nq:q2≠p:=λz=>by rw[z,dR]at eC;cases eC
    have R5:=R4.keep λb xs h=>S5 _ _ h;have Bk:=S4.trans S5;refine⟨p,_,_,Z,Z,iT,by rw[tK,R4.len];lia,l.length-b,by lia,b,iS++[q2],Jg rows ch n,_,_,kf,Z,FB,Z,?_,?_,?_,?_,Bj,ox⟩
    .rw[Qf,lq];rfl
    .rw[Mx];refine bC.app (R5.keep λb xs h=>?_) ?_
     .rw[Qo λz=>by rw[z,iT]at h;cases h];exact h
     .rw[Qo nq];exact g5
    .intro b o h;rw[Qo (QB h hp)];exact Bk _ _ h
    .rw[Mx,tJ];simp;lia
   .rcases R3.last with⟨rfl,rfl⟩|⟨IN,r',Da,⟨c',m'⟩,rfl,rfl,R4,g4⟩
    .exists _,Z,false,.inl ⟨_,aC.of eQ,Z⟩;exact QO (QO (rest _ _ ⟨[],[],n,Z,eQ,.nil,lw,add_nil ch n,tN _⟩))
    .have dR:H3 p=some (.lst (IN.map V.ref++[V.ref r'])):=by rw[eQ,lq];rfl
     have Gp:aC K H3 p (IN.map V.ref++[V.ref r']):=aC.of dR;refine⟨_,Z,true,.inl ⟨_,Gp,by cases IN<;>rfl⟩,?_⟩;refine QZ ⟨_,Z,_,Z,p,_,_,_,Z,Z,Gp,Uz _ _,r',_,_,_,Z,Z,aw.of g4,Z,_,Z,Z,_,Z,?_⟩;rw[show(⟨#[ch]⟩:Str)=tx [ch]from rfl,JU];refine bE (λh2=>?_) (λh2=>?_)
     .have hc:c'=ch:=ybi h2;subst hc;exists _,Z,_,Z,.inl ⟨Z,_,Gp⟩,p,_,V.ref r',Z,Z,dR,by rw[tJ];simp,r',[.str (tx [c']),.int (m':Nat)],1,.int (m':Nat),Z,Z,?_,Z,_,_,Z,Z
      .exact aw.of (by rw[Qo λz=>by rw[z,dR]at g4;cases g4];exact g4)
      .refine rest _ _ ⟨IN,Da,n+m',Z,by rw[Qf,ycb],R4.keep λb xs h=>?_,λb o h=>?_,add_same Da c' n m',by simp⟩
       .rw[Qo λz=>by rw[z,dR]at h;cases h];exact h
       .rw[Qo (QB h hp)];exact lw _ _ h
     .have hc:c'≠ch:=ybz h2;exact rest _ _ ⟨_,_,n,Z,eQ,R3,lw,Qac hc,tN _⟩
  .have ha:a=l.length:=by have:=ybz h1;lia
   subst ha;rw[ycn]at Dg;have dJ:rowsOf l=rows:=by
    rw[Dg];cases kf<;>rfl
   refine⟨_,Z,k p rs H2 S2 ⟨aC.of ut,by rw[dJ];exact R2,by rw[dJ];lia⟩⟩
 .have lR:∃x c b,[v,V.ty "str"]=[x,c]/\Fb c=true/\((∃t,br K H x t/\kitOne K t (AD c)=some b)\/∃a C,x=.ref a/\H a=some (E9 a (.ref C))/\bM K C/\kitOne K (.ref C) (AD c)=some b)/\b=false:=by
   rcases hv with rfl|⟨i,rfl⟩|⟨a,xs,rfl,e⟩
   .exact⟨_,_,false,Z,Z,.inl ⟨_,.aq,T.tH⟩,Z⟩
   .exact⟨_,_,false,Z,Z,.inl ⟨_,.int _,T.r9⟩,Z⟩
   .exact⟨_,_,false,Z,Z,.inl ⟨_,.tup e,T.tI⟩,Z⟩
  obtain⟨x,cc,b,e1,e2,e3,rfl⟩:=lR;exists _,Z,x,cc,false,e1,e2,e3,false,Z;refine QZ ⟨ot,λp hp=>?_⟩;exact k p [] _ (Qn.new hp) ⟨aC.of Qf,.nil,by simp⟩
def drop_cons{α:Type}{l:List α}{a:Nat}{x:α}(h:l[a]? =some x):l.drop a=x::l.drop (a+1):=by
 have ha:=(yaf.mp h).1;rw[yaI ha]
 congr 1
 rw[yad ha]at h;exact tO h
def Yu{α:Type}{l:List α}{a:Nat}(h:a<l.length):∃x,l[a]? =some x:=⟨_,yad h⟩
def My:(",B0/":Str)=tx [44,66,48,47]:=by rfl'
def Mz:("+-$":Str)=tx [43,45,36]:=by rfl'
def QhB:("+-":Str)=tx [43,45]:=by rfl'
def QhC:("9Z*+-$":Str)=tx [57,90,42,43,45,36]:=by rfl'
def QhD:("$":Str)=tx [36]:=by rfl'
def Dh:("9":Str)=tx [57]:=by rfl'
def QhE:(".":Str)=tx [46]:=by rfl'
def Dj:("":Str)=tx []:=by rfl'
def qe(K:Frag):Sp:=λvs H Q _=>∃(p:Addr)(rs:List Addr)(rows:List Rw)(a:Nat),vs=[.ref p,.int (a:Nat)]/\au K H p rs rows/\a<rows.length/\Q (.bl (Kr (rows.drop a))) H
def jW(F:az K "floats_at" "floats_at" KR f fd)(O:Own mg)(T:Txt K mg tk c kr):Zz1 P w K mg Y 1 f fd ["rows","at"] (qe K):=by
 refine okN F Zo (by nofun) λam A L s H vs Q E hr h=>?_
 obtain⟨p,rs,rows,a,rfl,R,ha,k⟩:=h;refine⟨_,(Qd (QW (QC Jv (pv 0) (pv 1) (λ_ _=>rfl)) (QM Z (Qh (Qi (i:=2) Zo.nd Z Zz0) (Qh (Qi (i:=3) Zo.nd Z Zz0) Qz))))
  (Qd (QN (Ql Uv (pv 3) Qj (Qq _)) (Qg (Qp Xu)) Qw)
  (Qd (Qt (i:=4) Zo.nd Z Zz0 (QG Jj (pv 1) Qj))
  (Qd (Xv yaB (PW.pt (Zx (Ql Vq (pv 4) (Qx QJ Z O.len ybb (Qa (pv 0) Qb)) (Qq _)) (J0 (Ql Zl (QC JE (QC Jv (pv 0) (pv 4) (λ_ _=>rfl)) Qj (λ_ _=>rfl)) (QK (v:=V.str ",B0/") Z T.gP ⟨_,Z⟩) (by with_unfolding_all rfl))))) (Qg (Wg (i:=4) Zo.nd Z Zz0 Qj Vi)))
  (Qg (Qp (Y6 (JS Vq (pv 4) (Qx QJ Z O.len ybb (Qa (pv 0) Qb)) (Qq _)) (Y5 (JS Jk (QC JE (QC Jv (pv 0) (pv 4) (λ_ _=>rfl)) Qj (λ_ _=>rfl)) (pv 2) (Qq _)))))))))),?_⟩
 obtain⟨⟨y,n⟩,hx⟩:=Yu ha;rw[drop_cons hx]at k;refine jF rfl (J4 Z) R hx λr eR=>⟨r,_,Z,aw.of eR,Z,_,_,Z,_,_,Z,Z,?_⟩;exists _,Z,_,_,Z,Z,_,Z;refine bE (λh1=>?_) (λh1=>?_)
 .have hn:n>1:=by have:=ybi h1;lia
  have e:Kr ((y,n)::rows.drop (a+1))=true:=by unfold Kr;simp[hn]
  rw[e]at k;exact k
 have hn:¬ n>1:=by have:=ybz h1;lia
 have e:Kr ((y,n)::rows.drop (a+1))=(match(rows.drop (a+1)).dropWhile (λx=>ins x.1)with|(c',_)::_=>c'==y|[]=>false):=by
  show(decide (n>1)||_)=_;rw[tL hn,yfc]
  all_goals rfl
 rw[e]at k;clear e;exists _,Z,_,_,Z,Z;refine⟨λm σ H2=>∃b:Nat,m=rows.length-b/\b<=rows.length/\σ=[some (.ref p),some (.int (a:Nat)),some (.str (tx [y])),some (.int (n:Nat)),some (.int (b:Nat))]/\H2=H/\(rows.drop (a+1)).dropWhile (λx=>ins x.1)=(rows.drop b).dropWhile (λx=>ins x.1),⟨_,a+1,Z,by lia,Z,Z,Z⟩,?_⟩;rintro m σ H2 ⟨b,rfl,hb,rfl,rfl,hd⟩;refine⟨_,Z,ZB rfl R ⟨_,_,Z,Z,_,Z,?_⟩⟩;rcases yaZ b rows.length with ap|fK
 .rw[tM (by lia)];obtain⟨⟨y2,n2⟩,ul⟩:=Yu ap;refine QZ (X2 Z (J4 Z) R ul ⟨_,_,Z,Z,_,Z,?_⟩);rw[My,Xn];have hc:([44,66,48,47]:List Nat).contains y2=ins y2:=rfl;rw[hc];rw[drop_cons ul]at hd;refine bE (λh2=>?_) (λh2=>?_)
  .refine⟨_,λ_ _ h=>h,?_⟩;exists _,Z,_,_,Z,Z,_,?_,b+1,Z,by lia,Z,Z
   .lia
   .rw[hd,List.dropWhile_cons,yai h2]
  .rw[List.dropWhile_cons,yag (by rw[h2];lia)]at hd;rw[hd]at k;refine⟨_,Z,ZB rfl R ⟨_,_,Z,Z,_,Z,?_⟩⟩;rw[tM (by lia)];refine QZ (X2 Z (J4 Z) R ul ⟨_,Z,Z,?_⟩);rw[JU];have e3:decide (y2=y)=(y2==y):=by by_cases z:y2=y<;>simp[z]
   rw[e3];exact k
 .rw[tL (by lia)];refine QO (QO ?_);rw[yaw fK]at hd;rw[hd]at k;refine⟨_,Z,ZB rfl R ⟨_,_,Z,Z,_,Z,?_⟩⟩;rw[tL (by lia)];exact QO k
def qf(K:Frag):Sp:=λvs H Q _=>∃(p:Addr)(rs:List Addr)(rows:List Rw)(a pc:Nat),vs=[.ref p,.int (a:Nat),.str (tx [pc])]/\au K H p rs rows/\a<=rows.length/\
 ∀b many:Nat,b<=rows.length->JF pc (rows.drop a) 0=(many,rows.drop b)->∀q,H q=none->Q (.ref q) (upd H q (.tup [.int (many:Nat),.int (b:Nat)]))
def jX(F:az K "places_of" "places_of" KS f fd)(O:Own mg)(T:Txt K mg tk c kr):Zz1 P w K mg Y 1 f fd ["rows","at","place"] (qf K):=by
 refine okN F Z3 (by nofun) λam A L s H vs Q E hr h=>?_
 obtain⟨p,rs,rows,a,pc,rfl,R,ha,k⟩:=h;have hz:=zza
 refine⟨_,(Qd (Qt (i:=3) Z3.nd Z Zz0 Qj)
  (Qd (Xv yaB (PW.pt (Zx (Ql Vq (pv 1) (Qx QJ Z O.len ybb (Qa (pv 0) Qb)) (Qq _)) (J0 (PW.pt (ZU (Ql Jk (QC JE (QC Jv (pv 0) (pv 1) (λ_ _=>rfl)) Qj (λ_ _=>rfl)) (pv 2) (Qq _)) (JW (Ql Zl (QC JE (QC Jv (pv 0) (pv 1) (λ_ _=>rfl)) Qj (λ_ _=>rfl)) (QK (v:=V.str ",B0/") Z T.gP ⟨_,Z⟩) (by with_unfolding_all rfl)))))))) (Qd (QN (Ql Jk (QC JE (QC Jv (pv 0) (pv 1) (λ_ _=>rfl)) Qj (λ_ _=>rfl)) (pv 2) (Qq _)) (Qg (Wg (i:=3) Z3.nd Z Zz0 (QC JE (QC Jv (pv 0) (pv 1) (λ_ _=>rfl)) Qj (λ_ _=>rfl)) Vi)) Qw)
  (Qg (Wg (i:=1) Z3.nd Z Zz0 Qj Vi))))
  (Qg (Qp (Qs (Qa (pv 3) (Qa (pv 1) Qb))))))),?_⟩
 exists λm σ H2=>∃b many:Nat,m=rows.length-b/\b<=rows.length/\σ=[some (.ref p),some (.int (b:Nat)),some (.str (tx [pc])),some (.int (many:Nat))]/\H2=H/\JF pc (rows.drop a) 0=JF pc (rows.drop b) many,⟨_,a,0,Z,ha,Z,Z,Z⟩;rintro m σ H2 ⟨b,many,rfl,hb,rfl,rfl,hd⟩;refine⟨_,Z,ZB rfl R ⟨_,_,Z,Z,_,Z,?_⟩⟩;rcases yaZ b rows.length with ap|fK
 .rw[tM (by lia)];obtain⟨⟨y,n⟩,hx⟩:=Yu ap;rw[drop_cons hx]at hd;refine QZ (X2 Z (J4 Z) R hx ⟨_,Z,Z,_,Z,?_⟩);rw[JU]
  by_cases h1:y=pc
  .rw[tM h1];refine QZ (QZ ⟨_,λ_ _ h=>h,X2 rfl (J4 Z) R hx ⟨_,Z,Z,_,Z,?_⟩⟩);rw[JU,tM h1];refine QZ ⟨_,Z,Lz rfl (J4 Z) R hx ⟨_,_,Z,Z,?_⟩⟩;exists _,Z,_,_,Z,Z,rows.length-(b+1),by lia,b+1,many+n,Z,by lia,Z,Z;rw[hd];show(if y=pc then JF pc (rows.drop (b+1)) (many+n)else _)=_;rw[yai h1]
  .rw[tL h1];refine QO (X2 Z (J4 Z) R hx ⟨_,_,Z,Z,_,Z,?_⟩);rw[My,Xn];have hc:([44,66,48,47]:List Nat).contains y=ins y:=rfl;rw[hc];refine bE (λh2=>?_) (λh2=>?_)
   .refine⟨_,λ_ _ h=>h,X2 rfl (J4 Z) R hx ⟨_,Z,Z,_,Z,?_⟩⟩;rw[JU,tL h1];refine QO ⟨_,Z,_,_,Z,Z,rows.length-(b+1),by lia,b+1,many,Z,by lia,Z,Z,?_⟩;rw[hd];show(if y=pc then _ else if ins y then JF pc (rows.drop (b+1)) many else _)=_;rw[yag h1,yai h2]
   .have hd2:JF pc (rows.drop a) 0=(many,rows.drop b):=by
     rw[hd,drop_cons hx];show(if y=pc then _ else if ins y then _ else(many,(y,n)::rows.drop (b+1)))=_;rw[yag h1,yag (by rw[h2];lia)]
    exact⟨_,Z,_,Z,bj,k b many (by lia) hd2⟩
 .rw[tL (by lia)];refine QO (QO ?_);have FB:rows.drop b=[]:=yaw fK;have hd2:JF pc (rows.drop a) 0=(many,rows.drop b):=by rw[hd,FB];rfl
  exact⟨_,Z,_,Z,bj,k b many (by lia) hd2⟩
def zZ(K:Frag):Sp:=λvs H Q _=>∃(p:Addr)(rs:List Addr)(rows:List Rw)(a:Nat),vs=[.ref p,.int (a:Nat)]/\au K H p rs rows/\a<=rows.length/\
 ∀(pl:List Nat)(many bi b:Nat),b<=rows.length->QX (rows.drop a)=(pl,many,bi,rows.drop b)->∀q H',Qn H H'->H' q=some (.tup [.str (tx pl),.int (many:Nat),.int (bi:Nat),.int (b:Nat)])->Q (.ref q) H'
def qg(F:az K "whole_part" "whole_part" X8 f fd)(O:Own mg)(T:Txt K mg tk c kr)(mO:Def P w K mg Y 1 "places_of" ["rows","at","place"] (qf K)):Zz1 P w K mg Y 2 f fd ["rows","at"] (zZ K):=by
 refine okN F JG (by nofun) λam A L s H vs Q E hr h=>?_
 obtain⟨p,rs,rows,a,rfl,R,ha,k⟩:=h;have hz:=zza
 refine⟨_,(Qd (QN (PW.pt (ZU (Ql vA (pv 1) (Qx QJ Z O.len ybb (Qa (pv 0) Qb)) (Qq _)) (JW (Ql Zm (QC JE (QC Jv (pv 0) (pv 1) (λ_ _=>rfl)) Qj (λ_ _=>rfl)) (QK (v:=V.str "9Z*+-$") Z T.nO ⟨_,Z⟩) (by with_unfolding_all rfl))))) (Qg (Qp (Qs (Qa Qk (Qa Qj (Qa Qj (Qa (pv 1) Qb))))))) Qw)
  (Qd (Qt (i:=2) JG.nd Z Zz0 (QC JE (QC Jv (pv 0) (pv 1) (λ_ _=>rfl)) Qj (λ_ _=>rfl)))
  (Qd (QW (mO.pq hr Qr (Qa (pv 0) (Qa (pv 1) (Qa (pv 2) Qb)))) (QM Z (Qh (Qi (i:=3) JG.nd Z Zz0) (Qh (Qi (i:=1) JG.nd Z Zz0) Qz))))
  (Qd (QW (mO.pq hr Qr (Qa (pv 0) (Qa (pv 1) (Qa Qk Qb)))) (QM Z (Qh (Qi (i:=4) JG.nd Z Zz0) (Qh (Qi (i:=1) JG.nd Z Zz0) Qz))))
  (Qg (Qp (Qs (Qa (pv 2) (Qa (pv 3) (Qa (pv 4) (Qa (pv 1) Qb))))))))))),?_⟩
 refine⟨_,Z,ZB rfl R ⟨_,_,Z,Z,_,Z,?_⟩⟩;have none:QX (rows.drop a)=([],0,0,rows.drop a)->∀q,H q=none->Q (.ref q) (upd H q (.tup [.str "",.int 0,.int 0,.int (a:Nat)])):=λe q hq=>
  k [] 0 0 a ha e q _ (Qn.new hq) (by rw[Qf,Dj];rfl)
 rcases yaZ a rows.length with ap|fK
 .rw[tL (by lia)];obtain⟨⟨y,n⟩,hx⟩:=Yu ap;refine QO (X2 Z (J4 Z) R hx ⟨_,_,Z,Z,_,Z,?_⟩);rw[QhC,Xn];refine bE (λh1=>?_) (λh1=>?_)
  .refine⟨_,Z,sM,none ?_⟩;rw[drop_cons hx];show(if([57,90,42,43,45,36]:List Nat).contains y then _ else _)=_;rw[yag (by rw[ycf]at h1;rw[h1];lia)]
  .have h2:([57,90,42,43,45,36]:List Nat).contains y=true:=by
    cases e:([57,90,42,43,45,36]:List Nat).contains y with
    |true=>rfl
    |false=>rw[e]at h1;cases h1
   refine X2 rfl (J4 Z) R hx ?_;refine⟨_,Z,_,Z,_,Z,p,rs,rows,a,y,Z,R,ha,λb many hb iQ q hq=>⟨q,_,Z,aw.of Qf,Z,_,_,Z,_,_,Z,Z,?_⟩⟩;have S1:=Qn.new (o:=.tup [.int (many:Nat),.int (b:Nat)]) hq;generalize upd H q (.tup [.int (many:Nat),.int (b:Nat)])=H1 at S1;refine⟨_,Z,_,Z,p,rs,rows,b,57,by rw[Dh];rfl,R.same S1,hb,λb2 bi FB ut q2 eC=>⟨q2,_,Z,aw.of Qf,Z,_,_,Z,_,_,Z,Z,?_⟩⟩;have S2:=Qn.new (o:=.tup [.int (bi:Nat),.int (b2:Nat)]) eC;generalize upd H1 q2 (.tup [.int (bi:Nat),.int (b2:Nat)])=H2 at S2;refine⟨_,Z,_,Z,_,Z,_,Z,sM,λq3 sN=>?_⟩;refine k [y] many bi b2 FB ?_ q3 _ ((S1.trans S2).trans (Qn.new sN)) Qf;rw[drop_cons hx]at iQ ⊢;show(if([57,90,42,43,45,36]:List Nat).contains y then _ else _)=_;rw[yai h2,iQ];show([y],many,(JF 57 (rows.drop b) 0).1,(JF 57 (rows.drop b) 0).2)=_;rw[ut]
 .rw[tM (by lia)];refine QZ (QZ ⟨_,Z,sM,none ?_⟩);rw[yaw fK];rfl
noncomputable def oV:Option Nat->V
 |none=>.aq
 |some n=>.int (n:Nat)
def qh(K:Frag):Sp:=λvs H Q _=>∃(p:Addr)(rs:List Addr)(rows:List Rw)(a:Nat)(pl:List Nat),vs=[.ref p,.int (a:Nat),.str (tx pl)]/\au K H p rs rows/\a<=rows.length/\
 ∀(o:Option Nat)(b:Nat),b<=rows.length->JA (rows.drop a) pl=(o,rows.drop b)->∀q,H q=none->Q (.ref q) (upd H q (.tup [oV o,.int (b:Nat)]))
def wZ(h:y≠46):JA ((y,n)::r) pl=(some 0,(y,n)::r):=by
 unfold JA
 split
 .rename_i e;exact absurd (Prod.mk.inj (ycC e).1).1 h
 .rfl
def YV(F:az K "broken_part" "broken_part" XH f fd)(O:Own mg)(T:Txt K mg tk c kr):Zz1 P w K mg Y 1 f fd ["rows","at","place"] (qh K):=by
 refine okN F Xg (by nofun) λam A L s H vs Q E hr h=>?_
 obtain⟨p,rs,rows,a,pl,rfl,R,ha,k⟩:=h;have hz:=zza
 have dS:2<=sizeLine:=by lia
 refine⟨_,(Qd (QN (PW.pt (ZU (Ql vA (pv 1) (Qx QJ Z O.len ybb (Qa (pv 0) Qb)) (Qq _)) (JW (Ql Xl (QC JE (QC Jv (pv 0) (pv 1) (λ_ _=>rfl)) Qj (λ_ _=>rfl)) Qk (Qq _))))) (Qg (Qp (Qs (Qa Qj (Qa (pv 1) Qb))))) Qw)
  (Qd (QN (PW.pt (ZU (Ql Uv (QC JE (QC Jv (pv 0) (pv 1) (λ_ _=>rfl)) Qj (λ_ _=>rfl)) Qj (Qq _)) (JW (Ql Jk (QG Jj (pv 1) Qj) (Qx QJ Z O.len ybb (Qa (pv 0) Qb)) (Qq _))))) (Qg (Qp (Qs (Qa Zw (Qa (pv 1) Qb))))) Qw)
  (Qd (QW (QC Jv (pv 0) (QG Jj (pv 1) Qj) (λ_ _=>rfl)) (QM Z (Qh (Qi (i:=3) Xg.nd Z Zz0) (Qh (Qi (i:=4) Xg.nd Z Zz0) Qz))))
  (Qd (QN (PW.pt (Zx (Ql Xl (pv 3) Qk (Qq _)) (J0 (PW.pt (ZU (Ql Xl (pv 3) (pv 2) (Qq _)) (JW (Ql Zl (pv 3) (QK (v:=V.str "+-$") Z T.gD ⟨_,Z⟩) (by with_unfolding_all rfl)))))))) (Qg (Qp (Qs (Qa Zw (Qa (pv 1) Qb))))) Qw)
  (Qg (Qp (Qs (Qa (pv 4) (Qa (QG Jj (pv 1) Qj) Qb))))))))),?_⟩
 refine⟨_,Z,ZB rfl R ⟨_,_,Z,Z,_,Z,?_⟩⟩;rcases yaZ a rows.length with ap|fK
 .rw[tL (by lia)];obtain⟨⟨y,n⟩,hx⟩:=Yu ap;refine QO (X2 Z (J4 Z) R hx ⟨Z,_,Z,?_⟩);rw[QhE,JU]
  by_cases h1:y=46
  .rw[tM h1];subst h1;refine QO (Lz Z (J4 Z) R hx ⟨_,_,Z,Z,_,Z,?_⟩)
   by_cases h2:n>1
   .rw[tM (by lia)];refine QZ (QZ ⟨_,Z,dS,k none a ha ?_⟩);rw[drop_cons hx];show(if n>1\/_ then _ else _)=_;rw[yai (.inl h2)]
   .rw[tL (by lia)];refine QO ⟨_,Z,_,_,Z,Z,ZB rfl R ⟨Z,_,Z,?_⟩⟩;rw[KO]
    by_cases h3:a+1=rows.length
    .rw[tM (by lia)];refine QZ ⟨_,Z,dS,k none a ha ?_⟩;rw[drop_cons hx];show(if n>1\/_ then _ else _)=_;rw[yai (.inr (yaw (by lia)))]
    .rw[tL (by lia)];obtain⟨⟨y2,n2⟩,ul⟩:=Yu (show a+1<rows.length by lia);refine QO (jF (k:=a+1) Z (λQ q=>⟨_,Z,_,_,Z,Z,q⟩) R ul λr eR=>⟨r,_,Z,aw.of eR,Z,_,_,Z,_,_,Z,Z,?_⟩);have eb:JA (rows.drop a) pl=if y2≠57/\([y2]≠pl\/[43,45,36].contains y2=true)then(none,rows.drop a)else(some n2,rows.drop (a+2)):=by
      rw[drop_cons hx];show(if n>1\/rows.drop (a+1)=[]then _ else _)=_;rw[yag (by rw[drop_cons ul];simp;lia),drop_cons ul]
     exists _,Z,Z,_,Z;rw[Dh,JU]
     by_cases h4:y2=57
     .rw[tM h4];refine QO (QO ⟨_,Z,_,Z,_,_,Z,Z,dS,k (some n2) (a+2) (by lia) ?_⟩);rw[eb,yag λz=>z.1 h4]
     .rw[tL h4];refine QZ ⟨_,Z,_,Z,Z,_,Z,?_⟩;rw[V7]
      by_cases h5:[y2]=pl
      .rw[tM h5];refine QO ⟨_,Z,_,_,Z,Z,_,Z,?_⟩;rw[Mz,Xn];refine bE (λh6=>?_) (λh6=>?_)
       .refine⟨_,Z,dS,k none a ha ?_⟩;rw[eb,yai ⟨h4,.inr h6⟩]
       .refine⟨_,Z,_,Z,_,_,Z,Z,dS,k (some n2) (a+2) (by lia) ?_⟩;rw[eb,yag λz=>z.2.elim (λq=>q h5) (λq=>by rw[h6]at q;cases q)]
      .rw[tL h5];refine QZ (QZ ⟨_,Z,dS,k none a ha ?_⟩);rw[eb,yai ⟨h4,.inl h5⟩]
  .rw[tL h1];refine QZ ⟨_,Z,dS,k (some 0) a ha ?_⟩;rw[drop_cons hx];exact wZ h1
 .rw[tM (by lia)];refine QZ (QZ ⟨_,Z,dS,k (some 0) a ha ?_⟩);rw[yaw fK];rfl
def ke(K:Frag):Sp:=λvs H Q _=>∃(p:Addr)(rs:List Addr)(rows:List Rw),vs=[.ref p]/\au K H p rs rows/\
 ∀(ld:List Nat)(b:Nat),b<=rows.length->ld.length<=2->ZK rows=(ld,rows.drop b)->∀q H',Qn H H'->H' q=some (.tup [.str (tx ld),.int (b:Nat)])->Q (.ref q) H'
def w4(F:az K "lead_of" "lead_of" Yh f fd)(O:Own mg)(T:Txt K mg tk c kr)(nP:Def P w K mg Y 1 "floats_at" ["rows","at"] (qe K)):Zz1 P w K mg Y 2 f fd ["rows"] (ke K):=by
 refine okN F ZI (by nofun) λam A L s H vs Q E hr h=>?_
 obtain⟨p,rs,rows,rfl,R,k⟩:=h;have hz:=zza
 have dS:2<=sizeLine:=by lia
 refine⟨_,(Qd (Qt (i:=1) ZI.nd Z Zz0 Qk)
  (Qd (Qt (i:=2) ZI.nd Z Zz0 Qj)
  (Qd (ZW yaB Z (jg (Qs (Qa (QK (v:=V.str "+-") Z T.pN ⟨_,Z⟩) (Qa Qk Qb)))) (Qi (i:=3) ZI.nd Z Zz0) (Qg (QN (PW.pt (Zx (Ql Vq (pv 2) (Qx QJ Z O.len ybb (Qa (pv 0) Qb)) (Qq _)) (Zx (Ql Zl (QC JE (QC Jv (pv 0) (pv 2) (λ_ _=>rfl)) Qj (λ_ _=>rfl)) (pv 3) (by with_unfolding_all rfl)) (J0 (Wf (XX (nP.pq hr Qr (Qa (pv 0) (Qa (pv 2) Qb))))))))) (Qd (Wg (i:=1) ZI.nd Z Zz0 (QC JE (QC Jv (pv 0) (pv 2) (λ_ _=>rfl)) Qj (λ_ _=>rfl)) Si)
  (Qg (Wg (i:=2) ZI.nd Z Zz0 Qj Vi))) Qw)))
  (Qg (Qp (Qs (Qa (pv 1) (Qa (pv 2) Qb)))))))),?_⟩
 refine⟨dS,λt ht=>⟨t,Z,⟨_,aw.of Qf⟩,?_⟩⟩;have S1:=Qn.new (o:=.tup [.str "+-",.str "$"]) ht;have g1:upd H t (.tup [.str "+-",.str "$"]) t=some (.tup [.str (tx [43,45]),.str (tx [36])]):=by rw[Qf,QhB,QhD]
 generalize upd H t (.tup [.str "+-",.str "$"])=H1 at S1 g1;have R1:=R.same S1;refine vv (xs:=[.str (tx [43,45]),.str (tx [36])]) (λi σ H2=>∃(ld:List Nat)(b:Nat)(x:Option V),σ=[some (.ref p),some (.str (tx ld)),some (.int (b:Nat)),x]/\H2=H1/\b<=rows.length/\ld.length<=i/\ZK rows=Vm (([[43,45],[36]]:List (List Nat)).drop i) (rows.drop b) ld) ⟨[],0,none,by rw[<-Dj];rfl,Z,lF _,tN _,Z⟩ (λi σ H2 hi hP=>?_) ?_ ?_
 .obtain⟨_,_,_,_,rfl,_⟩:=hP;exact aw.of g1
 .rintro i x σ H2 hi ⟨ld,b,x3,rfl,rfl,hb,eO,SZ⟩;have Gq:i<2:=(yaf.mp hi).1;obtain⟨ch,NE,hxc⟩:∃ch,([[43,45],[36]]:List (List Nat))[i]? =some ch/\x=.str (tx ch):=by
   match i,hi,Gq with
   |0,hi,_=>exact⟨_,Z,(tO hi).symm⟩
   |1,hi,_=>exact⟨_,Z,(tO hi).symm⟩
  subst hxc;rw[drop_cons NE]at SZ;refine⟨_,Z,ZB rfl R1 ⟨_,_,Z,Z,_,Z,?_⟩⟩;rcases yaZ b rows.length with ap|fK
  .rw[tM (by lia)];obtain⟨⟨y,n⟩,hx⟩:=Yu ap;have el:Vm (ch::([[43,45],[36]]:List (List Nat)).drop (i+1)) (rows.drop b) ld=if(ch.contains y&& !Kr (rows.drop b))=true then Vm (([[43,45],[36]]:List (List Nat)).drop (i+1)) (rows.drop (b+1)) (ld++[y])else Vm (([[43,45],[36]]:List (List Nat)).drop (i+1)) (rows.drop b) ld:=by
    rw[drop_cons hx];rfl
   rw[el]at SZ;refine QZ (X2 Z (J4 Z) R1 hx ⟨_,Z,_,_,Z,Z,_,Z,?_⟩);rw[Xn];refine bE (λh1=>?_) (λh1=>?_)
   .exists _,Z,_,Z,p,rs,rows,b,Z,R1,ap,_,Z;rw[h1,Bool.true_and]at SZ;refine bE (λh2=>?_) (λh2=>?_)
    .refine⟨_,Z,X2 rfl (J4 Z) R1 hx ⟨_,_,Z,Z,by rw[Qu,Qu];simp;lia,?_⟩⟩;rw[Z1];refine⟨_,Z,_,_,Z,Z,ld++[y],b+1,_,Z,Z,by lia,by rw[tJ];simp;lia,?_⟩;rw[SZ,yai h2]
    .refine⟨ld,b,_,Z,Z,hb,by lia,?_⟩;rw[SZ,yag (by rw[h2];lia)]
   .rw[h1,yfa]at SZ;exact QO ⟨ld,b,_,Z,Z,hb,by lia,by rw[SZ];rfl⟩
  .rw[tL (by lia)];refine QO (QO ⟨ld,b,_,Z,Z,hb,by lia,?_⟩);rw[SZ,yaw fK];rfl
 .rintro σ H2 ⟨ld,b,x3,rfl,rfl,hb,eO,SZ⟩;refine⟨_,Z,_,Z,dS,λq hq=>?_⟩;exact k ld b hb eO SZ q _ (S1.trans (Qn.new hq)) Qf
def Yv{xs:List V}{NB:List Str}{g:TG}{tt:TT}{te:TE}{Q:VK}{H:Hp}(Pv:Nat->List V->Hp->Prop)(h0:Pv 0 [] H)(hl:∀i vs H,i<=xs.length->Pv i vs H->aC K H a xs/\vs.length<=i)(hs:∀i x vs H,xs[i]? =some x->Pv i vs H->g x (replicate NB.length none) H λσ2 H2=>tt σ2 H2 λb H3=>if b=true then te σ2 H3 λv H4=>Pv (i+1) (vs++[v]) H4 else Pv (i+1) vs H3)(hd:∀vs H,Pv xs.length vs H->∀p,H p=none->Q (.ref p) (upd H p (.lst vs)))(hz:xs.length<sizeLine):∃W:Nat->Nat->List V->Hp->Prop,(∃m,W 0 m [] H)/\∀i m vs H,W i m vs H->
   ((c9 K a).stop i H/\∀p,H p=none->Q (.ref p) (upd H p (.lst vs)))\/((c9 K a).go i H/\vs.length<sizeLine/\∃N:List V->Hp->Prop,(∀mt H',N mt H'->∃m',m'<m/\W (i+1) m' mt H')/\
    ∀x H',(c9 K a).bT i H x H'->g x (replicate NB.length none) H' λσ2 H2=>tt σ2 H2 λb H3=>if b=true then te σ2 H3 λv H4=>N (vs++[v]) H4 else N vs H3):=by
 refine⟨λi m vs H=>m=xs.length-i/\i<=xs.length/\Pv i vs H,⟨xs.length,by simp,lF _,h0⟩,?_⟩;rintro i m vs H ⟨rfl,hi,p⟩;obtain⟨q,hv⟩:=hl i vs H hi p
 by_cases ap:i<xs.length
 .refine .inr ⟨⟨xs,xs[i],q,by simp[ap]⟩,by lia,Pv (i+1),λmt H' p'=>⟨xs.length-(i+1),by lia,Z,ap,p'⟩,λx H' y=>?_⟩;obtain⟨e,y⟩:=y;subst e;exact hs i x vs _ (y xs q) p
 .have e:i=xs.length:=by lia
  subst e;exact .inl ⟨⟨xs,q,tN _⟩,hd vs H p⟩
def bC.at'{rs:List Addr}{rows:List Rw}(h:bC H rs rows):∀{i:Nat}{r:Addr},rs[i]? =some r->∃x,rows[i]? =some x/\H r=some (iH x):=by
 induction h with
 |nil=>intro i r e;cases e
 |cons a _ ih=>
  intro i r e;cases i with
  |zero=>exact⟨_,Z,by have:_=r:=tO e;rw[<-this];exact a⟩
  |succ i=>exact ih (i:=i) (r:=r) e
def K9{k:Nat}{pos:Pos}(hK:X.K=K0)(hc:X.calm=true)(h:Aj X es t)(hn:(assignEach es X.env).length=n:=by rfl)(f8:(assignEach es X.env).findIdx? (·.1)=none:=by rfl):PG X (.Tuple es k pos) (o4 K0 n t):=by
 subst hK;exact QM hc h hn f8
def Qad{rs:List Addr}{rows:List Rw}{te:TE}{NB:List Str}{n:Nat}{H:Hp}{Q:VK}(val:Rw->V)(dU:NB.length=3)(hn:n=2)(R:au K H p rs rows)(oz:∀(x:Rw)(Q:VK),Q (val x) H->te [none,some (.str (tx [x.1])),some (.int (x.2:Nat))] H Q)(hd:∀q,H q=none->Q (.ref q) (upd H q (.lst (rows.map val)))):∃W:Nat->Nat->List V->Hp->Prop,(∃m,W 0 m [] H)/\∀i m vs H,W i m vs H->
   ((c9 K p).stop i H/\∀p,H p=none->Q (.ref p) (upd H p (.lst vs)))\/((c9 K p).go i H/\vs.length<sizeLine/\∃N:List V->Hp->Prop,(∀mt H',N mt H'->∃m',m'<m/\W (i+1) m' mt H')/\
    ∀x H',(c9 K p).bT i H x H'->o4 K n (Us (QL 1) (Us (QL 2) Ak)) x (replicate NB.length none) H' λσ2 H2=>fo σ2 H2 λb H3=>if b=true then te σ2 H3 λv H4=>N (vs++[v]) H4 else N vs H3):=by
 have hz:=zza
 have hl:=R.le;have hlen:=R.len;refine Yv (xs:=rs.map V.ref) (λi vs H2=>H2=H/\vs=(rows.take i).map val) ⟨Z,Z⟩ ?_ ?_ ?_ (by lia)
 .rintro i vs H2 hi ⟨rfl,rfl⟩;exact⟨R.sq,by rw[tK,tX];lia⟩
 .rintro i x vs H2 hx ⟨rfl,rfl⟩;rw[lg]at hx;obtain⟨r,hr,rfl⟩:=ybq.mp hx;obtain⟨y,hy,g⟩:=R.rw.at' hr;subst hn;rw[dU];exists r,_,Z,aw.of g,Z,_,_,Z,_,_,Z,Z;dsimp only[fo];rw[yai rfl];refine oz y _ ⟨Z,?_⟩;have hi:=(yaf.mp hy).1;rw[yaK,hy,lq];rfl
 .rintro vs H2 ⟨rfl,rfl⟩ q hq;rw[yat (by lia)];exact hd q hq
def Qb6{α:Type}(rs:List Addr)(a:Nat):jc (rs.map V.ref) (some (a:Int)) none=(rs.drop a).map V.ref:=by
 unfold jc;rw[HT.Xx,HT.xE];rcases Nat.le_total a (rs.map V.ref).length with h|h
 .rw[ybd h,yat (by rw[tY];exact tN _),yeC]
 .rw[yeJ h,yaw (tN _),ycD,yaw (by rw[tK]at h;exact h)];rfl
def W9{rows:List Rw}{tl te:TE}(val:Rw->V)(dU:NB.length=3)(hn:n=2)(h:∀R:VK,(∀p rs H1,Qn H H1->au K H1 p rs rows->R (.ref p) H1)->tl σ H R)(oz:∀(x:Rw)(H:Hp)(Q:VK),Q (val x) H->te [none,some (.str (tx [x.1])),some (.int (x.2:Nat))] H Q)(hd:∀q H1,Qn H H1->H1 q=none->Q (.ref q) (upd H1 q (.lst (rows.map val)))):UF NB (Cs K tl) (o4 K n (Us (QL 1) (Us (QL 2) Ak))) fo te σ H Q:=
 h _ λp rs H1 S1 R1=>⟨p,Z,⟨_,R1.sq⟩,Qad val dU hn R1 (λx Q q=>oz x H1 Q q) λq hq=>hd q H1 S1 hq⟩
def Uj{rs:List Addr}{rows:List Rw}(RA:au K H p rs rows)(h1:σ[i]? =some (some (.ref p)))(h2:σ[j]? =some (some (.int (a:Nat)))):∀R:VK,(∀p2 TW H1,Qn H H1->au K H1 p2 TW (rows.drop a)->R (.ref p2) H1)->EJ (EL K) (Kz i) (EI (Kz j)) zu σ H R:=λR r=>
 ⟨_,h1,_,h2,_,Z,p,_,Z,RA.sq,λp2 ut=>by
  rw[Qb6 (α:=Unit)];have S2:=Qn.new (o:=.lst ((rs.drop a).map V.ref)) ut;exact r p2 (rs.drop a) _ S2 ⟨aC.of Qf,(RA.rw.dr a).keep λb xs h=>S2 _ _ h,by rw[tY];have:=RA.le;lia⟩⟩
def Qb7{rs:List Addr}{rows:List Rw}(RA:au K H p rs rows)(h1:σ[i]? =some (some (.ref p))):∀R:VK,(∀p2 TW H1,Qn H H1->au K H1 p2 TW rows->R (.ref p2) H1)->Kz i σ H R:=λR r=>⟨_,h1,r p rs H (Qn.refl H) RA⟩
def Qge(a b:List Nat):fh (.str (tx a)) (.str (tx b))=decide (a=b):=by
 show(tx a==tx b)=_
 by_cases h:a=b
 .subst h;simp
 .rw[tL h];exact yau.mpr λz=>h (jE z)
def in_list(ls:List (List Nat))(s:List Nat):fj (.str (tx s)) (ls.map λl=>V.str (tx l))=ls.contains s:=by
 unfold fj
 induction ls with
 |nil=>rfl
 |cons a r ih=>
  rw[lC,ydc,ih,Qge,yej]
  congr 1
  by_cases h:a=s
  .subst h;simp
  .rw[tL h];exact(yau.mpr λz=>h z.symm).symm
def MA:([.str "9",.str "S9",.str "V9",.str "SV9",.str "9V9",.str "S9V9"]:List V)=CM.map λl=>V.str (tx l):=by rfl'
def qi:([.str "+",.str "-",.str "CR",.str "DB"]:List V)=J3.map λl=>V.str (tx l):=by rfl'
def qj(ls:List (List Nat)):(ls.map λl=>V.str (tx l)).all VQ=true:=by
 induction ls with
 |nil=>rfl
 |cons a r ih=>rw[lC,yex,ih];rfl
noncomputable def tV:Option (List Nat)->V
 |none=>.aq
 |some l=>.str (tx l)
def kg(K:Frag):Sp:=λvs H Q _=>∃(p:Addr)(rs:List Addr)(rows:List Rw)(a:Nat),vs=[.ref p,.int (a:Nat)]/\au K H p rs rows/\a<=rows.length/\∀H',Qn H H'->Q (tV (KG (rows.drop a))) H'
def MB(rows:List Rw):(rows.map λx=>V.str (tx [x.1]))=((rows.map (·.1)).map λc=>tx [c]).map V.str:=by rw[lB,lB];rfl
def Qeo(rows:List Rw):(rows.map λx=>V.int (x.2:Nat))=(rows.map λx=>((x.2:Nat):Int)).map V.int:=by rw[lB];rfl
def w6(F:az K "tail_of" "tail_of" Yj f fd)(O:Own mg)(T:Txt K mg tk c kr):Zz1 P w K mg Y 1 f fd ["rows","at"] (kg K):=by
 refine okN F Ui (by nofun) λam A L s H vs Q E hr h=>?_
 obtain⟨p,rs,rows,a,rfl,R,ha,k⟩:=h;have hz:=zza
 have hle:=R.le;refine⟨_,(Qd (QN (Ql Jk (pv 1) (Qx QJ Z O.len ybb (Qa (pv 0) Qb)) (Qq _)) (Qg (Qp Qk)) Qw)
  (Qd (Qt (i:=2) Ui.nd Z Zz0 (JL yaA ybR ybS X0 Qk (Qa (Z0 (NB:=[".0","symbol","many"]) Z ⟨Z,by rfl'⟩ (Xa (QR zx (pv 0) (QQ (pv 1)) JK)) (λ_ _ _=>(K9 (K0:=K) (n:=2) Z Z (Qh (Qi (i:=1) (show([".0","symbol","many"]:List Str).Nodup by rfl') Z Zz0 (Or.inr Z)) (Qh (Qi (i:=2) (show([".0","symbol","many"]:List Str).Nodup by rfl') Z Zz0 (Or.inr Z)) Qz)))) (λ_ _ _=>Xb) (λ_ _ _=>(pv 1))) Qb)))
  (Qd (QN (PW.pt (ZU (Ql ZY (pv 2) (QK (v:=V.ref (kr 1)) Z T.pk Z) (by with_unfolding_all rfl)) (JW (Ql Uv (Qx (yb Z) Z O.max boot_max (Qa (Z0 (NB:=[".0","symbol","many"]) Z ⟨Z,by rfl'⟩ (Xa (QR zx (pv 0) (QQ (pv 1)) JK)) (λ_ _ _=>(K9 (K0:=K) (n:=2) Z Z (Qh (Qi (i:=1) (show([".0","symbol","many"]:List Str).Nodup by rfl') Z Zz0 (Or.inr Z)) (Qh (Qi (i:=2) (show([".0","symbol","many"]:List Str).Nodup by rfl') Z Zz0 (Or.inr Z)) Qz)))) (λ_ _ _=>Xb) (λ_ _ _=>(pv 2))) Qb)) Qj (Qq _))))) (Qg (Qp Zw)) Qw)
  (Qg (Qp (pv 2)))))),?_⟩
 refine⟨_,Z,ZB rfl R ⟨Z,_,Z,?_⟩⟩;rw[KO]
 by_cases h1:a=rows.length
 .rw[tM (by lia)];have e:KG (rows.drop a)=some []:=by rw[h1,ycn];rfl
  rw[e]at k;have:=k H (Qn.refl H);refine QZ ?_;show Q (.str "") H;rw[Dj];exact this
 .rw[tL (by lia)];have re:rows.drop a≠[]:=λz=>by
   have:=yaF List.length z;rw[tY,ybc]at this;lia
  have et:KG (rows.drop a)=if(!J3.contains ((rows.drop a).map (·.1))||(rows.drop a).any (λx=>decide (x.2>1)))=true then none else some ((rows.drop a).map (·.1)):=by
   unfold KG;rw[yag re]
  rw[et]at k;have Gc:(rows.drop a).length<=600:=by rw[tY];lia
  refine QO ⟨Z,W9 (λx=>.str (tx [x.1])) rfl rfl (Uj R Z Z) (λx H Q q=>⟨_,Z,q⟩) λq H2 S2 hq=>?_⟩;have RR:=R.same S2;have eh:∀{H3:Hp},au K H3 p rs rows->∀{σ:L2.St}{i j:Nat},σ[i]? =some (some (.ref p))->σ[j]? =some (some (.int (a:Nat)))->∀R:VK,(∀p2 TW H1,Qn H3 H1->au K H1 p2 TW (rows.drop a)->R (.ref p2) H1)->EJ (EL K) (Kz i) (EI (Kz j)) zu σ H3 R:=λ{_} R3{_ _ _} h1 h2=>Uj R3 h1 h2;generalize hD:rows.drop a=D at k re Gc eh;rw[MB];have S3:=S2.trans (Qn.new (o:=.lst (((D.map (·.1)).map λc=>tx [c]).map V.str)) hq);have R3:=RR.same (Qn.new (o:=.lst (((D.map (·.1)).map λc=>tx [c]).map V.str)) hq);refine⟨"",q,_,Z,Z,aC.of Qf,WT (by rw[tK];lia),?_⟩;rw[Xo];generalize upd H2 q (.lst (((D.map (·.1)).map λc=>tx [c]).map V.str))=H3 at S3 R3;exists _,Z,kr 1,_,Z,.inr (T.pq _),Z,by rw[qi];exact qj _,_,Z;rw[qi,yai rfl,in_list];refine bE (λh2=>?_) (λh2=>?_)
  .rw[h2,Bool.true_or]at k;exact k _ S3
  .rw[h2,yfc]at k;dsimp only[k8,cg,lI,Jf];refine W9 (λx=>.int (x.2:Nat)) rfl rfl (eh R3 Z Z) (λx H Q q=>⟨_,Z,q⟩) λq5 H4 S4 oA=>?_;rw[Qeo];have S5:=(S3.trans S4).trans (Qn.new (o:=.lst ((D.map λx=>((x.2:Nat):Int)).map V.int)) oA);refine⟨q5,_,Z,aC.of Qf,by simpa using re,λm hm hmx=>?_⟩;generalize upd H4 q5 (.lst ((D.map λx=>((x.2:Nat):Int)).map V.int))=H5 at S5;exists _,_,Z,Z,_,Z;have Gr:decide ((1:Int)<m)=D.any (λx=>decide (x.2>1)):=by
    obtain⟨y,hy,rfl⟩:=yaY.mp hm
    by_cases h3:y.2>1
    .rw[tM (by lia),List.any_eq_true.mpr ⟨y,hy,tM h3⟩]
    .rw[tL (by lia)];refine(List.any_eq_false.mpr λz FI=>?_).symm;have:=hmx _ (yaY.mpr ⟨z,FI,Z⟩);rw[ybI];lia
   rw[Gr];refine bE (λh3=>?_) (λh3=>?_)
   .rw[h3]at k;exact k _ S5
   .rw[h3]at k;exact⟨_,Z,k _ S5⟩
noncomputable def kindS:Nat->Str
 |0=>"text"
 |1=>"letters"
 |2=>"number"
 |_=>"edited"
noncomputable def fO(x:Facts):HO:=.tup [.str (kindS x.kind),.bl x.signed,.int (x.before:Nat),.int (x.behind:Nat)]
def FV(o:Option Facts)(v:V)(H:Hp):Prop:=match o with
 |none=>v=.aq
 |some x=>∃q,v=.ref q/\H q=some (fO x)
def Zh(K:Frag)(fn:List Rw->Option Facts):Sp:=λvs H Q _=>∃(p:Addr)(rs:List Addr)(rows:List Rw),vs=[.ref p]/\au K H p rs rows/\∀v H',Qn H H'->FV (fn rows) v H'->Q v H'
def Qb8{rows:List Rw}(h:rows[i]? =some (y,n)):WS (rows.drop i) s p a b=if y=57 then(if p then WS (rows.drop (i+1)) s p a n else WS (rows.drop (i+1)) s p n b)else if n>1 then none else if y=83 then WS (rows.drop (i+1)) true p a b else WS (rows.drop (i+1)) s true a b:=by
 rw[drop_cons h];rfl
def Yw(F:az K "number_facts" "number_facts" Xc f fd)(O:Own mg)(T:Txt K mg tk c kr):Zz1 P w K mg Y 1 f fd ["rows"] (Zh K Jc):=by
 refine okN F Q4 (by nofun) λam A L s H vs Q E hr h=>?_
 obtain⟨p,rs,rows,rfl,R,k⟩:=h;have hz:=zza
 have hle:=R.le;refine⟨_,(Qd (QN (Ql ZY (JL yaA ybR ybS X0 Qk (Qa (Z0 (NB:=[".0","symbol","many"]) Z ⟨Z,by rfl'⟩ (Xa (pv 0)) (λ_ _ _=>(K9 (K0:=K) (n:=2) Z Z (Qh (Qi (i:=1) (show([".0","symbol","many"]:List Str).Nodup by rfl') Z Zz0 (Or.inr Z)) (Qh (Qi (i:=2) (show([".0","symbol","many"]:List Str).Nodup by rfl') Z Zz0 (Or.inr Z)) Qz)))) (λ_ _ _=>Xb) (λ_ _ _=>(pv 1))) Qb)) (QK (v:=V.ref (kr 0)) Z T.gF Z) (by with_unfolding_all rfl)) (Qg (Qp Zw)) Qw)
  (Qd (Qt (i:=3) Q4.nd Z Zz0 Xu)
  (Qd (Qt (i:=4) Q4.nd Z Zz0 Xu)
  (Qd (Qt (i:=5) Q4.nd Z Zz0 (Wk (Qa Qj (Qa Qj Qb))))
  (Qd (ZW yaB Z (Xa (pv 0)) (QM Z (Qh (Qi (i:=1) Q4.nd Z Zz0) (Qh (Qi (i:=2) Q4.nd Z Zz0) Qz))) (Qg (QN (Ql Jk (pv 1) Qk (Qq _)) (Qg (QW (pv 2) (OY (pv 5) (Jd (Je (pv 4) (λ_=>rfl)) Qj Qj) set_list))) (Qg (QN (Ql Uv (pv 2) Qj (Qq _)) (Qg (Qp Zw)) (Qg (QN (Ql Jk (pv 1) Qk (Qq _)) (Qg (Qt (i:=3) Q4.nd Z Zz0 Xu)) (Qg (Qt (i:=4) Q4.nd Z Zz0 Xu)))))))))
  (Qd (QN (Ql Uv (Qx (xN Z) Z O.sum L2.boot_sum (Qa (pv 5) Qb)) (QK (v:=V.int 18) Z T.gm ⟨_,Z⟩) (Qq _)) (Qg (Qp Zw)) Qw)
  (Qg (Qp (Qs (Qa Qk (Qa (pv 3) (Qa (QC Jv (pv 5) Qj (λ_ _=>rfl)) (Qa (QC Jv (pv 5) Qj (λ_ _=>rfl)) Qb))))))))))))),?_⟩
 have Gs:("S":Str)=tx [83]:=by rfl'
 refine⟨Z,W9 (λx=>.str (tx [x.1])) rfl rfl (Qb7 R Z) (λx H Q q=>⟨_,Z,q⟩) λq H2 S2 hq=>?_⟩;rw[MB];have S3:=S2.trans (Qn.new (o:=.lst (((rows.map (·.1)).map λc=>tx [c]).map V.str)) hq);refine⟨"",q,_,Z,Z,aC.of Qf,WT (by rw[tK];lia),?_⟩;rw[Xo];generalize upd H2 q (.lst (((rows.map (·.1)).map λc=>tx [c]).map V.str))=H3 at S3;have R3:=R.same S3;exists kr 0,_,Z,.inr (T.uY _),Z,by rw[MA];exact qj _,_,Z;rw[MA,yai rfl,in_list];refine bE (λh2=>?_) (λh2=>?_)
 .have hn:Jc rows=none:=by
   unfold Jc;rw[yag (by rw[ycf]at h2;rw[h2];lia)]
  exact k .aq H3 S3 (by rw[hn];rfl)
 have hf:CM.contains (rows.map (·.1))=true:=by
  cases e:CM.contains (rows.map (·.1))with
  |true=>rfl
  |false=>rw[e]at h2;cases h2
 have en:Jc rows=(match WS rows false false 0 0 with
   |some (s,a,b)=>if a+b>18 then none else some ⟨2,s,a,b⟩
   |none=>none):=by
  unfold Jc;rw[yai hf]
  all_goals rfl
 refine⟨bj,λfl At=>?_⟩;have S4:=Qn.new (o:=.lst [.int 0,.int 0]) At;exists _,Z,p,Z,⟨_,(R3.same S4).sq⟩;refine O8 (xs:=rs.map V.ref) (λi σ H5=>∃(x1 x2:Option V)(sg pt:Bool)(a b:Nat),σ=[some (.ref p),x1,x2,some (.bl sg),some (.bl pt),some (.ref fl)]/\H5 fl=some (.lst [.int (a:Nat),.int (b:Nat)])/\Qn H3 H5/\WS rows false false 0 0=WS (rows.drop i) sg pt a b) ⟨none,none,false,false,0,0,Z,Qf,S4,Z⟩ ?_ ?_ ?_
 .rintro i σ H5 hi ⟨x1,x2,sg,pt,a,b,rfl,g5,S5,hg⟩;exact(R3.same S5).sq
 .rintro i x σ H5 hx ⟨x1,x2,sg,pt,a,b,rfl,g5,S5,hg⟩;rw[lg]at hx;obtain⟨r,eR,rfl⟩:=ybq.mp hx;obtain⟨⟨y,n⟩,hy,g⟩:=(R3.same S5).rw.at' eR;rw[Qb8 hy]at hg;exists r,_,Z,aw.of g,Z,_,_,Z,_,_,Z,Z;exists _,Z,Z,_,Z;rw[Dh,JU];have keep:∀(o:HO),Qn H3 (upd H5 fl o):=λo b u h=>by rw[Qo (QB h At)];exact S5 _ _ h
  by_cases h1:y=57
  .rw[tM h1];rw[yai h1]at hg;refine QZ ⟨_,Z,_,Z,_,Z,pt,Z,?_⟩;refine bE (λh3=>?_) (λh3=>?_)
   .rw[yai h3]at hg;refine⟨fl,_,1,1,Z,Z,g5,Z,some (.str (tx [y])),some (.int (n:Nat)),sg,pt,a,n,Z,?_,keep _,hg⟩;rw[Qf];rfl
   .rw[yag (by rw[h3];lia)]at hg;refine⟨fl,_,0,0,Z,Z,g5,Z,some (.str (tx [y])),some (.int (n:Nat)),sg,pt,n,b,Z,?_,keep _,hg⟩;rw[Qf];rfl
  .rw[tL h1];rw[yag h1]at hg;refine QO ⟨_,Z,_,_,Z,Z,_,Z,?_⟩
   by_cases h3:n>1
   .rw[tM (by lia)];rw[yai h3]at hg;refine QZ (k .aq H5 (S3.trans S5) ?_);rw[en,hg];rfl
   .rw[tL (by lia)];rw[yag h3]at hg;refine QO ⟨_,Z,Z,_,Z,?_⟩;rw[Gs,JU]
    by_cases h4:y=83
    .rw[tM h4];rw[yai h4]at hg;exact QZ ⟨some (.str (tx [y])),some (.int (n:Nat)),true,pt,a,b,Z,g5,S5,hg⟩
    .rw[tL h4];rw[yag h4]at hg;exact QO ⟨some (.str (tx [y])),some (.int (n:Nat)),sg,true,a,b,Z,g5,S5,hg⟩
 .rintro σ H5 ⟨x1,x2,sg,pt,a,b,rfl,g5,S5,hg⟩;rw[R.len,ycn]at hg;rw[hg]at en;exists _,Z,fl,[(a:Int),(b:Int)],Z,aC.of g5,_,_,Z,Z,_,Z;have es:([(a:Int),(b:Int)]:List Int).sum=((a+b:Nat):Int):=by simp
  rw[es]
  by_cases h1:a+b>18
  .rw[tM (by lia)];refine QZ (k .aq H5 (S3.trans S5) ?_);rw[en];show FV (if a+b>18 then none else _) _ _;rw[yai h1];rfl
  .rw[tL (by lia)];refine QO ⟨_,Z,_,Z,fl,_,_,_,Z,Z,aC.of g5,Z,_,Z,fl,_,_,_,Z,Z,aC.of g5,Z,sM,λq6 Gu=>?_⟩;refine k _ _ ((S3.trans S5).trans (Qn.new Gu)) ?_;rw[en];show FV (if a+b>18 then none else _) _ _;rw[yag h1];exact⟨q6,Z,Qf⟩
def jY(y:Nat):Vr jT (Sum.inr (tx [y]):Key)=if y=88 then some (.str "text")else if y=65 then some (.str "letters")else none:=by
 have eX:("X":Str)=tx [88]:=by rfl'
 have eA:("A":Str)=tx [65]:=by rfl'
 unfold Vr jT;rw[eX,eA]
 by_cases h1:y=88
 .subst h1;rw[yai rfl];simp
 .rw[yag h1];have n1:¬ ((Sum.inr (tx [88]):Key)=Sum.inr (tx [y])):=λz=>h1 (ycC (jE (ydN z))).1.symm
  by_cases h2:y=65
  .subst h2;rw[yai rfl];simp
  .rw[yag h2];have n2:¬ ((Sum.inr (tx [65]):Key)=Sum.inr (tx [y])):=λz=>h2 (ycC (jE (ydN z))).1.symm;simp[n1,n2]
def YW(F:az K "plain_facts" "plain_facts" XG f fd)(O:Own mg)(T:Txt K mg tk c kr)(KD:aD P w K (kr 2) jT):Zz1 P w K mg Y 1 f fd ["rows"] (Zh K JX):=by
 refine okN F Xd (by nofun) λam A L s H vs Q E hr h=>?_
 obtain⟨p,rs,rows,rfl,R,k⟩:=h;have hz:=zza
 refine⟨_,(Qd (QN (Ql Xl (Qx QJ Z O.len ybb (Qa (pv 0) Qb)) Qj (Qq _)) (Qg (Qp Zw)) Qw)
  (Qd (QW (QC Jv (pv 0) Qj (λ_ _=>rfl)) (QM Z (Qh (Qi (i:=1) Xd.nd Z Zz0) (Qh (Qi (i:=2) Xd.nd Z Zz0) Qz))))
  (Qd (QN (PW.pt (ZU (JZ (WP KD (pv 1) (QK (v:=V.ref (kr 2)) Z T.gA Z)) (by with_unfolding_all rfl)) (JW (Ql Uv (pv 2) (QK (v:=V.int 60) Z T.gR ⟨_,Z⟩) (Qq _))))) (Qg (Qp Zw)) Qw)
  (Qg (Qp (Qs (Qa (Ws KD (QK (v:=V.ref (kr 2)) Z T.gA Z) (pv 1) (λ_ _=>rfl)) (Qa Xu (Qa Qj (Qa Qj Qb)))))))))),?_⟩
 exists _,Z,p,_,Z,.inl R.sq;rw[R.len];exists Z,_,Z;rw[vY]
 match rows,R,k with
 |[],R,k=>exact QZ (k .aq H (Qn.refl H) Z)
 |_::_::_,R,k=>
  rw[tM (by simp;lia)];exact QZ (k .aq H (Qn.refl H) Z)
 |[(y,n)],R,k=>
  refine QO (jF (k:=0) Z (λQ q=>q) R Z λr eR=>⟨r,_,Z,aw.of eR,Z,_,_,Z,_,_,Z,Z,?_⟩);exists _,Z,Sum.inr (tx [y]),Z,Z,_,Z;have ep:JX [(y,n)]=if(y≠88/\y≠65)\/n>60 then none else some ⟨if y=88 then 0 else 1,false,0,0⟩:=rfl;rw[jY]
  by_cases h1:y=88\/y=65
  .have h2:(if y=88 then some (V.str "text")else if y=65 then some (.str "letters")else none)=some (.str (kindS (if y=88 then 0 else 1))):=by
    rcases h1 with rfl|rfl
    .rfl
    .rfl
   rw[h2];refine QO ⟨_,Z,_,_,Z,Z,_,Z,?_⟩
   by_cases h3:n>60
   .rw[tM (by lia)];refine QZ (k .aq H (Qn.refl H) ?_);rw[ep,yai (.inr h3)];rfl
   .rw[tL (by lia)];refine QO ⟨_,Z,Sum.inr (tx [y]),.str (kindS (if y=88 then 0 else 1)),Z,Z,by rw[jY,h2],sM,λq hq=>?_⟩;refine k _ _ (Qn.new hq) ?_;rw[ep,yag (by lia)];exact⟨q,Z,Qf⟩
  .rw[yag (by lia),yag (by lia)];refine QZ (QZ (k .aq H (Qn.refl H) ?_));rw[ep,yai (.inl (by lia))];rfl
def Qb9{xs:List V}{NB:List Str}{g:TG}{tt:TT}{te:TE}{Q:VK}{H:Hp}(Pv:Nat->List V->Hp->Prop)(h0:Pv 0 [] H)(hl:∀i vs H,i<=xs.length->Pv i vs H->aw K H a xs/\vs.length<=i)(hs:∀i x vs H,xs[i]? =some x->Pv i vs H->g x (replicate NB.length none) H λσ2 H2=>tt σ2 H2 λb H3=>if b=true then te σ2 H3 λv H4=>Pv (i+1) (vs++[v]) H4 else Pv (i+1) vs H3)(hd:∀vs H,Pv xs.length vs H->∀p,H p=none->Q (.ref p) (upd H p (.lst vs)))(hz:xs.length<sizeLine):∃W:Nat->Nat->List V->Hp->Prop,(∃m,W 0 m [] H)/\∀i m vs H,W i m vs H->
   ((da K a).stop i H/\∀p,H p=none->Q (.ref p) (upd H p (.lst vs)))\/((da K a).go i H/\vs.length<sizeLine/\∃N:List V->Hp->Prop,(∀mt H',N mt H'->∃m',m'<m/\W (i+1) m' mt H')/\
    ∀x H',(da K a).bT i H x H'->g x (replicate NB.length none) H' λσ2 H2=>tt σ2 H2 λb H3=>if b=true then te σ2 H3 λv H4=>N (vs++[v]) H4 else N vs H3):=by
 refine⟨λi m vs H=>m=xs.length-i/\i<=xs.length/\Pv i vs H,⟨xs.length,by simp,lF _,h0⟩,?_⟩;rintro i m vs H ⟨rfl,hi,p⟩;obtain⟨q,hv⟩:=hl i vs H hi p
 by_cases ap:i<xs.length
 .refine .inr ⟨⟨xs,xs[i],q,by simp[ap]⟩,by lia,Pv (i+1),λmt H' p'=>⟨xs.length-(i+1),by lia,Z,ap,p'⟩,λx H' y=>?_⟩;obtain⟨e,y⟩:=y;subst e;exact hs i x vs _ (y xs q) p
 .have e:i=xs.length:=by lia
  subst e;exact .inl ⟨⟨xs,q,tN _⟩,hd vs H p⟩
noncomputable def Kh(ld pl:List Nat)(many bi:Nat)(o:Option Nat)(tl:Option (List Nat)):Option Facts:=
 match pl,o,tl with
 |[place],some behind,some tail=>
  let fl:Bool:=[43,45,36].contains place
  if fl&&decide (many<2)then none
  else
   let shown:=[ld.take 1,[place],tail].filter (J3.contains ·)
   if shown.length>1 then none
   else
    let before:=many+bi-(if fl then 1 else 0)
    if before+behind>18 then none else some ⟨3,shown.length==1,before,behind⟩
 |_,_,_=>none
def Qag{rows:List Rw}{ld pl:List Nat}{b many bi b2 b3:Nat}(h1:ZK rows=(ld,rows.drop b))(h2:QX (rows.drop b)=(pl,many,bi,rows.drop b2))(h3:JA (rows.drop b2) (if bi=0 then pl else[57])=(o,rows.drop b3)):Jw rows=Kh ld pl many bi o (KG (rows.drop b3)):=by
 unfold Jw;simp only[h1,h2,h3];rfl
def Qah(r:List Rw):(QX r).1=[]\/∃y,(QX r).1=[y]:=by
 unfold QX
 split
 .split
  .exact .inr ⟨_,Z⟩
  .exact .inl rfl
 .exact .inl rfl
def vb{ls:List (List Nat)}{H:Hp}{Q:VK}(T:Txt K mg tk c kr)(hq:H a=some (.tup (ls.map λl=>V.str (tx l))))(hl:ls.length<=3)(hd:∀q,H q=none->Q (.ref q) (upd H q (.lst ((ls.filter (J3.contains ·)).map λl=>V.str (tx l))))):∃W:Nat->Nat->List V->Hp->Prop,(∃m,W 0 m [] H)/\∀i m vs H,W i m vs H->
   ((da K a).stop i H/\∀p,H p=none->Q (.ref p) (upd H p (.lst vs)))\/((da K a).go i H/\vs.length<sizeLine/\∃N:List V->Hp->Prop,(∀mt H',N mt H'->∃m',m'<m/\W (i+1) m' mt H')/\
    ∀x H',(da K a).bT i H x H'->QL 1 x (replicate 2 none) H' λσ2 H2=>k8 (cg (Av K false) (Kz 1) (tC (.ref (kr 1)))) σ2 H2 λb H3=>if b=true then Kz 1 σ2 H3 λv H4=>N (vs++[v]) H4 else N vs H3):=by
 have hz:=zza
 refine Qb9 (NB:=["a","b"]) (xs:=ls.map λl=>V.str (tx l)) (λi vs H2=>H2=H/\vs=((ls.take i).filter (J3.contains ·)).map λl=>V.str (tx l)) ⟨Z,Z⟩ ?_ ?_ ?_ (by rw[tK];lia)
 .rintro i vs H2 hi ⟨rfl,rfl⟩;exists aw.of hq;rw[tK];exact yap (ybj _ _) (by rw[tX];lia)
 .rintro i x vs H2 hx ⟨rfl,rfl⟩;rw[lg]at hx;obtain⟨l,fE,rfl⟩:=ybq.mp hx;exists _,Z,kr 1,_,Z,.inr (T.pq _),Z,by rw[qi];exact qj _,_,Z;rw[qi,yag (by lia),in_list];have ef:((ls.take (i+1)).filter (J3.contains ·))=((ls.take i).filter (J3.contains ·))++(if J3.contains l then[l]else[]):=by
   rw[yaK,fE,ybA]
   by_cases hm:l∈J3<;>simp[hm]
  refine bE (λh=>?_) (λh=>?_)
  .exists _,Z,Z;rw[ef,h,lq];rfl
  .exists Z;rw[ef,h];simp
 .rintro vs H2 ⟨rfl,rfl⟩ q eC;rw[tK,ycm];exact hd q eC
def z5{ls:List (List Nat)}{tl:TE}(T:Txt K mg tk c kr)(dU:NB.length=2)(hl:ls.length<=3)(h:∀R:VK,(∀p H1,Qn H H1->H1 p=some (.tup (ls.map λl=>V.str (tx l)))->R (.ref p) H1)->tl σ H R)(hd:∀q H1,Qn H H1->H1 q=none->Q (.ref q) (upd H1 q (.lst ((ls.filter (J3.contains ·)).map λl=>V.str (tx l))))):UF NB (Iz K tl) (QL 1) (k8 (cg (Av K false) (Kz 1) (tC (.ref (kr 1))))) (Kz 1) σ H Q:=by
 refine h _ λp H1 S1 g1=>⟨p,Z,⟨_,aw.of g1⟩,?_⟩;rw[dU];exact vb T g1 hl λq hq=>hd q H1 S1 hq
def Qai(l:List Nat):StrLaws.sliceText (tx l) none (some 1)=tx (l.take 1):=by
 cases l with
 |nil=>rfl'
 |cons a r=>exact WR (a::r) (k:=1) (by simp)
def kh(K:Frag):Sp:=λvs H Q _=>∃(p:Addr)(rs:List Addr)(rows:List Rw)(a:Nat),vs=[.ref p,.int (a:Nat)]/\au K H p rs rows/\a<=rows.length/\
 ∀(pl:List Nat)(many bi b2 b3:Nat)(o:Option Nat),b3<=rows.length->QX (rows.drop a)=(pl,many,bi,rows.drop b2)->JA (rows.drop b2) (if bi=0 then pl else[57])=(o,rows.drop b3)->∀q H',Qn H H'->H' q=some (.tup [.str (tx pl),.int (many:Nat),.int (bi:Nat),oV o,.int (b3:Nat)])->Q (.ref q) H'
def vc(F:az K "body_of" "body_of" Yi f fd)(ng:Def P w K mg Y 2 "whole_part" ["rows","at"] (zZ K))(mP:Def P w K mg Y 1 "broken_part" ["rows","at","place"] (qh K)):Zz1 P w K mg Y 3 f fd ["rows","at"] (kh K):=by
 refine okN F Zf (by nofun) λam A L s H vs Q E hr h=>?_
 obtain⟨p,rs,rows,b,rfl,R,hb,k⟩:=h;have hz:=zza
 refine⟨_,(Qd (QW (ng.pq hr Qr (Qa (pv 0) (Qa (pv 1) Qb))) (QM Z (Qh (Qi (i:=2) Zf.nd Z Zz0) (Qh (Qi (i:=3) Zf.nd Z Zz0) (Qh (Qi (i:=4) Zf.nd Z Zz0) (Qh (Qi (i:=1) Zf.nd Z Zz0) Qz))))))
  (Qd (QW (mP.pq hr Qr (Qa (pv 0) (Qa (pv 1) (Qa (Jd (Ql Jk (pv 4) Qj (Qq _)) (pv 2) Qk) Qb)))) (QM Z (Qh (Qi (i:=5) Zf.nd Z Zz0) (Qh (Qi (i:=1) Zf.nd Z Zz0) Qz))))
  (Qg (Qp (Qs (Qa (pv 2) (Qa (pv 3) (Qa (pv 4) (Qa (pv 5) (Qa (pv 1) Qb)))))))))),?_⟩
 refine⟨_,Z,_,Z,p,rs,rows,b,Z,R,hb,λpl many bi b2 FB h2 q2 H2 S2 g2=>⟨q2,_,Z,aw.of g2,Z,_,_,Z,_,_,Z,_,_,Z,_,_,Z,Z,?_⟩⟩;exists _,Z,_,Z,_,Z,Z,_,Z;refine V1 (λx H'=>x=.str (tx (if bi=0 then pl else[57]))/\H'=H2) (λz rest=>?_) (λz rest=>?_) ?_
 .rw[KO]at z;have hn:bi=0:=by have:=ybi z;lia
  rw[yai hn]at rest;exact⟨_,Z,rest _ _ ⟨Z,Z⟩⟩
 .rw[KO]at z;have hn:bi≠0:=by have:=ybz z;lia
  rw[yag hn]at rest;exact rest _ _ ⟨by rw[Dh],Z⟩
 rintro x H' ⟨rfl,rfl⟩;refine⟨p,rs,rows,b2,_,Z,R.same S2,FB,λo b3 ow h3 q3 sN=>⟨q3,_,Z,aw.of Qf,Z,_,_,Z,_,_,Z,Z,?_⟩⟩;have S3:=S2.trans (Qn.new (o:=.tup [oV o,.int (b3:Nat)]) sN);generalize upd H' q3 (.tup [oV o,.int (b3:Nat)])=H3 at S3;refine⟨_,Z,_,Z,_,Z,_,Z,_,Z,sL5,λq4 hq4=>?_⟩;exact k pl many bi b2 b3 o ow h2 h3 q4 _ (S3.trans (Qn.new hq4)) Qf
def Yx(F:az K "edited_facts" "edited_facts" Xe f fd)(O:Own mg)(T:Txt K mg tk c kr)(mm:Def P w K mg Y 2 "lead_of" ["rows"] (ke K))(mn:Def P w K mg Y 3 "body_of" ["rows","at"] (kh K))(mq:Def P w K mg Y 1 "tail_of" ["rows","at"] (kg K)):Zz1 P w K mg Y 4 f fd ["rows"] (Zh K Jw):=by
 refine okN F QI (by nofun) λam A L s H vs Q E hr h=>?_
 obtain⟨p,rs,rows,rfl,R,k⟩:=h;have hz:=zza
 refine⟨_,(Qd (QW (mm.pq hr Qr (Qa (pv 0) Qb)) (QM Z (Qh (Qi (i:=1) QI.nd Z Zz0) (Qh (Qi (i:=2) QI.nd Z Zz0) Qz))))
  (Qd (QW (mn.pq hr Qr (Qa (pv 0) (Qa (pv 2) Qb))) (QM Z (Qh (Qi (i:=3) QI.nd Z Zz0) (Qh (Qi (i:=4) QI.nd Z Zz0) (Qh (Qi (i:=5) QI.nd Z Zz0) (Qh (Qi (i:=6) QI.nd Z Zz0) (Qh (Qi (i:=7) QI.nd Z Zz0) Qz)))))))
  (Qd (Qt (i:=8) QI.nd Z Zz0 (mq.pq hr Qr (Qa (pv 0) (Qa (pv 7) Qb))))
  (Qd (QN (PW.pt (ZU (Ql Jk (pv 3) Qk (Qq _)) (ZU (JZ (XU (pv 6))) (JW (JZ (XU (pv 8))))))) (Qg (Qp Zw)) Qw)
  (Qd (Qt (i:=9) QI.nd Z Zz0 (JS Zl (pv 3) (QK (v:=V.str "+-$") Z T.gD ⟨_,Z⟩) (by with_unfolding_all rfl)))
  (Qd (QN (PW.pt (Zx (Je (pv 9) (λ_=>rfl)) (J0 (Ql Vq (pv 4) Qj (Qq _))))) (Qg (Qp Zw)) Qw)
  (Qd (xR (NB:=[".0","part"]) (iy:=10) Z ⟨Z,by rfl'⟩ (jg (Qs (Qa (QR Zc (pv 1) JK (QQ Qj)) (Qa (pv 3) (Qa (pv 8) Qb))))) (λ_ _ _=>(Qi (i:=1) (show([".0","part"]:List Str).Nodup by rfl') Z Zz0)) (λ_ _ _=>(V2 (Ql (wC (K0:=K) Z) (pv 1) (QK (v:=V.ref (kr 1)) Z T.pk Z) (by with_unfolding_all rfl)))) (λ_ _ _=>(pv 1)) QI.nd Z Zz0 Z)
  (Qd (QN (Ql Uv (Qx QJ Z O.len ybb (Qa (pv 10) Qb)) Qj (Qq _)) (Qg (Qp Zw)) Qw)
  (Qd (Qt (i:=11) QI.nd Z Zz0 (QG VM (QG Jj (pv 4) (pv 5)) (Jd (Je (pv 9) (λ_=>rfl)) Qj Qj)))
  (Qd (QN (Ql Uv (QG Jj (pv 11) (pv 6)) (QK (v:=V.int 18) Z T.gm ⟨_,Z⟩) (Qq _)) (Qg (Qp Zw)) Qw)
  (Qg (Qp (Qs (Qa Qk (Qa (JS Jk (Qx QJ Z O.len ybb (Qa (pv 10) Qb)) Qj (Qq _)) (Qa (pv 11) (Qa (pv 6) Qb))))))))))))))))),?_⟩
 refine⟨_,Z,p,rs,rows,Z,R,λld b hb eO h1 q1 H1 S1 g1=>⟨q1,_,Z,aw.of g1,Z,_,_,Z,_,_,Z,Z,?_⟩⟩;refine⟨_,Z,_,Z,p,rs,rows,b,Z,R.same S1,hb,λpl many bi b2 b3 o ow h2 h3 q2 H3 S2 g2=>⟨q2,_,Z,aw.of g2,Z,_,_,Z,_,_,Z,_,_,Z,_,_,Z,_,_,Z,Z,?_⟩⟩;have S3:=S1.trans S2;clear g1 g2 S1 S2;have ee:=Qag h1 h2 h3;have Bl:=Qah (rows.drop b);rw[h2]at Bl;refine⟨_,Z,_,Z,p,rs,rows,b3,Z,R.same S3,ow,λH4 S4=>?_⟩;have sw:=S3.trans S4;generalize KG (rows.drop b3)=tl at ee;rw[ee]at k;clear ee h1 h2 h3 S3 S4;exists _,Z,Z,_,Z;rw[Dj,V7];rcases Bl with hp|⟨place,hp⟩
 .have ut:pl=[]:=hp;subst ut;rw[tM rfl];exact QZ (QZ (k .aq H4 sw Z))
 have ut:pl=[place]:=hp;subst ut;rw[tL (by simp)];refine QO ⟨_,Z,_,Z,?_⟩;cases o with
 |none=>exact QZ (QZ (k .aq H4 sw Z))
 |some behind=>
 refine QO ⟨_,Z,_,Z,?_⟩;cases tl with
 |none=>exact QZ (k .aq H4 sw Z)
 |some tail=>
 refine QO ⟨_,Z,_,_,Z,Z,?_⟩;rw[Mz,Xn];generalize At:([43,45,36]:List Nat).contains place=fl;have ek:Kh ld [place] many bi (some behind) (some tail)=if(fl&&decide (many<2))=true then none else if([ld.take 1,[place],tail].filter (J3.contains ·)).length>1 then none else if many+bi-(if fl=true then 1 else 0)+behind>18 then none else some ⟨3,([ld.take 1,[place],tail].filter (J3.contains ·)).length==1,many+bi-(if fl=true then 1 else 0),behind⟩:=by
  rw[<-At];rfl
 rw[ek]at k;clear ek;dsimp only;refine qc (λσ' H'=>σ'=[some (.ref p),some (.str (tx ld)),some (.int (b:Nat)),some (.str (tx [place])),some (.int (many:Nat)),some (.int (bi:Nat)),some (.int (behind:Nat)),some (.int (b3:Nat)),some (.str (tx tail)),some (.bl fl),none,none]/\H'=H4/\¬ (fl&&decide (many<2))=true) ?_ (λrest=>?_)
 .rintro σ' H' ⟨rfl,rfl,A6⟩;rw[yag A6]at k;have hmm:fl=true->2<=many:=λz=>by
   rcases yaZ many 2 with q|q
   .exact absurd (by rw[z,tM q];rfl) A6
   .exact q
  dsimp only[Zb,Za];refine z5 (ls:=[ld.take 1,[place],tail]) T rfl (by simp) (λR r=>⟨_,Z,_,Z,tx ld,Z,by rw[Qu];lia,_,Z,_,Z,Bg,λp5 iT=>r p5 _ (Qn.new iT) (by rw[Qf,Qai];rfl)⟩) λq5 H5 S5 oA=>?_;have S6:=(sw.trans S5).trans (Qn.new (o:=.lst (([ld.take 1,[place],tail].filter (J3.contains ·)).map λl=>V.str (tx l))) oA);have g6:upd H5 q5 (.lst (([ld.take 1,[place],tail].filter (J3.contains ·)).map λl=>V.str (tx l))) q5=some (.lst (([ld.take 1,[place],tail].filter (J3.contains ·)).map λl=>V.str (tx l))):=Qf;generalize upd H5 q5 (.lst (([ld.take 1,[place],tail].filter (J3.contains ·)).map λl=>V.str (tx l)))=H6 at S6 g6;generalize [ld.take 1,[place],tail].filter (J3.contains ·)=sh at g6 k;exists _,Z,q5,_,Z,.inl (aC.of g6),_,_,Z,Z,_,Z;rw[tK]
  by_cases h7:sh.length>1
  .rw[tM (by lia)];rw[yai h7]at k;exact QZ (k .aq H6 S6 Z)
  .rw[tL (by lia)];rw[yag h7]at k;refine QO ⟨_,Z,_,Z,_,_,Z,Z,_,Z,fl,Z,?_⟩;have hbf:((many:Nat):Int)+(bi:Nat)-(if fl=true then 1 else 0)=((many+bi-(if fl=true then 1 else 0):Nat):Int):=by
    cases fl with
    |true=>have:=hmm rfl;simp;lia
    |false=>simp
   refine V1 (λx H'=>x=.int (if fl=true then 1 else 0)/\H'=H6) (λz rest=>rest _ _ ⟨by rw[yai z],Z⟩) (λz rest=>rest _ _ ⟨by rw[yag (by rw[z];lia)],Z⟩) ?_;rintro x H7 ⟨rfl,rfl⟩;exists _,_,Z,Z;dsimp only[QL];rw[hbf];generalize many+bi-(if fl=true then 1 else 0)=before at k;exists _,Z,_,Z,_,_,Z,Z,_,_,Z,Z,_,Z
   by_cases h8:before+behind>18
   .rw[tM (by lia)];rw[yai h8]at k;exact QZ (k .aq H7 S6 Z)
   .rw[tL (by lia)];rw[yag h8]at k;refine QO ⟨_,Z,q5,_,Z,.inl (aC.of g6),Z,_,Z,_,Z,sM,λq9 oB=>?_⟩;refine k _ _ (S6.trans (Qn.new oB)) ⟨q9,Z,?_⟩;rw[Qf,tK,KO];have e9:decide ((sh.length:Int)=1)=(sh.length==1):=by
     by_cases z:sh.length=1
     .rw[z];rfl
     .rw[tL (by lia)];exact(yau.mpr z).symm
    rw[e9];rfl
 .exists _,Z,fl,Z;cases fl with
  |false=>
   exact QO (QO (rest _ _ ⟨Z,Z,by simp⟩))
  |true=>
   refine QZ ⟨_,Z,_,_,Z,Z,_,Z,?_⟩
   by_cases h6:many<2
   .rw[tM (by lia)];refine QZ (k .aq H4 sw ?_);rw[tM h6];rfl
   .rw[tL (by lia)];exact QO (rest _ _ ⟨Z,Z,by rw[tL h6];lia⟩)
def FV.Bm(h:FV o v H):decide (v=.aq)= !o.isSome:=by
 cases o with
 |none=>rw[show v=.aq from h];rfl
 |some x=>obtain⟨q,h1,h2⟩:=h;rw[h1];rfl
def z6(F:az K "facts_of" "facts_of" W3 f fd)(mw:Def P w K mg Y 1 "number_facts" ["rows"] (Zh K Jc))(mQ:Def P w K mg Y 1 "plain_facts" ["rows"] (Zh K JX))(my:Def P w K mg Y 4 "edited_facts" ["rows"] (Zh K Jw)):Zz1 P w K mg Y 5 f fd ["rows"] (Zh K JT):=by
 refine okN F XF (by nofun) λam A L s H vs Q E hr h=>?_
 obtain⟨p,rs,rows,rfl,R,k⟩:=h;refine⟨_,(Qd (Qt (i:=1) XF.nd Z Zz0 (mw.pq hr Qr (Qa (pv 0) Qb)))
  (Qd (QN (JZ (XU (pv 1))) (Qg (Qt (i:=1) XF.nd Z Zz0 (mQ.pq hr Qr (Qa (pv 0) Qb)))) Qw)
  (Qd (QN (JZ (XU (pv 1))) (Qg (Qt (i:=1) XF.nd Z Zz0 (my.pq hr Qr (Qa (pv 0) Qb)))) Qw)
  (Qg (Qp (pv 1)))))),?_⟩
 refine⟨_,Z,p,rs,rows,Z,R,λv1 H1 S1 f1=>?_⟩;exists _,Z,_,Z;rw[f1.Bm];cases e1:Jc rows with
 |some x=>
  rw[e1]at f1;have ef:JT rows=some x:=by unfold JT;rw[e1]
  refine QO ⟨_,Z,_,Z,?_⟩;rw[f1.Bm];refine QO ⟨_,Z,k v1 H1 S1 ?_⟩;rw[ef];exact f1
 |none=>
  refine QZ ⟨_,Z,p,rs,rows,Z,R.same S1,λv2 H2 S2 f2=>?_⟩;exists _,Z,_,Z;rw[f2.Bm];cases e2:JX rows with
  |some x=>
   rw[e2]at f2;have ef:JT rows=some x:=by unfold JT;rw[e1,e2]
   refine QO ⟨_,Z,k v2 H2 (S1.trans S2) ?_⟩;rw[ef];exact f2
  |none=>
   have ef:JT rows=Jw rows:=by unfold JT;rw[e1,e2]
   refine QZ ⟨_,Z,p,rs,rows,Z,(R.same S1).same S2,λv3 H3 S3 f3=>⟨_,Z,k v3 H3 ((S1.trans S2).trans S3) ?_⟩⟩;rw[ef];exact f3
def qk(K:Frag)(c:Nat->Addr):Sp:=λvs H Q E=>∃l:List Nat,vs=[.str (tx l)]/\l.length<=500/\(Q0 l=none->∀H',Qn H H'->E (.ref (c 1)) none H')/\
 (∀x,Q0 l=some x->∀q p rs r H',Qn H H'->H' q=some (.tup [.ref p,.ref r])->H' r=some (fO x)->au K H' p rs (rowsOf l)->Q (.ref q) H')
def ql(F:az K "understood" "understood" Z2 f fd)(T:Txt K mg tk c kr)(mr:Def P w K mg Y 4 "rows_of" ["thing"] (kc K))(gW:Def P w K mg Y 5 "facts_of" ["rows"] (Zh K JT)):Zz1 P w K mg Y 6 f fd ["picture"] (qk K c):=by
 refine bN F XD (by nofun) λam A L s H vs Q E hr h=>?_
 obtain⟨l,rfl,hl,k1,k2⟩:=h;have hz:=zza
 have fr:=Jh (P:=P) (w:=w) (K:=K) (mg:=mg) (Y:=Y) (N:=["picture","rows","facts"]) (qual:="understood") (scope:=Qe Z2) (f:=f) (cd:=am) (A:=A) (L:=L) (s:=s) (H:=H) (E:=E);have ht:=Jp fr;have hx:=QH fr;refine⟨_,(Qd (Qt (i:=1) XD.nd Z Zz0 (mr.pq hr hx (Qa (pv 0) Qb)))
  (Qd (Qt (i:=2) XD.nd Z Zz0 (gW.pq hr hx (Qa (pv 1) Qb)))
  (Qd (QN (JZ (XU (pv 2))) (Qg (JD ht Z Z T.rX T.rZ (Qa Qk Qb))) Qw)
  (Qg (Qp (Qs (Qa (pv 1) (Qa (pv 2) Qb)))))))),?_⟩
 refine⟨_,Z,_,rowsOf l,Z,.inl ⟨l,Z,hl,Z⟩,λp rs H1 S1 R1=>⟨_,Z,p,rs,rowsOf l,Z,R1,λv2 H2 S2 f2=>?_⟩⟩;exists _,Z,_,Z;rw[f2.Bm];cases e:JT (rowsOf l)with
 |none=>exact QZ ⟨eN,k1 e _ (S1.trans S2)⟩
 |some x=>
  rw[e]at f2;obtain⟨r,rfl,g⟩:=f2;refine QO ⟨_,Z,_,Z,bj,λq hq=>?_⟩;have S3:=Qn.new (o:=.tup [.ref p,.ref r]) hq;exact k2 x e q p rs r _ ((S1.trans S2).trans S3) Qf (S3 _ _ g) ((R1.same S2).same S3)
def Vn(c:Nat->Addr):Sp:=λvs H Q E=>∃l:List Nat,vs=[.str (tx l)]/\l.length<=500/\(Q0 l=none->∀H',Qn H H'->E (.ref (c 1)) none H')/\(∀x,Q0 l=some x->∀H',Qn H H'->Q (.str (kindS x.kind)) H')
def vd(F:az K "kind_of" "kind_of" WC f fd)(gK:Def P w K mg Y 6 "understood" ["picture"] (qk K c)):Zz1 P w K mg Y 7 f fd ["picture"] (Vn c):=by
 refine bN F W0 (by nofun) λam A L s H vs Q E hr h=>?_
 obtain⟨l,rfl,hl,k1,k2⟩:=h;have fr:=Jh (P:=P) (w:=w) (K:=K) (mg:=mg) (Y:=Y) (N:=["picture","rows","facts"]) (qual:="kind_of") (scope:=Qe WC) (f:=f) (cd:=am) (A:=A) (L:=L) (s:=s) (H:=H) (E:=E);have hx:=QH fr;refine⟨_,(Qd (QW (gK.pq hr hx (Qa (pv 0) Qb)) (QM Z (Qh (Qi (i:=1) W0.nd Z Zz0) (Qh (Qi (i:=2) W0.nd Z Zz0) Qz))))
  (Qg (Qp (QC JE (pv 2) Qj (λ_ _=>rfl))))),?_⟩
 refine⟨_,Z,l,Z,hl,k1,λx e q p rs r H1 S1 g1 g2 R1=>?_⟩;exact⟨q,_,Z,aw.of g1,Z,_,_,Z,_,_,Z,Z,_,Z,r,_,_,_,Z,Z,aw.of g2,Z,k2 x e H1 S1⟩
end
end Lw
namespace dW
open bW bt PySem.NumText
noncomputable def fit(u o:Int)(a b:Nat):Int:=if ax.Xt u o b<0 then-(ax.X1 (ax.Xt u o b) % ax.aJ ((a:Int)+b))else ax.X1 (ax.Xt u o b) % ax.aJ ((a:Int)+b)
noncomputable def qm(l:List Nat):List Nat:=l.dropLast++[l.getLast?.getD 48+64]
noncomputable def cont(s:Bool)(a b:Nat)(u o:Int):List Nat:=if s=true/\fit u o a b<0 then qm (pad (fit u o a b).natAbs (a+b))else pad (fit u o a b).natAbs (a+b)
noncomputable def XR(s:Bool)(l:List Nat):Bool:=s&&(([112,113,114,115,116,117,118,119,120,121]:List Nat).contains (l.getLast?.getD 0))
noncomputable def Zq(s:Bool)(l:List Nat):List Nat:=if XR s l=true then l.dropLast++[l.getLast?.getD 0-64]else l
noncomputable def ZR(s:Bool)(l:List Nat):Int:=if XR s l=true then-(digitsVal (Zq s l):Int)else(digitsVal (Zq s l):Int)
def ve(s:Bool)(a b:Nat)(l:List Nat):Prop:=l.length=a+b/\AllDigits (Zq s l)
noncomputable instance (s:Bool)(a b:Nat)(l:List Nat):Decidable (ve s a b l):=inferInstanceAs (Decidable (_/\_))
def Uk(u o:Int)(a b:Nat):(fit u o a b).natAbs<10^(a+b):=by
 have h1:=ybw (ax.X1 (ax.Xt u o b)) (ybQ (ax.JC ((a:Int)+b)));have h2:=yba (ax.X1 (ax.Xt u o b)) (ax.JC ((a:Int)+b));have h3:ax.aJ ((a:Int)+b)=((10^(a+b):Nat):Int):=by
  unfold ax.aJ;have:((a:Int)+b).toNat=a+b:=by lia
  rw[this];push_cast;rfl
 rw[h3]at h1 h2;unfold fit;rw[h3]
 split<;>lia
end dW
namespace Lw
open PySem PySem.Spec PyProof.Rows L2 bW bt dW
open Builtin Builtin.Str StrLaws
section
variable {P:Program}{w:World}{K:Frag}{mg:Str->Option Value}{Y:Heap}{f:Addr}{fd:FuncData}{tk:Nat->Tok}{c kr:Nat->Addr}
def ki:∀ls:List (List Nat),Txt.join "" (ls.map tx)=tx ls.flatten:=by
 intro ls;show Builtin.Str.glued _ _=_;rw[ydy];have e:("":Str)=tx []:=by rfl'
 rw[e]
 induction ls with
 |nil=>rfl
 |cons a r ih=>
  cases r with
  |nil=>simp[PySem.Str.join]
  |cons b r=>
   show tx a++tx []++PySem.Str.join (tx []) ((b::r).map tx)=_;rw[ih,Z1,Z1,yaJ (l:=a),lA]
def jZ:∀(ls:List (List Nat))(n:Nat),(ls.map tx).foldl (λ(m:Nat)(s:Str)=>m+s.length+("":Str).length) n=n+ls.flatten.length:=by
 have e:("":Str).length=0:=by rfl'
 intro ls
 induction ls with
 |nil=>intro n;rfl
 |cons a r ih=>
  intro n;show(r.map tx).foldl _ (n+(tx a).length+("":Str).length)=_;rw[ih,e,Qu,yaJ,tJ];lia
def Qca{ls:List (List Nat)}(h:ls.flatten.length<=1000):JoinOk "" (ls.map tx)=true:=by
 unfold JoinOk;rw[<-yel,ydT,jZ];unfold tooLong;have hz:=zza
 rw[tL (by lia)];rfl
def j0(ch k:Nat):L2.jd (tx [ch]) k=tx (replicate k ch):=by
 rw[jD (L2.jd (tx [ch]) k)]
 congr 1
 unfold L2.jd;have:∀(l:List (Array Nat))(acc:Array Nat),(l.foldl (· ++ ·) acc).toList=acc.toList++(l.map (·.toList)).flatten:=by
  intro l
  induction l with
  |nil=>intro acc;simp
  |cons a r ih=>intro acc;rw[ydd,ih];simp
 rw[this];simp only[yde]
 induction k with
 |zero=>rfl
 |succ k ih=>simp[yas]at ih ⊢
def Gv:Sp:=λvs H Q _=>∃a b:Int,vs=[.int a,.int b]/\b≠0/\b.natAbs<2^2000/\Q (.int (ax.iG a b)) H
def Qak(h:b.natAbs<n):(if b<0 then-b else b).natAbs<n:=by split<;>lia
def Qep(h:b≠0):0<(if b<0 then-b else b):=by split<;>lia
def Yy(F:az K "quotient_cut" "quotient_cut" Xh f fd)(O:Own mg):Zz1 P w K mg Y 1 f fd ["number","by"] Gv:=by
 refine okN F Kb (by nofun) λam A L s H vs Q E hr h=>?_
 obtain⟨a,b,rfl,h1,h2,k⟩:=h;refine⟨_,(Qd (Qt (i:=2) Kb.nd Z Zz0 (QG RD (Qx Xw Z O.abs yeX (Qa (pv 0) Qb)) (Qx Xw Z O.abs yeX (Qa (pv 1) Qb))))
  (Qg (Qp (Jd (Ql Xl (JS Vq (pv 0) Qj (Qq _)) (JS Vq (pv 1) Qj (Qq _)) (Qq _)) (Wi ZX (pv 2)) (pv 2))))),?_⟩
 exists _,Z,a,Z,_,Z,b,Z,_,_,Z,Z,⟨Qep h1,Qak h2⟩;exists _,Z,_,_,Z,Z,_,Z,_,_,Z,Z,Z,_,Z;refine bE (λz=>?_) (λz=>?_)
 .exists _,Z,_,Z;have e:ax.iG a b= -(ax.X1 a/ax.X1 b):=by unfold ax.iG;rw[yai (by rw[<-Lc];exact z)]
  rw[e]at k;exact k
 .exists _,Z;have e:ax.iG a b=ax.X1 a/ax.X1 b:=by unfold ax.iG;rw[yag (by rw[<-Lc];exact λq=>Bool.noConfusion (z.symm.trans q))]
  rw[e]at k;exact k
structure cb(K:Frag)(H:Hp)(a:Addr)(u o:Int):Prop where
 sq:aw K H a [.int u,.int o]
 bd:u.natAbs<2^200
 lo:0<=o
 hi:o<=18
theorem cb.same{u o:Int}(A:cb K H a u o)(e:Qn H H'):cb K H' a u o:=⟨A.sq.same e,A.bd,A.lo,A.hi⟩
def Bn(K:Frag):Sp:=λvs H Q _=>∃(a:Addr)(u o p:Int),vs=[.ref a,.int p]/\cb K H a u o/\0<=p/\p<=18/\∀q,H q=none->Q (.ref q) (upd H q (.tup [.int (ax.Xt u o p),.int p]))
def Qgf(F:az K "cut" "cut" Gn f fd)(O:Own mg)(gg:Def P w K mg Y 1 "ten_to" ["many"] zW)(mz:Def P w K mg Y 1 "quotient_cut" ["number","by"] Gv):Zz1 P w K mg Y 2 f fd ["amount","places"] (Bn K):=by
 refine okN F yY (by nofun) λam A L s H vs Q E hr h=>?_
 obtain⟨a,u,o,p,rfl,qMa,h1,h2,k⟩:=h;have b1:=qMa.lo;have b2:=qMa.hi;refine⟨_,(Qd (QW (pv 0) (QM Z (Qh (Qi (i:=2) yY.nd Z Zz0) (Qh (Qi (i:=3) yY.nd Z Zz0) Qz))))
  (Qg (Qp (Qs (Qa (mz.pq hr Qr (Qa (QG vW (pv 2) (gg.pq hr Qr (Qa (QG VM (pv 1) (pv 3)) Qb))) (Qa (gg.pq hr Qr (Qa (QG VM (pv 3) (pv 1)) Qb)) Qb))) (Qa (pv 1) Qb)))))),?_⟩
 exists _,Z,a,_,Z,qMa.sq,Z,_,_,Z,_,_,Z,Z;refine⟨_,Z,_,Z,_,Z,_,_,Z,Z,_,Z,by lia,by lia,_,_,Z,Z,⟨big qMa.bd,big (Yr (by lia))⟩,?_⟩;refine⟨_,Z,_,Z,_,_,Z,Z,_,Z,by lia,by lia,?_⟩;refine⟨_,_,Z,ybQ (ax.JC _),big (Yr (by lia)),?_⟩;exact⟨_,Z,by show 2<=sizeLine;lia,k⟩
def Dk(K:Frag):Sp:=λvs H Q _=>∃(p:Addr)(u o:Int)(a b:Nat),vs=[.ref p,.int (a:Nat),.int (b:Nat)]/\cb K H p u o/\a+b<=18/\∀H',Qn H H'->Q (.int (fit u o a b)) H'
def Qam(F:az K "fitted" "fitted" U4 f fd)(O:Own mg)(gg:Def P w K mg Y 1 "ten_to" ["many"] zW)(nQ:Def P w K mg Y 2 "cut" ["amount","places"] (Bn K)):Zz1 P w K mg Y 3 f fd ["amount","before","behind"] (Dk K):=by
 refine okN F Yl (by nofun) λam A L s H vs Q E hr h=>?_
 obtain⟨p,u,o,a,b,rfl,qMa,LE,k⟩:=h;refine⟨_,(Qd (Qt (i:=3) Yl.nd Z Zz0 (QC JE (nQ.pq hr Qr (Qa (pv 0) (Qa (pv 2) Qb))) Qj (λ_ _=>rfl)))
  (Qd (Qt (i:=4) Yl.nd Z Zz0 (QG Vj (Qx Xw Z O.abs yeX (Qa (pv 3) Qb)) (gg.pq hr Qr (Qa (QG Jj (pv 1) (pv 2)) Qb))))
  (Qg (Qp (Jd (Ql Vq (pv 3) Qj (Qq _)) (Wi ZX (pv 4)) (pv 4)))))),?_⟩
 refine⟨_,Z,_,Z,p,u,o,(b:Int),Z,qMa,by lia,by lia,λq hq=>⟨q,_,_,_,Z,Z,aw.of Qf,Z,?_⟩⟩;have S1:=Qn.new (o:=.tup [.int (ax.Xt u o b),.int (b:Int)]) hq;exists _,Z,_,Z,_,Z,_,Z,_,_,Z,Z,(a:Int)+b,Z,by lia,by lia,_,_,Z,Z,ax.JC _;exists _,Z,_,_,Z,Z,_,Z;have k:=k _ S1;refine bE (λz=>?_) (λz=>?_)
 .exists _,Z,_,Z;have e:fit u o a b= -(ax.X1 (ax.Xt u o b) % ax.aJ ((a:Int)+b)):=by unfold fit;rw[yai (ybi z)]
  rw[e]at k;exact k
 .exists _,Z;have e:fit u o a b=ax.X1 (ax.Xt u o b) % ax.aJ ((a:Int)+b):=by unfold fit;rw[yag (ybz z)]
  rw[e]at k;exact k
def kj:Sp:=λvs H Q _=>∃n:Nat,vs=[.int n]/\n<10^18/\∀H',Qn H H'->Q (.str (tx (dec n))) H'
def qo(F:az K "figures_of" "figures_of" X7 f fd)(O:Own mg)(T:Txt K mg tk c kr)(gg:Def P w K mg Y 1 "ten_to" ["many"] zW):Zz1 P w K mg Y 2 f fd ["number"] kj:=by
 refine okN F J6 (by nofun) λam A L s H vs Q E hr h=>?_
 obtain⟨n,rfl,hn,k⟩:=h;refine⟨_,(Qd (Qt (i:=1) J6.nd Z Zz0 (gg.pq hr Qr (Qa (QK (v:=V.int 18) Z T.nN ⟨_,Z⟩) Qb)))
  (Qd (Qt (i:=2) J6.nd Z Zz0 (Wk Qb))
  (Qd (Xv yaB (Ql vA (pv 0) (pv 1) (Qq _)) (Qd (QW (Qx zt Z O.divmod boot_divmod (Qa (pv 0) (Qa (pv 1) Qb))) (QM Z (Qh (Qi (i:=0) J6.nd Z Zz0) (Qh (Qi (i:=3) J6.nd Z Zz0) Qz))))
  (Qg (Q7 (JL yaC yaD yaE JO (pv 2) (Qa (JL yaA slot_str_zfill type_str_zfill UI (XZ Vk Z O.str boot_str (Qa (pv 3) Qb)) (Qa (QK (v:=V.int 18) Z T.nN ⟨_,Z⟩) Qb)) Qb))))))
  (Qd (Q7 (JL yaC yaD yaE JO (pv 2) (Qa (XZ Vk Z O.str boot_str (Qa (pv 0) Qb)) Qb)))
  (Qg (Qp (wA Z Z O.reversed Qk (pv 2)))))))),?_⟩
 refine⟨18,Z,by lia,by lia,by show 0<=sizeLine;lia,λp hp=>?_⟩;have S1:=Qn.new (o:=.lst []) hp;exists λm σ H2=>σ=[some (.int (n:Int)),some (.int (ax.aJ 18)),some (.ref p),none]/\H2=upd H p (.lst []),⟨0,Z,Z⟩;rintro m σ H2 ⟨rfl,rfl⟩;exists _,Z,_,Z,_,_,Z,Z,_,Z;have eT:ax.aJ 18=10^18:=by lia
 refine bE (λq=>absurd (ybi q) (by rw[eT];lia)) (λ_=>?_);have Gw:(n:Int).natAbs.log2<1920:=by
  rw[yem]
  by_cases h0:n=0
  .rw[h0];lia
  .exact(Nat.log2_lt h0).mpr (ybu hn (by lia))
 refine⟨_,Z,.inl ⟨Z,_,.inl (.inl Qf)⟩,_,Z,(n:Int),Z,Gw,p,[],_,Z,Z,Qf,by show 0<sizeLine;lia,?_⟩;rw[bW.Uu];have S2:Qn H (upd (upd H p (.lst [])) p (.lst ([]++[.str (tx (dec n))]))):=λb o e=>by
  have hb:=QB e hp;rw[Qo hb,Qo hb];exact e
 have Gc:=SO (n:=n) (ybu hn (by lia));exists "",Z,_,Z,p,[tx (dec n)],Z,Qf,?_
 .have Dm:=Qu (dec n);show(!Builtin.Str.tooLong (0+(tx (dec n)).length+("":Str).length))=true;rw[Dm];have he:("":Str).length=0:=by rfl'
  rw[he];unfold Builtin.Str.tooLong;have hz:=zza
  rw[tL (by lia)];rfl
 .have ej:Txt.join "" [tx (dec n)].reverse=tx (dec n):=by
   show Builtin.Str.glued _ _=_;rw[ydy];rfl
  rw[ej];exact k _ S2
def Wa(h0:0<=i)(h1:i<=1000):PadOk i=true:=by
 obtain⟨n,rfl⟩:=ydf h0;have:n<=1000:=by lia
 have key:∀m:Nat,m<=1000->PadOk ((m:Nat):Int)=true:=by
  intro m hm;unfold PadOk fitsSsize;have e1:Builtin.Str.tooLong ((m:Nat):Int).toNat=false:=by
   unfold Builtin.Str.tooLong;have hz:=zza
   rw[lH];exact tL (by lia)
  rw[e1];simp;lia
 exact key n this
def Wb(K:Frag)(c:Nat->Addr):Sp:=λvs H Q E=>∃(l:List Nat)(k:Nat),vs=[.str (kindS k),.str (tx l)]/\l.length<=500/\k<=3/\((∀x,Q0 l=some x->x.kind<=3/\x.kind≠k)->∀H',Qn H H'->E (.ref (c 2)) none H')/\
 (∀x,Q0 l=some x->x.kind=k->∀q p rs r H',Qn H H'->H' q=some (.tup [.ref p,.ref r])->H' r=some (.tup [.bl x.signed,.int (x.before:Nat),.int (x.behind:Nat)])->au K H' p rs (rowsOf l)->Q (.ref q) H')
def Vz:∀a≤3,∀b≤3,decide (V.str (kindS a)=V.str (kindS b))=decide (a=b):=by rfl'
def Qcc{ld pl:List Nat}{many bi:Nat}{tl:Option (List Nat)}(h:Kh ld pl many bi o tl=some x):x.kind<=3:=by
 unfold Kh at h
 split at h
 .dsimp only at h
  repeat' (split at h)
  all_goals first
   |(cases h;done)
   |(have:=tO h;rw[<-this];exact tN _)
 .cases h
def Qeq{rows:List Rw}(h:Jw rows=some x):x.kind<=3:=by
 have e:Jw rows=Kh (ZK rows).1 (QX (ZK rows).2).1 (QX (ZK rows).2).2.1 (QX (ZK rows).2).2.2.1 (JA (QX (ZK rows).2).2.2.2 (if(QX (ZK rows).2).2.2.1=0 then(QX (ZK rows).2).1 else[57])).1
  (KG (JA (QX (ZK rows).2).2.2.2 (if(QX (ZK rows).2).2.2.1=0 then(QX (ZK rows).2).1 else[57])).2):=rfl
 rw[e]at h;exact Qcc h
def Qcd(h:Q0 l=some x):x.kind<=3:=by
 unfold Q0 JT at h;cases e1:Jc (rowsOf l)with
 |some y=>
  rw[e1]at h;have e:y=x:=tO h;subst e;unfold Jc at e1
  split at e1
  .split at e1
   .split at e1
    .cases e1
    .cases e1;exact(show(2:Nat)<=3 by lia)
   .cases e1
  .cases e1
 |none=>
  rw[e1]at h;cases e2:JX (rowsOf l)with
  |some y=>
   rw[e2]at h;have e:y=x:=tO h;subst e;unfold JX at e2
   split at e2
   .split at e2
    .cases e2
    .cases e2;show(if _ then 0 else 1)<=3;split<;>lia
   .cases e2
  |none=>
   rw[e2]at h;exact Qeq h
def Vt(F:az K "understood_as" "understood_as" J7 f fd)(T:Txt K mg tk c kr)(mr:Def P w K mg Y 4 "rows_of" ["thing"] (kc K))(gW:Def P w K mg Y 5 "facts_of" ["rows"] (Zh K JT)):Zz1 P w K mg Y 6 f fd ["kind","picture"] (Wb K c):=by
 refine bN F Zt (by nofun) λam A L s H vs Q E hr h=>?_
 obtain⟨l,kd,rfl,hl,hk3,k1,k2⟩:=h;have hz:=zza
 have fr:=Jh (P:=P) (w:=w) (K:=K) (mg:=mg) (Y:=Y) (N:=["kind","picture","rows","facts"]) (qual:="understood_as") (scope:=Qe J7) (f:=f) (cd:=am) (A:=A) (L:=L) (s:=s) (H:=H) (E:=E);have ht:=Jp fr;have hx:=QH fr;refine⟨_,(Qd (Qt (i:=2) Zt.nd Z Zz0 (mr.pq hr hx (Qa (pv 1) Qb)))
  (Qd (Qt (i:=3) Zt.nd Z Zz0 (gW.pq hr hx (Qa (pv 2) Qb)))
  (Qd (QN (PW.pt (ZU (JZ (XU (pv 3))) (JW (Ql Xl (QC JE (pv 3) Qj (λ_ _=>rfl)) (pv 0) (Qq _))))) (Qg (JD ht Z Z T.uw T.uC (Qa Qk Qb))) Qw)
  (Qg (Qp (Qs (Qa (pv 2) (Qa (QR IP (pv 3) (QQ Qj) JK) Qb)))))))),?_⟩
 refine⟨_,Z,_,rowsOf l,Z,.inl ⟨l,Z,hl,Z⟩,λp rs H1 S1 R1=>⟨_,Z,p,rs,rowsOf l,Z,R1,λv2 H2 S2 f2=>?_⟩⟩;exists _,Z,_,Z;rw[f2.Bm];have pr:Q0 l=JT (rowsOf l):=rfl;cases e:JT (rowsOf l)with
 |none=>exact QZ (QZ ⟨eN,k1 (λx h=>by rw[pr,e]at h;cases h) _ (S1.trans S2)⟩)
 |some x=>
  rw[e]at f2 pr;have iU:=Qcd pr;obtain⟨r,rfl,g⟩:=f2;refine QO ⟨_,Z,r,_,_,_,Z,Z,aw.of g,Z,_,Z,Z,_,Z,?_⟩;rw[Vz _ iU _ hk3]
  by_cases Dq:x.kind=kd
  .rw[tM Dq];refine QO ⟨_,Z,_,Z,_,Z,r,_,Z,aw.of g,(λz=>absurd (show HT.aF 4 0 (some 1)=0 from z.1) (by lia)),λq5 oA=>?_⟩;have S5:=Qn.new (o:=.tup [.bl x.signed,.int (x.before:Nat),.int (x.behind:Nat)]) oA;have g5:upd H2 q5 (.tup [.bl x.signed,.int (x.before:Nat),.int (x.behind:Nat)]) q5=some (.tup [.bl x.signed,.int (x.before:Nat),.int (x.behind:Nat)]):=Qf;refine⟨bj,λq6 Gu=>?_⟩;have S6:=Qn.new (o:=.tup [.ref p,.ref q5]) Gu;exact k2 x pr Dq q6 p rs q5 _ (((S1.trans S2).trans S5).trans S6) Qf (S6 _ _ g5) (((R1.same S2).same S5).same S6)
  .rw[tL Dq];exact QZ ⟨eN,k1 (λy h=>by rw[pr]at h;cases h;exact⟨iU,Dq⟩) _ (S1.trans S2)⟩
def Ul{rs:List Addr}{rows:List Rw}{tt:TT}(val:Rw->V)(ok:Rw->Bool)(dU:NB.length=3)(hn:n=2)(hσ:σ[i]? =some (some (.ref p)))(R:au K H p rs rows)(sG:∀x∈rows,∀(H1:Hp)(R:Bool->Hp->Prop),R (ok x) H1->tt [none,some (.str (tx [x.1])),some (.int (x.2:Nat))] H1 R)(oz:∀x∈rows,∀(H1:Hp)(Q:VK),(∀H2,Qn H1 H2->Q (val x) H2)->te [none,some (.str (tx [x.1])),some (.int (x.2:Nat))] H1 Q)(hd:∀q H1,Qn H H1->H1 q=none->Q (.ref q) (upd H1 q (.lst ((rows.filter ok).map val)))):UF NB (Cs K (Kz i)) (o4 K n (Us (QL 1) (Us (QL 2) Ak))) tt te σ H Q:=by
 have hz:=zza
 have hl:=R.le;have hlen:=R.len;exists _,hσ,p,Z,⟨_,R.sq⟩;refine Yv (xs:=rs.map V.ref) (λi vs H2=>Qn H H2/\vs=((rows.take i).filter ok).map val) ⟨Qn.refl H,Z⟩ ?_ ?_ ?_ (by lia)
 .rintro i vs H2 hi ⟨S,rfl⟩;exact⟨(R.same S).sq,by rw[tK];exact yap (ybj _ _) (by rw[tX];lia)⟩
 .rintro i x vs H2 hx ⟨S,rfl⟩;rw[lg]at hx;obtain⟨r,hr,rfl⟩:=ybq.mp hx;obtain⟨y,hy,g⟩:=(R.same S).rw.at' hr;subst hn;rw[dU];have hm:=lh hy;have Go:(rows.take (i+1)).filter ok=(rows.take i).filter ok++if ok y=true then[y]else[]:=by
   rw[yaK,hy,ybA]
   congr 1
   show List.filter ok [y]=_;rw[ybp];rfl
  exists r,_,Z,aw.of g,Z,_,_,Z,_,_,Z,Z;refine sG y hm _ _ ?_;rw[Go];cases ok y with
  |true=>exact QZ (oz y hm _ _ λH3 S3=>⟨S.trans S3,by simp⟩)
  |false=>exact QO ⟨S,by simp⟩
 .rintro vs H2 ⟨S,rfl⟩ q hq;rw[yat (by lia)];exact hd q H2 S hq
def Gx(K:Frag):Sp:=λvs H Q _=>∃(p:Addr)(rs:List Addr)(rows:List Rw),vs=[.ref p]/\au K H p rs rows/\Pos 100 rows/\(un rows).length<=1000/\∀H',Qn H H'->Q (.str (tx (un rows))) H'
def Qce(rows:List Rw):rows.filter (λ_=>true)=rows:=by simp
def YX(F:az K "written_out" "written_out" XE f fd)(O:Own mg):Zz1 P w K mg Y 1 f fd ["rows"] (Gx K):=by
 refine okN F YS (by nofun) λam A L s H vs Q E hr h=>?_
 obtain⟨p,rs,rows,rfl,R,hp,hl,k⟩:=h;have hz:=zza
 refine⟨_,(Qg (Qp (JL yaA ybR ybS X0 Qk (Qa (Z0 (NB:=[".0","symbol","many"]) Z ⟨Z,by rfl'⟩ (Xa (pv 0)) (λ_ _ _=>(K9 (K0:=K) (n:=2) Z Z (Qh (Qi (i:=1) (show([".0","symbol","many"]:List Str).Nodup by rfl') Z Zz0 (Or.inr Z)) (Qh (Qi (i:=2) (show([".0","symbol","many"]:List Str).Nodup by rfl') Z Zz0 (Or.inr Z)) Qz)))) (λ_ _ _=>Xb) (λ_ _ _=>(QG ZJ (pv 1) (pv 2)))) Qb)))),?_⟩;exists Z;refine Ul (p:=p) (rs:=rs) (rows:=rows) (λx=>.str (tx (replicate x.2 x.1))) (λ_=>true) rfl rfl rfl R (λx hx H1 R h=>h) (λx hx H1 Q h=>?_) (λq H1 S hq=>?_)
 .obtain⟨h1,h2,h3⟩:=hp x hx;refine⟨_,Z,_,Z,tx [x.1],(x.2:Int),Z,Z,by lia,by rw[Qu,lH,tP];lia,by lia,?_⟩;rw[lH,j0];exact h _ (Qn.refl _)
 .rw[Qce];have em:(rows.map λx=>V.str (tx (replicate x.2 x.1)))=((rows.map λx=>replicate x.2 x.1).map tx).map V.str:=by rw[lB,lB];rfl
  have ef:(rows.map λx=>replicate x.2 x.1).flatten=un rows:=by rw[un,List.flatMap_def]
  rw[em];refine⟨"",q,_,Z,Z,aC.of Qf,Qca (by rw[ef];exact hl),?_⟩;rw[ki,ef];exact k _ (S.trans (Qn.new hq))
structure cm(a l:List Nat)(x:Facts):Prop where
 pc:Q0 l=some x
 sh:Sh a l
 no:40∉a
 la:a.length<=100
 ll:l.length<=500
def Um:Sp:=λvs H Q _=>∃(a l:List Nat)(x:Facts),vs=[.str (tx l)]/\cm a l x/\∀H',Qn H H'->Q (.int ((a.filter YO).length:Nat)) H'
def vf(F:az K "size_of" "size_of" WD f fd)(O:Own mg)(gK:Def P w K mg Y 6 "understood" ["picture"] (qk K c)):Zz1 P w K mg Y 7 f fd ["picture"] Um:=by
 refine bN F W1 (by nofun) λam A L s H vs Q E hr h=>?_
 obtain⟨a,l,x,rfl,hp,k⟩:=h;have fr:=Jh (P:=P) (w:=w) (K:=K) (mg:=mg) (Y:=Y) (N:=["picture","rows","facts"]) (qual:="size_of") (scope:=Qe WD) (f:=f) (cd:=am) (A:=A) (L:=L) (s:=s) (H:=H) (E:=E);have hx:=QH fr;have hla:=hp.la;have Gs:("S":Str)=tx [83]:=by rfl'
 have e86:("V":Str)=tx [86]:=by rfl'
 refine⟨_,(Qd (QW (gK.pq hr hx (Qa (pv 0) Qb)) (QM Z (Qh (Qi (i:=1) W1.nd Z Zz0) (Qh (Qi (i:=2) W1.nd Z Zz0) Qz))))
  (Qg (Qp (Qx (xN Z) Z O.sum L2.boot_sum (Qa (Z0 (NB:=[".0","symbol","many"]) Z ⟨Z,by rfl'⟩ (Xa (pv 1)) (λ_ _ _=>(K9 (K0:=K) (n:=2) Z Z (Qh (Qi (i:=1) (show([".0","symbol","many"]:List Str).Nodup by rfl') Z Zz0 (Or.inr Z)) (Qh (Qi (i:=2) (show([".0","symbol","many"]:List Str).Nodup by rfl') Z Zz0 (Or.inr Z)) Qz)))) (λ_ _ _=>(V2 (PW.pt (Zx (Ql Xl (pv 1) Qk (Qq _)) (J0 (Ql Xl (pv 1) Qk (Qq _))))))) (λ_ _ _=>(pv 2))) Qb))))),?_⟩
 refine⟨_,Z,l,Z,hp.ll,(λz=>by rw[hp.pc]at z;cases z),λx2 e q p rs r H1 S1 g1 g2 R1=>?_⟩;exists q,_,Z,aw.of g1,Z,_,_,Z,_,_,Z,Z;dsimp only[i8,lI,Jf,WM];refine Ul (p:=p) (rs:=rs) (rows:=rowsOf l) (λx=>.int (x.2:Nat)) (λx=>YO x.1) rfl rfl rfl R1 (λx hx H1 R h=>?_) (λx hx H1 Q h=>⟨_,Z,h _ (Qn.refl _)⟩) (λq H2 S hq=>?_)
 .have hd:YO x.1=(!decide (x.1=83)&& !decide (x.1=86)):=by
   unfold YO
   by_cases z1:x.1=83<;>by_cases z2:x.1=86<;>simp[z1,z2]
  rw[hd]at h;exists _,Z,Z,_,Z;rw[Gs,JU];cases h1:decide (x.1=83)with
  |true=>rw[h1]at h;exact QO h
  |false=>
   rw[h1]at h;refine QZ ⟨_,Z,Z,_,Z,?_⟩;rw[e86,JU];exact h
 .have em:(((rowsOf l).filter λx=>YO x.1).map λx=>V.int (x.2:Nat))=(((rowsOf l).filter λx=>YO x.1).map λx=>((x.2:Nat):Int)).map V.int:=by rw[lB];rfl
  have es:∀rows:List Rw,(rows.map λx=>((x.2:Nat):Int)).sum=(((rows.map (·.2)).sum:Nat):Int):=by
   intro rows
   induction rows with
   |nil=>rfl
   |cons y r ih=>rw[lC,List.sum_cons,ih,lC,List.sum_cons];push_cast;rfl
  rw[em];exists q,_,Z,aC.of Qf;rw[es];have:=Tt a;rw[<-jH hp.sh]at this;unfold cD at this;rw[this];exact k _ (S1.trans (S.trans (Qn.new hq)))
def qp(x:Facts):Prop:=x.kind=2/\1<=x.before+x.behind/\x.before+x.behind<=18
def Gy(l:List Nat):Prop:=∀x,Q0 l=some x->x.kind≠2
def kl(K:Frag)(c:Nat->Addr):Sp:=λvs H Q E=>∃(l:List Nat)(p:Addr)(u o:Int),vs=[.str (tx l),.ref p]/\l.length<=500/\cb K H p u o/\
 ((Gy l/\∀H',Qn H H'->E (.ref (c 2)) none H')\/∃x,Q0 l=some x/\qp x/\∀H',Qn H H'->Q (.str (tx (cont x.signed x.before x.behind u o))) H')
def MC(h:n<10^k)(hk:k<=18):n<10^18:=yam h (ybm (by lia) hk)
def MD(i:Int):(if i<0 then-i else i)=((i.natAbs:Nat):Int):=by split<;>lia
def qr(F:az K "content_of" "content_of" Z5 f fd)(O:Own mg)(T:Txt K mg tk c kr)(hG:Def P w K mg Y 6 "understood_as" ["kind","picture"] (Wb K c))(m8:Def P w K mg Y 3 "fitted" ["amount","before","behind"] (Dk K))(gL:Def P w K mg Y 2 "figures_of" ["number"] kj):Zz1 P w K mg Y 7 f fd ["picture","amount"] (kl K c):=by
 refine bN F Jx (by nofun) λam A L s H vs Q E hr h=>?_
 obtain⟨l,p,u,o,rfl,hl,qMa,hc⟩:=h;have hz:=zza
 have fr:=Jh (P:=P) (w:=w) (K:=K) (mg:=mg) (Y:=Y) (N:=["picture","amount","rows","signed","before","behind","units","figures"]) (qual:="content_of") (scope:=Qe Z5) (f:=f) (cd:=am) (A:=A) (L:=L) (s:=s) (H:=H) (E:=E);have hx:=QH fr;refine⟨_,(Qd (QW (hG.pq hr hx (Qa Qk (Qa (pv 0) Qb))) (QM Z (Qh (Qi (i:=2) Jx.nd Z Zz0) (Qh (QM Z (Qh (Qi (i:=3) Jx.nd Z Zz0) (Qh (Qi (i:=4) Jx.nd Z Zz0) (Qh (Qi (i:=5) Jx.nd Z Zz0) Qz)))) Qz))))
  (Qd (Qt (i:=6) Jx.nd Z Zz0 (m8.pq hr hx (Qa (pv 1) (Qa (pv 4) (Qa (pv 5) Qb)))))
  (Qd (Qt (i:=7) Jx.nd Z Zz0 (JL yaA slot_str_zfill type_str_zfill UI (gL.pq hr hx (Qa (Qx Xw Z O.abs yeX (Qa (pv 6) Qb)) Qb)) (Qa (QG Jj (pv 4) (pv 5)) Qb)))
  (Qd (QN (PW.pt (Zx (Je (pv 3) (λ_=>rfl)) (J0 (Ql Vq (pv 6) Qj (Qq _))))) (Qg (Qp (QG Ji (QR Zc (pv 7) JK (QQ (Wi ZX Qj))) (QC Wl (QK (v:=V.str "pqrstuvwxy") Z T.gx ⟨_,Z⟩) (XZ Wq Z O.int boot_int (Qa (QC Wl (pv 7) (Wi ZX Qj) (λ_ _=>rfl)) Qb)) (λ_ _=>rfl))))) Qw)
  (Qg (Qp (pv 7))))))),?_⟩
 rcases hc with⟨ST,k⟩|⟨x,pr,⟨Bo,h1,eT⟩,k⟩
 .exact⟨_,Z,l,2,Z,hl,by lia,λ_=>k,λx hp hk=>absurd hk (ST x hp)⟩
 refine⟨_,Z,l,2,Z,hl,by lia,(λz=>absurd Bo (z x pr).2),λx' hp _ q p1 rs r H1 S1 g1 g2 R1=>?_⟩;obtain rfl:x=x':=tO (pr.symm.trans hp);exists q,_,Z,aw.of g1,Z,_,_,Z,_,_,Z,r,_,Z,aw.of g2,Z,_,_,Z,_,_,Z,_,_,Z,Z,Z;refine⟨_,Z,_,Z,_,Z,p,u,o,x.before,x.behind,Z,qMa.same S1,eT,λH2 S2=>?_⟩;have fL:=Uk u o x.before x.behind;generalize lL:fit u o x.before x.behind=v at fL;have k:∀H',Qn H H'->Q (.str (tx (if x.signed=true/\v<0 then qm (pad v.natAbs (x.before+x.behind))else pad v.natAbs (x.before+x.behind)))) H':=λH' S=>by
  have:=k H' S;unfold cont at this;rw[lL]at this;exact this
 have oC:x.before+x.behind<=1000:=by lia
 have LT:((x.before:Nat):Int)+((x.behind:Nat):Int)=((x.before+x.behind:Nat):Int):=by lia
 generalize x.before+x.behind=n at h1 eT fL k oC LT;have Bp:=UO fL h1;have iV:=UN v.natAbs n;have Bq:=LD v.natAbs n;have ezf:=jK v.natAbs h1;refine⟨_,Z,v,Z,v.natAbs,by rw[MD];rfl,MC fL eT,λH3 S3=>⟨Z,_,Z,_,Z,_,_,Z,Z,tx (dec v.natAbs),((x.before:Nat):Int)+((x.behind:Nat):Int),Z,Z,Wa (by lia) (by lia),?_⟩⟩;rw[LT,ezf];generalize pad v.natAbs n=pl at k Bp iV Bq;have lw:=(S1.trans S2).trans S3;have AC:=Qu pl;exists _,Z,x.signed,Z;cases Gz:x.signed with
 |false=>
  rw[Gz]at k;exact QO (QO ⟨_,Z,k _ lw⟩)
 |true=>
  rw[Gz]at k;refine QZ ⟨_,Z,_,_,Z,Z,_,Z,?_⟩
  by_cases hv:v<0
  .rw[tM hv];have k:=k H3 lw;rw[yai ⟨Z,hv⟩]at k;obtain⟨d,dF,hd2⟩:=WU Bq;have dM:NumText.AllDigits [d]:=λz hz=>iV z (by rw[dF];exact tR _ hz);have mo:=dM d (yao.mpr Z);refine QZ ⟨_,Z,_,Z,_,Z,tx pl,Z,by lia,?_⟩;rw[Uc];have Op:cA pl (-1)=some d:=by
    rw[dF];exact Uz _ _
   refine⟨_,Z,_,Z,tx pl, -1,d,Z,Z,by lia,Op,tx [d],_,Z,yeZ dM (by simp) (by rw[Qu];simp),by rw[Qu];simp,?_⟩;exists "pqrstuvwxy",_,d+64,Z,Z,by rfl',?_,_,_,Z,Z,?_
   .show cA ("pqrstuvwxy":Str).cps.toList ((NumText.digitsVal [d]:Nat):Int)=_;rw[TK dM];exact Zr (TH d (by lia) (by lia))
   .show(tx pl.dropLast).length+(tx [d+64]).length<=sizeLine;rw[Qu,Qu,ybZ];simp;lia
   .show Q (.str (tx pl.dropLast++tx [d+64])) H3;rw[Z1];have e:qm pl=pl.dropLast++[d+64]:=by unfold qm;rw[hd2];rfl
    rw[e]at k;exact k
  .rw[tL hv];have k:=k H3 lw;rw[yag (λz=>hv z.2)]at k;exact QO ⟨_,Z,k⟩
def Qet{i:Nat}{c:Bool}(hσ:σ[i]? =some (some (.bl c)))(Good:V->Hp->Prop)(hT:c=true->(∀v H',Good v H'->Q v H')->tb σ H Q)(hF:c=false->Good (.bl false) H)(rest:∀v H',Good v H'->Q v H'):Ep (Kz i) tb σ H Q:=by
 exists _,hσ,c,Z;cases c with
 |true=>rw[yai rfl];exact hT rfl rest
 |false=>rw[yag (by lia)];exact rest _ _ (hF Z)
def z7(K:Frag)(c:Nat->Addr):Sp:=λvs H Q E=>∃(l t:List Nat),vs=[.str (tx l),.str (tx t)]/\l.length<=500/\t.length<=100/\
 ((Gy l/\∀H',Qn H H'->E (.ref (c 2)) none H')\/∃x,Q0 l=some x/\qp x/\
  (¬ ve x.signed x.before x.behind t->∀H',Qn H H'->E (.ref (c 5)) none H')/\(ve x.signed x.before x.behind t->∀q H',Qn H H'->H q=none->H' q=some (.tup [.int (ZR x.signed t),.int (x.behind:Nat)])->Q (.ref q) H'))
def Qcf(h1:112<=d)(h2:d<=121):Txt.find "pqrstuvwxy" (tx [d])=((d-112:Nat):Int):=by
 have key:∀k:Nat,k<10->Txt.find "pqrstuvwxy" (tx [k+112])=((k:Nat):Int):=by rfl'
 have:=key (d-112) (by lia);rw[show d-112+112=d by lia]at this;exact this
def Qgh(h:k<10):("0123456789":Str).cps.toList[k]? =some (k+48):=by
 have key:∀k:Nat,k<10->("0123456789":Str).cps.toList[k]? =some (k+48):=by rfl'
 exact key k h
def Qeu(h:([112,113,114,115,116,117,118,119,120,121]:List Nat).contains d=true):112<=d/\d<=121:=(by decide:∀d∈([112,113,114,115,116,117,118,119,120,121]:List Nat),112<=d/\d<=121) d (yay.mp h)
def j4(F:az K "amount_in" "amount_in" XJ f fd)(O:Own mg)(T:Txt K mg tk c kr)(hG:Def P w K mg Y 6 "understood_as" ["kind","picture"] (Wb K c))(gj:Def P w K mg Y 1 "is_figures" ["text"] Ys)(hZ:Def P w K mg Y 2 "number_of" ["text"] wW):Zz1 P w K mg Y 7 f fd ["picture","content"] (z7 K c):=by
 refine bN F Jl (by nofun) λam A L s H vs Q E hr h=>?_
 obtain⟨l,t,rfl,hl,htl0,hc⟩:=h;have hz:=zza
 have fr:=Jh (P:=P) (w:=w) (K:=K) (mg:=mg) (Y:=Y) (N:=["picture","content","rows","signed","before","behind","last","is_below","figures","units"]) (qual:="amount_in") (scope:=Qe XJ) (f:=f) (cd:=am) (A:=A) (L:=L) (s:=s) (H:=H) (E:=E);have ht:=Jp fr;have hx:=QH fr;refine⟨_,(Qd (QW (hG.pq hr hx (Qa Qk (Qa (pv 0) Qb))) (QM Z (Qh (Qi (i:=2) Jl.nd Z Zz0) (Qh (QM Z (Qh (Qi (i:=3) Jl.nd Z Zz0) (Qh (Qi (i:=4) Jl.nd Z Zz0) (Qh (Qi (i:=5) Jl.nd Z Zz0) Qz)))) Qz))))
  (Qd (QN (Ql Xl (Qx Q2 Z O.len ybb (Qa (pv 1) Qb)) (QG Jj (pv 4) (pv 5)) (Qq _)) (Qg (JD ht Z Z T.mL T.mM (Qa Qk Qb))) Qw)
  (Qd (Qt (i:=6) Jl.nd Z Zz0 (QC Wl (pv 1) (Wi ZX Qj) (λ_ _=>rfl)))
  (Qd (Qt (i:=7) Jl.nd Z Zz0 (Y6 (pv 3) (Y5 (JS Zl (pv 6) (QK (v:=V.str "pqrstuvwxy") Z T.gx ⟨_,Z⟩) (by with_unfolding_all rfl)))))
  (Qd (Qt (i:=8) Jl.nd Z Zz0 (Jd (Je (pv 7) (λ_=>rfl)) (QG Ji (QR Zc (pv 1) JK (QQ (Wi ZX Qj))) (QC Wl (QK (v:=V.str "0123456789") Z T.gU ⟨_,Z⟩) (JL yaA slot_str_find type_str_find RQ (QK (v:=V.str "pqrstuvwxy") Z T.gx ⟨_,Z⟩) (Qa (pv 6) Qb)) (λ_ _=>rfl))) (pv 1)))
  (Qd (QN (Wf (XX (gj.pq hr hx (Qa (pv 8) Qb)))) (Qg (JD ht Z Z T.mL T.mM (Qa Qk Qb))) Qw)
  (Qd (Qt (i:=9) Jl.nd Z Zz0 (hZ.pq hr hx (Qa (pv 8) Qb)))
  (Qg (Qp (Qs (Qa (Jd (Je (pv 7) (λ_=>rfl)) (Wi ZX (pv 9)) (pv 9)) (Qa (pv 5) Qb)))))))))))),?_⟩
 rcases hc with⟨ST,k⟩|⟨x,pr,⟨Bo,h1,eT⟩,kE,kQ⟩
 .exact⟨_,Z,l,2,Z,hl,by lia,λ_=>k,λx hp hk=>absurd hk (ST x hp)⟩
 refine⟨_,Z,l,2,Z,hl,by lia,(λz=>absurd Bo (z x pr).2),λx' hp _ q p1 rs r H1 S1 g1 g2 R1=>?_⟩;obtain rfl:x=x':=tO (pr.symm.trans hp);exists q,_,Z,aw.of g1,Z,_,_,Z,_,_,Z,r,_,Z,aw.of g2,Z,_,_,Z,_,_,Z,_,_,Z,Z,Z;have AC:=Qu t;have LT:((x.before:Nat):Int)+((x.behind:Nat):Int)=((x.before+x.behind:Nat):Int):=by lia
 exists _,Z,tx t,Z,by lia,_,Z,_,Z,_,_,Z,Z,Z,_,Z;rw[vY,AC]
 by_cases hlen:t.length=x.before+x.behind
 .rw[tL (by rw[LT];lia)];have GA:t≠[]:=λz=>by rw[z]at hlen;simp at hlen;lia
  obtain⟨d,dF,hd2⟩:=WU GA;have Op:cA t (-1)=some d:=by
   rw[dF];exact Uz _ _
  refine QO ⟨_,Z,_,Z,tx t, -1,d,Z,Z,by lia,Op,?_⟩;have oE:XR x.signed t=(x.signed&&([112,113,114,115,116,117,118,119,120,121]:List Nat).contains d):=by unfold XR;rw[hd2];rfl
  dsimp only[QL,Za,Zb];refine Qet (c:=x.signed) rfl (λv H'=>v=.bl (XR x.signed t)/\H'=H1) (λz rest=>?_) (λz=>?_) ?_
  .refine⟨_,Z,_,_,Z,Z,rest _ _ ⟨?_,Z⟩⟩;rw[show(⟨#[d]⟩:Str)=tx [d]from rfl,TJ,Xn,oE,z];rfl
  .exact⟨by rw[oE,z];rfl,Z⟩
  rintro v H2 ⟨rfl,rfl⟩;exists _,Z,_,Z;have At:(Zq x.signed t).length=t.length:=by
   unfold Zq
   split
   .rw[tJ,ybZ];simp;lia
   .rfl
  refine V1 (λv H'=>v=.str (tx (Zq x.signed t))/\H'=H2) (λz rest=>?_) (λz rest=>?_) ?_
  .have ME:=Qeu (d:=d) (by rw[oE]at z;exact(Bool.and_eq_true_iff.mp z).2);refine⟨_,Z,_,Z,_,Z,tx t,Z,by lia,?_⟩;rw[Uc];exists Z,_,Z,"pqrstuvwxy",tx [d],Z,Z,trivial;exists "0123456789",((d-112:Nat):Int),d-112+48,Z,yaF V.int (Qcf ME.1 ME.2),by rfl',Zr (Qgh (by lia)),_,_,Z,Z,?_
   .show(tx t.dropLast).length+(tx [d-112+48]).length<=sizeLine;rw[Qu,Qu,ybZ];simp;lia
   .show _;refine rest _ _ ⟨?_,Z⟩;show V.str (tx t.dropLast++tx [d-112+48])=_;rw[Z1];unfold Zq;rw[yai z,hd2];show V.str (tx (t.dropLast++[d-112+48]))=V.str (tx (t.dropLast++[d-64]));rw[show d-112+48=d-64 by lia]
  .exact⟨_,Z,rest _ _ ⟨by unfold Zq;rw[yag (by rw[z];lia)],Z⟩⟩
  rintro v H3 ⟨rfl,rfl⟩;have htf:=Qu (Zq x.signed t);exists _,Z,tx (Zq x.signed t),Z,by lia,_,Z;rw[WQ];have GB:Zq x.signed t≠[]:=λz=>by rw[z]at At;simp at At;lia
  by_cases Br:NumText.AllDigits (Zq x.signed t)
  .rw[tM ⟨GB,Br⟩];refine QO ⟨_,Z,tx (Zq x.signed t),Z,Br,by lia,?_⟩;rw[WQ];exists _,Z,_,Z;have fin:∀H',H'=H3->Q=Q->(∀q,H' q=none->Q (.ref q) (upd H' q (.tup [.int (ZR x.signed t),.int (x.behind:Nat)]))):=by
    rintro H' rfl _ q hq;refine kQ ⟨hlen,Br⟩ q _ (S1.trans (Qn.new hq)) ?_ Qf;cases e:H q with
    |none=>rfl
    |some o=>rw[S1 _ _ e]at hq;cases hq
   refine V1 (λv H'=>v=.int (ZR x.signed t)/\H'=H3) (λz rest=>?_) (λz rest=>?_) ?_
   .exact⟨_,Z,_,Z,rest _ _ ⟨by unfold ZR;rw[yai z],Z⟩⟩
   .exact⟨_,Z,rest _ _ ⟨by unfold ZR;rw[yag (by rw[z];lia)],Z⟩⟩
   rintro v H4 ⟨rfl,rfl⟩;exact⟨_,Z,bj,fin _ rfl rfl⟩
  .rw[tL λz=>Br z.2];exact QZ ⟨eN,kE (λz=>Br z.2) _ S1⟩
 .rw[tM (by rw[LT];lia)];exact QZ ⟨eN,kE (λz=>hlen z.1) _ S1⟩
end
open PySem PySem.Spec PyProof.Rows L2 bW bt dW cU
section
variable {P:Program}{w:World}{K:Frag}{mg:Str->Option Value}{Y:Heap}{f:Addr}{fd:FuncData}{tk:Nat->Tok}{c kr:Nat->Addr}
noncomputable def dv(ps:List (Nat × Nat)):List (Key × V):=ps.map λx=>(Sum.inr (tx [x.1]),V.str (tx [x.2]))
def GC(c:Nat):∀ps:List (Nat × Nat),Vr (dv ps) (Sum.inr (tx [c]):Key)=(ps.lookup c).map λd=>V.str (tx [d]):=by
 intro ps
 induction ps with
 |nil=>rfl
 |cons x r ih=>
  obtain⟨a,b⟩:=x;unfold Vr dv at ih ⊢;rw[lC,yce,ybB]
  by_cases h:a=c
  .subst h;simp
  .have n1:decide ((Sum.inr (tx [a]):Key)=Sum.inr (tx [c]))=false:=tL λz=>h (ycC (jE (ydN z))).1;have n2:(c==a)=false:=yau.mpr λz=>h z.symm;rw[n1,n2];exact ih
noncomputable def MF:List (Nat × Nat):=[(44,44),(66,32),(48,48),(47,47),(46,46)]
noncomputable def MG:List (Nat × Nat):=[(36,36),(43,43),(45,32),(67,32),(82,32),(68,32),(66,32)]
noncomputable def MH:List (Nat × Nat):=[(36,36),(43,45),(45,45),(67,67),(82,82),(68,68),(66,66)]
noncomputable def sO:List (Key × V):=[(Sum.inr ",",.str ","),(Sum.inr "B",.str " "),(Sum.inr "0",.str "0"),(Sum.inr "/",.str "/"),(Sum.inr ".",.str ".")]
noncomputable def Bs:List (Key × V):=[(Sum.inr "$",.str "$"),(Sum.inr "+",.str "+"),(Sum.inr "-",.str " "),(Sum.inr "C",.str " "),(Sum.inr "R",.str " "),(Sum.inr "D",.str " "),(Sum.inr "B",.str " ")]
noncomputable def Bt:List (Key × V):=[(Sum.inr "$",.str "$"),(Sum.inr "+",.str "-"),(Sum.inr "-",.str "-"),(Sum.inr "C",.str "C"),(Sum.inr "R",.str "R"),(Sum.inr "D",.str "D"),(Sum.inr "B",.str "B")]
def Qgi:sO=dv MF:=by rfl'
def QhF:Bs=dv MG:=by rfl'
def QhG:Bt=dv MH:=by rfl'
def km(c:Nat):Vr sO (Sum.inr (tx [c]):Key)=(bH c).map λd=>V.str (tx [d]):=by
 rw[Qgi,GC]
 congr 1
 unfold MF bH
 by_cases h1:c=44
 .subst h1;rfl
 .by_cases h2:c=66
  .subst h2;rfl
  .by_cases h3:c=48
   .subst h3;rfl
   .by_cases h4:c=47
    .subst h4;rfl
    .by_cases h5:c=46
     .subst h5;rfl
     .have e:∀a:Nat,c≠a->(c==a)=false:=λa h=>yau.mpr h;simp[ybB,h1,h2,h3,h4,h5,e 44 h1,e 66 h2,e 48 h3,e 47 h4,e 46 h5]
noncomputable def cE:List Nat:=[36,43,45,67,82,68,66]
def QhH{c:Nat}(h:c∈cE):Vr Bs (Sum.inr (tx [c]):Key)=some (.str (tx [bG false c])):=by
 rw[QhF,GC];have:∀c∈cE,MG.lookup c=some (bG false c):=by lia
 rw[this c h];rfl
def QhI{c:Nat}(h:c∈cE):Vr Bt (Sum.inr (tx [c]):Key)=some (.str (tx [bG true c])):=by
 rw[QhG,GC];have:∀c∈cE,MH.lookup c=some (bG true c):=by lia
 rw[this c h];rfl
def Wc(h:∀x∈l,x<128):(tx l).cps.all (· <128)=true:=by
 rw[Array.all_eq_true'];intro x hx;have:x∈l:=by simpa using hx
 simpa using h x this
def Qgj{c:Nat}(h:c∈cE):c<128:=by
 have:∀c∈cE,c<128:=by lia
 exact this c h
def MI:("*":Str)=tx [42]:=by rfl'
def z8:(" ":Str)=tx [32]:=by rfl'
def QiS:(".":Str)=tx [46]:=by rfl'
def MJ:("0":Str)=tx [48]:=by rfl'
def MK:("9":Str)=tx [57]:=by rfl'
def ML:("+-$":Str)=tx [43,45,36]:=by rfl'
def Qgk:(",B0/":Str)=tx [44,66,48,47]:=by rfl'
def len_signs{tl:TE}{tt:TT}(ok:Nat->Bool)(dU:NB.length=2)(ha:∀x∈l,x<128)(hl:l.length<=900)(h:∀R:VK,R (.str (tx l)) H->tl σ H R)(sG:∀(y:Nat)(H1:Hp)(R:Bool->Hp->Prop),R (ok y) H1->tt [none,some (.str (tx [y]))] H1 R)(k:∀H',Qn H H'->Q (.int ((l.filter ok).length:Nat)) H'):lI (λxs H Q=>∃p ys,xs=[.ref p]/\(aC K H p ys\/aw K H p ys)/\Q (.int (ys.length:Nat)) H) (Jf (UF NB (CG tl) (QL 1) tt (Kz 1)) WM) σ H Q:=by
 have hz:=zza
 have AC:=Qu l;dsimp only[lI,Jf,WM];refine xP (z:=tx l) (λm vs H2=>vs=((l.take m).filter ok).map (λc=>V.str (tx [c]))/\H2=H) h (Wc ha) ⟨Z,Z⟩ (λm vs H hm⟨e,_⟩=>?_) ?_ ?_ (by show(tx l).length<sizeLine;lia)
 .rw[e,tK];exact yap (ybj _ _) (by rw[tX];lia)
 .rintro m cc vs H1 hx ⟨rfl,rfl⟩;have EQ:l[m]? =some cc:=by simpa using hx
  have Go:l.take (m+1)=l.take m++[cc]:=by rw[yaK,EQ];rfl
  rw[show(⟨#[cc]⟩:Str)=tx [cc]from rfl,dU];refine sG cc _ _ ?_;rw[Go,ybA];cases hn:ok cc with
  |true=>
   refine QZ ⟨_,Z,?_,Z⟩;rw[ybp,yai hn];simp
  |false=>
   refine QO ⟨?_,Z⟩;rw[ybp,yag (by rw[hn];lia)];simp
 .rintro vs H1 ⟨rfl,rfl⟩ pv hpv;rw[yat (show l.length<=(tx l).cps.size by simp)];exists pv,_,Z,.inl (aC.of Qf);rw[tK];exact k _ (Qn.new hpv)
def ko:Sp:=λvs H Q _=>∃(l:List Nat)(b:Bool),vs=[.str (tx l),.bl b]/\l.length<=100/\(∀x∈l,x∈cE)/\∀H',Qn H H'->Q (.str (tx (l.map (bG b)))) H'
def j5(F:az K "sign_text" "sign_text" KU f fd)(T:Txt K mg tk c kr)(KN:aD P w K (kr 4) Bs)(KW:aD P w K (kr 5) Bt):Zz1 P w K mg Y 1 f fd ["symbols","is_below"] ko:=by
 refine okN F jS (by nofun) λam A L s H vs Q E hr h=>?_
 obtain⟨l,b,rfl,hl,hs,k⟩:=h;have hz:=zza
 have AC:=Qu l;refine⟨_,(Qg (Qp (JL yaA ybR ybS X0 Qk (Qa (Wt (NB:=[".0","symbol"]) (FR:=["is_below"]) (fi:=[1]) Z ⟨Z,by rfl'⟩ Z Z (xO (pv 0)) (λ_ _ _=>(Qi (i:=1) (show([".0","symbol","is_below"]:List Str).Nodup by rfl') Z Zz0)) (λ_ _ _=>Xb) (λ_ _ _=>(Jd (yt (K0:=K) Z (pv 2) (λ_=>rfl)) (Ws KW (QK (v:=V.ref (kr 5)) Z T.pO Z) (pv 1) (λ_ _=>rfl)) (Ws KN (QK (v:=V.ref (kr 4)) Z T.mh Z) (pv 1) (λ_ _=>rfl))))) Qb)))),?_⟩;exists Z;refine yr (z:=tx l) (fv:=[.bl b]) (λm vs H2=>vs=((l.take m).map (bG b)).map (λc=>V.str (tx [c]))/\H2=H) (λR h=>⟨_,Z,h⟩) (Wc λx hx=>Qgj (hs x hx)) rfl ⟨Z,Z⟩ (λm vs H hm⟨e,_⟩=>?_) ?_ ?_ (by show(tx l).length<sizeLine;lia)
 .rw[e,tK,tK,tX];lia
 .rintro m cc vs H1 hx ⟨rfl,rfl⟩;have EQ:l[m]? =some cc:=by simpa using hx
  have hm:=hs cc (lh EQ);have Go:l.take (m+1)=l.take m++[cc]:=by rw[yaK,EQ];rfl
  rw[show(⟨#[cc]⟩:Str)=tx [cc]from rfl];exists Z;dsimp only[fo];refine QZ ⟨_,Z,b,Z,?_⟩;have fin:∀bb:Bool,bb=b->((l.take m).map (bG b)).map (λc=>V.str (tx [c]))++[.str (tx [bG bb cc])]=((l.take (m+1)).map (bG b)).map (λc=>V.str (tx [c])):=λbb e=>by rw[Go,e];simp
  cases b with
  |true=>exact QZ ⟨_,Z,Sum.inr (tx [cc]),_,Z,Z,QhI hm,fin true rfl,Z⟩
  |false=>exact QO ⟨_,Z,Sum.inr (tx [cc]),_,Z,Z,QhH hm,fin false rfl,Z⟩
 .rintro vs H1 ⟨rfl,rfl⟩ q hq;rw[yat (show l.length<=(tx l).cps.size by simp)];refine⟨"",q,(l.map (bG b)).map λc=>tx [c],Z,Z,aC.of (by rw[Qf,lB (f:=λc=>tx [c])];rfl),WT (by rw[tK];lia),?_⟩;rw[Xo];exact k _ (Qn.new hq)
def xa:Sp:=λvs H Q _=>∃(d:Nat)(r:List Nat),vs=[.str (tx (d::r))]/\r.length<=200/\Q (.bl (!(d::r).contains 57&& !bZ d)) H
def Yz(F:az K "hides_nought" "hides_nought" Xi f fd)(T:Txt K mg tk c kr):Zz1 P w K mg Y 1 f fd ["body"] xa:=by
 refine okN F Yn (by nofun) λam A L s H vs Q E hr h=>?_
 obtain⟨d,r,rfl,hl,k⟩:=h;have hz:=zza
 refine⟨_,(Qg (Qp (Y6 (JS Zm Qk (pv 0) (by with_unfolding_all rfl)) (Y5 (JS Zm (QC Wl (pv 0) Qj (λ_ _=>rfl)) (QK (v:=V.str "+-$") Z T.gD ⟨_,Z⟩) (by with_unfolding_all rfl)))))),?_⟩;exists _,Z,_,_,Z,Z,_,Z;rw[MK,Xn];cases h1:(d::r).contains 57 with
 |true=>rw[h1]at k;exact QO k
 |false=>
  rw[h1]at k;have h0:(d::r)[0]? =some d:=rfl;refine QZ ⟨_,Z,tx (d::r),(0:Int),d,Z,Z,by rw[Qu,tQ];lia,Zr h0,_,_,Z,Z,?_⟩;rw[show(⟨#[d]⟩:Str)=tx [d]from rfl,ML,Xn];exact k
def qt:Sp:=λvs H Q _=>∃l:List Nat,vs=[.str (tx l)]/\l.length<=200/\(∀x∈l,x<128)/\∀H',Qn H H'->Q (.str (tx (KH l))) H'
def YY(F:az K "nought_text" "nought_text" XI f fd)(O:Own mg):Zz1 P w K mg Y 1 f fd ["symbols"] qt:=by
 refine okN F YT (by nofun) λam A L s H vs Q E hr h=>?_
 obtain⟨l,rfl,hl,ha,k⟩:=h;have hz:=zza
 have AC:=Qu l;refine⟨_,(Qd (QN (Ql Zm Qk (pv 0) (by with_unfolding_all rfl)) (Qg (Qp (QG ZJ Qk (Qx Q2 Z O.len ybb (Qa (pv 0) Qb))))) Qw)
  (Qg (Qp (JL yaA ybR ybS X0 Qk (Qa (Z0 (NB:=[".0","symbol"]) Z ⟨Z,by rfl'⟩ (xO (pv 0)) (λ_ _ _=>(Qi (i:=1) (show([".0","symbol"]:List Str).Nodup by rfl') Z Zz0)) (λ_ _ _=>Xb) (λ_ _ _=>(Jd (Ql Jk (pv 1) Qk (Qq _)) Qk Qk))) Qb))))),?_⟩
 exists _,Z,_,_,Z,Z,_,Z;rw[MI,Xn];cases f8:l.contains 42 with
 |false=>
  have hn:KH l=replicate l.length 32:=by unfold KH;rw[yag (λz=>by rw[yay.mpr z]at f8;cases f8)]
  rw[hn]at k;refine QZ ⟨_,Z,tx l,Z,by lia,?_⟩;rw[z8];refine⟨tx [32],((tx l).length:Int),Z,Z,by lia,by rw[Qu,lH,tP];lia,by lia,?_⟩;rw[lH,j0,AC];exact k _ (Qn.refl _)
 |true=>
  have hn:KH l=l.map (λc=>if c=46 then 46 else 42):=by unfold KH;rw[yai (yay.mp f8)]
  rw[hn]at k;refine QO ⟨Z,?_⟩;refine xP (z:=tx l) (λm vs H2=>vs=((l.take m).map (λc=>if c=46 then 46 else 42)).map (λc=>V.str (tx [c]))/\H2=H) (λR h=>⟨_,Z,h⟩) (Wc ha) ⟨Z,Z⟩ (λm vs H hm⟨e,_⟩=>?_) ?_ ?_ (by show(tx l).length<sizeLine;lia)
  .rw[e,tK,tK,tX];lia
  .rintro m cc vs H1 hx ⟨rfl,rfl⟩;have EQ:l[m]? =some cc:=by simpa using hx
   have Go:l.take (m+1)=l.take m++[cc]:=by rw[yaK,EQ];rfl
   rw[show(⟨#[cc]⟩:Str)=tx [cc]from rfl,QiS];dsimp only[QL,fo];refine QZ ⟨_,Z,Z,_,Z,?_⟩;rw[JU]
   by_cases Dr:cc=46
   .rw[tM Dr];exact QZ ⟨by rw[Go];simp[Dr],Z⟩
   .rw[tL Dr];exact QO ⟨by rw[Go];simp[Dr],Z⟩
  .rintro vs H1 ⟨rfl,rfl⟩ q hq;rw[yat (show l.length<=(tx l).cps.size by simp)];refine⟨"",q,(l.map (λc=>if c=46 then 46 else 42)).map λc=>tx [c],Z,Z,aC.of (by rw[Qf,lB (f:=λc=>tx [c])];rfl),WT (by rw[tK];lia),?_⟩;rw[Xo];exact k _ (Qn.new hq)
end
end Lw
namespace cU
open bW bt PySem.NumText
def MM:∀(l fs:List Nat),(bw l fs).length=l.length:=by
 intro l
 induction l with
 |nil=>intro fs;rfl
 |cons c r ih=>
  intro fs;cases h:bH c with
  |none=>rw[Kt h,tQ,tQ,ih]
  |some d=>rw[Ww h,tQ,tQ,ih]
def Qaq{l:List Nat}{i c:Nat}(h:l[i]? =some c):many (l.take (i+1))=many (l.take i)+(if bH c=none then 1 else 0):=by
 rw[yaK,h,Wv];show _+many [c]=_;rw[V8];rfl
def Qew(l:List Nat)(i:Nat):many (l.take i)+many (l.drop i)=many l:=by rw[<-Wv,ybW]
def kq{fs:List Nat}(h:fs[k]? =some x)(d:Nat):(fs.drop k).headD d=x/\(fs.drop k).tail=fs.drop (k+1):=by
 have hk:=(yaf.mp h).1;rw[yaI hk];have:fs[k]=x:=(yaf.mp h).2;exact⟨this,Z⟩
def MN:∀(l s:List Nat),bf l s<=l.length:=by
 intro l
 induction l with
 |nil=>intro s;exact tN _
 |cons c r ih=>
  intro s;rw[bf,tQ]
  split
  .exact lF _
  .exact Nat.succ_le_succ (ih _)
def Qex(h:bH c=some d):d<128:=by
 unfold bH at h
 repeat' (split at h)
 all_goals first|(cases h;lia)|cases h
def Qey:∀(l fs:List Nat),(∀x∈fs,x<128)->∀y∈bw l fs,y<128:=by
 intro l
 induction l with
 |nil=>intro fs _ y hy;cases hy
 |cons c r ih=>
  intro fs hf y hy;cases h:bH c with
  |none=>
   rw[Kt h]at hy;rcases yak.mp hy with rfl|hy
   .cases fs with
    |nil=>decide
    |cons a fs=>exact hf a tW
   .exact ih _ (λx hx=>hf x (List.mem_of_mem_tail hx)) y hy
  |some d=>
   rw[Ww h]at hy;rcases yak.mp hy with rfl|hy
   .exact Qex h
   .exact ih _ hf y hy
def Qez(u k:Nat):∀x∈pad u k,x<128:=λx hx=>by
 have h:=UN u k x hx;lia
end cU
namespace Lw
open PySem PySem.Spec PyProof.Rows L2 bW bt dW cU
open Builtin Builtin.Str StrLaws
section
variable {P:Program}{w:World}{K:Frag}{mg:Str->Option Value}{Y:Heap}{f:Addr}{fd:FuncData}{tk:Nat->Tok}{c kr:Nat->Addr}
def qu:Sp:=λvs H Q _=>∃(body:List Nat)(u:Nat),vs=[.str (tx body),.int (u:Nat)]/\body.length<=200/\(∀x∈body,x<128)/\u<10^18/\1<=many body/\u<10^many body/\∀H',Qn H H'->Q (.str (tx (bw body (pad u (many body))))) H'
def Qar(F:az K "spread" "spread" U5 f fd)(O:Own mg)(T:Txt K mg tk c kr)(KB:aD P w K (kr 3) sO)(gL:Def P w K mg Y 2 "figures_of" ["number"] kj):Zz1 P w K mg Y 3 f fd ["body","units"] qu:=by
 refine okN F ZP (by nofun) λam A L s H vs Q E hr h=>?_
 obtain⟨body,u,rfl,hl,ha,hu,eM,AZ,k⟩:=h;have hz:=zza
 have AC:=Qu body;have Me:many body<=body.length:=by unfold many;exact ybj _ _
 refine⟨_,(Qd (Qt (i:=3) ZP.nd Z Zz0 (Qx QJ Z O.len ybb (Qa (Z0 (NB:=[".0","symbol"]) Z ⟨Z,by rfl'⟩ (xO (pv 0)) (λ_ _ _=>(Qi (i:=1) (show([".0","symbol"]:List Str).Nodup by rfl') Z Zz0)) (λ_ _ _=>(V2 (JZ (WP KB (pv 1) (QK (v:=V.ref (kr 3)) Z T.mf Z)) (by with_unfolding_all rfl)))) (λ_ _ _=>(pv 1))) Qb)))
  (Qd (Qt (i:=4) ZP.nd Z Zz0 (JL yaA slot_str_zfill type_str_zfill UI (gL.pq hr Qr (Qa (pv 1) Qb)) (Qa (pv 3) Qb)))
  (Qd (Qt (i:=5) ZP.nd Z Zz0 (Wk Qb))
  (Qd (Qt (i:=6) ZP.nd Z Zz0 Qj)
  (Qd (ZW yaB Z (xO (pv 0)) (Qi (i:=2) ZP.nd Z Zz0) (Qg (QN (JZ (TC KB (pv 2) (QK (v:=V.ref (kr 3)) Z T.mf Z)) (by with_unfolding_all rfl)) (Qg (Q7 (JL yaC yaD yaE JO (pv 5) (Qa (Ws KB (QK (v:=V.ref (kr 3)) Z T.mf Z) (pv 2) (λ_ _=>rfl)) Qb)))) (Qd (Q7 (JL yaC yaD yaE JO (pv 5) (Qa (QC Wl (pv 4) (pv 6) (λ_ _=>rfl)) Qb)))
  (Qg (Wg (i:=6) ZP.nd Z Zz0 Qj Vi))))))
  (Qg (Qp (JL yaA ybR ybS X0 Qk (Qa (pv 5) Qb))))))))),?_⟩
 dsimp only[QL,Za,Zb,Q1];refine len_signs (l:=body) place rfl ha (by lia) (λR h=>⟨_,Z,h⟩) (λy H1 R h=>?_) λH1 S1=>?_
 .exists _,Z,Sum.inr (tx [y]),Z,Z,_,Z;rw[km];unfold place at h;cases e:bH y<;>rw[e]at h<;>exact h
 have T0:(body.filter place).length=many body:=rfl;rw[T0];refine⟨_,Z,u,Z,hu,λH2 S2=>⟨Z,_,Z,tx (dec u),(many body:Nat),Z,Z,Wa (by lia) (by lia),?_⟩⟩;rw[jK u eM];have At:=UO AZ eM;generalize Bh:pad u (many body)=rc at*;have hfl2:=Qu rc;refine⟨ot,λp hp=>?_⟩;have S03:Qn H (upd H2 p (.lst [])):=(S1.trans S2).trans (Qn.new hp);have MO:=S1.trans S2;refine⟨_,Z,tx body,Z,Wc ha,TR (z:=tx body) (λi σ H3=>∃x2 done,σ=[some (.str (tx body)),some (.int (u:Nat)),x2,some (.int (many body:Nat)),some (.str (tx rc)),some (.ref p),some (.int (many (body.take i):Nat))]/\H3=upd H2 p (.lst (done.map λc=>.str (tx [c])))/\done.length=i/\done++bw (body.drop i) (rc.drop (many (body.take i)))=bw body rc)
  ⟨none,[],Z,Z,Z,Z⟩ ?_ ?_⟩
 .rintro i cc σ H3 hx ⟨x2,done,rfl,rfl,Gc,hinv⟩;have EQ:body[i]? =some cc:=by simpa using hx
  have hi:=(yaf.mp EQ).1;have eP:body.drop i=cc::body.drop (i+1):=by
   rw[yaI hi]
   congr 1
   exact(yaf.mp EQ).2
  have Bu:=Qaq EQ;rw[show(⟨#[cc]⟩:Str)=tx [cc]from rfl];exists _,Z,Sum.inr (tx [cc]),Z,Z,_,Z;rw[km];have app:∀d:Nat,upd (upd H2 p (.lst (done.map λc=>V.str (tx [c])))) p (.lst ((done.map λc=>V.str (tx [c]))++[.str (tx [d])]))=upd H2 p (.lst ((done++[d]).map λc=>V.str (tx [c]))):=λd=>by
   funext b
   by_cases hb:b=p
   .subst hb;rw[Qf,Qf];simp
   .rw[Qo hb,Qo hb,Qo hb]
  cases FM:bH cc with
  |some d=>
   rw[eP,Ww FM]at hinv;refine QZ ⟨_,Z,.inl ⟨Z,_,.inl (.inl Qf)⟩,_,Z,Sum.inr (tx [cc]),_,Z,Z,by rw[km,FM];rfl,p,_,_,Z,Z,Qf,by rw[tK];lia,?_⟩;rw[app d];refine⟨some (.str (tx [cc])),done++[d],?_,Z,by rw[tJ,Gc];rfl,?_⟩
   .rw[Bu,yag (by rw[FM];simp)];rfl
   .rw[Bu,yag (by rw[FM];simp),lr];exact hinv
  |none=>
   have ap:many (body.take i)<rc.length:=by
    have:=Qew body (i+1);rw[Bu,yai FM]at this;lia
   obtain⟨g,hg⟩:∃g,rc[many (body.take i)]? =some g:=⟨_,yad ap⟩;obtain⟨e1,e2⟩:=kq hg 48;rw[eP,Kt FM,e1,e2]at hinv;refine QO ⟨_,Z,.inl ⟨Z,_,.inl (.inl Qf)⟩,_,Z,_,Z,tx rc,_,g,Z,Z,by lia,Zr hg,p,_,_,Z,Z,Qf,by rw[tK];lia,?_⟩;rw[show(⟨#[g]⟩:Str)=tx [g]from rfl,app g];refine⟨_,Z,_,_,Z,Z,some (.str (tx [cc])),done++[g],?_,Z,by rw[tJ,Gc];rfl,?_⟩
   .rw[Bu,yai FM];rfl
   .rw[Bu,yai FM,lr];exact hinv
 .rintro σ H3 ⟨x2,done,rfl,rfl,Gc,hinv⟩;have hsz:(tx body).cps.size=body.length:=by simp
  rw[hsz]at hinv Gc;rw[ycq (tN _)]at hinv;have hd2:done=bw body rc:=by rw[<-hinv];simp[bw]
  refine⟨Z,_,Z,"",p,done.map λc=>tx [c],Z,Z,aC.of (by rw[Qf,lB];rfl),WT (by lia),?_⟩;rw[Xo,hd2];exact k _ (λb o e=>by rw[Qo (QB (MO _ _ e) hp)];exact MO _ _ e)
def qv:Sp:=λvs H Q _=>∃body sg:List Nat,vs=[.str (tx body),.str (tx sg)]/\body.length<=200/\(∀x∈body,x<128)/\sg.length=body.length/\∀H',Qn H H'->Q (.int (bf body sg:Nat)) H'
def j6(F:az K "hidden_in" "hidden_in" KZ f fd)(O:Own mg)(OE:mg "enumerate"=none)(T:Txt K mg tk c kr):Zz1 P w K mg Y 1 f fd ["body","signs"] qv:=by
 refine okN F Kc (by nofun) λam A L s H vs Q E hr h=>?_
 obtain⟨body,sg,rfl,hl,ha,Gz,k⟩:=h;have hz:=zza
 have AC:=Qu body;have MP:=Qu sg;refine⟨_,(Qd (ZW yaB Z (Tz Z OE (Qa (pv 0) Qb)) (QM Z (Qh (Qi (i:=2) Kc.nd Z Zz0) (Qh (Qi (i:=3) Kc.nd Z Zz0) Qz))) (Qg (QN (PW.pt (ZU (Ql Jk (pv 3) Qk (Qq _)) (JW (PW.pt (Zx (Ql Zm (pv 3) (QK (v:=V.str ",B0/") Z T.gP ⟨_,Z⟩) (by with_unfolding_all rfl)) (J0 (Ql Xl (QC Wl (pv 1) (pv 2) (λ_ _=>rfl)) Qk (Qq _)))))))) (Qg (Qp (pv 2))) Qw)))
  (Qg (Qp (Qx Q2 Z O.len ybb (Qa (pv 0) Qb))))),?_⟩
 refine⟨_,Z,tx body,Z,Wc ha,yq (z:=tx body) (λi σ H2=>∃x2 x3,σ=[some (.str (tx body)),some (.str (tx sg)),x2,x3]/\Qn H H2/\bf body sg=i+bf (body.drop i) (sg.drop i)) ⟨none,none,Z,Qn.refl H,by simp⟩ ?_ ?_⟩
 .rintro i cc σ H2 p hx ⟨x2,x3,rfl,S2,hinv⟩ hp;have EQ:body[i]? =some cc:=by simpa using hx
  have hi:=(yaf.mp EQ).1;have eP:body.drop i=cc::body.drop (i+1):=by
   rw[yaI hi]
   congr 1
   exact(yaf.mp EQ).2
  obtain⟨g,hg⟩:∃g,sg[i]? =some g:=⟨_,yad (by lia)⟩;obtain⟨e1,e2⟩:=kq hg 0;have S3:=S2.trans (Qn.new (o:=.tup [.int (i:Nat),.str ⟨#[cc]⟩]) hp);rw[eP,bf,e1,e2]at hinv;exists p,_,Z,aw.of Qf,Z,_,_,Z,_,_,Z,Z;generalize upd H2 p (.tup [.int (i:Nat),.str ⟨#[cc]⟩])=H3 at S3;rw[show(⟨#[cc]⟩:Str)=tx [cc]from rfl];exists _,Z,Z,_,Z;rw[MK,JU]
  by_cases h9:cc=57
  .rw[tM h9];rw[yai (.inl h9)]at hinv;refine QZ (QZ ⟨_,Z,?_⟩);have:=k H3 S3;rw[hinv]at this;exact this
  .rw[tL h9];refine QO ⟨_,Z,_,_,Z,Z,_,Z,?_⟩;rw[Qgk,Xn];cases GT:([44,66,48,47]:List Nat).contains cc with
   |true=>
    rw[yag (by rintro(q|⟨q,_⟩);exact h9 q;rw[show ins cc=true from GT]at q;cases q)]at hinv;exact QO (QO ⟨_,_,Z,S3,by lia⟩)
   |false=>
    refine QZ ⟨_,Z,_,Z,tx sg,_,g,Z,Z,by lia,Zr hg,Z,_,Z,?_⟩;rw[show(⟨#[g]⟩:Str)=tx [g]from rfl,MJ,JU]
    by_cases Ds:g=48
    .rw[tM Ds];rw[yag (by rintro(q|⟨_,q⟩);exact h9 q;exact q Ds)]at hinv;exact QO ⟨_,_,Z,S3,by lia⟩
    .rw[tL Ds];rw[yai (.inr ⟨GT,Ds⟩)]at hinv;refine QZ ⟨_,Z,?_⟩;have:=k H3 S3;rw[hinv]at this;exact this
 .rintro σ H2 ⟨x2,x3,rfl,S2,hinv⟩;have hsz:(tx body).cps.size=body.length:=by simp
  rw[hsz,ycq (tN _)]at hinv;refine⟨_,Z,tx body,Z,by lia,?_⟩;have:=k H2 S2;rw[hinv]at this;rw[AC];exact this
def xb:Sp:=λvs H Q _=>∃(d:Nat)(r:List Nat)(u:Nat)(b:Bool),vs=[.str (tx (d::r)),.int (u:Nat),.bl b]/\r.length<=190/\(∀x∈d::r,x<128)/\u<10^18/\1<=many (d::r)/\u<10^many (d::r)/\∀H',Qn H H'->Q (.str (tx (UP (d::r) u b))) H'
def j7(F:az K "body_text" "body_text" KY f fd)(T:Txt K mg tk c kr)(rn:Def P w K mg Y 3 "spread" ["body","units"] qu)(nR:Def P w K mg Y 1 "hidden_in" ["body","signs"] qv)(gG:Def P w K mg Y 1 "sign_text" ["symbols","is_below"] ko):Zz1 P w K mg Y 4 f fd ["body","units","is_below"] xb:=by
 refine okN F Z4 (by nofun) λam A L s H vs Q E hr h=>?_
 obtain⟨d,r,u,b,rfl,hl,ha,hu,eM,AZ,k⟩:=h;have hz:=zza
 have h0:(d::r)[0]? =some d:=rfl;have Bv:=Qu (d::r);rw[tQ]at Bv;refine⟨_,(Qd (Qt (i:=3) Z4.nd Z Zz0 (rn.pq hr Qr (Qa (pv 0) (Qa (pv 1) Qb))))
  (Qd (Qt (i:=4) Z4.nd Z Zz0 (nR.pq hr Qr (Qa (pv 0) (Qa (pv 3) Qb))))
  (Qd (Qt (i:=5) Z4.nd Z Zz0 (QC Wl (pv 0) Qj (λ_ _=>rfl)))
  (Qd (QN (Ql Zl (pv 5) (QK (v:=V.str "+-$") Z T.gD ⟨_,Z⟩) (by with_unfolding_all rfl)) (Qg (Qp (QG Ji (QG Ji (QG ZJ Qk (QG VM (pv 4) Qj)) (gG.pq hr Qr (Qa (pv 5) (Qa (pv 2) Qb)))) (QR Zc (pv 3) (QQ (pv 4)) JK)))) Qw)
  (Qg (Qp (QG Ji (QG ZJ (Jd (Ql Jk (pv 5) Qk (Qq _)) Qk Qk) (pv 4)) (QR Zc (pv 3) (QQ (pv 4)) JK)))))))),?_⟩
 refine⟨_,Z,_,Z,d::r,u,Z,by rw[tQ];lia,ha,hu,eM,AZ,λH1 S1=>?_⟩;have eh:=MM (d::r) (pad u (many (d::r)));have GD:=MN (d::r) (bw (d::r) (pad u (many (d::r))));unfold UP at k;generalize bw (d::r) (pad u (many (d::r)))=sg at eh GD k;have htg:=Qu sg;refine⟨_,Z,_,Z,d::r,sg,Z,by rw[tQ];lia,ha,eh,λH2 S2=>?_⟩;generalize bf (d::r) sg=hi at GD k;rw[tQ]at eh GD;exists _,Z,tx (d::r),(0:Int),d,Z,Z,by lia,Zr h0;rw[show(⟨#[d]⟩:Str)=tx [d]from rfl];exists _,Z,_,_,Z,Z,_,Z;rw[ML,Xn];rw[show(d::r).headD 0=d from rfl]at k;have Dt:=Qu (sg.drop hi);rw[tY]at Dt;cases At:([43,45,36]:List Nat).contains d with
 |true=>
  rw[yai (show bZ d=true from At)]at k;have GF:d∈cE:=by
   have:∀d∈([43,45,36]:List Nat),d∈cE:=by lia
   exact this d (yay.mp At)
  rw[z8];refine QZ ⟨_,Z,_,_,Z,Z,tx [32],(hi:Int)-1,Z,Z,by lia,by rw[Qu,tP];lia,by lia,?_⟩;rw[j0];refine⟨_,Z,_,Z,[d],b,Z,by simp,λx hx=>by rw[yao.mp hx];exact GF,λH3 S3=>?_⟩;refine⟨_,_,Z,Z,by rw[Qu,Qu,lj,tK,tP];lia,?_⟩;rw[Z1];refine⟨_,Z,_,Z,_,Z,tx sg,Z,by lia,?_⟩;rw[Kq];refine⟨_,_,Z,Z,by rw[Qu,Dt,tJ,lj,tK,tP];lia,?_⟩;rw[Z1,show((hi:Int)-1).toNat=hi-1 by lia];exact k _ ((S1.trans S2).trans S3)
 |false=>
  rw[yag (by rw[show bZ d=false from At];lia)]at k;refine QO ?_;exists _,Z,Z,_,Z;rw[MI,JU];refine V1 (λv H'=>v=.str (tx [if d=42 then 42 else 32])/\H'=H2) (λz rest=>rest _ _ ⟨by rw[yai (ybi z)],Z⟩) (λz rest=>rest _ _ ⟨by rw[z8,yag (ybz z)],Z⟩) ?_;rintro v H' ⟨rfl,rfl⟩;refine⟨_,Z,tx [if d=42 then 42 else 32],(hi:Int),Z,Z,by lia,by rw[Qu,lH,tP];lia,by lia,?_⟩;rw[lH,j0];refine⟨_,Z,_,Z,_,Z,tx sg,Z,by lia,?_⟩;rw[Kq];refine⟨_,_,Z,Z,by rw[Qu,Dt,lj];lia,?_⟩;rw[Z1];exact k _ (S1.trans S2)
def bC.t9{H:Hp}{rs:List Addr}{rows:List Rw}(h:bC H rs rows):∀k,bC H (rs.take k) (rows.take k):=by
 induction h with
 |nil=>intro k;rw[ycD,ycD];exact .nil
 |cons a _ ih=>
  intro k;cases k with
  |zero=>exact .nil
  |succ k=>exact .cons a (ih k)
def QeA(rs:List Addr)(h:a<=b)(hb:b<=rs.length):jc (rs.map V.ref) (some (a:Int)) (some (b:Int))=((rs.drop a).take (b-a)).map V.ref:=by
 unfold jc;rw[HT.Xx,HT.Xx,tK,ybd (yap h hb),ybd hb,yeB,yeC]
def xc:∀l∈([[],[43],[45],[36],[43,36],[45,36]]:List (List Nat)),(∀x∈l,x∈cE)/\l.length<=2:=by lia
def MQ:∀l∈([[],[43],[45],[67,82],[68,66]]:List (List Nat)),(∀x∈l,x∈cE)/\l.length<=2:=by lia
def ku:∀x∈LB,x<128:=by lia
def Qcg{M W N ac tail:List Nat}(h:M.length+(W.length+N.length)+ac.length+tail.length<=60):(ZL M W N ac tail).length<=61:=by
 have Gc:(Qv ac).length<=ac.length+1:=by unfold Qv;split<;>simp
 unfold ZL;rw[tJ,tJ,tJ,tJ];lia
def YA(M W N ac tail:List Nat):ZL M W N ac tail=M++(W++N++Qv ac)++tail:=by unfold ZL;simp[lr]
def VA(K:Frag):Sp:=λvs H Q _=>∃(p:Addr)(rs:List Addr)(M:List Nat)(first:Nat)(W N ac tail:List Nat),vs=[.ref p]/\au K H p rs (aK [] (ZL M W N ac tail))/\Ed M first W N ac tail/\M.length+(W.length+N.length)+ac.length+tail.length<=60/\
 ∀q H',Qn H H'->H' q=some (.tup [.str (tx M),.str (tx (W++N++Qv ac)),.str (tx tail)])->Q (.ref q) H'
def YB(F:az K "edited_parts" "edited_parts" Xf f fd)(mm:Def P w K mg Y 2 "lead_of" ["rows"] (ke K))(mn:Def P w K mg Y 3 "body_of" ["rows","at"] (kh K))(mR:Def P w K mg Y 1 "written_out" ["rows"] (Gx K))(mq:Def P w K mg Y 1 "tail_of" ["rows","at"] (kg K)):Zz1 P w K mg Y 4 f fd ["rows"] (VA K):=by
 refine okN F Q5 (by nofun) λam A L s H vs Q E hr h=>?_
 obtain⟨p,rs,M,first,W,N,ac,tail,rfl,R,Ee,hl,k⟩:=h;have hz:=zza
 have eO:=Qcg hl;have cR:=Tw Ee.FC;have hrw:=Ee.rows;have iW:=Ee.Tn (aK [] N++(aK [] (Qv ac)++aK [] tail));rw[<-hrw]at iW;generalize MR:aK [] (ZL M W N ac tail)=rows at*;have AV:rs.length=rows.length:=R.rw.len;have hle:=R.le;refine⟨_,(Qd (QW (mm.pq hr Qr (Qa (pv 0) Qb)) (QM Z (Qh (Qi (i:=1) Q5.nd Z Zz0) (Qh (Qi (i:=2) Q5.nd Z Zz0) Qz))))
  (Qd (QW (mn.pq hr Qr (Qa (pv 0) (Qa (pv 2) Qb))) (QM Z (Qh (Qi (i:=3) Q5.nd Z Zz0) (Qh (Qi (i:=4) Q5.nd Z Zz0) (Qh (Qi (i:=5) Q5.nd Z Zz0) (Qh (Qi (i:=6) Q5.nd Z Zz0) (Qh (Qi (i:=7) Q5.nd Z Zz0) Qz)))))))
  (Qg (Qp (Qs (Qa (pv 1) (Qa (mR.pq hr Qr (Qa (QR zx (pv 0) (QQ (pv 2)) (QQ (pv 7))) Qb)) (Qa (mq.pq hr Qr (Qa (pv 0) (Qa (pv 7) Qb))) Qb)))))))),?_⟩
 refine⟨_,Z,p,rs,rows,Z,R,λld b hb hll1 h1 q1 H1 S1 g1=>⟨q1,_,Z,aw.of g1,Z,_,_,Z,_,_,Z,Z,?_⟩⟩;rw[iW]at h1;obtain⟨rfl,GG⟩:M=ld/\_:=by injection h1 with a1 a2;exact⟨a1,a2⟩
 refine⟨_,Z,_,Z,p,rs,rows,b,Z,R.same S1,hb,λpl many bi b2 b3 o ow h2 h3 q2 H2 S2 g2=>⟨q2,_,Z,aw.of g2,Z,_,_,Z,_,_,Z,_,_,Z,_,_,Z,_,_,Z,Z,?_⟩⟩;rw[<-GG,Ee.whole]at h2;obtain⟨rfl,rfl,rfl,h2b⟩:[first]=pl/\W.count first=many/\N.count 57=bi/\_:=by injection h2 with a1 a2;injection a2 with a2 a3;injection a3 with a3 a4;exact⟨a1,a2,a3,a4⟩
 rw[<-h2b,Ee.To]at h3;have MS:aK [] tail=rows.drop b3:=by injection h3
 have hL1:=yaF List.length GG;have hL3:=yaF List.length MS;simp only[tJ,tY]at hL1 hL3;have EY:b<=b3:=by lia
 have Bw:(rows.drop b).take (b3-b)=aK [] W++(aK [] N++aK [] (Qv ac)):=by
  rw[<-GG];have e:aK [] W++(aK [] N++(aK [] (Qv ac)++aK [] tail))=(aK [] W++(aK [] N++aK [] (Qv ac)))++aK [] tail:=by simp[lr]
  rw[e,ydB (by simp only[tJ];lia),yat (by simp only[tJ];lia)]
 have cr:=S1.trans S2;refine⟨_,Z,_,Z,_,Z,_,Z,_,Z,_,Z,p,_,Z,(R.same cr).sq,λp2 ut=>?_⟩;rw[QeA rs EY (by lia)];have S3:=Qn.new (o:=.lst (((rs.drop b).take (b3-b)).map V.ref)) ut;have R2:au K (upd H2 p2 (.lst (((rs.drop b).take (b3-b)).map V.ref))) p2 ((rs.drop b).take (b3-b)) (aK [] W++(aK [] N++aK [] (Qv ac))):=by
  rw[<-Bw];exact⟨aC.of Qf,(((R.same cr).rw.dr b).t9 (b3-b)).keep λx xs h=>S3 _ _ h,by rw[tX,tY];lia⟩
 have MT:un (aK [] W++(aK [] N++aK [] (Qv ac)))=W++N++Qv ac:=by rw[jI,jI,zI,zI,zI,lr]
 have Gc:(Qv ac).length<=ac.length+1:=by unfold Qv;split<;>simp
 refine⟨p2,_,_,Z,R2,λx hx=>?_,by rw[MT,tJ,tJ];lia,λH4 S4=>?_⟩
 .have ul:x∈rows:=ybn (i:=b) (ycJ (i:=b3-b) (by rw[Bw];exact hx));obtain⟨y1,y2,y3⟩:=cR x ul;exact⟨y1,by lia,y3⟩
 rw[MT];have sw:=(cr.trans S3).trans S4;refine⟨_,Z,_,Z,p,rs,rows,b3,Z,R.same sw,ow,λH5 S5=>?_⟩;have AC:KG (rows.drop b3)=some tail:=by rw[<-MS];exact(yn tail Ee.tl).1
 rw[AC];refine⟨Bg,λq hq=>?_⟩;exact k q _ ((sw.trans S5).trans (Qn.new hq)) Qf
def VB(K:Frag)(c:Nat->Addr):Sp:=λvs H Q E=>∃(l:List Nat)(p:Addr)(u:Int)(o:Nat),vs=[.str (tx l),.ref p]/\l.length<=500/\cb K H p u o/\
 (((∀x,Q0 l=some x->x.kind<=3/\x.kind≠3)/\∀H',Qn H H'->E (.ref (c 2)) none H')\/
  ∃(M:List Nat)(first:Nat)(W N ac tail:List Nat),Ed M first W N ac tail/\M.length+(W.length+N.length)+ac.length+tail.length<=60/\l=ZL M W N ac tail/\∀H',Qn H H'->Q (.str (tx (bI M (W++N++Qv ac) tail (fit u o (aU first W N) ac.length)))) H')
def _root_.bt.Ed.small{M:List Nat}{first:Nat}{W N ac tail:List Nat}(E:Ed M first W N ac tail):1<=aU first W N/\aU first W N+ac.length<=17/\W.count first+N.count 57=aU first W N+(if bZ first=true then 1 else 0):=by cases E;lia
def Qch(u:Int):(if u<0 then-u else u)=((u.natAbs:Nat):Int):=by split<;>lia
def Qat(F:az K "edited" "edited" Vx f fd)(O:Own mg)(hG:Def P w K mg Y 6 "understood_as" ["kind","picture"] (Wb K c))(gs:Def P w K mg Y 4 "edited_parts" ["rows"] (VA K))(m8:Def P w K mg Y 3 "fitted" ["amount","before","behind"] (Dk K))(mB:Def P w K mg Y 1 "hides_nought" ["body"] xa)(mS:Def P w K mg Y 1 "nought_text" ["symbols"] qt)(gG:Def P w K mg Y 1 "sign_text" ["symbols","is_below"] ko)(nS:Def P w K mg Y 4 "body_text" ["body","units","is_below"] xb):Zz1 P w K mg Y 7 f fd ["picture","amount"] (VB K c):=by
 refine bN F JQ (by nofun) λam A L s H vs Q E hr h=>?_
 obtain⟨l,pa,u,o,rfl,hl,qMa,hw⟩:=h;have hz:=zza
 have fr:=Jh (P:=P) (w:=w) (K:=K) (mg:=mg) (Y:=Y) (N:=["picture","amount","rows","signed","before","behind","lead","body","tail","units","is_below"]) (qual:="edited") (scope:=Qe Vx) (f:=f) (cd:=am) (A:=A) (L:=L) (s:=s) (H:=H) (E:=E);have ht:=Jp fr;have hx:=QH fr;refine⟨_,(Qd (QW (hG.pq hr hx (Qa Qk (Qa (pv 0) Qb))) (QM Z (Qh (Qi (i:=2) JQ.nd Z Zz0) (Qh (QM Z (Qh (Qi (i:=3) JQ.nd Z Zz0) (Qh (Qi (i:=4) JQ.nd Z Zz0) (Qh (Qi (i:=5) JQ.nd Z Zz0) Qz)))) Qz))))
  (Qd (QW (gs.pq hr hx (Qa (pv 2) Qb)) (QM Z (Qh (Qi (i:=6) JQ.nd Z Zz0) (Qh (Qi (i:=7) JQ.nd Z Zz0) (Qh (Qi (i:=8) JQ.nd Z Zz0) Qz)))))
  (Qd (Qt (i:=9) JQ.nd Z Zz0 (m8.pq hr hx (Qa (pv 1) (Qa (pv 4) (Qa (pv 5) Qb)))))
  (Qd (QN (PW.pt (Zx (Ql Jk (pv 9) Qj (Qq _)) (J0 (XX (mB.pq hr hx (Qa (pv 7) Qb)))))) (Qg (Qp (mS.pq hr hx (Qa (QG Ji (QG Ji (pv 6) (pv 7)) (pv 8)) Qb)))) Qw)
  (Qd (Qt (i:=10) JQ.nd Z Zz0 (JS Vq (pv 9) Qj (Qq _)))
  (Qg (Qp (QG Ji (QG Ji (gG.pq hr hx (Qa (pv 6) (Qa (pv 10) Qb))) (nS.pq hr hx (Qa (pv 7) (Qa (Qx Xw Z O.abs yeX (Qa (pv 9) Qb)) (Qa (pv 10) Qb))))) (gG.pq hr hx (Qa (pv 8) (Qa (pv 10) Qb))))))))))),?_⟩
 refine⟨_,Z,l,3,Z,hl,by lia,λh=>?_,λx Bx GH q p rs r H1 S1 g1 g2 R1=>?_⟩
 .rcases hw with⟨_,k1⟩|⟨M,first,W,N,ac,tail,Ee,_,rfl,_⟩
  .exact k1
  .exact absurd rfl (h _ Ee.CN).2
 rcases hw with⟨ST,_⟩|⟨M,first,W,N,ac,tail,Ee,hsz,rfl,k⟩
 .exact absurd GH (ST x Bx).2
 obtain rfl:=tO (Ee.CN.symm.trans Bx);obtain⟨C4,GI,oF⟩:=Ee.small;exists q,_,Z,aw.of g1,Z,_,_,Z,_,_,Z,r,_,Z,aw.of g2,Z,_,_,Z,_,_,Z,_,_,Z,Z,Z;rw[Ub Ee.FC]at R1;refine⟨_,Z,p,rs,M,first,W,N,ac,tail,Z,R1,Ee,hsz,λq2 H2 S2 g3=>⟨q2,_,Z,aw.of g3,Z,_,_,Z,_,_,Z,_,_,Z,Z,?_⟩⟩;have cr:=S1.trans S2;refine⟨_,Z,_,Z,_,Z,pa,u,o,aU first W N,ac.length,Z,qMa.same cr,by lia,λH3 S3=>?_⟩;have lw:=cr.trans S3;have ap:=Uk u o (aU first W N) ac.length;generalize fit u o (aU first W N) ac.length=ft at*;obtain⟨rr,A0⟩:∃rr,W++N++Qv ac=first::rr:=by
  have:=Ee.Tj (N++Qv ac);cases hh:W++(N++Qv ac)with
  |nil=>rw[hh]at this;cases this
  |cons a r=>rw[hh]at this;exact⟨r,by rw[lr,hh,tO this]⟩
 have T0:many (W++N++Qv ac)=aU first W N+(if bZ first=true then 1 else 0)+ac.length:=by rw[Wv,Ee.many,Ee.FF,oF]
 have Gc:(Qv ac).length<=ac.length+1:=by unfold Qv;split<;>simp
 have Bv:(W++N++Qv ac).length<=61:=by rw[tJ,tJ];lia
 have fM:∀x∈M++(W++N++Qv ac)++tail,x<128:=λx hx=>ku x (Ee.sym x (by rw[YA];exact hx));obtain⟨MU,eO⟩:=xc M Ee.ld;obtain⟨MP,AC⟩:=MQ tail Ee.tl;have By:bI M (W++N++Qv ac) tail ft=if ft=0/\57∉(W++N++Qv ac)/\bZ first=false then KH (M++(W++N++Qv ac)++tail)else M.map (bG (decide (ft<0)))++UP (W++N++Qv ac) ft.natAbs (decide (ft<0))++tail.map (bG (decide (ft<0))):=by
  unfold bI;rw[show(W++N++Qv ac).headD 0=first by rw[A0];rfl]
 rw[By]at k;clear By g1 g2 g3 R1 qMa;generalize dL:W++N++Qv ac=body at*;have GJ:ft.natAbs<10^many body:=by
  rw[T0];exact yam ap (ybm (by lia) (by lia))
 have eT:ft.natAbs<10^18:=yam ap (ybm (by lia) (by lia));have eM:1<=many body:=by lia
 subst A0;dsimp only[QL,Za,Zb];refine qc (λσ' H4=>(∃y0 y1 y2 y3 y4 y5,σ'=[y0,y1,y2,y3,y4,y5,some (.str (tx M)),some (.str (tx (first::rr))),some (.str (tx tail)),some (.int ft),none])/\Qn H H4/\¬ (ft=0/\57∉(first::rr)/\bZ first=false)) ?_ (λrest=>?_)
 .rintro σ' H4 ⟨⟨y0,y1,y2,y3,y4,y5,rfl⟩,S4,hn⟩;rw[yag hn]at k;exists _,Z,_,_,Z,Z;refine⟨_,Z,_,Z,M,decide (ft<0),Z,by lia,MU,λH5 S5=>?_⟩;refine⟨_,Z,_,Z,ft,Z,_,Z,first,rr,ft.natAbs,decide (ft<0),by rw[Qch];rfl,by rw[tQ]at Bv;lia,λx hx=>fM x (tT _ (tR _ hx)),eT,eM,GJ,λH6 S6=>?_⟩;have hbt:(UP (first::rr) ft.natAbs (decide (ft<0))).length<=300:=by
   have e1:=MM (first::rr) (pad ft.natAbs (many (first::rr)));have e2:=MN (first::rr) (bw (first::rr) (pad ft.natAbs (many (first::rr))));unfold UP
   split
   .simp only[tJ,lj,tY,tP];lia
   .simp only[tJ,lj,tY];lia
  refine⟨_,_,Z,Z,by rw[Qu,Qu,tK];lia,?_⟩;rw[Z1];refine⟨_,Z,_,Z,tail,decide (ft<0),Z,by lia,MP,λH7 S7=>?_⟩;refine⟨_,_,Z,Z,by rw[Qu,Qu,tJ,tK,tK];lia,?_⟩;rw[Z1];exact k _ (((S4.trans S5).trans S6).trans S7)
 .exists _,Z,Z,_,Z;rw[KO]
  by_cases h0:ft=0
  .rw[tM h0];refine QZ ⟨_,Z,first,rr,Z,by rw[tQ]at Bv;lia,_,Z,?_⟩
   by_cases hc:57∉(first::rr)/\bZ first=false
   .have e:(!(first::rr).contains 57&& !bZ first)=true:=by
     rw[hc.2,yax];refine⟨?_,Z⟩;cases q:(first::rr).contains 57 with
     |true=>exact absurd (yay.mp q) hc.1
     |false=>rfl
    rw[e];rw[yai ⟨h0,hc⟩]at k;refine QZ ⟨_,Z,_,Z,_,_,Z,Z,by rw[Qu,Qu];lia,?_⟩;rw[Z1];refine⟨_,Z,_,_,Z,Z,by rw[Qu,Qu,tJ];lia,?_⟩;rw[Z1];exact⟨_,Z,by rw[tJ,tJ];lia,fM,λH4 S4=>k _ (lw.trans S4)⟩
   .have e:(!(first::rr).contains 57&& !bZ first)=false:=by
     cases q:(first::rr).contains 57 with
     |true=>rfl
     |false=>
      cases q2:bZ first with
      |true=>rfl
      |false=>exact absurd ⟨λz=>(by rw[yay.mpr z]at q;cases q),q2⟩ hc
    rw[e];exact QO (rest _ _ ⟨⟨_,_,_,_,_,_,Z⟩,lw,λz=>hc z.2⟩)
  .rw[tL h0];exact QO (QO (rest _ _ ⟨⟨_,_,_,_,_,_,Z⟩,lw,λz=>h0 z.1⟩))
end
end Lw
namespace cU
open bW bt dW PySem.NumText
noncomputable def iX(M body tail:List Nat)(a b:Nat)(t:List Nat):Option Int:=
 if bI M body tail (fit ((fA M body t:Nat):Int) b a b)=t then some ((fA M body t:Nat):Int)
 else if bI M body tail (fit (-((fA M body t:Nat):Int)) b a b)=t then some (-((fA M body t:Nat):Int))else none
def QeB(l t:List Nat):AllDigits (bJ l t):=λy hy=>by
 unfold bJ at hy;obtain⟨x,_,rfl⟩:=yaY.mp hy;unfold dg
 split
 .assumption
 .lia
def QeC(l t:List Nat):(bJ l t).length<=l.length:=by
 unfold bJ;rw[tK];refine yap (ybj _ _) ?_;rw[ydX];exact Nat.min_le_left _ _
def Qci:∀(l t:List Nat),(bJ l t).length<=many l:=by
 intro l
 induction l with
 |nil=>intro t;exact lF _
 |cons c r ih=>
  intro t;cases t with
  |nil=>exact lF _
  |cons d t=>
   have:=ih t;rw[Xy,V8];unfold place;cases h:bH c with
   |none=>rw[yai (show(none:Option Nat).isNone=true from Z),yai rfl,tQ];lia
   |some x=>rw[yag (by simp),yag (by simp)];lia
def QhJ(d:Nat):(([48,49,50,51,52,53,54,55,56,57]:List Nat).contains d)=decide (48<=d/\d<=57):=by
 by_cases h:48<=d/\d<=57
 .rw[tM h,yay];simp only[yak,yaL,ycs];lia
 .rw[tL h];cases e:([48,49,50,51,52,53,54,55,56,57]:List Nat).contains d with
  |false=>rfl
  |true=>
   have:=yay.mp e;simp only[yak,yaL,ycs]at this;omega
end cU
namespace Lw
open PySem PySem.Spec PyProof.Rows L2 bW bt dW cU
open Builtin Builtin.Str StrLaws
section
variable {P:Program}{w:World}{K:Frag}{mg:Str->Option Value}{Y:Heap}{f:Addr}{fd:FuncData}{tk:Nat->Tok}{c kr:Nat->Addr}
inductive cF (H:Hp):List Addr->List (Nat × Nat)->Prop
 |nil:cF H [] []
 |cons {a:Addr} {x:Nat × Nat} {as:List Addr} {xs:List (Nat × Nat)}:H a=some (.tup [.str (tx [x.1]),.str (tx [x.2])])->cF H as xs->cF H (a::as) (x::xs)
def cF.keep{as:List Addr}{xs:List (Nat × Nat)}(h:cF H as xs)(S:Qn H H'):cF H' as xs:=by
 induction h with
 |nil=>exact .nil
 |cons e _ ih=>exact .cons (S _ _ e) ih
def cF.app{as:List Addr}{xs:List (Nat × Nat)}(h:cF H as xs)(e:H a=some (.tup [.str (tx [x.1]),.str (tx [x.2])])):cF H (as++[a]) (xs++[x]):=by
 induction h with
 |nil=>exact .cons e .nil
 |cons e1 _ ih=>exact .cons e1 ih
def cF.len{as:List Addr}{xs:List (Nat × Nat)}(h:cF H as xs):as.length=xs.length:=by
 induction h with
 |nil=>rfl
 |cons _ _ ih=>rw[tQ,tQ,ih]
def cF.at'{as:List Addr}{xs:List (Nat × Nat)}(h:cF H as xs):∀{i:Nat}{a:Addr},as[i]? =some a->∃x,xs[i]? =some x/\H a=some (.tup [.str (tx [x.1]),.str (tx [x.2])]):=by
 induction h with
 |nil=>intro i a e;cases e
 |cons e1 _ ih=>
  intro i a e;cases i with
  |zero=>cases e;exact⟨_,Z,e1⟩
  |succ i=>exact ih (by simpa using e)
def Qgl:("0123456789":Str)=tx [48,49,50,51,52,53,54,55,56,57]:=by rfl'
def Qcj{xs:List (Nat × Nat)}(val:Nat × Nat->Nat)(dU:NB.length=3)(hn:n=2)(hσ:σ[i]? =some (some (.ref p)))(hp:aC K H p (ps.map V.ref))(PR:cF H ps xs)(hl:xs.length<=500)(oz:∀x∈xs,∀Q:VK,Q (.str (tx [val x])) H->te [none,some (.str (tx [x.1])),some (.str (tx [x.2]))] H Q)(hd:∀q,H q=none->Q (.ref q) (upd H q (.lst (xs.map λx=>.str (tx [val x]))))):UF NB (Cs K (Kz i)) (o4 K n (Us (QL 1) (Us (QL 2) Ak))) fo te σ H Q:=by
 have hz:=zza
 have hlen:=PR.len;exists _,hσ,p,Z,⟨_,hp⟩;refine Yv (xs:=ps.map V.ref) (λi vs H2=>H2=H/\vs=(xs.take i).map λx=>V.str (tx [val x])) ⟨Z,Z⟩ ?_ ?_ ?_ (by rw[tK];lia)
 .rintro i vs H2 hi ⟨rfl,rfl⟩;exact⟨hp,by rw[tK,tX];lia⟩
 .rintro i x vs H2 hx ⟨rfl,rfl⟩;rw[lg]at hx;obtain⟨r,hr,rfl⟩:=ybq.mp hx;obtain⟨y,hy,g⟩:=PR.at' hr;subst hn;rw[dU];exists r,_,Z,aw.of g,Z,_,_,Z,_,_,Z,Z;dsimp only[fo];rw[yai rfl];refine oz y (lh hy) _ ⟨Z,?_⟩;rw[yaK,hy,lq];rfl
 .rintro vs H2 ⟨rfl,rfl⟩ q hq;rw[yat (by rw[tK];lia)];exact hd q hq
def GK(K:Frag)(c:Nat->Addr):Sp:=λvs H Q E=>∃l t:List Nat,vs=[.str (tx l),.str (tx t)]/\l.length<=500/\t.length<=200/\(∀x∈t,x<128)/\
 (((∀x,Q0 l=some x->x.kind<=3/\x.kind≠3)/\∀H',Qn H H'->E (.ref (c 2)) none H')\/
  ∃(M:List Nat)(first:Nat)(W N ac tail:List Nat),Ed M first W N ac tail/\M.length+(W.length+N.length)+ac.length+tail.length<=60/\l=ZL M W N ac tail/\
  (∀v,iX M (W++N++Qv ac) tail (aU first W N) ac.length t=some v->∀q H',Qn H H'->H q=none->H' q=some (.tup [.int v,.int (ac.length:Nat)])->Q (.ref q) H')/\
  (iX M (W++N++Qv ac) tail (aU first W N) ac.length t=none->∀H',Qn H H'->E (.ref (c 5)) none H'))
def YZ(F:az K "read_edited" "read_edited" ZD f fd)(O:Own mg)(OZ:mg "zip"=none)(T:Txt K mg tk c kr)(KB:aD P w K (kr 3) sO)(hZ:Def P w K mg Y 2 "number_of" ["text"] wW)(hG:Def P w K mg Y 6 "understood_as" ["kind","picture"] (Wb K c))(gs:Def P w K mg Y 4 "edited_parts" ["rows"] (VA K))(m9:Def P w K mg Y 7 "edited" ["picture","amount"] (VB K c)):Zz1 P w K mg Y 8 f fd ["picture","text"] (GK K c):=by
 refine bN F QP (by nofun) λam A L s H vs Q E hr h=>?_
 obtain⟨l,t,rfl,hl,AC,hta,hw⟩:=h;have hz:=zza
 have fr:=Jh (P:=P) (w:=w) (K:=K) (mg:=mg) (Y:=Y) (N:=["picture","text","rows","signed","before","behind","lead","body","tail","pairs","units","choice"]) (qual:="read_edited") (scope:=Qe ZD) (f:=f) (cd:=am) (A:=A) (L:=L) (s:=s) (H:=H) (E:=E);have ht:=Jp fr;have hx:=QH fr;refine⟨_,(Qd (QW (hG.pq hr hx (Qa Qk (Qa (pv 0) Qb))) (QM Z (Qh (Qi (i:=2) QP.nd Z Zz0) (Qh (QM Z (Qh (Qi (i:=3) QP.nd Z Zz0) (Qh (Qi (i:=4) QP.nd Z Zz0) (Qh (Qi (i:=5) QP.nd Z Zz0) Qz)))) Qz))))
  (Qd (QW (gs.pq hr hx (Qa (pv 2) Qb)) (QM Z (Qh (Qi (i:=6) QP.nd Z Zz0) (Qh (Qi (i:=7) QP.nd Z Zz0) (Qh (Qi (i:=8) QP.nd Z Zz0) Qz)))))
  (Qd (xR (NB:=[".0","symbol","sign"]) (iy:=9) Z ⟨Z,by rfl'⟩ (Qd1 Z OZ (Qa (pv 7) (Qa (QR Zc (pv 1) (QQ (Qx Q2 Z O.len ybb (Qa (pv 6) Qb))) JK) Qb))) (λ_ _ _=>(K9 (K0:=K) (n:=2) Z Z (Qh (Qi (i:=1) (show([".0","symbol","sign"]:List Str).Nodup by rfl') Z Zz0 (Or.inr Z)) (Qh (Qi (i:=2) (show([".0","symbol","sign"]:List Str).Nodup by rfl') Z Zz0 (Or.inr Z)) Qz)))) (λ_ _ _=>(V2 (JZ (WP KB (pv 1) (QK (v:=V.ref (kr 3)) Z T.mf Z)) (by with_unfolding_all rfl)))) (λ_ _ _=>(Qs (Qa (pv 1) (Qa (pv 2) Qb)))) QP.nd Z Zz0 Z)
  (Qd (Qt (i:=10) QP.nd Z Zz0 (hZ.pq hr hx (Qa (JL yaA ybR ybS X0 Qk (Qa (Z0 (NB:=[".0","symbol","sign"]) Z ⟨Z,by rfl'⟩ (Xa (pv 9)) (λ_ _ _=>(K9 (K0:=K) (n:=2) Z Z (Qh (Qi (i:=1) (show([".0","symbol","sign"]:List Str).Nodup by rfl') Z Zz0 (Or.inr Z)) (Qh (Qi (i:=2) (show([".0","symbol","sign"]:List Str).Nodup by rfl') Z Zz0 (Or.inr Z)) Qz)))) (λ_ _ _=>Xb) (λ_ _ _=>(Jd (Ql Zl (pv 2) (QK (v:=V.str "0123456789") Z T.gU ⟨_,Z⟩) (by with_unfolding_all rfl)) (pv 2) Qk))) Qb)) Qb)))
  (Qd (ZW UR Z (jg (Qs (Qa (pv 10) (Qa (Wi ZX (pv 10)) Qb)))) (Qi (i:=11) QP.nd Z Zz0) (Qg (QN (Ql Jk (m9.pq hr hx (Qa (pv 0) (Qa (Qs (Qa (pv 11) (Qa (pv 5) Qb))) Qb))) (pv 1) (Qq _)) (Qg (Qp (Qs (Qa (pv 11) (Qa (pv 5) Qb))))) Qw)))
  (Qg (JD ht Z Z T.mL T.mM (Qa Qk Qb)))))))),?_⟩
 refine⟨_,Z,l,3,Z,hl,by lia,λh=>?_,λx Bx GH q p rs r H1 S1 g1 g2 R1=>?_⟩
 .rcases hw with⟨_,k1⟩|⟨M,first,W,N,ac,tail,Ee,_,rfl,_⟩
  .exact k1
  .exact absurd rfl (h _ Ee.CN).2
 rcases hw with⟨ST,_⟩|⟨M,first,W,N,ac,tail,Ee,hsz,rfl,kv,kn⟩
 .exact absurd GH (ST x Bx).2
 obtain rfl:=tO (Ee.CN.symm.trans Bx);obtain⟨C4,GI,oF⟩:=Ee.small;exists q,_,Z,aw.of g1,Z,_,_,Z,_,_,Z,r,_,Z,aw.of g2,Z,_,_,Z,_,_,Z,_,_,Z,Z,Z;rw[Ub Ee.FC]at R1;refine⟨_,Z,p,rs,M,first,W,N,ac,tail,Z,R1,Ee,hsz,λq2 H2 S2 g3=>⟨q2,_,Z,aw.of g3,Z,_,_,Z,_,_,Z,_,_,Z,Z,?_⟩⟩;have cr:=S1.trans S2;have Gc:(Qv ac).length<=ac.length+1:=by unfold Qv;split<;>simp
 have Bv:(W++N++Qv ac).length<=61:=by rw[tJ,tJ];lia
 have fM:∀x∈W++N++Qv ac,x<128:=λx hx=>ku x (Ee.sym x (by rw[YA];exact tT _ (tR _ hx)));obtain⟨MU,eO⟩:=xc M Ee.ld;have T0:many (W++N++Qv ac)<=18:=by rw[Wv,Ee.many,Ee.FF,oF];split<;>lia
 clear g1 g2 g3 R1;generalize dL:W++N++Qv ac=body at*;have ap:=Qu M;have sG:=Qu t;have hbt:=Qu body;have Dt:=Qu (t.drop M.length);dsimp only[QL,Za,Zb,Q1];refine yz (x:=tx body) (y:=tx (t.drop M.length)) (λi vs H3=>∃ps,vs=ps.map V.ref/\Qn H2 H3/\cF H3 ps (((body.zip (t.drop M.length)).take i).filter λx=>place x.1)) (λR h=>?_) (Wc fM) (Wc λx hx=>hta x (ybn hx)) ⟨[],Z,Qn.refl _,.nil⟩ ?_ ?_ ?_ ?_
 .refine⟨_,Z,_,Z,_,Z,tx M,Z,by lia,_,Z,tx t,Z,by lia,?_⟩;rw[ap,Kq];exact h
 .rintro i vs H3 hi ⟨ps,rfl,S3,PR⟩;rw[tK,PR.len];exact yap (ybj _ _) (by rw[tX];lia)
 .rintro i cc dd vs H3 pp hc hd ⟨ps,rfl,S3,PR⟩ hpp;have d7:body[i]? =some cc:=by simpa using hc
  have Rs:(t.drop M.length)[i]? =some dd:=by simpa using hd
  have hzp:(body.zip (t.drop M.length))[i]? =some (cc,dd):=by rw[List.getElem?_zip_eq_some];exact⟨d7,Rs⟩
  have Go:(body.zip (t.drop M.length)).take (i+1)=(body.zip (t.drop M.length)).take i++[(cc,dd)]:=by rw[yaK,hzp];rfl
  have S4:=Qn.new (o:=.tup [.str ⟨#[cc]⟩,.str ⟨#[dd]⟩]) hpp;exists pp,_,Z,aw.of Qf,Z,_,_,Z,_,_,Z,Z;generalize upd H3 pp (.tup [.str ⟨#[cc]⟩,.str ⟨#[dd]⟩])=H4 at S4;rw[show(⟨#[cc]⟩:Str)=tx [cc]from rfl,show(⟨#[dd]⟩:Str)=tx [dd]from rfl];exists _,Z,Sum.inr (tx [cc]),Z,Z,_,Z;rw[km,Go,ybA];cases FM:bH cc with
  |some d=>exact QO ⟨ps,Z,S3.trans S4,by rw[ybp,yag (by show ¬ place cc=true;unfold place;rw[FM];simp)];simpa using PR.keep S4⟩
  |none=>
   refine QZ ⟨_,Z,_,Z,bj,λq hq=>?_⟩;have S5:=Qn.new (o:=.tup [.str (tx [cc]),.str (tx [dd])]) hq;exists ps++[q],by simp,(S3.trans S4).trans S5;rw[ybp,yai (by show place cc=true;unfold place;rw[FM];rfl)];exact(PR.keep (S4.trans S5)).app Qf
 .rintro vs H3 ⟨ps,rfl,S3,PR⟩ pl db;have GL:(body.zip (t.drop M.length)).length<=min (tx body).cps.size (tx (t.drop M.length)).cps.size:=by rw[ydX];simp
  rw[yat GL]at PR;have S4:=Qn.new (o:=.lst (ps.map V.ref)) db;have gl:upd H3 pl (.lst (ps.map V.ref)) pl=some (.lst (ps.map V.ref)):=Qf;have GN:=PR.keep S4;generalize upd H3 pl (.lst (ps.map V.ref))=H4 at S4 gl GN;have MV:=S3.trans S4;have hzl:((body.zip (t.drop M.length)).filter λx=>place x.1).length<=61:=yap (ybj _ _) (by rw[ydX];lia);exists Z;refine Qcj (K:=K) (p:=pl) (λx=>dg x.2) rfl rfl rfl (aC.of gl) GN (by lia) (λx hx Q h=>?_) (λq hq=>?_)
  .exists _,Z,_,_,Z,Z,_,Z;rw[Qgl,Xn,QhJ];unfold dg at h
   by_cases hd:48<=x.2/\x.2<=57
   .rw[yai hd]at h;rw[tM hd];exact QZ ⟨_,Z,h⟩
   .rw[yag hd]at h;rw[tL hd];rw[<-MJ]at h;exact QO h
  .have AV:((body.zip (t.drop M.length)).filter λx=>place x.1).map (λx=>dg x.2)=bJ body (t.drop M.length):=rfl;have hrn:=QeC body (t.drop M.length);have lN:=QeB body (t.drop M.length);refine⟨"",q,(bJ body (t.drop M.length)).map λc=>tx [c],Z,Z,aC.of (by rw[Qf, <-AV,lB,lB];rfl),WT (by lia),?_⟩;rw[Xo];have hrt:=Qu (bJ body (t.drop M.length));refine⟨tx (bJ body (t.drop M.length)),Z,lN,by lia,?_⟩;have S5:=Qn.new (o:=.lst (((body.zip (t.drop M.length)).filter λx=>place x.1).map λx=>V.str (tx [dg x.2]))) hq;generalize upd H4 q (.lst (((body.zip (t.drop M.length)).filter λx=>place x.1).map λx=>V.str (tx [dg x.2])))=H5 at S5;have hu0:NumText.digitsVal (tx (bJ body (t.drop M.length))).cps.toList=fA M body t:=by rw[WQ];rfl
   rw[hu0];have fG:=Qci body (t.drop M.length);have hub:fA M body t<10^18:=yam (Lv lN) (ybm (by lia) (by lia));unfold iX at kv kn;generalize hu1:fA M body t=u at*;have S05:=(cr.trans MV).trans S5;clear PR GN AV lN hrn hrt gl S1 S2 S3 S4 MV S5 cr;refine⟨_,Z,_,Z,_,Z,bj,λtt GO=>⟨tt,Z,⟨_,aw.of Qf⟩,?_⟩⟩;have S6:=Qn.new (o:=.tup [.int (u:Nat),.int (-(u:Nat))]) GO;have g6:upd H5 tt (.tup [.int (u:Nat),.int (-(u:Nat))]) tt=some (.tup [.int (u:Nat),.int (-(u:Nat))]):=Qf;generalize upd H5 tt (.tup [.int (u:Nat),.int (-(u:Nat))])=H6 at S6 g6;have MW:=S05.trans S6;refine vv (xs:=[.int (u:Nat),.int (-(u:Nat))]) (λi σ H7=>(∃GP,σ=[some (.str (tx (ZL M W N ac tail))),some (.str (tx t)),some (.ref p),some (.bl (sgn M first tail)),some (.int (aU first W N:Nat)),some (.int (ac.length:Nat)),some (.str (tx M)),some (.str (tx body)),some (.str (tx tail)),some (.ref pl),some (.int (u:Nat)),GP])/\Qn H6 H7/\(1<=i->bI M body tail (fit ((u:Nat):Int) ac.length (aU first W N) ac.length)≠t)/\(2<=i->bI M body tail (fit (-((u:Nat):Int)) ac.length (aU first W N) ac.length)≠t)) ⟨⟨none,Z⟩,Qn.refl _,λz=>absurd z (by lia),λz=>absurd z (by lia)⟩ ?_ ?_ ?_
   .rintro i σ H7 hi ⟨_,S7,_⟩;exact aw.of (S7 _ _ g6)
   .rintro i x σ H7 hi ⟨⟨GP,rfl⟩,S7,n1,n2⟩;obtain⟨v,rfl,hvb,hv⟩:∃v:Int,x=.int v/\v.natAbs<10^18/\(v=(u:Nat)/\i=0\/v= -(u:Nat)/\i=1):=by
     have Gq:i<2:=(yaf.mp hi).1
     match i,hi,Gq with
     |0,hi,_=>exact⟨_,(tO hi).symm,by lia,.inl ⟨Z,Z⟩⟩
     |1,hi,_=>exact⟨_,(tO hi).symm,by lia,.inr ⟨Z,Z⟩⟩
    refine⟨_,Z,_,Z,_,Z,bj,λpa di=>?_⟩;have S8:=Qn.new (o:=.tup [.int v,.int (ac.length:Nat)]) di;refine⟨ZL M W N ac tail,pa,v,ac.length,Z,hl,⟨aw.of Qf,ybu hvb (by lia),by lia,by lia⟩,.inr ⟨M,first,W,N,ac,tail,Ee,hsz,Z,λH9 S9=>?_⟩⟩;rw[dL];exists _,Z,Z,_,Z;rw[V7];have MX:=((MW.trans S7).trans S8).trans S9
    by_cases he:bI M body tail (fit v ac.length (aU first W N) ac.length)=t
    .rw[tM he];refine QZ ⟨_,Z,_,Z,bj,λqz MY=>?_⟩;refine kv v ?_ qz _ (MX.trans (Qn.new MY)) (Qn.free MX MY) Qf;rcases hv with⟨rfl,rfl⟩|⟨rfl,rfl⟩
     .rw[yai he]
     .rw[yag (n1 (by lia)),yai he]
    .rw[tL he];refine QO ⟨⟨_,Z⟩,(S7.trans S8).trans S9,λz=>?_,λz=>?_⟩
     .rcases hv with⟨rfl,rfl⟩|⟨rfl,rfl⟩
      .exact he
      .exact n1 (by lia)
     .rcases hv with⟨rfl,rfl⟩|⟨rfl,rfl⟩
      .exact absurd z (by lia)
      .exact he
   .rintro σ H7 ⟨⟨GP,rfl⟩,S7,n1,n2⟩;exact⟨eN,kn (by rw[yag (n1 (show 1<=2 by lia)),yag (n2 (show 2<=2 by lia))]) _ (MW.trans S7)⟩
 .show min (tx body).length _<sizeLine;lia
def sP:Sp:=λ_ _ _ _=>False
noncomputable def mx(o o':Int):Int:=if o'>o then o' else o
def GQ(o o':Int):o<=mx o o':=by unfold mx;split<;>lia
def MZ(o o':Int):o'<=mx o o':=by unfold mx;split<;>lia
def GR(h1:o<=n)(h2:o'<=n):mx o o'<=n:=by unfold mx;split<;>lia
def qx(K:Frag):Sp:=λvs H Q _=>∃(a b:Addr)(u o v o':Int),vs=[.ref a,.ref b]/\cb K H a u o/\cb K H b v o'/\
 ∀q H',Qn H H'->H q=none->H' q=some (.tup [.int (u*ax.aJ (mx o o'-o)),.int (v*ax.aJ (mx o o'-o')),.int (mx o o')])->Q (.ref q) H'
def xf(F:az K "lined_up" "lined_up" W7 f fd)(O:Own mg)(nQ:Def P w K mg Y 2 "cut" ["amount","places"] (Bn K)):Zz1 P w K mg Y 3 f fd ["one","other"] (qx K):=by
 refine okN F Ym (by nofun) λam A L s H vs Q E hr h=>?_
 obtain⟨a,b,u,o,v,o',rfl,M1,M2,k⟩:=h;have b1:=M1.lo;have b2:=GQ o o';have b3:=GR M1.hi M2.hi;refine⟨_,(Qd (Qt (i:=2) Ym.nd Z Zz0 (Qx (VN Z) Z O.max boot_max (Qa (QC JE (pv 0) Qj (λ_ _=>rfl)) (Qa (QC JE (pv 1) Qj (λ_ _=>rfl)) Qb))))
  (Qg (Qp (Qs (Qa (QC JE (nQ.pq hr Qr (Qa (pv 0) (Qa (pv 2) Qb))) Qj (λ_ _=>rfl)) (Qa (QC JE (nQ.pq hr Qr (Qa (pv 1) (Qa (pv 2) Qb))) Qj (λ_ _=>rfl)) (Qa (pv 2) Qb))))))),?_⟩
 exists _,Z,a,_,_,_,Z,Z,M1.sq,Z,_,Z,b,_,_,_,Z,Z,M2.sq,Z,o,o',Z;refine⟨_,Z,_,Z,a,u,o,mx o o',Z,M1,by lia,b3,λq1 h1=>⟨q1,_,_,_,Z,Z,aw.of Qf,Z,?_⟩⟩;refine⟨_,Z,_,Z,b,v,o',mx o o',Z,M2.same (Qn.new h1),by lia,b3,λq2 h2=>⟨q2,_,_,_,Z,Z,aw.of Qf,Z,?_⟩⟩;refine⟨_,Z,by show 3<=sizeLine;lia,λq3 h3=>?_⟩;have M0:Qn H (upd (upd H q1 (.tup [.int (ax.Xt u o (mx o o')),.int (mx o o')])) q2 (.tup [.int (ax.Xt v o' (mx o o')),.int (mx o o')])):=(Qn.new h1).trans (Qn.new h2);refine k q3 _ (M0.trans (Qn.new h3)) (M0.free h3) ?_;rw[Qf,ax.Ls (GQ o o'),ax.Ls (MZ o o')];rfl
def GS(K:Frag):Sp:=λvs H Q _=>∃(a b:Addr)(u o v o':Int),vs=[.ref a,.ref b]/\cb K H a u o/\cb K H b v o'/\
 ∀H',Qn H H'->Q (.bl (decide (u*ax.aJ (18-o)=v*ax.aJ (18-o')))) H'
def GU(K:Frag)(g:Int->Int->Int):Sp:=λvs H Q _=>∃(a b:Addr)(u o v o':Int),vs=[.ref a,.ref b]/\cb K H a u o/\cb K H b v o'/\
 ∀q H' z,Qn H H'->H q=none->H' q=some (.tup [.int z,.int (mx o o')])->z=g (u*ax.aJ (mx o o'-o)) (v*ax.aJ (mx o o'-o'))->Q (.ref q) H'
def up_eq(h1:o<=18)(h2:o'<=18):(u*ax.aJ (mx o o'-o)=v*ax.aJ (mx o o'-o'))↔u*ax.aJ (18-o)=v*ax.aJ (18-o'):=by
 rw[<-ax.xV (u:=u) (GQ o o') (GR h1 h2), <-ax.xV (u:=v) (MZ o o') (GR h1 h2)];exact(ax.SK (ax.JC _)).symm
def QeF(F:az K "same" "same" s_same f fd)(gX:Def P w K mg Y 3 "lined_up" ["one","other"] (qx K)):Zz1 P w K mg Y 4 f fd ["one","other"] (GS K):=by
 refine okN F U3 (by nofun) λam A L s H vs Q E hr h=>?_
 obtain⟨a,b,u,o,v,o',rfl,M1,M2,k⟩:=h;refine⟨_,(Qd (QW (gX.pq hr Qr (Qa (pv 0) (Qa (pv 1) Qb))) (QM Z (Qh (Qi (i:=2) U3.nd Z Zz0) (Qh (Qi (i:=3) U3.nd Z Zz0) (Qh (Qi (i:=4) U3.nd Z Zz0) Qz)))))
  (Qg (Qp (JS Jk (pv 2) (pv 3) (Qq _))))),?_⟩
 refine⟨_,Z,_,Z,a,b,u,o,v,o',Z,M1,M2,λq H' e hq ht=>⟨q,_,Z,aw.of ht,Z,_,_,Z,_,_,Z,_,_,Z,Z,?_⟩⟩;exists _,Z,_,Z,Z;have z:=k H' e;rw[<-decide_eq_decide.mpr (up_eq M1.hi M2.hi), <-KO]at z;exact z
def Qck(F:az K "added" "added" zU f fd)(gX:Def P w K mg Y 3 "lined_up" ["one","other"] (qx K)):Zz1 P w K mg Y 4 f fd ["one","other"] (GU K λx y=>x+y):=by
 refine okN F Vw (by nofun) λam A L s H vs Q E hr h=>?_
 obtain⟨a,b,u,o,v,o',rfl,M1,M2,k⟩:=h;refine⟨_,(Qd (QW (gX.pq hr Qr (Qa (pv 0) (Qa (pv 1) Qb))) (QM Z (Qh (Qi (i:=2) Vw.nd Z Zz0) (Qh (Qi (i:=3) Vw.nd Z Zz0) (Qh (Qi (i:=4) Vw.nd Z Zz0) Qz)))))
  (Qg (Qp (Qs (Qa (QG Jj (pv 2) (pv 3)) (Qa (pv 4) Qb)))))),?_⟩
 refine⟨_,Z,_,Z,a,b,u,o,v,o',Z,M1,M2,λq H' e hq ht=>⟨q,_,Z,aw.of ht,Z,_,_,Z,_,_,Z,_,_,Z,Z,?_⟩⟩;refine⟨_,Z,_,Z,_,_,Z,Z,_,Z,by show 2<=sizeLine;lia,λq2 h2=>?_⟩;exact k q2 _ _ (e.trans (Qn.new h2)) (e.free h2) Qf rfl
def WF(K:Frag)(c:Nat->Addr):Sp:=λvs H Q E=>∃(l:List Nat)(p:Addr)(u o:Int),vs=[.str (tx l),.ref p,.bl false]/\l.length<=500/\cb K H p u o/\
 ((Gy l/\∀H',Qn H H'->E (.ref (c 2)) none H')\/∃x,Q0 l=some x/\qp x/\∀H',Qn H H'->(10^(x.before+x.behind)<=(ax.Xt u o x.behind).natAbs->Q .aq H')/\((ax.Xt u o x.behind).natAbs<10^(x.before+x.behind)->Q (.str (tx (cont x.signed x.before x.behind (ax.Xt u o x.behind) x.behind))) H'))
def j8(F:az K "stored" "stored" Vy f fd)(O:Own mg)(gg:Def P w K mg Y 1 "ten_to" ["many"] zW)(hG:Def P w K mg Y 6 "understood_as" ["kind","picture"] (Wb K c))(nQ:Def P w K mg Y 2 "cut" ["amount","places"] (Bn K))(pz:Def P w K mg Y 2 "rounded" ["amount","places"] sP)(gy:Def P w K mg Y 7 "content_of" ["picture","amount"] (kl K c)):Zz1 P w K mg Y 8 f fd ["picture","amount","nearest"] (WF K c):=by
 refine bN F Xp (by nofun) λam A L s H vs Q E hr h=>?_
 obtain⟨l,p,u,o,rfl,hl,qMa,hc⟩:=h;have fr:=Jh (P:=P) (w:=w) (K:=K) (mg:=mg) (Y:=Y) (N:=["picture","amount","nearest","rows","signed","before","behind","result"]) (qual:="stored") (scope:=Qe Vy) (f:=f) (cd:=am) (A:=A) (L:=L) (s:=s) (H:=H) (E:=E);have hx:=QH fr;refine⟨_,(Qd (QW (hG.pq hr hx (Qa Qk (Qa (pv 0) Qb))) (QM Z (Qh (Qi (i:=3) Xp.nd Z Zz0) (Qh (QM Z (Qh (Qi (i:=4) Xp.nd Z Zz0) (Qh (Qi (i:=5) Xp.nd Z Zz0) (Qh (Qi (i:=6) Xp.nd Z Zz0) Qz)))) Qz))))
  (Qd (Qt (i:=7) Xp.nd Z Zz0 (Jd (Je (pv 2) (λ_=>rfl)) (pz.pq hr hx (Qa (pv 1) (Qa (pv 6) Qb))) (nQ.pq hr hx (Qa (pv 1) (Qa (pv 6) Qb)))))
  (Qd (QN (Ql vA (Qx Xw Z O.abs yeX (Qa (QC JE (pv 7) Qj (λ_ _=>rfl)) Qb)) (gg.pq hr hx (Qa (QG Jj (pv 5) (pv 6)) Qb)) (Qq _)) (Qg (Qp Zw)) Qw)
  (Qg (Qp (gy.pq hr hx (Qa (pv 0) (Qa (pv 7) Qb)))))))),?_⟩
 rcases hc with⟨ST,k⟩|⟨x,pr,iY,k⟩
 .exact⟨_,Z,l,2,Z,hl,by lia,λ_=>k,λx hp hk=>absurd hk (ST x hp)⟩
 obtain⟨Bo,h1,eT⟩:=id iY;refine⟨_,Z,l,2,Z,hl,by lia,(λz=>absurd Bo (z x pr).2),λx' hp _ q p1 rs r H1 S1 g1 g2 R1=>?_⟩;obtain rfl:x=x':=tO (pr.symm.trans hp);exists q,_,Z,aw.of g1,Z,_,_,Z,_,_,Z,r,_,Z,aw.of g2,Z,_,_,Z,_,_,Z,_,_,Z,Z,Z;refine⟨_,Z,false,Z,QO ?_⟩;refine⟨_,Z,_,Z,p,u,o,(x.behind:Int),Z,qMa.same S1,by lia,by lia,λq2 eC=>?_⟩;have S2:=Qn.new (o:=.tup [.int (ax.Xt u o x.behind),.int (x.behind:Nat)]) eC;have g3:upd H1 q2 (.tup [.int (ax.Xt u o x.behind),.int (x.behind:Nat)]) q2=some (.tup [.int (ax.Xt u o x.behind),.int (x.behind:Nat)]):=Qf;generalize upd H1 q2 (.tup [.int (ax.Xt u o x.behind),.int (x.behind:Nat)])=H2 at S2 g3;obtain⟨kN,kS⟩:=k H2 (S1.trans S2);have k:=k;generalize ax.Xt u o x.behind=R at g3 kN kS k;have GV:ax.aJ (((x.before:Nat):Int)+((x.behind:Nat):Int))=((10^(x.before+x.behind):Nat):Int):=by
  unfold ax.aJ;rw[show(((x.before:Nat):Int)+((x.behind:Nat):Int)).toNat=x.before+x.behind by lia];push_cast;rfl
 exists _,Z,q2,_,_,_,Z,Z,aw.of g3,Z,R,Z,_,Z,_,Z,_,_,Z,Z,_,Z,by lia,by lia,_,_,Z,Z,_,Z;rw[GV,MD];refine bE (λz=>?_) (λz=>?_)
 .exact kN (by have:=ybi z;lia)
 .have ap:R.natAbs<10^(x.before+x.behind):=by have:=ybz z;lia
  refine⟨_,Z,_,Z,l,q2,R,(x.behind:Nat),Z,hl,⟨aw.of g3,ybu (MC ap eT) (by lia),by lia,by lia⟩,.inr ⟨x,pr,iY,λH3 S3=>?_⟩⟩;exact(k H3 ((S1.trans S2).trans S3)).2 ap
inductive Ly where
 |box (nm:Str) (p:Nat)
 |aL (nm:Str) (its:List (Bool × Ly))
 |tab (nm:Str) (k:Nat) (its:List (Bool × Ly))
noncomputable def Y0:Nat->Str
 |0=>"S9(3)V99"|1=>"X(3)"|2=>"S9(6)V99"|3=>"X(8)"|4=>"-,---,--9.99"|_=>"9(3)"
noncomputable def aR:Nat->Nat
 |0=>5|1=>3|2=>8|3=>8|4=>12|_=>3
mutual
noncomputable def Ly.dv:Ly->Dv
 | .box nm p=>.tup [.str "box",.str nm,.str (Y0 p)]
 | .aL nm its=>.tup [.str "group",.str nm,.tup (bD its)]
 | .tab nm k its=>.tup [.str "table",.str nm,.int (k:Nat),.tup (bD its)]
noncomputable def bD:List (Bool × Ly)->List Dv
 |[]=>[]
 |x::xs=>cp x::bD xs
noncomputable def cp:Bool × Ly->Dv
 |(ov,y)=>if ov=true then .tup [.str "over",y.dv]else y.dv
end
mutual
noncomputable def Ly.sz:Ly->Nat
 | .box _ p=>aR p
 | .aL _ its=>aE its
 | .tab _ k its=>aE its*k
noncomputable def aE:List (Bool × Ly)->Nat
 |[]=>0
 |x::xs=>cX x+aE xs
noncomputable def cX:Bool × Ly->Nat
 |(ov,y)=>if ov=true then 0 else y.sz
end
mutual
noncomputable def Ly.cn:Ly->Nat
 | .box _ _=>1
 | .aL _ its=>1+bK its
 | .tab _ _ its=>1+bK its
noncomputable def bK:List (Bool × Ly)->Nat
 |[]=>0
 |x::xs=>dX x+bK xs
noncomputable def dX:Bool × Ly->Nat
 |(_,y)=>y.cn
end
mutual
def Ly.bU:Ly->Prop
 | .box _ _=>True
 | .aL _ its=>bu its
 | .tab _ k its=>k<=1000/\bu its
def bu:List (Bool × Ly)->Prop
 |[]=>True
 |x::xs=>dY x/\bu xs
def dY:Bool × Ly->Prop
 |(_,y)=>y.bU
end
theorem YC:∀{its:List (Bool × Ly)}{j:Nat}{x:Bool × Ly},bu its->its[j]? =some x->dY x
 |[],_,_,_,h=>by simp at h
 |y::ys,0,x,o,h=>by
  rw[bu]at o;have:y=x:=by simpa using h
  subst this;exact o.1
 |y::ys,j+1,x,o,h=>by
  rw[bu]at o;exact YC (its:=ys) (j:=j) o.2 (by simpa using h)
theorem ZS:∀its:List (Bool × Ly),bD its=its.map cp
 |[]=>rfl
 |x::xs=>by rw[bD,ZS xs];rfl
def Ly.Qgm(y:Ly):1<=y.cn:=by cases y<;>rw[Ly.cn]<;>lia
def QeG(x:Bool × Ly):1<=dX x:=by obtain⟨o,y⟩:=x;rw[dX];exact y.Qgm
def Qcl(e:z=tx l)(h1:Q0 l=some x)(h2:40∉l)(h3:l.length<=100)(h4:(l.filter YO).length=n):∃(a l:List Nat)(x:Facts),z=tx l/\cm a l x/\(a.filter YO).length=n:=
 ⟨l,l,x,e,⟨h1,ym l h2,h2,h3,by lia⟩,h4⟩
def xg{c d m:Nat}{z:Str}(e:z=tx [c,40,d,41])(h1:Q0 [c,40,d,41]=some x)(hc:c≠40)(hn:Num [d] (m+1))(hm:m<=50)(h4:YO c=true):∃(a l:List Nat)(x:Facts),z=tx l/\cm a l x/\(a.filter YO).length=m+1:=by
 refine⟨replicate (m+1) c,_,x,e,⟨h1,?_,?_,by rw[lj];lia,(show 4<=500 by lia)⟩,?_⟩
 .exact Sh.brk m Sh.nil hc hn
 .intro h;exact hc (yaz h).symm
 .rw[List.filter_eq_self.mpr (λy hy=>by rw[yaz hy];exact h4),lj]
def YD(h:[d].head?≠some 48/\48<=d/\d<=57/\NumText.digitsVal [d]=m):Num [d] m:=⟨by simp,λx hx=>by obtain rfl:=yao.mp hx;exact⟨h.2.1,h.2.2.1⟩,h.1,h.2.2.2⟩
def M3(e:z=tx [83,57,40,d,41,86,57,57])(h1:Q0 [83,57,40,d,41,86,57,57]=some x)(hn:Num [d] (m+1))(hm:m<=20):∃(a l:List Nat)(x:Facts),z=tx l/\cm a l x/\(a.filter YO).length=m+3:=by
 have hs:Sh ((([83]++replicate (m+1) 57)++[86])++[57,57]) [83,57,40,d,41,86,57,57]:=Sh.out (c:=57) 1 (Sh.out (c:=86) 0 (Sh.brk (c:=57) m (Sh.out (a:=[]) (b:=[]) (c:=83) 0 Sh.nil (by lia)) (by lia) hn) (by lia)) (by lia);refine⟨_,_,x,e,⟨h1,hs,?_,by simp;lia,(show 8<=500 by lia)⟩,?_⟩
 .simp
 .have e2:(replicate (m+1) 57).filter YO=replicate (m+1) 57:=List.filter_eq_self.mpr λy hy=>by rw[yaz hy];lia
  rw[ybA,ybA,ybA,tJ,tJ,tJ,e2,lj,show([83].filter YO)=[] by lia,show([86].filter YO)=[] by lia,show([57,57].filter YO).length=2 by lia];simp only[ybc];lia
def VC(p:Nat):∃(a l:List Nat)(x:Facts),Y0 p=tx l/\cm a l x/\(a.filter YO).length=aR p:=by
 unfold Y0 aR
 split
 .exact M3 (d:=51) (m:=2) (by rfl') (by first|rfl|rfl') (YD (by lia)) (by lia)
 .exact xg (c:=88) (d:=51) (m:=2) (by rfl') (by first|rfl|rfl') (by lia) (YD (by lia)) (by lia) (by lia)
 .exact M3 (d:=54) (m:=5) (by rfl') (by first|rfl|rfl') (YD (by lia)) (by lia)
 .exact xg (c:=88) (d:=56) (m:=7) (by rfl') (by first|rfl|rfl') (by lia) (YD (by lia)) (by lia) (by lia)
 .exact Qcl (l:=[45,44,45,45,45,44,45,45,57,46,57,57]) (by rfl') (by first|rfl|rfl') (by lia) (by lia) (by lia)
 .exact xg (c:=57) (d:=51) (m:=2) (by rfl') (by first|rfl|rfl') (by lia) (YD (by lia)) (by lia) (by lia)
structure LsSt(Hb H:Hp)(q:Addr)(xs:List V)(acc:List Dv):Prop where
 S:Qn Hb H
 f:Hb q=none
 g:H q=some (.lst xs)
 t:aj H xs acc
def qy(S:Qn H H2)(h:H l=none):Qn H (upd H2 l o):=λb o' e=>by rw[Qo (QB e h)];exact S _ _ e
theorem LsSt.same{q:Addr}{xs:List V}{acc:List Dv}(B:LsSt Hb H q xs acc)(S:Qn H H'):LsSt Hb H' q xs acc:=⟨B.S.trans S,B.f,S _ _ B.g,B.t.same S⟩
def LsSt.put{xs ys:List V}{acc Cl:List Dv}(B:LsSt Hb H q xs acc)(t:aj H ys Cl):LsSt Hb (upd H q (.lst ys)) q ys Cl:=⟨qy B.S B.f,B.f,Qf,t.wH B.g (λzs z=>nomatch z)⟩
noncomputable def Ly.word:Ly->Str
 | .box _ _=>"box"
 | .aL _ _=>"group"
 | .tab _ _ _=>"table"
noncomputable def Ly.name:Ly->Str
 | .box nm _=>nm
 | .aL nm _=>nm
 | .tab nm _ _=>nm
def YE{nm:Str}(h:ag H v (Ly.box nm p).dv):∃a,v=.ref a/\H a=some (.tup [.str "box",.str nm,.str (Y0 p)]):=by
 rw[Ly.dv]at h;obtain⟨a,xs,rfl,g,t⟩:=ag.Ud h;cases t with
 |cons p1 t=>cases t with
  |cons p2 t=>cases t with
   |cons p3 t=>
    cases t;obtain rfl:=p1.xZ;obtain rfl:=p2.xZ;obtain rfl:=p3.xZ;exact⟨a,Z,g⟩
def KK{nm:Str}(h:ag H v (Ly.aL nm its).dv):∃a x,v=.ref a/\H a=some (.tup [.str "group",.str nm,x])/\ag H x (.tup (bD its)):=by
 rw[Ly.dv]at h;obtain⟨a,xs,rfl,g,t⟩:=ag.Ud h;cases t with
 |cons p1 t=>cases t with
  |cons p2 t=>cases t with
   |cons p3 t=>
    cases t;obtain rfl:=p1.xZ;obtain rfl:=p2.xZ;exact⟨a,_,Z,g,p3⟩
def Vo{nm:Str}(h:ag H v (Ly.tab nm k its).dv):∃a x,v=.ref a/\H a=some (.tup [.str "table",.str nm,.int (k:Nat),x])/\ag H x (.tup (bD its)):=by
 rw[Ly.dv]at h;obtain⟨a,xs,rfl,g,t⟩:=ag.Ud h;cases t with
 |cons p1 t=>cases t with
  |cons p2 t=>cases t with
   |cons p3 t=>cases t with
    |cons p4 t=>
     cases t;obtain rfl:=p1.xZ;obtain rfl:=p2.xZ;obtain rfl:=p3.l9;exact⟨a,_,Z,g,p4⟩
def qA(h:ag H v (cp (true,y))):∃a x,v=.ref a/\H a=some (.tup [.str "over",x])/\ag H x y.dv:=by
 rw[cp,yai rfl]at h;obtain⟨a,xs,rfl,g,t⟩:=ag.Ud h;cases t with
 |cons p1 t=>cases t with
  |cons p2 t=>
   cases t;obtain rfl:=p1.xZ;exact⟨a,_,Z,g,p2⟩
def GW{H:Hp}{v:V}{y:Ly}(h:ag H v y.dv):∃a xs,v=.ref a/\H a=some (.tup (.str y.word:: .str y.name::xs)):=by
 cases y with
 |box nm p=>obtain⟨a,rfl,g⟩:=YE h;exact⟨a,_,Z,g⟩
 |aL nm its=>obtain⟨a,x,rfl,g,_⟩:=KK h;exact⟨a,_,Z,g⟩
 |tab nm k its=>obtain⟨a,x,rfl,g,_⟩:=Vo h;exact⟨a,_,Z,g⟩
def QiT:decide (V.str "box"=V.str "over")=false:=by rfl'
def QiU:decide (V.str "group"=V.str "over")=false:=by rfl'
def QiV:decide (V.str "table"=V.str "over")=false:=by rfl'
def sQ:decide (V.str "group"=V.str "box")=false:=by rfl'
def sR:decide (V.str "table"=V.str "box")=false:=by rfl'
def GX:decide (V.str "table"=V.str "group")=false:=by rfl'
def M6:decide (V.str "over"=V.str "box")=false:=by rfl'
def M7:decide (V.str "over"=V.str "group")=false:=by rfl'
def M8:decide (V.str "over"=V.str "table")=false:=by rfl'
def QiW:decide (V.str "box"=V.str "table")=false:=by rfl'
def QiX:decide (V.str "group"=V.str "table")=false:=by rfl'
def j9(y:Ly):decide (V.str y.word=V.str "over")=false:=by
 cases y with
 |box nm p=>exact QiT
 |aL nm its=>exact QiU
 |tab nm k its=>exact QiV
def ky:Sp:=λvs H Q _=>∃(v:V)(o:Bool)(y:Ly),vs=[v]/\ag H v (cp (o,y))/\∀u,ag H u y.dv->Q u H
def QeI(F:az K "bare" "bare" yX f fd):Zz1 P w K mg Y 1 f fd ["item"] ky:=by
 refine ei F Qem (by nofun) λam A L s H vs Q E hr h=>?_
 obtain⟨v,o,y,rfl,D,k⟩:=h;refine⟨_,(Jb (Jr (Qf6 (Ql Jk (QC QE (pv 0) Qj (λ_ _=>rfl)) Qk (Qq _)) (aA.mk (QC QE (pv 0) Qj (λ_ _=>rfl))) (aA.mk (pv 0))))),?_⟩;cases o with
 |true=>
  obtain⟨a,x,rfl,g,D2⟩:=qA D;exact⟨_,Z,a,_,0,_,Z,Z,.inl g,Z,Z,true,Z,QZ ⟨_,Z,a,_,1,_,Z,Z,.inl g,Z,k _ D2⟩⟩
 |false=>
  have D:ag H v y.dv:=by rw[cp,yag (by lia)]at D;exact D
  obtain⟨a,xs,rfl,g⟩:=GW D;exact⟨_,Z,a,_,0,_,Z,Z,.inl g,Zr (j:=0) rfl,Z,false,by rw[j9],QO ⟨_,Z,k _ D⟩⟩
noncomputable def eU(x:List (Bool × Ly) × Nat):Dv:=.tup [.tup (bD x.1),.int (x.2:Nat)]
noncomputable def wS:List (List (Bool × Ly) × Nat)->Nat
 |[]=>0
 |x::xs=>aE x.1*x.2+wS xs
noncomputable def cS:List (List (Bool × Ly) × Nat)->Nat
 |[]=>0
 |x::xs=>(1+bK x.1)+cS xs
theorem kz:∀a b,wS (a++b)=wS a+wS b
 |[],b=>by rw[lz,wS];lia
 |x::a,b=>by rw[lu,wS,wS,kz a b];lia
theorem kA:∀a b,cS (a++b)=cS a+cS b
 |[],b=>by rw[lz,cS];lia
 |x::a,b=>by rw[lu,cS,cS,kA a b];lia
theorem GY:∀st,st.length<=cS st
 |[]=>lF _
 |x::xs=>by
  have:=GY xs;rw[tQ,cS];lia
def YF:Sp:=λvs H Q _=>∃(v:V)(its:List (Bool × Ly)),vs=[v]/\ag H v (.tup (bD its))/\bK its<=10000/\bu its/\∀H',Qn H H'->Q (.int (aE its:Nat)) H'
def Qgn{its:List (Bool × Ly)}{j:Nat}(h:its[j]? =some x):aE (its.drop j)=cX x+aE (its.drop (j+1))/\bK (its.drop j)=dX x+bK (its.drop (j+1)):=by
 have hl:=(yaf.mp h).1;rw[yaI hl,(yaf.mp h).2,aE,bK];exact⟨Z,Z⟩
def xh(F:az K "signs_in" "signs_in" W4 f fd)(gr:Def P w K mg Y 7 "size_of" ["picture"] Um):Zz1 P w K mg Y 8 f fd ["layout"] YF:=by
 refine ei F JV (by nofun) λam A L s H vs Q E hr h=>?_
 obtain⟨v,its,rfl,D,hc,ao,k⟩:=h;have hz:100000<=sizeLine:=by rw[yaG];lia
 refine⟨_,(QD (JM (i:=1) JV.nd Z Zz0 (aA.mk Qj) Z Z)
  (QD (JM (i:=2) JV.nd Z Zz0 (zF (JP (X4 (JP (aA.mk (pv 0)) (JP (aA.mk Qj) JB Z) Z)) JB Z)) Z Z)
  (QD (b9.mk (Xv yaB (Je (pv 2) (λ_=>rfl)) (Qd (QW (xF yaC yeD yeE xH (pv 2)) (QM Z (Qh (Qi (i:=3) JV.nd Z Zz0) (Qh (Qi (i:=4) JV.nd Z Zz0) Qz))))
  (Qg (ZW yaB Z (jg (pv 3)) (Qi (i:=5) JV.nd Z Zz0) (Qg (QN (Ql Jk (QC QE (pv 5) Qj (λ_ _=>rfl)) Qk (Qq _)) (Qg (Wg (i:=1) JV.nd Z Zz0 (QG Wj (pv 4) (gr.pq hr Qr (Qy (QC QE (pv 5) Qj (λ_ _=>rfl)) Qb))) Vi)) (Qg (QN (Ql Jk (QC QE (pv 5) Qj (λ_ _=>rfl)) Qk (Qq _)) (Qg (Q7 (JL yaC yaD yaE JO (pv 2) (Qy (Qs (Qy (QC QE (pv 5) Qj (λ_ _=>rfl)) (Qy (pv 4) Qb))) Qb)))) (Qg (QN (Ql Jk (QC QE (pv 5) Qj (λ_ _=>rfl)) Qk (Qq _)) (Qg (Q7 (JL yaC yaD yaE JO (pv 2) (Qy (Qs (Qy (QC QE (pv 5) Qj (λ_ _=>rfl)) (Qy (QG Wj (pv 4) (QC QE (pv 5) Qj (λ_ _=>rfl))) Qb))) Qb)))) Qw)))))))))))
  (Jb (Jr (aA.mk (pv 1))))))),?_⟩
 dsimp only[QL,Za,Zb,Q1];refine⟨_,Z,bj,λp hp=>⟨eN,λlf No=>?_⟩⟩;have S1:=Qn.new (o:=.tup [v,.int 1]) hp;have M9:H lf=none:=by
  cases e:H lf with
  |none=>rfl
  |some o=>rw[S1 _ _ e]at No;cases No
 have B1:LsSt H (upd (upd H p (.tup [v,.int 1])) lf (.lst [.ref p])) lf [.ref p] ([(its,1)].map eU):=by
  have S2:=Qn.new (o:=.lst [V.ref p]) No;exact⟨S1.trans S2,M9,Qf,.cons ((ag.tup Qf (.cons (D.same S1) (.cons .int .nil))).same S2) .nil⟩
 generalize upd (upd H p (.tup [v,.int 1])) lf (.lst [.ref p])=H1 at B1;clear S1 No hp;refine⟨λm σ H2=>∃(n:Nat)(xs:List V)(st:List (List (Bool × Ly) × Nat))(y3 y4 y5:Option V),σ=[some v,some (.int (n:Nat)),some (.ref lf),y3,y4,y5]/\LsSt H H2 lf xs (st.map eU)/\n+wS st=aE its/\cS st<=m/\m<=20000/\∀e∈st,bu e.1,⟨20000,0,_,_,none,none,none,Z,B1,by simp[wS],by simp only[cS];lia,tN _,λe he=>by rw[yao.mp he];exact ao⟩,?_⟩;clear B1;rintro m σ H2 ⟨n,xs,st,y3,y4,y5,rfl,B,hw,SC,hm,f8⟩;have fN:=B.t.length;rw[tK]at fN;have lst:=GY st;rcases ybh st with rfl|⟨pi,e0,rfl⟩
 .have e:xs=[]:=ybD (by simpa using fN);subst e;refine⟨_,Z,false,.inl ⟨_,.inl (.inl B.g),Z⟩,QO ⟨_,Z,?_⟩⟩;rw[wS,yfh]at hw;rw[hw];exact k _ B.S
 rw[yaT]at B hw SC fN lst;rw[yaT]at f8;obtain⟨Fk,t0⟩:=e0;have GZ:bu Fk:=f8 _ (tR _ tW);have G0:∀e∈pi,bu e.1:=λe he=>f8 e (tT _ he);rw[kz]at hw;rw[kA]at SC;have hw:n+(wS pi+(aE Fk*t0+0))=aE its:=hw;have SC:cS pi+((1+bK Fk)+0)<=m:=SC;rw[lq]at B;obtain⟨ci,xl,rfl,t1,Dl⟩:∃ci xl,xs=ci++[xl]/\aj H2 ci (pi.map eU)/\ag H2 xl (eU (Fk,t0)):=by
  rcases ybh xs with rfl|⟨ci,xl,rfl⟩
  .simp at fN
  .rw[yaT]at B ⊢;have l0:ci.length=(pi.map eU).length:=by
    have:=B.t.length;rw[tJ,tJ]at this;simpa using this
   have ht:=B.t.take ci.length;have hd:=B.t.drop ci.length;rw[ycx rfl,l0,ycx rfl]at ht;rw[ycy rfl,l0,ycy rfl]at hd;cases hd with
   |cons h t=>exact⟨ci,xl,Z,ht,h⟩
 refine⟨_,Z,true,.inl ⟨_,.inl (.inl B.g),by simp⟩,QZ ?_⟩;refine⟨λσ' H'=>∃m',m'<m/\∃(n:Nat)(xs:List V)(st:List (List (Bool × Ly) × Nat))(y3 y4 y5:Option V),σ'=[some v,some (.int (n:Nat)),some (.ref lf),y3,y4,y5]/\LsSt H H' lf xs (st.map eU)/\n+wS st=aE its/\cS st<=m'/\m'<=20000/\∀e∈st,bu e.1,λ_ _ h=>h,?_⟩;exists _,Z,.inl ⟨Z,_,.inl (.inl B.g)⟩;refine⟨lf,_,xl,Z,Z,B.g,by simp,?_⟩;have B3:LsSt H (upd H2 lf (.lst (ci++[xl]).dropLast)) lf ci (pi.map eU):=by
  rw[ycb];exact B.put t1
 have fP:=Dl.wH (o':=.lst (ci++[xl]).dropLast) B.g (λzs z=>nomatch z);generalize upd H2 lf (.lst (ci++[xl]).dropLast)=H3 at B3 fP;clear B Dl t1 fN;obtain⟨pa,px,rfl,gp,tp⟩:=ag.Ud (show ag H3 xl (.tup [.tup (bD Fk),.int (t0:Nat)])from fP);obtain⟨xi,rfl,Di⟩:∃xi,px=[xi,.int (t0:Nat)]/\ag H3 xi (.tup (bD Fk)):=by
  cases tp with
  |cons p1 t=>cases t with
   |cons p2 t=>
    cases t;obtain rfl:=p2.l9;exact⟨_,Z,p1⟩
 exists pa,_,Z,.inl (.inl gp),Z,_,_,Z,_,_,Z,Z;obtain⟨ia,ix,rfl,gi,ti⟩:=ag.Ud Di;rw[ZS]at ti;have G1:=ti.length;rw[tK]at G1;dsimp only[QL,Za,Zb,Q1];exists _,Z,ia,Z,⟨_,.inl (.inl gi)⟩;refine WW (LZ (K:=K) (a:=ia) (xs:=ix)) (λj σ H4=>∃(n':Nat)(xs:List V)(st:List (List (Bool × Ly) × Nat))(y5:Option V),σ=[some v,some (.int (n':Nat)),some (.ref lf),some (.ref ia),some (.int (t0:Nat)),y5]/\LsSt H H4 lf xs (st.map eU)/\n'+wS st+aE (Fk.drop j)*t0=aE its/\cS st+bK (Fk.drop j)+1<=m/\H4 ia=some (.tup ix)/\aj H4 ix (Fk.map cp)/\∀e∈st,bu e.1) ⟨n,ci,pi,y5,Z,B3,by rw[yco];lia,by rw[yco];lia,gi,ti,G0⟩ ?_ ?_ ?_
 .rintro j σ H4 _ ⟨n',xs,st,y5,rfl,_,_,_,g4,_,_⟩;exact .inl (.inl g4)
 .rintro j x σ H40 H4 hj ⟨n',xs,st,y5,rfl,B4,eV,iZ,g4,t4,cY⟩ ⟨rfl,hx⟩;obtain⟨d,hd,Dx⟩:=t4.zM hx;rw[lg]at hd;cases eo:Fk[j]? with
  |none=>rw[eo]at hd;cases hd
  |some oy=>
   rw[eo]at hd;obtain rfl:=tO hd;obtain⟨q1,q2⟩:=Qgn eo;rw[q1]at eV;rw[q2]at iZ;have cR:=QeG oy;have fN:=B4.t.length;rw[tK]at fN;have lst4:=GY st;have fQ:=YC GZ eo;have M':ia≠lf:=λz=>by rw[z,B4.g]at g4;cases g4
   obtain⟨ov,y⟩:=oy;cases ov with
   |true=>
    obtain⟨a,x2,rfl,g,_⟩:=qA Dx;rw[cX,yai rfl,ybU]at eV;refine⟨_,Z,a,_,0,_,Z,Z,.inl g,Z,Z,false,by rw[M6],QO ?_⟩;refine⟨_,Z,a,_,0,_,Z,Z,.inl g,Z,Z,false,by rw[M7],QO ?_⟩;refine⟨_,Z,a,_,0,_,Z,Z,.inl g,Z,Z,false,by rw[M8],QO ?_⟩;exact⟨n',xs,st,_,Z,B4,by lia,by lia,g4,t4,cY⟩
   |false=>
    rw[cp,yag (by lia)]at Dx;rw[cX,yag (by lia)]at eV;rw[Nat.add_mul]at eV;rw[dX]at iZ cR;cases y with
    |box nm p=>
     obtain⟨a,rfl,g⟩:=YE Dx;obtain⟨pa2,pl,px2,ep,hp,es⟩:=VC p;rw[Ly.sz]at eV;refine⟨_,Z,a,_,0,_,Z,Z,.inl g,Z,Z,true,Z,QZ ?_⟩;refine⟨_,Z,_,Z,_,Z,a,_,2,_,Z,Z,.inl g,Z,pa2,pl,px2,(by rw[ep];rfl),hp,λH5 S5=>?_⟩;rw[es];have hszp:aR p<=12:=by unfold aR;split<;>lia
     refine⟨_,_,Z,Z,.inr ⟨by lia,by lia⟩,?_⟩;exists _,_,Z,Z;refine⟨n'+aR p*t0,xs,st,some (.ref a),?_,B4.same S5,by lia,by rw[Ly.cn]at iZ;lia,S5 _ _ g4,t4.same S5,cY⟩;have e:((n':Nat):Int)+((t0:Nat):Int)*((aR p:Nat):Int)=((n'+aR p*t0:Nat):Int):=by push_cast;rw[Int.mul_comm]
     rw[<-e];rfl
    |aL nm sK=>
     obtain⟨a,x2,rfl,g,D2⟩:=KK Dx;rw[Ly.sz]at eV;rw[Ly.cn]at iZ;have oG:bu sK:=by rw[dY,Ly.bU]at fQ;exact fQ
     refine⟨_,Z,a,_,0,_,Z,Z,.inl g,Z,Z,false,by rw[sQ],QO ?_⟩;refine⟨_,Z,a,_,0,_,Z,Z,.inl g,Z,Z,true,Z,QZ ?_⟩;exists _,Z,.inl ⟨Z,_,.inl (.inl B4.g)⟩;refine⟨_,Z,a,_,2,_,Z,Z,.inl g,Z,_,Z,bj,λp5 iT=>?_⟩;have S5:=Qn.new (o:=.tup [x2,.int (t0:Nat)]) iT;have B5:=B4.same S5;have D5:ag (upd H4 p5 (.tup [x2,.int (t0:Nat)])) (.ref p5) (eU (sK,t0)):=.tup Qf (.cons (D2.same S5) (.cons .int .nil));have g5:=S5 _ _ g4;have t5:=t4.same S5;generalize upd H4 p5 (.tup [x2,.int (t0:Nat)])=H5 at B5 D5 g5 t5;refine⟨lf,xs,.ref p5,Z,Z,B5.g,by lia,?_⟩;refine⟨n',xs++[.ref p5],st++[(sK,t0)],_,Z,?_,?_,?_,by rw[Qo M'];exact g5,t5.wH B5.g (λzs z=>nomatch z),?_⟩
     .rw[lq];exact B5.put (B5.t.append (.cons D5 .nil))
     .rw[kz];show n'+(wS st+(aE sK*t0+0))+_=_;lia
     .rw[kA];show cS st+((1+bK sK)+0)+_+1<=m;lia
     .intro e he;rcases yaq.mp he with he|he
      .exact cY e he
      .rw[yao.mp he];exact oG
    |tab nm k1 sK=>
     obtain⟨a,x2,rfl,g,D2⟩:=Vo Dx;rw[Ly.sz]at eV;rw[Ly.cn]at iZ;obtain⟨Gj,oG⟩:k1<=1000/\bu sK:=by rw[dY,Ly.bU]at fQ;exact fQ
     refine⟨_,Z,a,_,0,_,Z,Z,.inl g,Z,Z,false,by rw[sR],QO ?_⟩;refine⟨_,Z,a,_,0,_,Z,Z,.inl g,Z,Z,false,by rw[GX],QO ?_⟩;refine⟨_,Z,a,_,0,_,Z,Z,.inl g,Z,Z,true,Z,QZ ?_⟩;exists _,Z,.inl ⟨Z,_,.inl (.inl B4.g)⟩;refine⟨_,Z,a,_,3,_,Z,Z,.inl g,Z,_,Z,_,Z,a,_,2,_,Z,Z,.inl g,Z,_,_,Z,Z,.inr ⟨by lia,by lia⟩,bj,λp5 iT=>?_⟩;have e:((t0:Nat):Int)*((k1:Nat):Int)=((t0*k1:Nat):Int):=by push_cast;rfl
     dsimp only;rw[e];have S5:=Qn.new (o:=.tup [x2,.int (t0*k1:Nat)]) iT;have B5:=B4.same S5;have D5:ag (upd H4 p5 (.tup [x2,.int (t0*k1:Nat)])) (.ref p5) (eU (sK,t0*k1)):=.tup Qf (.cons (D2.same S5) (.cons .int .nil));have g5:=S5 _ _ g4;have t5:=t4.same S5;generalize upd H4 p5 (.tup [x2,.int (t0*k1:Nat)])=H5 at B5 D5 g5 t5;refine⟨lf,xs,.ref p5,Z,Z,B5.g,by lia,?_⟩;refine⟨n',xs++[.ref p5],st++[(sK,t0*k1)],_,Z,?_,?_,?_,by rw[Qo M'];exact g5,t5.wH B5.g (λzs z=>nomatch z),?_⟩
     .rw[lq];exact B5.put (B5.t.append (.cons D5 .nil))
     .rw[kz];show n'+(wS st+(aE sK*(t0*k1)+0))+_=_;have e2:aE sK*k1*t0=aE sK*(t0*k1):=by rw[yey,ybP k1 t0]
      lia
     .rw[kA];show cS st+((1+bK sK)+0)+_+1<=m;lia
     .intro e he;rcases yaq.mp he with he|he
      .exact cY e he
      .rw[yao.mp he];exact oG
 .rintro σ H4 ⟨n',xs,st,y5,rfl,B4,eV,iZ,_,_,cY⟩;rw[yaw (by lia)]at eV iZ;simp only[aE,bK]at eV iZ;exact⟨m-1,by lia,n',xs,st,_,_,_,Z,B4,by lia,by lia,by lia,cY⟩
structure fR(K:Frag):Prop where
 st:kitOne K (.type "str") (.type "tuple")=some false
 tt:kitOne K (.type "tuple") (.type "tuple")=some true
 ii:kitOne K (.type "int") (.type "int")=some true
 ib:kitOne K (.type "int") (.type "bool")=some false
noncomputable abbrev Step:=Str × Option Nat
noncomputable def Va:Step->Dv
 |(nm,none)=>.str nm
 |(nm,some i)=>.tup [.str nm,.int (i:Nat)]
noncomputable def Dy:Option Nat->V
 |none=>.aq
 |some i=>.int (i:Nat)
def qB:Sp:=λvs H Q _=>∃i:Int,vs=[.int i]/\Q (.bl true) H
def xj(F:az K "is_whole" "is_whole" W5 f fd)(O:Own mg)(KT:fR K):Zz1 P w K mg Y 1 f fd ["thing"] qB:=by
 refine ei F zT (by nofun) λam A L s H vs Q E hr h=>?_
 obtain⟨i,rfl,k⟩:=h;exists _,(Jb (Jr (aA.mk (Y6 (Qx Wr Z O.lR ydk (Qy (pv 0) (Qy (VJ (v:=V.ty "int") Z O.int boot_int Z) Qb))) (Y5 (OU (Qx Wr Z O.lR ydk (Qy (pv 0) (Qy (VJ (v:=V.ty "bool") Z O.bool boot_bool Z) Qb)))))))));refine⟨_,Z,_,_,true,Z,Z,.inl ⟨_,.int _,KT.ii⟩,true,Z,QZ ?_⟩;exact⟨_,Z,_,_,false,Z,Z,.inl ⟨_,.int _,KT.ib⟩,_,Z,k⟩
def xk:Sp:=λvs H Q _=>∃(v:V)(st:Step),vs=[v]/\ag H v (Va st)/\∀q H',Qn H H'->H' q=some (.tup [.str st.1,Dy st.2])->Q (.ref q) H'
def qC(F:az K "step_parts" "step_parts" Ka f fd)(O:Own mg)(OT:mg "tuple"=none)(KT:fR K)(pC:Def P w K mg Y 1 "is_whole" ["thing"] qB):Zz1 P w K mg Y 2 f fd ["step"] xk:=by
 refine ei F U2 (by nofun) λam A L s H vs Q E hr h=>?_
 obtain⟨v,⟨nm,o⟩,rfl,D,k⟩:=h;have hz:=zza
 refine⟨_,(QD (L9 (PW.pt (Zx (XX (Qx Wr Z O.lR ydk (Qy (pv 0) (Qy (VJ (v:=V.ty "tuple") Z OT boot_tuple Z) Qb)))) (Zx (Ql Jk (Qx QJ Z O.len ybb (Qy (pv 0) Qb)) Qj (Qq _)) (J0 (XX (pC.pq hr Qr (Qy (QC QE (pv 0) Qj (λ_ _=>rfl)) Qb))))))) (Jb (Jr (aA.mk (pv 0)))) ZM)
  (Jb (Jr (X4 (JP (aA.mk (pv 0)) (JP (aA.mk Zw) JB Z) Z))))),?_⟩
 cases o with
 |none=>
  obtain rfl:=ag.xZ (show ag H v (.str nm)from D);refine⟨_,Z,_,_,false,Z,Z,.inl ⟨_,.str _,KT.st⟩,_,Z,QO ?_⟩;exact⟨_,Z,bj,λp hp=>k _ _ (Qn.new hp) Qf⟩
 |some i=>
  obtain⟨a,xs,rfl,g,t⟩:=ag.Ud (show ag H v (.tup [.str nm,.int (i:Nat)])from D);obtain rfl:xs=[.str nm,.int (i:Nat)]:=by
   cases t with
   |cons p1 t=>cases t with
    |cons p2 t=>cases t;rw[p1.xZ,p2.l9]
  refine⟨_,Z,_,_,true,Z,Z,.inl ⟨_,D.ty,KT.tt⟩,_,Z,QZ ?_⟩;refine⟨_,Z,a,_,Z,.inr (.inl (.inl g)),Z,true,Z,QZ ?_⟩;refine⟨_,Z,a,_,1,_,Z,Z,.inl g,Z,_,Z,true,Z,QZ ⟨_,Z,k _ _ (Qn.refl _) g⟩⟩
noncomputable def pairD(path:Dv)(y:Ly):Dv:=.tup [path,y.dv]
def G2:Sp:=λvs H Q _=>∃(wv iv:V)(pd:Dv)(its:List (Bool × Ly)),vs=[wv,iv]/\ag H wv pd/\ag H iv (.tup (bD its))/\its.length<=10000/\∀q xs H',Qn H H'->H q=none->H' q=some (.lst xs)->aj H' xs ((its.map λx=>pairD pd x.2).reverse)->Q (.ref q) H'
def qD(F:az K "last_first" "last_first" X9 f fd)(O:Own mg)(nU:Def P w K mg Y 1 "bare" ["item"] ky):Zz1 P w K mg Y 2 f fd ["path","items"] G2:=by
 refine ei F U1 (by nofun) λam A L s H vs Q E hr h=>?_
 obtain⟨wv,iv,pd,its,rfl,DP,DI,hl,k⟩:=h;have hz:100000<=sizeLine:=by rw[yaG];lia
 refine⟨_,(Jb (Jr (aA.mk (Wt (NB:=[".0","item"]) (FR:=["path"]) (fi:=[0]) Z ⟨Z,by rfl'⟩ Z Z (Qec Z O.reversed (Qy (pv 1) Qb) Z) (λ_ _ _=>(Qi (i:=1) (show([".0","item","path"]:List Str).Nodup by rfl') Z Zz0)) (λ_ _ _=>Xb) (λ_ _ _=>(Qs (Qy (pv 2) (Qy (nU.pq hr Qr (Qy (pv 1) Qb)) Qb)))))))),?_⟩;obtain⟨a,xs,rfl,g,t⟩:=ag.Ud DI;rw[ZS]at t;have lx:=t.length;rw[tK]at lx;refine Qf4 ?_;refine Wy ?_;exists _,Z,a,xs,Z,.inl (.inl g);refine WX (fv:=[wv]) (Qhx (K:=K) (a:=a) (xs:=xs)) ((its.map λx=>pairD pd x.2).reverse) (by rw[tZ,tK];lia) (λR h=>h H (Qn.refl _)) rfl (λH1 S=>.inl (.inl (S _ _ g))) ?_ ?_ (by lia)
 .rintro i v H1 H2 d R hd S ⟨rfl,hv⟩ kk;obtain⟨dv,Bz,ddv⟩:=t.zM hv;rw[lg]at Bz;cases e:its[xs.length-1-i]? with
  |none=>rw[e]at Bz;cases Bz
  |some oy=>
   rw[e]at Bz;obtain rfl:=tO Bz;obtain⟨o,y⟩:=oy;have FS:i<its.length:=by
    have:=(yaf.mp hd).1;rw[tZ,tK]at this;exact this
   have ed:d=pairD pd y:=by
    rw[ydx (by rw[tK];exact FS),tK,lg, <-lx,e]at hd;exact(tO hd).symm
   refine⟨Z,_,Z,_,Z,v,o,y,Z,ddv.same S,λu Du=>⟨bj,λp hp=>kk _ _ (Qn.new hp) ?_⟩⟩;rw[ed];exact .tup Qf (.cons ((DP.same S).same (Qn.new hp)) (.cons (Du.same (Qn.new hp)) .nil))
 .rintro ys H1 p S t2 hp;refine k _ _ _ (S.trans (Qn.new hp)) ?_ Qf (t2.same (Qn.new hp));cases e:H p with
  |none=>rfl
  |some o=>rw[S _ _ e]at hp;cases hp
noncomputable def Na:Ly->Option Nat->Option Nat
 | .box _ _,none=>some 0
 | .aL _ _,none=>some 0
 | .tab _ k its,some i=>if i<k then some (i*aE its)else none
 |_,_=>none
def Ly.cnt(y:Ly):Prop:=y.cn<=10000/\y.bU
def xm:Sp:=λvs H Q _=>∃(v:V)(y:Ly)(o:Option Nat)(n:Nat),vs=[v,Dy o]/\ag H v y.dv/\y.cnt/\Na y o=some n/\∀H',Qn H H'->Q (.int (n:Nat)) H'
def Vb(F:az K "ahead_in_table" "ahead_in_table" JR f fd)(T:Txt K mg tk c kr)(gz:Def P w K mg Y 8 "signs_in" ["layout"] YF):Zz1 P w K mg Y 9 f fd ["item","number"] xm:=by
 refine bN F W6 (by nofun) λam A L s H vs Q E hr h=>?_
 obtain⟨v,y,o,n,rfl,D,⟨DA,ao⟩,ha,k⟩:=h;have fr:=Jh (P:=P) (w:=w) (K:=K) (mg:=mg) (Y:=Y) (N:=["item","number"]) (qual:="ahead_in_table") (scope:=Qe JR) (f:=f) (cd:=am) (A:=A) (L:=L) (s:=s) (H:=H) (E:=E);have ht:=Jp fr;have hx:=QH fr;refine⟨_,(Qd (QN (PW.pt (Zx (Ql Xl (QC QE (pv 0) Qj (λ_ _=>rfl)) Qk (Qq _)) (J0 (JZ (XU (pv 1)))))) (Qg (Qp Qj)) Qw)
  (Qd (QN (PW.pt (ZU (Ql Xl (QC QE (pv 0) Qj (λ_ _=>rfl)) Qk (Qq _)) (ZU (JZ (XU (pv 1))) (JW (Wf (Ph Pf Vq Qj (pv 1) (QC QE (pv 0) Qj (λ_ _=>rfl)))))))) (Qg (JD ht Z Z T.rj T.rl (Qy Qk Qb))) Qw)
  (Qg (Qp (QG Wj (pv 1) (gz.pq hr hx (Qy (QC QE (pv 0) Qj (λ_ _=>rfl)) Qb))))))),?_⟩
 cases y with
 |box nm p=>
  cases o with
  |some i=>cases ha
  |none=>
   obtain⟨a,rfl,g⟩:=YE D;have:n=0:=(tO ha).symm;subst this;exact⟨_,Z,a,_,0,_,Z,Z,.inl g,Z,Z,true,by rw[QiW];rfl,QZ ⟨_,Z,true,Z,QZ (k _ (Qn.refl _))⟩⟩
 |aL nm its=>
  cases o with
  |some i=>cases ha
  |none=>
   obtain⟨a,x,rfl,g,_⟩:=KK D;have:n=0:=(tO ha).symm;subst this;exact⟨_,Z,a,_,0,_,Z,Z,.inl g,Z,Z,true,by rw[QiX];rfl,QZ ⟨_,Z,true,Z,QZ (k _ (Qn.refl _))⟩⟩
 |tab nm k1 its=>
  cases o with
  |none=>cases ha
  |some i=>
   obtain⟨a,x,rfl,g,D2⟩:=Vo D;rw[Ly.cn]at DA;rw[Ly.bU]at ao;have ha:(if i<k1 then some (i*aE its)else none)=some n:=ha
   by_cases Nb:i<k1
   .rw[yai Nb]at ha;have:n=i*aE its:=(tO ha).symm;subst this;refine⟨_,Z,a,_,0,_,Z,Z,.inl g,Z,Z,false,by rfl',QO ?_⟩;refine⟨_,Z,a,_,0,_,Z,Z,.inl g,Z,Z,false,by rfl',QO ?_⟩;refine⟨_,Z,false,Z,QO ?_⟩;refine⟨_,Z,_,_,Z,Z,true,?_,QZ ?_⟩
    .show V.bl (decide ((0:Int)<=(i:Nat)))=_;rw[tM (by lia)]
    refine⟨_,Z,a,_,2,_,Z,Z,.inl g,Z,_,_,Z,Z,true,?_,QO ?_⟩
    .show V.bl (decide (((i:Nat):Int)<((k1:Nat):Int)))=_;rw[tM (by lia)]
    refine⟨_,Z,_,Z,a,_,3,_,Z,Z,.inl g,Z,x,its,Z,D2,by lia,ao.2,λH1 S1=>⟨_,_,Z,Z,.inl ⟨by lia,by lia⟩,?_⟩⟩;have e:((i:Nat):Int)*((aE its:Nat):Int)=((i*aE its:Nat):Int):=by push_cast;rfl
    dsimp only;rw[e];exact k _ S1
   .rw[yag Nb]at ha;cases ha
noncomputable def G3:Bool × Ly:=(false,.box "" 0)
noncomputable def under(its:List (Bool × Ly)):Nat->Nat
 |0=>0
 |j+1=>if(its.getD (j+1) G3).1=true then under its j else j+1
noncomputable def kB(its:List (Bool × Ly)):Nat->Nat
 |0=>0
 |j+1=>under its j
def vg(its:List (Bool × Ly))(j:Nat):under its j=if(its.getD j G3).1=true then kB its j else j:=by
 cases j with
 |zero=>show 0=_;rw[kB];split<;>rfl
 |succ j=>rfl
structure cZ(its:List (Bool × Ly))(st:Step)(j:Nat)(o:Bool)(y:Ly)(n:Nat):Prop where
 at_:its[j]? =some (o,y)
 nm:y.name=st.1
 no:∀(i:Nat)(x:Bool × Ly),i<j->its[i]? =some x->x.2.name≠st.1
 ah:Na y st.2=some n
theorem kC:∀(its:List (Bool × Ly))(n:Nat),bK (its.take n)<=bK its
 |[],n=>by rw[ycD];exact tN _
 |x::xs,0=>by rw[ycK,bK];exact lF _
 |x::xs,n+1=>by
  have:=kC xs n;rw[ycj,bK,bK];lia
theorem kD:∀(its:List (Bool × Ly))(n:Nat),bu its->bu (its.take n)
 |[],n,h=>by rw[ycD];exact h
 |x::xs,0,h=>by rw[ycK];rw[bu];trivial
 |x::xs,n+1,h=>by
  rw[bu]at h;rw[ycj,bu];exact⟨h.1,kD xs n h.2⟩
theorem BA:∀{its:List (Bool × Ly)}{j:Nat}{x:Bool × Ly},its[j]? =some x->dX x<=bK its
 |[],_,_,h=>by simp at h
 |y::ys,0,x,h=>by
  have:y=x:=by simpa using h
  subst this;rw[bK];lia
 |y::ys,j+1,x,h=>by
  have:=BA (its:=ys) (j:=j) (x:=x) (by simpa using h);rw[bK];lia
def qE:Sp:=λvs H Q _=>∃(iv sv:V)(its:List (Bool × Ly))(st:Step)(j:Nat)(o:Bool)(y:Ly)(n:Nat),vs=[iv,sv]/\ag H iv (.tup (bD its))/\ag H sv (Va st)/\bK its<=10000/\bu its/\cZ its st j o y n/\
 ∀q u H',Qn H H'->H' q=some (.tup [.int ((aE (its.take (under its j))+n:Nat)),u])->ag H' u y.dv->Q (.ref q) H'
def QiY(Good:L2.St->Hp->Prop)(rest:∀σ' H',Good σ' H'->u D σ' H')(h:(∀σ' H',Good σ' H'->u D σ' H')->t {D with nx:=u D} σ H):Zb t u D σ H:=h rest
def vh(F:az K "item_at" "item_at" WE f fd)(O:Own mg)(OE:mg "enumerate"=none)(T:Txt K mg tk c kr)(ni:Def P w K mg Y 2 "step_parts" ["step"] xk)(nU:Def P w K mg Y 1 "bare" ["item"] ky)(gz:Def P w K mg Y 8 "signs_in" ["layout"] YF)(gY:Def P w K mg Y 9 "ahead_in_table" ["item","number"] xm):Zz1 P w K mg Y 10 f fd ["items","step"] qE:=by
 refine bN F Zg (by nofun) λam A L s H vs Q E hr h=>?_
 obtain⟨iv,sv,its,st,j,o,y,n,rfl,DI,DS,hc,ao,HA,k⟩:=h;have fr:=Jh (P:=P) (w:=w) (K:=K) (mg:=mg) (Y:=Y) (N:=["items","step","name","number","under","at","item"]) (qual:="item_at") (scope:=Qe WE) (f:=f) (cd:=am) (A:=A) (L:=L) (s:=s) (H:=H) (E:=E);have ht:=Jp fr;have hx:=QH fr;have hz:100000<=sizeLine:=by rw[yaG];lia
 refine⟨_,(Qd (QW (ni.pq hr hx (Qy (pv 1) Qb)) (QM Z (Qh (Qi (i:=2) Zg.nd Z Zz0) (Qh (Qi (i:=3) Zg.nd Z Zz0) Qz))))
  (Qd (Qt (i:=4) Zg.nd Z Zz0 Qj)
  (Qd (ZW UR Z (QbJ .tp Z OE (Qy (pv 0) Qb)) (QM Z (Qh (Qi (i:=5) Zg.nd Z Zz0) (Qh (Qi (i:=6) Zg.nd Z Zz0) Qz))) (Qd (QN (Ql Xl (QC QE (pv 6) Qj (λ_ _=>rfl)) Qk (Qq _)) (Qg (Qt (i:=4) Zg.nd Z Zz0 (pv 5))) Qw)
  (Qg (QN (Ql Jk (QC QE (nU.pq hr hx (Qy (pv 6) Qb)) Qj (λ_ _=>rfl)) (pv 2) (Qq _)) (Qg (Qp (Qs (Qy (QG Jj (gz.pq hr hx (Qy (QR Qeb (pv 0) JK (QQ (pv 4))) Qb)) (gY.pq hr hx (Qy (nU.pq hr hx (Qy (pv 6) Qb)) (Qy (pv 3) Qb)))) (Qy (nU.pq hr hx (Qy (pv 6) Qb)) Qb))))) Qw))))
  (Qg (JD ht Z Z T.rj T.rl (Qy Qk Qb)))))),?_⟩
 refine⟨_,Z,sv,st,Z,DS,λq0 H1 S1 g0=>?_⟩;exists q0,_,Z,.inl (.inl g0),Z,_,_,Z,_,_,Z,Z;obtain⟨ia,ix,rfl,gi,ti⟩:=ag.Ud DI;have G4:=ti;rw[ZS]at G4;have G1:=G4.length;rw[tK]at G1;have Dm:j<its.length:=(yaf.mp HA.at_).1;dsimp only[QL,Za,Zb,Q1];exists _,Z,ia,Z,⟨_,.inl (.inl (S1 _ _ gi))⟩;refine WW (QiO (k:=.tp) (K:=K) (a:=ia) (xs:=ix)) (λi σ H2=>∃(y5 y6:Option V),σ=[some (.ref ia),some sv,some (.str st.1),some (Dy st.2),some (.int (kB its i:Nat)),y5,y6]/\Qn H1 H2/\i<=j) ⟨none,none,Z,Qn.refl _,lF _⟩ ?_ ?_ ?_
 .rintro i σ H2 _ ⟨y5,y6,rfl,S2,_⟩;exact .inl (.inl (S2 _ _ (S1 _ _ gi)))
 .rintro i x σ H2 H3 hi ⟨y5,y6,rfl,S2,Eu⟩ ⟨p,x,hp,rfl,iU,rfl⟩;obtain⟨d,hd,Dx⟩:=G4.zM iU;rw[lg]at hd;cases eo:its[i]? with
  |none=>rw[eo]at hd;cases hd
  |some oy=>
   rw[eo]at hd;obtain rfl:=tO hd;obtain⟨ov,yi⟩:=oy;have S3:=(S1.trans S2).trans (Qn.new (o:=.tup [.int ((i:Nat):Int),x]) hp);have lw:=S2.trans (Qn.new (o:=.tup [.int ((i:Nat):Int),x]) hp);exists p,_,Z,.inl (.inl Qf),Z,_,_,Z,_,_,Z,Z;generalize upd H2 p (.tup [.int ((i:Nat):Int),x])=H3 at S3 lw;clear S2 hp;have sS:=Dx.same S3;have eg:its.getD i G3=(ov,yi):=by rw[List.getD_eq_getElem?_getD,eo];rfl
   have eu:(if ov=true then kB its i else i)=under its i:=by rw[vg,eg]
   dsimp only[QL,Za,Q1];refine QiY (λσ' H4=>σ'=[some (.ref ia),some sv,some (.str st.1),some (Dy st.2),some (.int (under its i:Nat)),some (.int (i:Nat)),some x]/\H4=H3) ?_ (λrest=>?_);rotate_left
   .cases ov with
    |true=>
     obtain⟨a,x2,rfl,g,_⟩:=qA sS;rw[yai rfl]at eu;refine⟨_,Z,a,_,0,_,Z,Z,.inl g,Z,Z,false,by rfl',QO (rest _ _ ⟨by rw[<-eu];rfl,Z⟩)⟩
    |false=>
     rw[yag (by lia)]at eu;have D:ag H3 x yi.dv:=by rw[cp,yag (by lia)]at sS;exact sS
     obtain⟨a,xs,rfl,g⟩:=GW D;refine⟨_,Z,a,_,0,_,Z,Z,.inl g,Zr (j:=0) rfl,Z,true,by rw[j9];rfl,QZ ⟨_,Z,rest _ _ ⟨by rw[<-eu];rfl,Z⟩⟩⟩
   rintro σ4 H4 ⟨rfl,rfl⟩;refine⟨_,Z,x,ov,yi,Z,sS,λu Du=>?_⟩;obtain⟨ua,uxs,rfl,gu⟩:=GW Du;exists ua,_,1,_,Z,Z,.inl gu,Zr (j:=1) rfl,_,Z,Z,_,Z
   by_cases G5:i=j
   .subst G5;obtain⟨rfl,rfl⟩:ov=o/\yi=y:=by
     have:=HA.at_;rw[eo]at this;have:=tO this;exact⟨yaF (·.1) this,yaF (·.2) this⟩
    rw[tM (by rw[HA.nm])];refine QZ ?_;exists _,Z,_,Z,_,Z;refine l'.Qhv (hi:=under its i) (ds:=bD its) ((ag.tup gi ti).same S3) λv5 H5 S5 D5=>?_;have et:(bD its).take (under its i)=bD (its.take (under its i)):=by rw[ZS,ZS,yeB]
    rw[et]at D5;refine⟨v5,its.take (under its i),Z,D5,yap (kC _ _) hc,kD _ _ ao,λH6 S6=>?_⟩;have G6:=S5.trans S6;refine⟨_,Z,x,ov,yi,Z,sS.same G6,λu7 Du7=>⟨_,Z,u7,yi,st.2,n,Z,Du7,⟨?_,?_⟩,HA.ah,λH8 S8=>?_⟩⟩
    .have:=BA eo;rw[dX]at this;lia
    .have:=YC ao eo;rw[dY]at this;exact this
    refine⟨_,_,Z,Z,_,Z,x,ov,yi,Z,(sS.same G6).same S8,λu9 Du9=>⟨bj,λp10 G7=>?_⟩⟩;have i0:=Qn.new (o:=.tup [.int (((aE (its.take (under its i)):Nat):Int)+((n:Nat):Int)),u9]) G7;refine k _ u9 _ ((S3.trans G6).trans (S8.trans i0)) ?_ (Du9.same i0);rw[Qf]
    congr 3
   .have re:yi.name≠st.1:=HA.no i (ov,yi) (by lia) eo;rw[tL (λz=>re (V.str.inj z))];exact QO ⟨some (.int (i:Nat)),some x,Z,lw,by lia⟩
 .rintro σ H2 ⟨y5,y6,rfl,S2,Eu⟩;lia
inductive Res:List (Bool × Ly)->List Step->Nat->Ly->Prop where
 |one {its:List (Bool × Ly)} {st:Step} {j:Nat} {o:Bool} {y:Ly} {n:Nat} (h:cZ its st j o y n):Res its [st] (aE (its.take (under its j))+n) y
 |aL {its bn:List (Bool × Ly)} {st Do:Step} {ss:List Step} {j:Nat} {o:Bool} {nm:Str} {n m:Nat} {y:Ly} (h:cZ its st j o (.aL nm bn) n) (r:Res bn (Do::ss) m y):Res its (st::Do::ss) (aE (its.take (under its j))+n+m) y
 |tab {its bn:List (Bool × Ly)} {st Do:Step} {ss:List Step} {j k:Nat} {o:Bool} {nm:Str} {n m:Nat} {y:Ly} (h:cZ its st j o (.tab nm k bn) n) (r:Res bn (Do::ss) m y):Res its (st::Do::ss) (aE (its.take (under its j))+n+m) y
noncomputable def Jz(ss:List Step):Dv:=.tup (ss.map Va)
def Res.ne{ss:List Step}(h:Res its ss n y):ss≠[]:=by cases h<;>exact λz=>nomatch z
structure bh(its:List (Bool × Ly)):Prop where
 cn:bK its<=10000
 ok:bu its
theorem bh.aL{its bn:List (Bool × Ly)}{j:Nat}{nm:Str}(h:bh its)(e:its[j]? =some (o,.aL nm bn)):bh bn:=by
 have h1:=BA e;have h2:=YC h.ok e;have h3:=h.cn;rw[dX,Ly.cn]at h1;rw[dY,Ly.bU]at h2;exact⟨by lia,h2⟩
theorem bh.tab{its bn:List (Bool × Ly)}{j k:Nat}{o:Bool}{nm:Str}(h:bh its)(e:its[j]? =some (o,.tab nm k bn)):bh bn:=by
 have h1:=BA e;have h2:=YC h.ok e;have h3:=h.cn;rw[dX,Ly.cn]at h1;rw[dY,Ly.bU]at h2;exact⟨by lia,h2.2⟩
def qF:Sp:=λvs H Q _=>∃(iv wv:V)(its:List (Bool × Ly))(ss:List Step)(n:Nat)(y:Ly),vs=[iv,wv]/\ag H iv (.tup (bD its))/\ag H wv (Jz ss)/\bh its/\Res its ss n y/\ss.length<=1000/\∀q u H',Qn H H'->H' q=some (.tup [.int (n:Nat),u])->ag H' u y.dv->Q (.ref q) H'
def Qcm(F:az K "found" "found" U0 f fd)(O:Own mg)(OT:mg "tuple"=none)(KT:fR K)(T:Txt K mg tk c kr)(pR:Def P w K mg Y 10 "item_at" ["items","step"] qE):Zz1 P w K mg Y 11 f fd ["layout","path"] qF:=by
 refine bN F ZC (by nofun) λam A L s H vs Q E hr h=>?_
 obtain⟨iv,wv,its,ss,n,y,rfl,DI,DW,hb,HR,hl,k⟩:=h;have fr:=Jh (P:=P) (w:=w) (K:=K) (mg:=mg) (Y:=Y) (N:=["layout","path","start","items","item","step","ahead"]) (qual:="found") (scope:=Qe U0) (f:=f) (cd:=am) (A:=A) (L:=L) (s:=s) (H:=H) (E:=E);have ht:=Jp fr;have hx:=QH fr;have hz:100000<=sizeLine:=by rw[yaG];lia
 refine⟨_,(Qd (QN (PW.pt (ZU (Wf (XX (Qx Wr Z O.lR ydk (Qy (pv 1) (Qy (VJ (v:=V.ty "tuple") Z OT boot_tuple Z) Qb))))) (JW (Ql Jk (Qx QJ Z O.len ybb (Qy (pv 1) Qb)) Qj (Qq _))))) (Qg (JD ht Z Z T.rj T.rl (Qy Qk Qb))) Qw)
  (Qd (Qt (i:=2) ZC.nd Z Zz0 Qj)
  (Qd (Qt (i:=3) ZC.nd Z Zz0 (pv 0))
  (Qd (Qt (i:=4) ZC.nd Z Zz0 Zw)
  (Qd (ZW UR Z (jg (pv 1)) (Qi (i:=5) ZC.nd Z Zz0) (Qd (QW (pR.pq hr hx (Qy (pv 3) (Qy (pv 5) Qb))) (QM Z (Qh (Qi (i:=6) ZC.nd Z Zz0) (Qh (Qi (i:=4) ZC.nd Z Zz0) Qz))))
  (Qd (Wg (i:=2) ZC.nd Z Zz0 (pv 6) Vi)
  (Qg (Qt (i:=3) ZC.nd Z Zz0 (Jd (Ql Jk (QC QE (pv 4) Qj (λ_ _=>rfl)) Qk (Qq _)) (Qs Qb) (QC QE (pv 4) (Wi ZX Qj) (λ_ _=>rfl))))))))
  (Qg (Qp (Qs (Qy (pv 2) (Qy (pv 4) Qb)))))))))),?_⟩
 obtain⟨wa,wx,rfl,gw,tw⟩:=ag.Ud (show ag H wv (.tup (ss.map Va))from DW);have Nc:=tw.length;rw[tK]at Nc;have hss:=HR.ne;refine⟨_,Z,_,_,true,Z,Z,.inl ⟨_,DW.ty,KT.tt⟩,_,Z,QO ?_⟩;refine⟨_,Z,wa,_,Z,.inr (.inl (.inl gw)),Z,false,?_,QO ?_⟩
 .show V.bl (decide (V.int ((wx.length:Nat):Int)=V.int 0))=_;rw[tL (λz=>by injection z with z;exact hss (ybD (by lia)))]
 dsimp only[QL,Za,Zb,Q1];exists _,Z;exists _,Z,wa,Z,⟨_,.inl (.inl gw)⟩;refine WW (LZ (K:=K) (a:=wa) (xs:=wx)) (λi σ H2=>∃(s0:Nat)(cur:V)(it:V)(y5 y6:Option V),σ=[some iv,some (.ref wa),some (.int (s0:Nat)),some cur,some it,y5,y6]/\Qn H H2/\((ss.drop i=[]/\s0=n/\ag H2 it y.dv)\/∃(bn:List (Bool × Ly))(m:Nat),ag H2 cur (.tup (bD bn))/\bh bn/\Res bn (ss.drop i) m y/\s0+m=n)) ⟨0,iv,.aq,none,none,Z,Qn.refl _,.inr ⟨its,n,DI,hb,by rw[yco];exact HR,ybU _⟩⟩ ?_ ?_ ?_
 .rintro i σ H2 _ ⟨s0,cur,it,y5,y6,rfl,S2,_⟩;exact .inl (.inl (S2 _ _ gw))
 .rintro i x σ Nd H2 hi ⟨s0,cur,it,y5,y6,rfl,S2,tz⟩ ⟨rfl,ul⟩;obtain⟨d,hd,Dx⟩:=tw.zM ul;have FS:i<ss.length:=by lia
  have eP:ss.drop i=ss[i]::ss.drop (i+1):=yaI FS;have ed:d=Va ss[i]:=by
   rw[lg,yad FS]at hd;exact(tO hd).symm
  subst ed;rcases tz with⟨h1,_⟩|⟨bn,m,Dc,DB,c5,hsum⟩
  .rw[eP]at h1;cases h1
  rw[eP]at c5;generalize ss[i]=st at c5 Dx;generalize hgo:ss.drop (i+1)=rest at c5;dsimp only[QL,Za,Zb,Q1];obtain⟨j,o,y1,n1,HA,BB⟩:∃(j:Nat)(o:Bool)(y1:Ly)(n1:Nat),cZ bn st j o y1 n1/\((rest=[]/\y1=y/\aE (bn.take (under bn j))+n1=m)\/∃(nm:Str)(fS:List (Bool × Ly))(m2:Nat),(y1=.aL nm fS\/∃k2,y1=.tab nm k2 fS)/\bh fS/\Res fS rest m2 y/\aE (bn.take (under bn j))+n1+m2=m):=by
   cases c5 with
   |one h=>exact⟨_,_,_,_,h,.inl ⟨Z,Z,Z⟩⟩
   |aL h r=>exact⟨_,_,_,_,h,.inr ⟨_,_,_,.inl rfl,DB.aL h.at_,r,Z⟩⟩
   |tab h r=>exact⟨_,_,_,_,h,.inr ⟨_,_,_,.inr ⟨_,Z⟩,DB.tab h.at_,r,Z⟩⟩
  refine⟨_,Z,_,Z,cur,x,bn,st,j,o,y1,n1,Z,Dc,Dx.same S2,DB.cn,DB.ok,HA,λq u H3 S3 g3 Du=>?_⟩;exists q,_,Z,.inl (.inl g3),Z,_,_,Z,_,_,Z,Z;dsimp only[QL,Za,Zb,Q1];exists _,Z,_,Z,_,_,Z,Z;have es:((s0:Nat):Int)+((aE (bn.take (under bn j))+n1:Nat):Int)=((s0+(aE (bn.take (under bn j))+n1):Nat):Int):=by push_cast;rfl
  dsimp only;rw[es];rcases BB with⟨rfl,rfl,hm⟩|⟨nm,fS,m2,hy,FB,dJ,hm⟩
  .
   cases y1 with
   |box nm p=>
    obtain⟨a,rfl,g⟩:=YE Du;refine⟨_,Z,a,_,0,_,Z,Z,.inl g,Z,Z,true,Z,QZ ⟨ot,λp4 dR=>?_⟩⟩;exact⟨_,_,_,_,_,Z,(S2.trans S3).trans (Qn.new dR),.inl ⟨Z,by lia,Du.same (Qn.new dR)⟩⟩
   |aL nm fS=>
    obtain⟨a,x2,rfl,g,D2⟩:=KK Du;refine⟨_,Z,a,_,0,_,Z,Z,.inl g,Z,Z,false,by rw[sQ],QO ⟨_,Z,_,Z,a,_,_,_,Z,Z,.inl g,Z,?_⟩⟩;exact⟨_,_,_,_,_,Z,S2.trans S3,.inl ⟨Z,by lia,Du⟩⟩
   |tab nm k2 fS=>
    obtain⟨a,x2,rfl,g,D2⟩:=Vo Du;refine⟨_,Z,a,_,0,_,Z,Z,.inl g,Z,Z,false,by rw[sR],QO ⟨_,Z,_,Z,a,_,_,_,Z,Z,.inl g,Z,?_⟩⟩;exact⟨_,_,_,_,_,Z,S2.trans S3,.inl ⟨Z,by lia,Du⟩⟩
  .rcases hy with rfl|⟨k2,rfl⟩
   .obtain⟨a,x2,rfl,g,D2⟩:=KK Du;refine⟨_,Z,a,_,0,_,Z,Z,.inl g,Z,Z,false,by rw[sQ],QO ⟨_,Z,_,Z,a,_,_,_,Z,Z,.inl g,Z,?_⟩⟩;exact⟨_,_,_,_,_,Z,S2.trans S3,.inr ⟨fS,m2,D2,FB,dJ,by lia⟩⟩
   .obtain⟨a,x2,rfl,g,D2⟩:=Vo Du;refine⟨_,Z,a,_,0,_,Z,Z,.inl g,Z,Z,false,by rw[sR],QO ⟨_,Z,_,Z,a,_,_,_,Z,Z,.inl g,Z,?_⟩⟩;exact⟨_,_,_,_,_,Z,S2.trans S3,.inr ⟨fS,m2,D2,FB,dJ,by lia⟩⟩
 .rintro σ H2 ⟨s0,cur,it,y5,y6,rfl,S2,tz⟩;rw[Nc,ycn]at tz;rcases tz with⟨_,rfl,Dit⟩|⟨bn,m,_,_,c5,_⟩
  .refine⟨_,Z,_,Z,bj,λp hp=>?_⟩;exact k _ _ _ (S2.trans (Qn.new hp)) Qf (Dit.same (Qn.new hp))
  .exact absurd rfl c5.ne
noncomputable def Jn:Ly->Nat
 | .box _ p=>aR p
 | .aL _ its=>aE its
 | .tab _ _ its=>aE its
noncomputable def qG:Ly->Dv
 | .box _ p=>.str (Y0 p)
 |_=>.aq
noncomputable def Nf(n:Nat)(y:Ly):Dv:=.tup [.int (n:Nat),.int (Jn y:Nat),qG y]
def Res.bd{ss:List Step}(h:Res its ss n y):bh its->y.cnt:=by
 induction h with
 |one h=>
  intro hb;have h1:=BA h.at_;have h2:=YC hb.ok h.at_;have h3:=hb.cn;rw[dX]at h1;rw[dY]at h2;exact⟨by lia,h2⟩
 |aL h r ih=>exact λhb=>ih (hb.aL h.at_)
 |tab h r ih=>exact λhb=>ih (hb.tab h.at_)
def Zi:Sp:=λvs H Q _=>∃(iv wv:V)(its:List (Bool × Ly))(ss:List Step)(n:Nat)(y:Ly),vs=[iv,wv]/\ag H iv (.tup (bD its))/\ag H wv (Jz ss)/\bh its/\Res its ss n y/\ss.length<=1000/\∀u H',Qn H H'->ag H' u (Nf n y)->Q u H'
def Qcn(F:az K "where" "where" zS f fd)(nj:Def P w K mg Y 11 "found" ["layout","path"] qF)(gr:Def P w K mg Y 7 "size_of" ["picture"] Um)(gz:Def P w K mg Y 8 "signs_in" ["layout"] YF):Zz1 P w K mg Y 12 f fd ["layout","path"] Zi:=by
 refine ei F UZ (by nofun) λam A L s H vs Q E hr h=>?_
 obtain⟨iv,wv,its,ss,n,y,rfl,DI,DW,hb,HR,hl,k⟩:=h;have hz:100000<=sizeLine:=by rw[yaG];lia
 obtain⟨DA,ao⟩:=HR.bd hb;refine⟨_,(QD (b9.mk (QW (nj.pq hr Qr (Qy (pv 0) (Qy (pv 1) Qb))) (QM Z (Qh (Qi (i:=2) UZ.nd Z Zz0) (Qh (Qi (i:=3) UZ.nd Z Zz0) Qz)))))
  (QD (L9 (Ql Jk (QC QE (pv 3) Qj (λ_ _=>rfl)) Qk (Qq _)) (Jb (Jr (X4 (JP (aA.mk (pv 2)) (JP (aA.mk (gr.pq hr Qr (Qy (QC QE (pv 3) Qj (λ_ _=>rfl)) Qb))) (JP (aA.mk (QC QE (pv 3) Qj (λ_ _=>rfl))) JB Z) Z) Z)))) ZM)
  (Jb (Jr (X4 (JP (aA.mk (pv 2)) (JP (aA.mk (gz.pq hr Qr (Qy (QC QE (pv 3) (Wi ZX Qj) (λ_ _=>rfl)) Qb))) (JP (aA.mk Zw) JB Z) Z) Z)))))),?_⟩
 refine⟨_,Z,_,Z,iv,wv,its,ss,n,y,Z,DI,DW,hb,HR,hl,λq u H1 S1 g1 Du=>?_⟩;exists q,_,Z,.inl (.inl g1),Z,_,_,Z,_,_,Z,Z;dsimp only[QL,Za,Zb,Q1];cases y with
 |box nm p=>
  obtain⟨a,rfl,g⟩:=YE Du;obtain⟨pa,pl,px,ep,hp,es⟩:=VC p;refine⟨_,Z,a,_,0,_,Z,Z,.inl g,Z,Z,true,Z,QZ ?_⟩;refine⟨_,Z,_,Z,a,_,2,_,Z,Z,.inl g,Z,pa,pl,px,(by rw[ep];rfl),hp,λH2 S2=>?_⟩;rw[es];refine⟨_,Z,a,_,2,_,Z,Z,.inl (S2 _ _ g),Z,Bg,λp3 eQ=>?_⟩;exact k _ _ ((S1.trans S2).trans (Qn.new eQ)) (.tup Qf (.cons .int (.cons .int (.cons .str .nil))))
 |aL nm bn=>
  obtain⟨a,x,rfl,g,D2⟩:=KK Du;rw[Ly.cn]at DA;rw[Ly.bU]at ao;refine⟨_,Z,a,_,0,_,Z,Z,.inl g,Z,Z,false,by rw[sQ],QO ?_⟩;refine⟨_,Z,_,Z,_,Z,a,_,_,_,Z,Z,.inl g,Z,x,bn,Z,D2,by lia,ao,λH2 S2=>⟨Bg,λp3 eQ=>?_⟩⟩;exact k _ _ ((S1.trans S2).trans (Qn.new eQ)) (.tup Qf (.cons .int (.cons .int (.cons .aq .nil))))
 |tab nm k2 bn=>
  obtain⟨a,x,rfl,g,D2⟩:=Vo Du;rw[Ly.cn]at DA;rw[Ly.bU]at ao;refine⟨_,Z,a,_,0,_,Z,Z,.inl g,Z,Z,false,by rw[sR],QO ?_⟩;refine⟨_,Z,_,Z,_,Z,a,_,_,_,Z,Z,.inl g,Z,x,bn,Z,D2,by lia,ao.2,λH2 S2=>⟨Bg,λp3 eQ=>?_⟩⟩;exact k _ _ ((S1.trans S2).trans (Qn.new eQ)) (.tup Qf (.cons .int (.cons .int (.cons .aq .nil))))
mutual
noncomputable def Ly.bx:Ly->List Step->List (List Step)
 | .box nm _,pre=>[pre++[(nm,none)]]
 | .aL nm its,pre=>bc its (pre++[(nm,none)])
 | .tab _ _ _,_=>[]
noncomputable def bc:List (Bool × Ly)->List Step->List (List Step)
 |[],_=>[]
 |x::xs,pre=>G8 x pre++bc xs pre
noncomputable def G8:Bool × Ly->List Step->List (List Step)
 |(_,y),pre=>y.bx pre
end
mutual
noncomputable def Ly.wt:Ly->Nat
 | .box _ _=>1
 | .aL _ its=>1+aS its
 | .tab _ k its=>1+k*aS its
noncomputable def aS:List (Bool × Ly)->Nat
 |[]=>0
 |x::xs=>sT x+aS xs
noncomputable def sT:Bool × Ly->Nat
 |(_,y)=>y.wt
end
def Ly.kF(y:Ly):1<=y.wt:=by cases y<;>rw[Ly.wt]<;>lia
theorem Wd:∀its:List (Bool × Ly),its.length<=aS its
 |[]=>lF _
 |(o,y)::xs=>by
  have:=Wd xs;have:=y.kF;rw[tQ,aS,sT];lia
noncomputable abbrev Pt:=List Step × Ly
noncomputable def fT(x:Pt):Dv:=.tup [Jz x.1,x.2.dv]
noncomputable def cf:List Pt->Nat
 |[]=>0
 |x::xs=>x.2.wt+cf xs
theorem qH:∀a b,cf (a++b)=cf a+cf b
 |[],b=>by rw[lz,cf];lia
 |x::a,b=>by rw[lu,cf,cf,qH a b];lia
theorem Ng:∀st,st.length<=cf st
 |[]=>lF _
 |x::xs=>by
  have:=Ng xs;have:=x.2.kF;rw[tQ,cf];lia
noncomputable def eW(st:List Pt):List (List Step):=st.reverse.flatMap λx=>x.2.bx x.1
def Nh(a b:List Pt):eW (a++b)=eW b++eW a:=by unfold eW;rw[ycV,List.flatMap_append]
noncomputable def cw(pre:List Step)(its:List (Bool × Ly)):List Pt:=(its.map λx=>(pre,x.2)).reverse
theorem G9(pre:List Step):∀its:List (Bool × Ly),eW (cw pre its)=bc its pre
 |[]=>rfl
 |(o,y)::xs=>by
  have ih:=G9 pre xs;unfold eW cw at ih ⊢;rw[ydH]at ih ⊢;rw[lC,List.flatMap_cons,ih,bc,G8]
def Ni(pre:List Step)(its:List (Bool × Ly)):cf (cw pre its)=aS its:=by
 have rev:∀l:List Pt,cf l.reverse=cf l:=by
  intro l
  induction l with
  |nil=>rfl
  |cons x xs ih=>
   rw[ybJ,qH,ih];simp only[cf];lia
 unfold cw;rw[rev]
 induction its with
 |nil=>rfl
 |cons x xs ih=>
  obtain⟨o,y⟩:=x;rw[lC,cf,ih,aS,sT]
def Nj(pre:List Step)(its:List (Bool × Ly)):(its.map λx=>pairD (Jz pre) x.2).reverse=(cw pre its).map fT:=by
 unfold cw;rw[<-ycS, <-ycS,lB];rfl
def Nl{xs ys:List V}{ds es:List Dv}(ga:H a=some (.tup xs))(gb:H b=some (.tup ys))(ta:aj H xs ds)(tb:aj H ys es)(hl:xs.length+ys.length<=sizeLine)(k:∀u H',Qn H H'->ag H' u (.tup (ds++es))->Q u H'):jO (.ref a) (.ref b) H Q:=by
 refine⟨a,b,xs,ys,Z,Z,.inl ga,.inl gb,hl,λz=>?_,λ_ z=>?_,λ_ _ p hp=>?_⟩
 .subst z;cases ta;exact k _ _ (Qn.refl _) (.tup gb tb)
 .subst z;cases tb;rw[lA]at k;exact k _ _ (Qn.refl _) (.tup ga ta)
 .exact k _ _ (Qn.new hp) (QbP (ta.append tb) hp)
structure aZ(Hb H:Hp)(a1 a2:Addr)(x1 x2:List V)(d1 d2:List Dv):Prop where
 S:Qn Hb H
 f1:Hb a1=none
 f2:Hb a2=none
 BC:a1≠a2
 g1:H a1=some (.lst x1)
 g2:H a2=some (.lst x2)
 t1:aj H x1 d1
 t2:aj H x2 d2
def Uo:∀zs:List V,(HO.lst x)≠ .tup zs:=λzs z=>nomatch z
theorem aZ.same{a1 a2:Addr}{x1 x2:List V}{d1 d2:List Dv}(B:aZ Hb H a1 a2 x1 x2 d1 d2)(S:Qn H H'):aZ Hb H' a1 a2 x1 x2 d1 d2:=⟨B.S.trans S,B.f1,B.f2,B.BC,S _ _ B.g1,S _ _ B.g2,B.t1.same S,B.t2.same S⟩
def aZ.Nm{a1 a2:Addr}{d1 d2 d:List Dv}(B:aZ Hb H a1 a2 x1 x2 d1 d2)(t:aj H x d):aZ Hb (upd H a1 (.lst x)) a1 a2 x x2 d d2:=⟨qy B.S B.f1,B.f1,B.f2,B.BC,Qf,by rw[Qo B.BC.symm];exact B.g2,t.wH B.g1 Uo,B.t2.wH B.g1 Uo⟩
def aZ.put2{a1 a2:Addr}{d1 d2 d:List Dv}(B:aZ Hb H a1 a2 x1 x2 d1 d2)(t:aj H x d):aZ Hb (upd H a2 (.lst x)) a1 a2 x1 x d1 d:=⟨qy B.S B.f2,B.f1,B.f2,B.BC,by rw[Qo B.BC];exact B.g1,Qf,B.t1.wH B.g2 Uo,t.wH B.g2 Uo⟩
def za{pre:List Step}{st:Step}:(pre.map Va)++[Va st]=(pre++[st]).map Va:=by rw[lq];rfl
theorem Np:∀{its:List (Bool × Ly)}{x:Bool × Ly},x∈its->x.2.wt<=aS its
 |[],_,h=>nomatch h
 |(o,y)::ys,x,h=>by
  rcases yak.mp h with rfl|h
  .rw[aS,sT];show y.wt<=_;lia
  .have:=Np (its:=ys) h;rw[aS];lia
def qI(h:bu its)(hx:x∈its):x.2.bU:=by
 obtain⟨j,hj⟩:=ybV.mp hx;have:=YC h hj;obtain⟨o,y⟩:=x;rw[dY]at this;exact this
def BD(e:Pt):Prop:=e.2.bU/\e.1.length+e.2.wt<=10000
def Nq{pre:List Step}(h:bu its)(hl:pre.length+aS its<=10000):∀e∈cw pre its,BD e:=by
 intro e he;unfold cw at he;obtain⟨x,hx,rfl⟩:=yaY.mp (ydC.mp he);have:=Np hx;exact⟨qI h hx,by show pre.length+x.2.wt<=10000;lia⟩
def xn:Sp:=λvs H Q _=>∃(iv:V)(its:List (Bool × Ly)),vs=[iv,.bl false]/\ag H iv (.tup (bD its))/\aS its<=10000/\bu its/\∀q xs H',Qn H H'->H' q=some (.lst xs)->aj H' xs ((bc its []).map Jz)->Q (.ref q) H'
def Vc(F:az K "paths_of_boxes" "paths_of_boxes" Zu f fd)(O:Own mg)(gS:Def P w K mg Y 2 "last_first" ["path","items"] G2):Zz1 P w K mg Y 3 f fd ["items","with_tables"] xn:=by
 refine ei F Ja (by nofun) λam A L s H vs Q E hr h=>?_
 obtain⟨iv,its,rfl,DI,hw,ao,k⟩:=h;have hz:100000<=sizeLine:=by rw[yaG];lia
 refine⟨_,(QD (JM (i:=2) Ja.nd Z Zz0 (zF JB) Z Z)
  (QD (JM (i:=3) Ja.nd Z Zz0 (aA.mk (gS.pq hr Qr (Qy (Qs Qb) (Qy (pv 0) Qb)))) Z Z)
  (QD (b9.mk (Xv yaB (Je (pv 3) (λ_=>rfl)) (Qd (QW (xF yaC yeD yeE xH (pv 3)) (QM Z (Qh (Qi (i:=4) Ja.nd Z Zz0) (Qh (Qi (i:=5) Ja.nd Z Zz0) Qz))))
  (Qg (QN (Ql Jk (QC QE (pv 5) Qj (λ_ _=>rfl)) Qk (Qq _)) (Qg (Q7 (JL yaC yaD yaE JO (pv 2) (Qy (QG Yb (pv 4) (Qs (Qy (QC QE (pv 5) Qj (λ_ _=>rfl)) Qb))) Qb)))) (Qg (QN (Ql Jk (QC QE (pv 5) Qj (λ_ _=>rfl)) Qk (Qq _)) (Qg (Q7 (JL yaC ydD ydE Wn (pv 3) (Qy (gS.pq hr Qr (Qy (QG Yb (pv 4) (Qs (Qy (QC QE (pv 5) Qj (λ_ _=>rfl)) Qb))) (Qy (QC QE (pv 5) Qj (λ_ _=>rfl)) Qb))) Qb)))) (Qg (QN (Je (pv 1) (λ_=>rfl)) (Qg (ZW yaB Z (Qed Z O.reversed Z O.range (Qy (QC QE (pv 5) Qj (λ_ _=>rfl)) Qb) Z) (Qi (i:=6) Ja.nd Z Zz0) (Qg (Q7 (JL yaC ydD ydE Wn (pv 3) (Qy (gS.pq hr Qr (Qy (QG Yb (pv 4) (Qs (Qy (Qs (Qy (QC QE (pv 5) Qj (λ_ _=>rfl)) (Qy (pv 6) Qb))) Qb))) (Qy (QC QE (pv 5) Qj (λ_ _=>rfl)) Qb))) Qb)))))) Qw)))))))))
  (Jb (Jr (aA.mk (pv 2))))))),?_⟩
 dsimp only[QL,Za,Zb,Q1];refine⟨ot,λpa di=>?_⟩;have S1:=Qn.new (o:=.lst []) di;have g1:upd H pa (.lst []) pa=some (.lst []):=Qf;generalize upd H pa (.lst [])=H1 at S1 g1;refine⟨ot,λe0 C3=>?_⟩;have S2:=Qn.new (o:=.tup []) C3;refine⟨_,Z,.ref e0,iv,Jz [],its,Z,.tup Qf .nil,(DI.same S1).same S2,yap (Wd its) hw,λlf xs H3 S3 No gl tl=>?_⟩;rw[Nj]at tl;have lw:=S2.trans S3;have T3:aZ H H3 pa lf [] xs [] ((cw [] its).map fT):=by
  refine⟨S1.trans lw,di,?_,?_,lw _ _ g1,gl,.nil,tl⟩
  .cases e:H lf with
   |none=>rfl
   |some o=>rw[S2 _ _ (S1 _ _ e)]at No;cases No
  .intro z;rw[<-z,S2 _ _ g1]at No;cases No
 clear S1 g1 S2 S3 lw No gl tl C3 di;have hB:([]:List (List Step))++eW (cw [] its)=bc its []:=by rw[G9];rfl
 have hW:cf (cw [] its)<=10000:=by rw[Ni];exact hw
 have hO:∀e∈cw [] its,BD e:=Nq ao (by simpa using hw);generalize cw [] its=pi at T3 hB hW hO;refine⟨λm σ H4=>∃(x1 x2:List V)(acc:List (List Step))(st:List Pt)(y4 y5 y6:Option V),σ=[some iv,some (.bl false),some (.ref pa),some (.ref lf),y4,y5,y6]/\aZ H H4 pa lf x1 x2 (acc.map Jz) (st.map fT)/\acc++eW st=bc its []/\cf st<=m/\acc.length+m<=10000/\∀e∈st,BD e,⟨10000,[],xs,[],pi,none,none,none,Z,T3,hB,hW,by simp,hO⟩,?_⟩;clear T3 hB hW hO;rintro m σ H4 ⟨x1,x2,acc,st,y4,y5,y6,rfl,T4,hB,hW,hm,hO⟩;have l1:=T4.t1.length;have l2:=T4.t2.length;rw[tK]at l1 l2;rcases ybh st with rfl|⟨pi,e0,rfl⟩
 .have e:x2=[]:=ybD (by simpa using l2);subst e;refine⟨_,Z,false,.inl ⟨_,.inl (.inl T4.g2),Z⟩,QO ⟨_,Z,?_⟩⟩;have hB:acc++[]=bc its []:=hB;rw[lA]at hB;rw[<-hB]at k;exact k _ _ _ T4.S T4.g1 T4.t1
 rw[yaT]at T4 hB hW l2 hO;obtain⟨pre,y⟩:=e0;rw[Nh]at hB;rw[qH]at hW;have hB:acc++(y.bx pre++[]++eW pi)=bc its []:=hB;rw[lA]at hB;have hW:cf pi+(y.wt+0)<=m:=hW;obtain⟨fU,Nr⟩:y.bU/\pre.length+y.wt<=10000:=hO _ (tR _ tW);have i3:∀e∈pi,BD e:=λe he=>hO e (tT _ he);have hyw:=y.kF;have G':=Ng pi;rw[lq]at T4;obtain⟨ci,xl,rfl,t1,Dl⟩:∃ci xl,x2=ci++[xl]/\aj H4 ci (pi.map fT)/\ag H4 xl (fT (pre,y)):=by
  rcases ybh x2 with rfl|⟨ci,xl,rfl⟩
  .simp at l2
  .rw[yaT]at T4 ⊢;have l0:ci.length=(pi.map fT).length:=by
    have:=T4.t2.length;rw[tJ,tJ]at this;simpa using this
   have ht:=T4.t2.take ci.length;have hd:=T4.t2.drop ci.length;rw[ycx rfl,l0,ycx rfl]at ht;rw[ycy rfl,l0,ycy rfl]at hd;cases hd with
   |cons h t=>exact⟨ci,xl,Z,ht,h⟩
 refine⟨_,Z,true,.inl ⟨_,.inl (.inl T4.g2),by simp⟩,QZ ?_⟩;refine⟨λσ' H'=>∃m',m'<m/\∃(x1 x2:List V)(acc:List (List Step))(st:List Pt)(y4 y5 y6:Option V),σ'=[some iv,some (.bl false),some (.ref pa),some (.ref lf),y4,y5,y6]/\aZ H H' pa lf x1 x2 (acc.map Jz) (st.map fT)/\acc++eW st=bc its []/\cf st<=m'/\acc.length+m'<=10000/\∀e∈st,BD e,λ_ _ h=>h,?_⟩;exists _,Z,.inl ⟨Z,_,.inl (.inl T4.g2)⟩;refine⟨lf,_,xl,Z,Z,T4.g2,by simp,?_⟩;have T5:aZ H (upd H4 lf (.lst (ci++[xl]).dropLast)) pa lf x1 ci (acc.map Jz) (pi.map fT):=by
  rw[ycb];exact T4.put2 t1
 have Nt:=Dl.wH (o':=.lst (ci++[xl]).dropLast) T4.g2 Uo;generalize upd H4 lf (.lst (ci++[xl]).dropLast)=H5 at T5 Nt;clear T4 Dl t1 l2;obtain⟨pb,px,rfl,gp,tp⟩:=ag.Ud (show ag H5 xl (.tup [Jz pre,y.dv])from Nt);obtain⟨vp,vy,rfl,DP,DY⟩:∃vp vy,px=[vp,vy]/\ag H5 vp (.tup (pre.map Va))/\ag H5 vy y.dv:=by
  cases tp with
  |cons p1 t=>cases t with
   |cons p2 t=>cases t;exact⟨_,_,Z,p1,p2⟩
 exists pb,_,Z,.inl (.inl gp),Z,_,_,Z,_,_,Z,Z;obtain⟨va,vx,rfl,gv,tv⟩:=ag.Ud DP;have lvx:=tv.length;rw[tK]at lvx;dsimp only[QL,Za,Zb,Q1];cases y with
 |box nm p=>
  obtain⟨a,rfl,g⟩:=YE DY;refine⟨_,Z,a,_,0,_,Z,Z,.inl g,Z,Z,true,Z,QZ ?_⟩;exists _,Z,.inl ⟨Z,_,.inl (.inl T5.g1)⟩;refine⟨_,Z,_,Z,a,_,1,_,Z,Z,.inl g,Z,eN,λp6 sU=>?_⟩;have S6:=Qn.new (o:=.tup [.str nm]) sU;refine Nl (S6 _ _ gv) Qf (tv.same S6) (ds:=pre.map Va) (es:=[Va (nm,none)]) (.cons .str .nil) (by show vx.length+1<=sizeLine;lia) λu7 H7 S7 D7=>?_;rw[za]at D7;have T7:=(T5.same S6).same S7;refine⟨pa,x1,u7,Z,Z,T7.g1,by lia,?_⟩;rw[Ly.wt]at hW;rw[Ly.bx]at hB;refine⟨m-1,by lia,x1++[u7],ci,acc++[pre++[(nm,none)]],pi,_,_,_,Z,?_,by rw[lr];exact hB,by lia,by rw[tJ,tP];lia,i3⟩;rw[lq];exact T7.Nm (T7.t1.append (.cons D7 .nil))
 |aL nm bn=>
  obtain⟨a,x3,rfl,g,D3⟩:=KK DY;rw[Ly.wt]at hW Nr;rw[Ly.bx]at hB;rw[Ly.bU]at fU;have hlen:=Wd bn;refine⟨_,Z,a,_,0,_,Z,Z,.inl g,Z,Z,false,by rw[sQ],QO ?_⟩;refine⟨_,Z,a,_,0,_,Z,Z,.inl g,Z,Z,true,Z,QZ ?_⟩;exists _,Z,.inl ⟨Z,_,.inl (.inl T5.g2)⟩;refine⟨_,Z,_,Z,a,_,1,_,Z,Z,.inl g,Z,eN,λp6 sU=>?_⟩;have S6:=Qn.new (o:=.tup [.str nm]) sU;refine Nl (S6 _ _ gv) Qf (tv.same S6) (ds:=pre.map Va) (es:=[Va (nm,none)]) (.cons .str .nil) (by show vx.length+1<=sizeLine;lia) λu7 H7 S7 D7=>?_;rw[za]at D7;have Ha:=S6.trans S7;refine⟨_,Z,a,_,2,_,Z,Z,.inl (Ha _ _ g),Z,u7,x3,Jz (pre++[(nm,none)]),bn,Z,D7,D3.same Ha,by lia,λq8 Nu H8 S8 sV g8 t8=>?_⟩;rw[Nj]at t8;have T8:=(T5.same Ha).same S8;have lx0:=T8.t2.length;rw[tK]at lx0;have lx8:=t8.length;have lp8:((cw (pre++[(nm,none)]) bn).map fT).length=bn.length:=by unfold cw;simp
  refine⟨lf,q8,ci,Nu,Z,Z,T8.g2,g8,by lia,?_⟩;refine⟨m-1,by lia,x1,ci++Nu,acc,pi++cw (pre++[(nm,none)]) bn,_,_,_,Z,?_,?_,?_,by lia,?_⟩
  .rw[lq];exact T8.put2 (T8.t2.append t8)
  .rw[Nh,G9];exact hB
  .rw[qH,Ni];lia
  .intro e he;rcases yaq.mp he with he|he
   .exact i3 e he
   .exact Nq fU (by rw[tJ,tP];lia) e he
 |tab nm k1 bn=>
  obtain⟨a,x3,rfl,g,D3⟩:=Vo DY;rw[Ly.wt]at hW Nr;rw[Ly.bx]at hB;rw[Ly.bU]at fU;have hlen:=Wd bn;refine⟨_,Z,a,_,0,_,Z,Z,.inl g,Z,Z,false,by rw[sR],QO ?_⟩;refine⟨_,Z,a,_,0,_,Z,Z,.inl g,Z,Z,false,by rw[GX],QO ?_⟩;refine⟨_,Z,false,Z,QO ?_⟩;exact⟨m-1,by lia,x1,ci,acc,pi,_,_,_,Z,T5,hB,by lia,by lia,i3⟩
end
end Lw
namespace dW
open bW bt PySem.NumText
def QeK(h:48<=d/\d<=57):([112,113,114,115,116,117,118,119,120,121]:List Nat).contains d=false:=by
 simp;lia
def Z9(s:Bool)(u o:Int)(h1:1<=a+b):ve s a b (cont s a b u o)/\(ZR s (cont s a b u o)=if s=true/\fit u o a b<0 then-((fit u o a b).natAbs:Int)else((fit u o a b).natAbs:Int))/\(cont s a b u o).length=a+b/\(s=false->AllDigits (cont s a b u o))/\(∀x∈cont s a b u o,x<128):=by
 have ap:=Uk u o a b;unfold cont;generalize (fit u o a b).natAbs=n at ap;have hl:=UO ap h1;have hd:=UN n (a+b);have re:=LD n (a+b);have hv:=yp n (a+b);generalize pad n (a+b)=pl at hl hd re hv;obtain⟨d,dF,hd2⟩:=WU re;have mo:=hd d (by rw[dF];exact tR _ (yao.mpr Z))
 by_cases hc:s=true/\fit u o a b<0
 .rw[yai hc,yai hc];have e:qm pl=pl.dropLast++[d+64]:=by unfold qm;rw[hd2];rfl
  have GT:([112,113,114,115,116,117,118,119,120,121]:List Nat).contains (d+64)=true:=(by decide:∀d:Nat,d<58->48<=d->([112,113,114,115,116,117,118,119,120,121]:List Nat).contains (d+64)=true) d (Nat.lt_succ_of_le mo.2) mo.1
  have hb:XR s (qm pl)=true:=by
   unfold XR;rw[e,ybG,hc.1];exact GT
  have hf:Zq s (qm pl)=pl:=by
   unfold Zq;rw[yai hb,e,ycb,ybG];show pl.dropLast++[d+64-64]=pl;rw[Nat.add_sub_cancel];exact dF.symm
  have eO:(qm pl).length=a+b:=by
   rw[e,tJ,ybZ];simp;lia
  refine⟨⟨eO,by rw[hf];exact hd⟩,?_,eO,(λz=>by rw[z]at hc;exact absurd hc.1 (by lia)),λx hx=>?_⟩
  .unfold ZR;rw[yai hb,hf,hv]
  .rw[e]at hx;rcases yaq.mp hx with hx|hx
   .have:=hd x (List.dropLast_subset _ hx);lia
   .have:=yao.mp hx;lia
 .rw[yag hc,yag hc];have hb:XR s pl=false:=by
   unfold XR;rw[hd2];show(s&&List.contains _ d)=false;rw[QeK mo,yeo]
  have hf:Zq s pl=pl:=by unfold Zq;rw[yag (by rw[hb];lia)]
  refine⟨⟨hl,by rw[hf];exact hd⟩,?_,hl,λ_=>hd,λx hx=>?_⟩
  .unfold ZR;rw[yag (by rw[hb];lia),hf,hv]
  .have:=hd x hx;lia
def QaD(ho:o<=18)(hp:p<=18):u*10^(18-o)/10^(18-p)=u*10^p/10^o:=by
 have h1:u*10^(18-o)/10^(18-p)=(u*10^(18-o)*10^o)/(10^(18-p)*10^o):=(yeW _ _ (Nat.pow_pos (by lia))).symm;have h2:u*10^p/10^o=(u*10^p*10^(18-p))/(10^o*10^(18-p)):=(yeW _ _ (Nat.pow_pos (by lia))).symm;have e1:u*10^(18-o)*10^o=u*10^18:=by rw[yey, <-Nat.pow_add,show 18-o+o=18 by lia]
 have e2:u*10^p*10^(18-p)=u*10^18:=by rw[yey, <-Nat.pow_add,show p+(18-p)=18 by lia]
 rw[h1,h2,e1,e2,ybP (10^(18-p)) (10^o)]
def xo{k:Nat}:ax.aJ (k:Int)=((10^k:Nat):Int):=by
 unfold ax.aJ;rw[lH];push_cast;rfl
def Nv(u:Int){o p:Nat}(ho:o<=18)(hp:p<=18):ax.Xt u o p=if u<0 then-((u.natAbs*10^p/10^o:Nat):Int)else((u.natAbs*10^p/10^o:Nat):Int):=by
 rw[ax.SJ (by lia) (by lia) (by lia) (by lia),ax.jC (ax.JC _) (ax.JC _)];have e1:ax.aJ (18-(o:Int))=((10^(18-o):Nat):Int):=by
  rw[show(18-(o:Int))=((18-o:Nat):Int) by lia];exact xo
 have e2:ax.aJ (18-(p:Int))=((10^(18-p):Nat):Int):=by
  rw[show(18-(p:Int))=((18-p:Nat):Int) by lia];exact xo
 have e3:ax.X1 u=((u.natAbs:Nat):Int):=by unfold ax.X1;split<;>lia
 have e4:ax.X1 u*ax.aJ (18-(o:Int))/ax.aJ (18-(p:Int))=((u.natAbs*10^p/10^o:Nat):Int):=by
  rw[e1,e2,e3, <-QaD ho hp];push_cast;rfl
 rw[e4]
def Hc(u:Int){o a b:Nat}(ho:o<=18)(hb:b<=18):(fit u o a b).natAbs=(u.natAbs*10^b/10^o) % 10^(a+b)/\(fit u o a b<0↔u<0/\(u.natAbs*10^b/10^o) % 10^(a+b)≠0):=by
 have hc:=Nv u ho hb;generalize u.natAbs*10^b/10^o=X at hc;have e:ax.aJ ((a:Int)+b)=((10^(a+b):Nat):Int):=by
  rw[show(a:Int)+b=((a+b:Nat):Int) by lia];exact xo
 have ha:ax.X1 (ax.Xt u o b)=(X:Int):=by
  rw[hc];unfold ax.X1
  split<;>split<;>lia
 have hm:(X:Int) % ((10^(a+b):Nat):Int)=((X % 10^(a+b):Nat):Int):=by push_cast;rfl
 unfold fit;rw[ha,e,hm];have ap:X % 10^(a+b)≠0->X≠0:=λh z=>h (by rw[z];exact Nat.zero_mod _);generalize X % 10^(a+b)=qYa at ap;rw[hc]
 by_cases hu:u<0
 .rw[yai hu]
  by_cases hX:X=0
  .have hY:qYa=0:=yeq λz=>ap z hX;subst hX hY;exact⟨by simp,by simp⟩
  .rw[yai (by lia)];exact⟨by lia,by lia⟩
 .rw[yag hu,yag (by lia)];exact⟨by lia,by lia⟩
end dW
namespace He
open bW bt dW cU PySem.NumText
end He
namespace Lw
open PySem PySem.Spec PyProof.Rows L2 bW bt dW cU He
open Builtin Builtin.Str StrLaws
section
variable {P:Program}{w:World}{K:Frag}{mg:Str->Option Value}{Y:Heap}{f:Addr}{fd:FuncData}{tk:Nat->Tok}{c:Nat->Addr}
def WG{v:Int}{a b:Nat}(hb:b<=18)(h:v.natAbs<10^(a+b)):fit v b a b=v:=by
 obtain⟨h1,h2⟩:=Hc v (o:=b) (a:=a) (b:=b) hb hb;rw[Nat.mul_div_cancel _ (Nat.pow_pos (by lia)),Nat.mod_eq_of_lt h]at h1 h2;lia
def _root_.bt.Ed.told{M:List Nat}{first:Nat}{W N ac tail:List Nat}(E:Ed M first W N ac tail)(u:Int){o:Nat}(ho:o<=18):iX M (W++N++Qv ac) tail (aU first W N) ac.length (bI M (W++N++Qv ac) tail (fit u o (aU first W N) ac.length))=some (if sgn M first tail=true/\u<0 then 0-((fit u o (aU first W N) ac.length).natAbs:Int)else((fit u o (aU first W N) ac.length).natAbs:Int)):=by
 obtain⟨h1,Fv,_⟩:=E.small;have hf:=Uk u o (aU first W N) ac.length;obtain⟨w1,w2⟩:=Hc u (o:=o) (a:=aU first W N) (b:=ac.length) ho (by lia);rw[<-w1]at w2;generalize fit u o (aU first W N) ac.length=ff at hf w1 w2;unfold iX;rw[E.read h1 hf];have hn:((ff.natAbs:Nat):Int).natAbs<10^(aU first W N+ac.length):=by rw[yem];exact hf
 rw[WG (by lia) hn,WG (by lia) (by rw[Int.natAbs_neg];exact hn)]
 by_cases BE:ff<0
 .obtain⟨hu,eK⟩:=w2.mp BE;have e:ff= -((ff.natAbs:Nat):Int):=by lia
  cases hs:sgn M first tail with
  |true=>
   rw[yag,yai,yai ⟨Z,hu⟩]
   .congr 1;lia
   .rw[<-e]
   .intro z;refine E.Xs h1 hf eK hs ?_;rw[<-e];exact z
  |false=>
   rw[yai,yag (λz=>absurd z.1 (by lia))];rw[<-E.W' hs, <-e]
 .have e:ff=((ff.natAbs:Nat):Int):=by lia
  rw[yai (by rw[<-e])]
  by_cases hc:sgn M first tail=true/\u<0
  .have h0:ff.natAbs=0:=yeq λz=>BE (w2.mpr ⟨hc.2,z⟩);rw[yai hc,h0];rfl
  .rw[yag hc]
def Nw:∀c∈cE,∀b,bG b c<128:=by lia
def Nx{l:List Nat}{b:Bool}(h:∀x∈l,x∈cE):∀x∈l.map (bG b),x<128:=λx hx=>by
 obtain⟨y,hy,rfl⟩:=yaY.mp hx;exact Nw y (h y hy) b
def _root_.bt.Ed.QhM{M:List Nat}{first:Nat}{W N ac tail:List Nat}(E:Ed M first W N ac tail){f:Int}(hf:f.natAbs<10^(aU first W N+ac.length)):∀x∈bI M (W++N++Qv ac) tail f,x<128:=by
 intro x hx;unfold bI at hx
 split at hx
 .unfold KH at hx
  split at hx
  .obtain⟨y,_,rfl⟩:=yaY.mp hx
   split<;>lia
  .rw[yaz hx];lia
 .rcases yaq.mp hx with hx|hx
  .rcases yaq.mp hx with hx|hx
   .exact Nx (xc M E.ld).1 x hx
   .obtain⟨s,pre,hs,e,_,_,_,_,Ix⟩:=E.shape (decide (f<0)) E.small.1 hf;rw[e]at hx;rcases yaq.mp hx with hx|hx
    .rw[Ix]at hx
     split at hx
     .rename_i At;rcases yaq.mp hx with hx|hx
      .rw[yaz hx];lia
      .have hm:first∈cE:=by
        have:∀d∈([43,45,36]:List Nat),d∈cE:=by lia
        exact this first (yay.mp At)
       rw[yao.mp hx];exact Nw first hm _
     .rw[yaz hx]
      split<;>lia
    .rw[hs]at hx;exact Qey _ _ (Qez _ _) x (ybn hx)
  .exact Nx (MQ tail E.tl).1 x hx
def _root_.bt.Ed.QhN{M:List Nat}{first:Nat}{W N ac tail:List Nat}(E:Ed M first W N ac tail){f:Int}(hf:f.natAbs<10^(aU first W N+ac.length)):(bI M (W++N++Qv ac) tail f).length=(ZL M W N ac tail).length:=by
 have hb:=E.UQ (decide (f<0)) E.small.1 hf;rw[YA];unfold bI KH
 split
 .split<;>simp
 .simp only[tJ,tK]at hb ⊢;lia
noncomputable def vn:Nat->List Nat
 |0=>[83,57,40,51,41,86,57,57]|1=>[88,40,51,41]|2=>[83,57,40,54,41,86,57,57]|3=>[88,40,56,41]|4=>[45,44,45,45,45,44,45,45,57,46,57,57]|_=>[57,40,51,41]
theorem YG:∀p:Nat,Y0 p=tx (vn p)
 |0=>by rfl'
 |1=>by rfl'
 |2=>by rfl'
 |3=>by rfl'
 |4=>by rfl'
 |n+5=>by show("9(3)":Str)=tx [57,40,51,41];rfl'
def XS(p:Nat):(vn p).length<=500:=by unfold vn;split<;>lia
noncomputable def aT:Nat->Nat
 |0=>2|1=>0|2=>2|3=>0|4=>3|_=>2
noncomputable def eY(p:Nat):Bool:=p==0||p==2
noncomputable def cG(p:Nat):Nat:=if p=2 then 6 else 3
noncomputable def bB(p:Nat):Nat:=if p=0\/p=2 then 2 else 0
def Ki(p:Nat):∃x,Q0 (vn p)=some x/\x.kind=aT p/\(aT p=2->qp x/\x.signed=eY p/\x.before=cG p/\x.behind=bB p):=by
 unfold vn aT
 split
 .exact⟨⟨2,true,3,2⟩,by first|rfl|rfl',rfl,λ_=>⟨⟨Z,by lia,by lia⟩,Z,Z,Z⟩⟩
 .obtain⟨x,h⟩:∃x,Q0 [88,40,51,41]=some x:=⟨_,by first|rfl|rfl'⟩;have e:(Q0 [88,40,51,41]).map (·.kind)=some 0:=by rfl'
  rw[h]at e;exact⟨x,h,tO e,λz=>by cases z⟩
 .exact⟨⟨2,true,6,2⟩,by first|rfl|rfl',rfl,λ_=>⟨⟨Z,by lia,by lia⟩,Z,Z,Z⟩⟩
 .obtain⟨x,h⟩:∃x,Q0 [88,40,56,41]=some x:=⟨_,by first|rfl|rfl'⟩;have e:(Q0 [88,40,56,41]).map (·.kind)=some 0:=by rfl'
  rw[h]at e;exact⟨x,h,tO e,λz=>by cases z⟩
 .obtain⟨x,h⟩:∃x,Q0 [45,44,45,45,45,44,45,45,57,46,57,57]=some x:=⟨_,by first|rfl|rfl'⟩;have e:(Q0 [45,44,45,45,45,44,45,45,57,46,57,57]).map (·.kind)=some 3:=by rfl'
  rw[h]at e;exact⟨x,h,tO e,λz=>by cases z⟩
 .rename_i h0 h1 h2 h3 h4;refine⟨⟨2,false,3,0⟩,by first|rfl|rfl',rfl,λ_=>⟨⟨Z,by lia,by lia⟩,?_,?_,?_⟩⟩
  .show false=(p==0||p==2);rw[yau.mpr h0,yau.mpr h2];rfl
  .show 3=if p=2 then 6 else 3;rw[yag h2]
  .show 0=if p=0\/p=2 then 2 else 0;rw[yag (by rintro(z|z);exact h0 z;exact h2 z)]
def BF:Ed [] 45 [45,44,45,45,45,44,45,45] [57] [57,57] []:=.mk
noncomputable def xp:List Nat:=[45,44,45,45,45,44,45,45,57,46,57,57]
noncomputable def putL(p:Nat)(u o:Int):List Nat:=if p=4 then bI [] xp [] (fit u o 6 2)else cont (eY p) (cG p) (bB p) u o
theorem ZT:∀p:Nat,(aT p=2/\p≠4/\aR p=cG p+bB p/\1<=cG p+bB p)\/(aT p=3/\p=4)\/aT p=0\/aT p=1
 |0=>.inl ⟨Z,by lia,by lia,by lia⟩
 |1=>.inr (.inr (.inl Z))
 |2=>.inl ⟨Z,by lia,by lia,by lia⟩
 |3=>.inr (.inr (.inl Z))
 |4=>.inr (.inl ⟨Z,Z⟩)
 |n+5=>by
  have hb:cG (n+5)=3:=by unfold cG;rw[yag (by lia)]
  have hh:bB (n+5)=0:=by unfold bB;rw[yag (by lia)]
  exact .inl ⟨Z,by lia,by rw[hb,hh];rfl,by rw[hb,hh];lia⟩
def kG(u o:Int)(h:aT p=2\/aT p=3):(putL p u o).length=aR p:=by
 unfold putL;rcases ZT p with⟨h1,h2,h3,h4⟩|⟨h1,rfl⟩|h1|h1
 .rw[yag h2,h3];exact(Z9 (eY p) u o h4).2.2.1
 .rw[yai rfl];exact BF.QhN (Uk u o 6 2)
 .lia
 .lia
def VD(p:Nat):aR p<=12/\1<=aR p:=by unfold aR;split<;>lia
def BG(K:Frag):Sp:=λvs H Q _=>∃(p:Nat)(a:Addr)(u:Int)(o:Nat),vs=[.str (Y0 p),.ref a]/\cb K H a u o/\(aT p=2\/aT p=3)/\∀H',Qn H H'->Q (.str (tx (putL p u o))) H'
def Kv(p:Nat):decide (V.str (kindS (aT p))=V.str "number")=decide (aT p=2):=by
 have h:aT p<=3:=by rcases ZT p with h|h|h|h<;>lia
 rw[show V.str "number"=V.str (kindS 2)from rfl,Vz _ h 2 (by lia)]
def YH(p:Nat):decide (V.str (kindS (aT p))=V.str "edited")=decide (aT p=3):=by
 have h:aT p<=3:=by rcases ZT p with h|h|h|h<;>lia
 rw[show V.str "edited"=V.str (kindS 3)from rfl,Vz _ h 3 (by lia)]
def Vd(he:∀R:VK,R (.str (Y0 p)) H->te σ H R)(k:∀H',Qn H H'->Q (.str (kindS (aT p))) H'):XW (Vn c) [] E (Jf te WM) σ H Q:=by
 refine he _ ?_;obtain⟨x,hp,hk,_⟩:=Ki p;refine⟨vn p,by rw[YG];rfl,XS p,(λz=>by rw[hp]at z;cases z),λy hy H' S=>?_⟩;obtain rfl:=tO (hp.symm.trans hy);rw[hk];exact k H' S
def Qgt(F:az K "put" "put" De f fd)(hV:Def P w K mg Y 7 "kind_of" ["picture"] (Vn c))(gy:Def P w K mg Y 7 "content_of" ["picture","amount"] (kl K c))(m9:Def P w K mg Y 7 "edited" ["picture","amount"] (VB K c)):Zz1 P w K mg Y 8 f fd ["picture","amount"] (BG K):=by
 refine bN F Qgb (by nofun) λam A L s H vs Q E hr h=>?_
 obtain⟨p,a,u,o,rfl,qMa,hk,k⟩:=h;have fr:=Jh (P:=P) (w:=w) (K:=K) (mg:=mg) (Y:=Y) (N:=["picture","amount"]) (qual:="put") (scope:=Qe De) (f:=f) (cd:=am) (A:=A) (L:=L) (s:=s) (H:=H) (E:=E);have hx:=QH fr;refine⟨_,(Qd (QN (Ql Jk (hV.pq hr hx (Qa (pv 0) Qb)) Qk (Qq _)) (Qg (Qp (gy.pq hr hx (Qa (pv 0) (Qa (pv 1) Qb))))) Qw)
  (Qg (Qp (m9.pq hr hx (Qa (pv 0) (Qa (pv 1) Qb)))))),?_⟩
 refine Vd (p:=p) (λR h=>⟨_,Z,h⟩) λH1 S1=>?_;exists Z,_,Z;rw[Kv];unfold putL at k;obtain⟨x,hp,Hf,ul⟩:=Ki p;rcases ZT p with⟨h1,h2,h3,h4⟩|⟨h1,rfl⟩|h1|h1
 .rw[yag h2]at k;rw[tM h1];obtain⟨nr,e1,e2,e3⟩:=ul h1;refine QZ ⟨_,Z,_,Z,vn p,a,u,o,by rw[YG];rfl,XS p,qMa.same S1,.inr ⟨x,hp,nr,λH2 S2=>?_⟩⟩;rw[e1,e2,e3];exact k _ (S1.trans S2)
 .rw[yai rfl]at k;rw[tL (by rw[h1];lia)];exact QO ⟨_,Z,_,Z,_,a,u,o,by rw[YG];rfl,XS 4,qMa.same S1,.inr ⟨[],45,[45,44,45,45,45,44,45,45],[57],[57,57],[],BF,by lia,Z,λH2 S2=>k _ (S1.trans S2)⟩⟩
 .lia
 .lia
noncomputable def fV(p:Nat):List Nat:=if aT p=2\/aT p=3 then putL p 0 0 else replicate (aR p) 32
def QeL(p:Nat):(fV p).length=aR p:=by
 unfold fV
 split
 .exact kG 0 0 ‹_›
 .exact lj
def xq:Sp:=λvs H Q _=>∃p:Nat,vs=[.str (Y0 p)]/\∀H',Qn H H'->Q (.str (tx (fV p))) H'
def Qco:(" ":Str)=tx [32]:=by rfl'
def Qcp(F:az K "blank" "blank" zV f fd)(hV:Def P w K mg Y 7 "kind_of" ["picture"] (Vn c))(rJ:Def P w K mg Y 8 "put" ["picture","amount"] (BG K))(gr:Def P w K mg Y 7 "size_of" ["picture"] Um):Zz1 P w K mg Y 9 f fd ["picture"] xq:=by
 refine okN F ka (by nofun) λam A L s H vs Q E hr h=>?_
 obtain⟨p,rfl,k⟩:=h;have hz:=zza
 refine⟨_,(Qd (Qt (i:=1) ka.nd Z Zz0 (hV.pq hr Qr (Qa (pv 0) Qb)))
  (Qd (QN (PW.pt (ZU (Ql Jk (pv 1) Qk (Qq _)) (JW (Ql Jk (pv 1) Qk (Qq _))))) (Qg (Qp (rJ.pq hr Qr (Qa (pv 0) (Qa (Qs (Qa Qj (Qa Qj Qb))) Qb))))) Qw)
  (Qg (Qp (QG ZJ Qk (gr.pq hr Qr (Qa (pv 0) Qb))))))),?_⟩
 refine Vd (p:=p) (λR h=>⟨_,Z,h⟩) λH1 S1=>?_;dsimp only[QL,Za,Zb,Q1];exists _,Z,Z,_,Z;rw[Kv];obtain⟨pa,pl,px,ep,hp,es⟩:=VC p;have sz:=VD p;unfold fV at k;rcases ZT p with⟨h1,_⟩|⟨h1,_⟩|h1|h1
 .rw[yai (.inl h1)]at k;rw[tM h1];refine QZ (QZ ⟨_,Z,bj,λq hq=>?_⟩);exact⟨p,q,0,0,Z,⟨.inl (.inl Qf),by lia,by lia,by lia⟩,.inl h1,λH2 S2=>k _ ((S1.trans (Qn.new hq)).trans S2)⟩
 .rw[yai (.inr h1)]at k;rw[tL (by rw[h1];lia)];refine QO ⟨_,Z,Z,_,Z,?_⟩;rw[YH,tM h1];refine QZ ⟨_,Z,bj,λq hq=>?_⟩;exact⟨p,q,0,0,Z,⟨.inl (.inl Qf),by lia,by lia,by lia⟩,.inr h1,λH2 S2=>k _ ((S1.trans (Qn.new hq)).trans S2)⟩
 all_goals
  rw[yag (by lia)]at k;rw[tL (by lia)];refine QO ⟨_,Z,Z,_,Z,?_⟩;rw[YH,tL (by lia)];refine QO ⟨_,Z,pa,pl,px,(by rw[ep];rfl),hp,λH2 S2=>?_⟩;rw[es,Qco];refine⟨tx [32],(aR p:Nat),Z,Z,by lia,by rw[Qu,lH,tP];lia,by lia,?_⟩;rw[lH,j0];exact k _ (S1.trans S2)
theorem Ve:∀a b:List (Bool × Ly),aS (a++b)=aS a+aS b
 |[],b=>by rw[lz,aS,ybU]
 |x::a,b=>by rw[lu,aS,aS,Ve a b];lia
def xr(l:List (Bool × Ly)):aS l.reverse=aS l:=by
 induction l with
 |nil=>rfl
 |cons x r ih=>rw[ybJ,Ve,ih,aS,aS,aS];lia
theorem Ny(l:List (Bool × Ly)):∀k,aS (replicate k l).flatten=k*aS l
 |0=>by rw[List.replicate_zero,List.flatten_nil,aS];lia
 |k+1=>by rw[yas,yaJ,Ve,Ny l k,Nat.succ_mul];lia
theorem WH:∀{xs:List V}{ds:List Dv},aj H xs ds->aj H xs.reverse ds.reverse
 |_,_,.nil=>.nil
 |_,_,.cons h t=>by rw[ybJ,ybJ];exact(WH t).append (.cons h .nil)
theorem zc{xs:List V}{ds:List Dv}(h:aj H xs ds):∀k,aj H (replicate k xs).flatten (replicate k ds).flatten
 |0=>.nil
 |k+1=>by rw[yas,yas,yaJ,yaJ];exact h.append (zc h k)
theorem zd:∀{ps:List (List Nat)}{xs:List V},aj H xs (ps.map λl=>Dv.str (tx l))->xs=(ps.map tx).map V.str
 |[],_,h=>by cases h;rfl
 |p::ps,_,h=>by
  cases h with
  |cons h t=>
   obtain rfl:=h.xZ;rw[zd t];rfl
def Qcq{ls:List (List Nat)}(h:ls.flatten.length<=100000):JoinOk "" (ls.map tx)=true:=by
 unfold JoinOk;rw[<-yel,ydT,jZ];unfold tooLong;have hz:100000<=sizeLine:=by rw[yaG];lia
 rw[tL (by lia)];rfl
mutual
noncomputable def Ly.bg:Ly->List Nat
 | .box _ p=>fV p
 | .aL _ its=>aW its
 | .tab _ k its=>(replicate k (aW its)).flatten
noncomputable def aW:List (Bool × Ly)->List Nat
 |[]=>[]
 |x::xs=>fW x++aW xs
noncomputable def fW:Bool × Ly->List Nat
 |(ov,y)=>if ov=true then[]else y.bg
end
mutual
theorem Ly.Qgu:∀y:Ly,y.bg.length=y.sz
 | .box _ p=>by rw[Ly.bg,Ly.sz,QeL]
 | .aL _ its=>by rw[Ly.bg,Ly.sz,YI its]
 | .tab _ k its=>by rw[Ly.bg,Ly.sz,len_rep,YI its,ybP]
theorem YI:∀its:List (Bool × Ly),(aW its).length=aE its
 |[]=>by rw[aW,aE];rfl
 |x::xs=>by rw[aW,aE,tJ,QeM x,YI xs]
theorem QeM:∀x:Bool × Ly,(fW x).length=cX x
 |(ov,y)=>by
  have h:=Ly.Qgu y;rw[fW,cX];cases ov
  .exact h
  .rfl
end
theorem qJ:∀a b:List (Bool × Ly),aW (a++b)=aW a++aW b
 |[],b=>by rw[lz,aW,lz]
 |x::a,b=>by rw[lu,aW,aW,qJ a b,lr]
def QeN(l:List (Bool × Ly)):∀k,aW ((replicate k l.reverse).flatten).reverse=(replicate k (aW l)).flatten:=by
 intro k;rw[List.reverse_flatten,yde,ydH,List.reverse_replicate]
 induction k with
 |zero=>rfl
 |succ k ih=>rw[yas,yas,yaJ,yaJ,qJ,ih]
def xt:Sp:=λvs H Q _=>∃(v:V)(its:List (Bool × Ly)),vs=[v]/\ag H v (.tup (bD its))/\aS its<=10000/\aE its<=10000/\bu its/\∀H',Qn H H'->Q (.str (tx (aW its))) H'
def Kj(F:az K "signs_at_beginning" "signs_at_beginning" JN f fd)(O:Own mg)(OL:mg "list"=none)(rK:Def P w K mg Y 9 "blank" ["picture"] xq):Zz1 P w K mg Y 10 f fd ["layout"] xt:=by
 refine ei F Jm (by nofun) λam A L s H vs Q E hr h=>?_
 obtain⟨v,its,rfl,D,hw,hs,ao,k⟩:=h;have hz:100000<=sizeLine:=by rw[yaG];lia
 refine⟨_,(QD (JM (i:=1) Jm.nd Z Zz0 (zF JB) Z Z)
  (QD (JM (i:=2) Jm.nd Z Zz0 (aA.mk (WY Z Z OL Z O.reversed (Qy (pv 0) Qb) Z)) Z Z)
  (QD (b9.mk (Xv yaB (Je (pv 2) (λ_=>rfl)) (Qd (Qt (i:=3) Jm.nd Z Zz0 (xF yaC yeD yeE xH (pv 2)))
  (Qg (QN (Ql Jk (QC QE (pv 3) Qj (λ_ _=>rfl)) Qk (Qq _)) (Qg (Q7 (JL yaC yaD yaE JO (pv 1) (Qy (rK.pq hr Qr (Qy (QC QE (pv 3) Qj (λ_ _=>rfl)) Qb)) Qb)))) (Qg (QN (Ql Jk (QC QE (pv 3) Qj (λ_ _=>rfl)) Qk (Qq _)) (Qg (Q7 (JL yaC ydD ydE Wn (pv 2) (Qy (WY Z Z OL Z O.reversed (Qy (QC QE (pv 3) Qj (λ_ _=>rfl)) Qb) Z) Qb)))) (Qg (QN (Ql Jk (QC QE (pv 3) Qj (λ_ _=>rfl)) Qk (Qq _)) (Qg (Q7 (JL yaC ydD ydE Wn (pv 2) (Qy (QG P' (WY Z Z OL Z O.reversed (Qy (QC QE (pv 3) Qj (λ_ _=>rfl)) Qb) Z) (QC QE (pv 3) Qj (λ_ _=>rfl))) Qb)))) Qw)))))))))
  (Jb (Jr (yI (JP (aA.mk (pv 1)) JB Z) Z Z)))))),?_⟩
 dsimp only[QL,Za,Zb,Q1];refine⟨ot,λpa di=>?_⟩;obtain⟨va,vx,rfl,gv,tv⟩:=ag.Ud D;have S1:=Qn.new (o:=.lst []) di;refine⟨_,Z,va,vx,Z,.inl (.inl (S1 _ _ gv)),λlf No=>?_⟩;have S2:=Qn.new (o:=.lst vx.reverse) No;have T1:aZ H (upd (upd H pa (.lst [])) lf (.lst vx.reverse)) pa lf [] vx.reverse (([]:List (List Nat)).map λl=>Dv.str (tx l)) (its.reverse.map cp):=by
  exists S1.trans S2,di,?_,?_,S2 _ _ Qf,Qf,.nil
  .cases e:H lf with
   |none=>rfl
   |some o=>rw[S1 _ _ e]at No;cases No
  .intro z;rw[<-z,Qf]at No;cases No
  .rw[ZS]at tv;rw[ycS];exact WH (tv.same (S1.trans S2))
 generalize upd (upd H pa (.lst [])) lf (.lst vx.reverse)=H1 at T1;clear S1 S2 No di;refine⟨λm σ H2=>∃(x1 x2:List V)(ps:List (List Nat))(st:List (Bool × Ly))(y3:Option V),σ=[some (.ref va),some (.ref pa),some (.ref lf),y3]/\aZ H H2 pa lf x1 x2 (ps.map λl=>Dv.str (tx l)) (st.map cp)/\ps.flatten++aW st.reverse=aW its/\aS st<=m/\ps.length+m<=10000/\∀x∈st,x.2.bU,
  ⟨10000,[],vx.reverse,[],its.reverse,none,Z,T1,by simp,by rw[xr];exact hw,by simp,λx hx=>qI ao (ydC.mp hx)⟩,?_⟩
 clear T1;rintro m σ H2 ⟨x1,x2,ps,st,y3,rfl,T2,hsz,sW,hm,hO⟩;have l1:=T2.t1.length;have l2:=T2.t2.length;rw[tK]at l1 l2;rcases ybh st with rfl|⟨pi,e0,rfl⟩
 .have e:x2=[]:=ybD (by simpa using l2);subst e;refine⟨_,Z,false,.inl ⟨_,.inl (.inl T2.g2),Z⟩,QO ?_⟩
  replace hsz:ps.flatten++[]=aW its:=hsz
  rw[lA]at hsz;obtain rfl:=zd T2.t1;refine⟨Z,_,Z,_,pa,_,Z,Z,.inl (.inl T2.g1),Qcq (by rw[hsz,YI];lia),?_⟩;rw[ki,hsz];exact k _ T2.S
 rw[yaT]at T2 hsz sW l2 hO;obtain⟨ov,y⟩:=e0;rw[ycV]at hsz;rw[Ve]at sW
 replace hsz:ps.flatten++(fW (ov,y)++aW pi.reverse)=aW its:=hsz
 replace sW:aS pi+(y.wt+0)<=m:=sW
 have fU:y.bU:=hO _ (tR _ tW);have i3:∀x∈pi,x.2.bU:=λe he=>hO e (tT _ he);have hyw:=y.kF;rw[lq]at T2;obtain⟨ci,xl,rfl,t1,Dl⟩:∃ci xl,x2=ci++[xl]/\aj H2 ci (pi.map cp)/\ag H2 xl (cp (ov,y)):=by
  rcases ybh x2 with rfl|⟨ci,xl,rfl⟩
  .simp at l2
  .rw[yaT]at T2 ⊢;have l0:ci.length=(pi.map cp).length:=by
    have:=T2.t2.length;rw[tJ,tJ]at this;simpa using this
   have ht:=T2.t2.take ci.length;have hd:=T2.t2.drop ci.length;rw[ycx rfl,l0,ycx rfl]at ht;rw[ycy rfl,l0,ycy rfl]at hd;cases hd with
   |cons h t=>exact⟨ci,xl,Z,ht,h⟩
 refine⟨_,Z,true,.inl ⟨_,.inl (.inl T2.g2),by simp⟩,QZ ?_⟩;refine⟨λσ' H'=>∃m',m'<m/\∃(x1 x2:List V)(ps:List (List Nat))(st:List (Bool × Ly))(y3:Option V),σ'=[some (.ref va),some (.ref pa),some (.ref lf),y3]/\aZ H H' pa lf x1 x2 (ps.map λl=>Dv.str (tx l)) (st.map cp)/\ps.flatten++aW st.reverse=aW its/\aS st<=m'/\ps.length+m'<=10000/\∀x∈st,x.2.bU,λ_ _ h=>h,?_⟩;exists _,Z,.inl ⟨Z,_,.inl (.inl T2.g2)⟩;refine⟨lf,_,xl,Z,Z,T2.g2,by simp,?_⟩;have T3:aZ H (upd H2 lf (.lst (ci++[xl]).dropLast)) pa lf x1 ci (ps.map λl=>Dv.str (tx l)) (pi.map cp):=by
  rw[ycb];exact T2.put2 t1
 have fP:=Dl.wH (o':=.lst (ci++[xl]).dropLast) T2.g2 Uo;generalize upd H2 lf (.lst (ci++[xl]).dropLast)=H3 at T3 fP;clear T2 Dl t1 l2;have l0:=T3.t2.length;rw[tK]at l0;have G':=Wd pi;dsimp only[QL,Za,Zb,Q1];cases ov with
 |true=>
  obtain⟨a,x2,rfl,g,_⟩:=qA fP;rw[fW,yai rfl,lz]at hsz;refine⟨_,Z,a,_,0,_,Z,Z,.inl g,Z,Z,false,by rw[M6],QO ?_⟩;refine⟨_,Z,a,_,0,_,Z,Z,.inl g,Z,Z,false,by rw[M7],QO ?_⟩;refine⟨_,Z,a,_,0,_,Z,Z,.inl g,Z,Z,false,by rw[M8],QO ?_⟩;exact⟨m-1,by lia,x1,ci,ps,pi,_,Z,T3,hsz,by lia,by lia,i3⟩
 |false=>
  rw[cp,yag (by lia)]at fP;rw[fW,yag (by lia)]at hsz;cases y with
  |box nm p=>
   obtain⟨a,rfl,g⟩:=YE fP;rw[Ly.bg]at hsz;refine⟨_,Z,a,_,0,_,Z,Z,.inl g,Z,Z,true,Z,QZ ?_⟩;exists _,Z,.inl ⟨Z,_,.inl (.inl T3.g1)⟩;refine⟨_,Z,a,_,2,_,Z,Z,.inl g,Z,p,Z,λH4 S4=>?_⟩;have T4:=T3.same S4;refine⟨pa,x1,_,Z,Z,T4.g1,by lia,?_⟩;refine⟨m-1,by lia,x1++[.str (tx (fV p))],ci,ps++[fV p],pi,_,Z,?_,?_,by lia,by rw[tJ,tP];lia,i3⟩
   .rw[lq];exact T4.Nm (T4.t1.append (.cons .str .nil))
   .rw[List.flatten_append,List.flatten_singleton,lr];exact hsz
  |aL nm bn=>
   obtain⟨a,x3,rfl,g,D3⟩:=KK fP;rw[Ly.bg]at hsz;rw[Ly.wt]at sW;rw[Ly.bU]at fU;have hlen:=Wd bn;refine⟨_,Z,a,_,0,_,Z,Z,.inl g,Z,Z,false,by rw[sQ],QO ?_⟩;refine⟨_,Z,a,_,0,_,Z,Z,.inl g,Z,Z,true,Z,QZ ?_⟩;exists _,Z,.inl ⟨Z,_,.inl (.inl T3.g2)⟩;obtain⟨ia,ix,rfl,gi,ti⟩:=ag.Ud D3;have li:=ti.length;rw[ZS]at ti;rw[ZS,tK]at li;refine⟨_,Z,a,_,2,_,Z,Z,.inl g,Z,ia,ix,Z,.inl (.inl gi),λq8 sV=>?_⟩;have S8:=Qn.new (o:=.lst ix.reverse) sV;have T8:=T3.same S8;refine⟨lf,q8,ci,ix.reverse,Z,Z,T8.g2,Qf,by rw[tZ];lia,?_⟩;refine⟨m-1,by lia,x1,ci++ix.reverse,ps,pi++bn.reverse,_,Z,?_,?_,?_,by lia,?_⟩
   .rw[lq,ycS];exact T8.put2 (T8.t2.append (WH (ti.same S8)))
   .rw[ycV,ydH,qJ];exact hsz
   .rw[Ve,xr];lia
   .intro x hx;rcases yaq.mp hx with hx|hx
    .exact i3 x hx
    .exact qI fU (ydC.mp hx)
  |tab nm k1 bn=>
   obtain⟨a,x3,rfl,g,D3⟩:=Vo fP;rw[Ly.bg]at hsz;rw[Ly.wt]at sW;rw[Ly.bU]at fU;have hlen:=Wd bn;have Gj:=fU.1;refine⟨_,Z,a,_,0,_,Z,Z,.inl g,Z,Z,false,by rw[sR],QO ?_⟩;refine⟨_,Z,a,_,0,_,Z,Z,.inl g,Z,Z,false,by rw[GX],QO ?_⟩;refine⟨_,Z,a,_,0,_,Z,Z,.inl g,Z,Z,true,Z,QZ ?_⟩;exists _,Z,.inl ⟨Z,_,.inl (.inl T3.g2)⟩;obtain⟨ia,ix,rfl,gi,ti⟩:=ag.Ud D3;have li:=ti.length;rw[ZS]at ti;rw[ZS,tK]at li;have hmul:k1*bn.length<=k1*aS bn:=Nat.mul_le_mul_left _ hlen;have Hg:ix.length*k1<=10000:=by rw[li,ybP];lia
   refine⟨_,Z,a,_,3,_,Z,Z,.inl g,Z,ia,ix,Z,.inl (.inl gi),λq8 sV=>?_⟩;have S8:=Qn.new (o:=.lst ix.reverse) sV;refine⟨_,Z,a,_,2,_,Z,Z,.inl (S8 _ _ g),Z,q8,(k1:Nat),_,Z,Z,Qf,by lia,by lia,by rw[lH,tZ];lia,λq9 oB=>?_⟩;rw[lH];have S9:=Qn.new (o:=.lst (replicate k1 ix.reverse).flatten) oB;have T9:=(T3.same S8).same S9;have lrep:(replicate k1 ix.reverse).flatten.length<=10000:=by rw[len_rep,tZ,ybP];exact Hg
   refine⟨lf,q9,ci,_,Z,Z,T9.g2,Qf,by lia,?_⟩;refine⟨m-1,by lia,x1,ci++(replicate k1 ix.reverse).flatten,ps,pi++(replicate k1 bn.reverse).flatten,_,Z,?_,?_,?_,by lia,?_⟩
   .rw[lq,List.map_flatten,yde,ycS];exact T9.put2 (T9.t2.append (zc (WH (ti.same (S8.trans S9))) k1))
   .rw[ycV,qJ,QeN];exact hsz
   .rw[Ve,Ny,xr];lia
   .intro x hx;rcases yaq.mp hx with hx|hx
    .exact i3 x hx
    .obtain⟨l,hl,hx⟩:=List.mem_flatten.mp hx;rw[yaz hl]at hx;exact qI fU.2 (ydC.mp hx)
noncomputable def oH(t:List Nat)(n:Nat):List Nat:=t.take n++replicate (n-t.length) 32
def QhO(l:List Nat)(n:Nat):Txt.ljust (tx l) (n:Int)=tx (l++replicate (n-l.length) 32):=by
 unfold Txt.ljust;have h:=Qu l
 split
 .rename_i hc;rw[show n-l.length=0 by lia];simp
 .rw[lH,h];unfold padded tx;simp
structure c6(p:Nat)(t:List Nat)(u:Int)(o:Nat):Prop where
 ex:(aT p=2/\ve (eY p) (cG p) (bB p) t/\u=ZR (eY p) t/\o=bB p)\/(p=4/\iX [] xp [] 6 2 t=some u/\o=2/\∀x∈t,x<128)
 ln:t.length<=100
noncomputable def DC(r0 r1 r2 r3:Addr):List (Key × V):=[(Sum.inr "number",.ref r0),(Sum.inr "edited",.ref r1),(Sum.inr "text",.ref r2),(Sum.inr "letters",.ref r3)]
noncomputable def DD:Nat->List V
 |0=>[.str "number",.str "edited",.str "text",.str "letters"]
 |1=>[.str "text",.str "letters"]
 |_=>[.str "number",.str "edited",.str "text"]
theorem QeO:∀k,(DD k).all VQ=true
 |0=>rfl
 |1=>rfl
 |_+2=>rfl
inductive Mv (p p2:Nat) (t:List Nat):List Nat->Prop
 |DE {u:Int} {o:Nat} (h:c6 p t u o) (hu:u.natAbs<10^18) (h2:aT p2=2\/aT p2=3):Mv p p2 t (putL p2 u o)
 |txt (h:aT p=0) (h2:aT p2=0) (hl:t.length<=200):Mv p p2 t (oH t (aR p2))
def Hh(p:Nat):aT p<=3:=by rcases ZT p with h|h|h|h<;>lia
def Nz:∀a≤3,∀b≤3,a≠1->b≠1->(if true=true then !fj (V.str (kindS b)) (DD a)else fj (V.str (kindS b)) (DD a))=false:=by rfl'
theorem QhP(T:Txt K mg tk c kr):∀k≤3,∃ra,Vr (DC (kr 8) (kr 9) (kr 10) (kr 11)) (Sum.inr (kindS k):Key)=some (.ref ra)/\∀H,aw K H ra (DD k)
 |0,_=>⟨kr 10,Z,T.uA⟩
 |1,_=>⟨kr 11,Z,T.uB⟩
 |2,_=>⟨kr 8,Z,T.uy⟩
 |3,_=>⟨kr 9,Z,T.uz⟩
def DF:Sp:=λvs H Q _=>∃(t:List Nat)(n:Nat),vs=[.str (tx t),.int (n:Nat),.bl false]/\t.length<=200/\n<=200/\Q (.str (tx (oH t n))) H
def vi(F:az K "as_text" "as_text" Yq f fd)(O:Own mg):Zz1 P w K mg Y 1 f fd ["text","size","right"] DF:=by
 refine okN F wV (by nofun) λam A L s H vs Q E hr h=>?_
 obtain⟨t,n,rfl,ht,hn,k⟩:=h;have hz:=zza
 have AC:=Qu t;refine⟨_,(Qd (QN (Je (pv 2) (λ_=>rfl)) (Qg (Qp (JL yaA slot_str_rjust type_str_rjust QbE (QR Zc (pv 0) (QQ (Qx (VN Z) Z O.max boot_max (Qa (QG VM (Qx Q2 Z O.len ybb (Qa (pv 0) Qb)) (pv 1)) (Qa Qj Qb)))) JK) (Qa (pv 1) Qb)))) Qw)
  (Qg (Qp (JL yaA slot_str_ljust type_str_ljust QbD (QR Zc (pv 0) JK (QQ (pv 1))) (Qa (pv 1) Qb))))),?_⟩
 refine⟨_,Z,false,Z,QO ?_⟩;refine⟨_,Z,_,Z,_,Z,tx t,Z,by lia,?_⟩;have e:StrLaws.sliceText (tx t) none (some ((n:Nat):Int))=tx (t.take n):=by
  have e2:sliceText (tx t) none (some ((n:Nat):Int))=sliceText (tx t) (some ((0:Nat):Int)) (some ((n:Nat):Int)):=by
   unfold sliceText;rw[sliceIdx_none_lo];rfl
  rw[e2,J2 t (lF _) (lF _)];simp
 rw[e];refine⟨Z,_,Z,tx (t.take n),(n:Nat),Z,Z,Wa (by lia) (by lia),?_⟩;rw[QhO,tX,show n-min n t.length=n-t.length by lia];exact k
def ze:Sp:=λvs H Q _=>∃(t:List Nat)(p:Nat)(u:Int)(o:Nat),vs=[.str (tx t),.str (Y0 p)]/\c6 p t u o/\∀q H',Qn H H'->H q=none->H' q=some (.tup [.int u,.int (o:Nat)])->Q (.ref q) H'
def Y1(F:az K "amount_from" "amount_from" ZE f fd)(O:Own mg)(T:Txt K mg tk c kr)(hV:Def P w K mg Y 7 "kind_of" ["picture"] (Vn c))(nV:Def P w K mg Y 7 "amount_in" ["picture","content"] (z7 K c))(mT:Def P w K mg Y 8 "read_edited" ["picture","text"] (GK K c))(gj:Def P w K mg Y 1 "is_figures" ["text"] Ys)(hZ:Def P w K mg Y 2 "number_of" ["text"] wW):Zz1 P w K mg Y 9 f fd ["content","picture"] ze:=by
 refine bN F Xj (by nofun) λam A L s H vs Q E hr h=>?_
 obtain⟨t,p,u,o,rfl,ha,k⟩:=h;have fr:=Jh (P:=P) (w:=w) (K:=K) (mg:=mg) (Y:=Y) (N:=["content","picture","kind","figures"]) (qual:="amount_from") (scope:=Qe ZE) (f:=f) (cd:=am) (A:=A) (L:=L) (s:=s) (H:=H) (E:=E);have hx:=QH fr;have ht:=Jp fr;have hl:=ha.ln;refine⟨_,(Qd (Qt (i:=2) Xj.nd Z Zz0 (hV.pq hr hx (Qa (pv 1) Qb)))
  (Qd (QN (Ql Jk (pv 2) Qk (Qq _)) (Qg (Qp (nV.pq hr hx (Qa (pv 1) (Qa (pv 0) Qb))))) Qw)
  (Qd (QN (Ql Jk (pv 2) Qk (Qq _)) (Qg (Qp (mT.pq hr hx (Qa (pv 1) (Qa (pv 0) Qb))))) Qw)
  (Qd (Qt (i:=3) Xj.nd Z Zz0 (JL yaA slot_str_strip type_str_strip UG (pv 0) (Qa Qk Qb)))
  (Qd (QN (PW.pt (ZU (Wf (XX (gj.pq hr hx (Qa (pv 3) Qb)))) (JW (Ql Uv (Qx Q2 Z O.len ybb (Qa (pv 3) Qb)) (QK (v:=V.int 18) Z T.gm ⟨_,Z⟩) (Qq _))))) (Qg (JD ht Z Z T.mL T.mM (Qa Qk Qb))) Qw)
  (Qg (Qp (Qs (Qa (hZ.pq hr hx (Qa (pv 3) Qb)) (Qa Qj Qb)))))))))),?_⟩
 refine Vd (p:=p) (λR h=>⟨_,Z,h⟩) λH1 S1=>?_;dsimp only[QL,Za,Zb,Q1];exists _,Z,Z,_,Z;rw[Kv];obtain⟨x,hp,Hf,ul⟩:=Ki p;rcases ha.ex with⟨hk,ao,rfl,rfl⟩|⟨rfl,lN,rfl,Hi⟩
 .rw[tM hk];obtain⟨nr,e1,e2,e3⟩:=ul hk;refine QZ ⟨_,Z,_,Z,vn p,t,by rw[YG];rfl,XS p,by lia,.inr ⟨x,hp,nr,?_,?_⟩⟩
  .rw[e1,e2,e3];exact λz=>absurd ao z
  .rw[e1,e2,e3];exact λ_ q H2 S2 hq g=>k q H2 (S1.trans S2) (S1.free hq) g
 .rw[tL (by lia)];refine QO ⟨_,Z,Z,_,Z,?_⟩;rw[YH,tM (show aT 4=3 from Z)];refine QZ ⟨_,Z,_,Z,vn 4,t,by rw[YG];rfl,XS 4,by lia,Hi,.inr ⟨[],45,[45,44,45,45,45,44,45,45],[57],[57,57],[],BF,by lia,Z,λv hv q H2 S2 hq g=>?_,λz=>?_⟩⟩
  .obtain rfl:u=v:=tO (lN.symm.trans hv);exact k q H2 (S1.trans S2) (S1.free hq) g
  .have z2:iX [] xp [] 6 2 t=none:=z;rw[lN]at z2;cases z2
def YJ(F:az K "figures_from" "figures_from" Xk f fd):Zz1 P w K mg Y 1 f fd ["content","picture"] sP:=by
 refine okN F Yp (λvs H Q E h=>h.elim) (λam A L s H vs Q E hr h=>h.elim)
def vj(F:az K "rounded" "rounded" Yk f fd):Zz1 P w K mg Y 2 f fd ["amount","places"] sP:=by
 refine okN F wU (λvs H Q E h=>h.elim) (λam A L s H vs Q E hr h=>h.elim)
def Qcs(p:Nat):decide (V.str (kindS (aT p))=V.str "letters")=decide (aT p=1):=by
 rw[show V.str "letters"=V.str (kindS 1)from rfl,Vz _ (Hh p) 1 (by lia)]
def Hj:Sp:=λvs H Q _=>∃(t:List Nat)(p p2:Nat)(r:List Nat),vs=[.str (tx t),.str (Y0 p),.str (Y0 p2),.bl false]/\Mv p p2 t r/\∀H',Qn H H'->Q (.str (tx r)) H'
def QeP(F:az K "move" "move" x9 f fd)(T:Txt K mg tk c kr)(KM:aD P w K (kr 7) (DC (kr 8) (kr 9) (kr 10) (kr 11)))(hV:Def P w K mg Y 7 "kind_of" ["picture"] (Vn c))(rJ:Def P w K mg Y 8 "put" ["picture","amount"] (BG K))(gC:Def P w K mg Y 9 "amount_from" ["content","picture"] ze)(mC:Def P w K mg Y 1 "figures_from" ["content","picture"] sP)(gr:Def P w K mg Y 7 "size_of" ["picture"] Um)(mv:Def P w K mg Y 1 "as_text" ["text","size","right"] DF):Zz1 P w K mg Y 10 f fd ["content","picture","other","right"] Hj:=by
 refine bN F Yo (by nofun) λam A L s H vs Q E hr h=>?_
 obtain⟨t,p,p2,r,rfl,qMa,k⟩:=h;have hz:=zza
 have fr:=Jh (P:=P) (w:=w) (K:=K) (mg:=mg) (Y:=Y) (N:=["content","picture","other","right","source","target","text","moved"]) (qual:="move") (scope:=Qe x9) (f:=f) (cd:=am) (A:=A) (L:=L) (s:=s) (H:=H) (E:=E);have hx:=QH fr;have ht:=Jp fr;have kp:=Hh p;have NA:=Hh p2;refine⟨_,(Qd (Qt (i:=4) Yo.nd Z Zz0 (hV.pq hr hx (Qa (pv 1) Qb)))
  (Qd (Qt (i:=5) Yo.nd Z Zz0 (hV.pq hr hx (Qa (pv 2) Qb)))
  (Qd (QN (Ql ZY (pv 5) (Ws KM (QK (v:=V.ref (kr 7)) Z T.pP Z) (pv 4) (λ_ _=>rfl)) (by with_unfolding_all rfl)) (Qg (JD ht Z Z T.ux T.uD (Qa Qk Qb))) Qw)
  (Qd (QN (PW.pt (ZU (Ql Jk (pv 5) Qk (Qq _)) (JW (Ql Jk (pv 5) Qk (Qq _))))) (Qg (Qp (rJ.pq hr hx (Qa (pv 2) (Qa (gC.pq hr hx (Qa (pv 0) (Qa (pv 1) Qb))) Qb))))) Qw)
  (Qd (Qt (i:=6) Yo.nd Z Zz0 (Jd (Ql Jk (pv 4) Qk (Qq _)) (mC.pq hr hx (Qa (pv 0) (Qa (pv 1) Qb))) (pv 0)))
  (Qd (Qt (i:=7) Yo.nd Z Zz0 (mv.pq hr hx (Qa (pv 6) (Qa (gr.pq hr hx (Qa (pv 2) Qb)) (Qa (pv 3) Qb)))))
  (Qd (QN (PW.pt (Zx (Ql Jk (pv 5) Qk (Qq _)) (J0 (Ql Xl (JL yaA slot_str_strip type_str_strip UG (pv 7) (Qa (QK (v:=V.str "abcdefghijklmnopqrstuvwxyzABCDEFGHIJKLMNOPQRSTUVWXYZ ") Z T.gh ⟨_,Z⟩) Qb)) Qk (Qq _))))) (Qg (JD ht Z Z T.rY T.r6 (Qa Qk Qb))) Qw)
  (Qg (Qp (pv 7)))))))))),?_⟩
 refine Vd (p:=p) (λR h=>⟨_,Z,h⟩) λH1 S1=>?_;dsimp only[QL,Za,Zb,Q1];refine Vd (p:=p2) (λR h=>⟨_,Z,h⟩) λH2 S2=>?_;have cr:=S1.trans S2;obtain⟨ra,Mw,hqa⟩:=QhP T (aT p) kp;exists _,Z,_,Z,Sum.inr (kindS (aT p)),_,Z,Z,Mw,ra,_,Z,.inr (hqa _),Z,QeO _,_,Z;cases qMa with
 |@DE u o h hu h2=>
  have iQ:aT p≠1:=by
   rcases h.ex with⟨h,_⟩|⟨rfl,_⟩
   .lia
   .decide
  have ho:o<=2:=by
   rcases h.ex with⟨_,_,_,rfl⟩|⟨_,_,rfl,_⟩
   .unfold bB;split<;>lia
   .exact tN _
  rw[Nz _ kp _ NA iQ (by lia)];refine QO ⟨_,Z,Z,_,Z,?_⟩;have go:∀{σ:L2.St}{RR:VK},σ[0]? =some (some (.str (tx t)))->σ[1]? =some (some (.str (Y0 p)))->σ[2]? =some (some (.str (Y0 p2)))->(∀H',Qn H H'->RR (.str (tx (putL p2 u o))) H')->XW (BG K) [] E (Jf (Kz 2) (Jf (XW ze [] E (Jf (Kz 0) (Jf (Kz 1) WM))) WM)) σ H2 RR:=λe0 e1 e2 BH=>
   ⟨_,e2,_,e0,_,e1,t,p,u,o,Z,h,λq H3 S3 hq g=>⟨p2,q,u,o,Z,⟨aw.of g,yam hu (by lia),by lia,by lia⟩,h2,λH4 S4=>BH _ ((cr.trans S3).trans S4)⟩⟩
  rw[Kv]
  by_cases e2:aT p2=2
  .rw[tM e2];exact QZ (QZ (go Z Z Z k))
  .rw[tL e2];refine QO ⟨_,Z,Z,_,Z,?_⟩;rw[YH,tM (by lia)];exact QZ (go Z Z Z k)
 |txt h h2 hl=>
  rw[Nz _ kp _ NA (by lia) (by lia)];refine QO ⟨_,Z,Z,_,Z,?_⟩;rw[Kv,tL (by lia)];refine QO ⟨_,Z,Z,_,Z,?_⟩;rw[YH,tL (by lia)];refine QO ⟨_,Z,Z,_,Z,?_⟩;rw[Kv,tL (by lia)];obtain⟨pa,pl,px,ep,hp,es⟩:=VC p2;have sz:=VD p2;refine QO ⟨_,Z,?_⟩;dsimp only[QL,Za,Zb,Q1];refine⟨_,Z,_,Z,pa,pl,px,by rw[ep];rfl,hp,λH3 S3=>⟨_,Z,t,aR p2,by rw[es];rfl,hl,by lia,?_⟩⟩;dsimp only[QL,Za,Zb,Q1];exists _,Z,Z,_,Z;rw[Qcs,tL (by lia)];refine QO (QO ⟨_,Z,?_⟩);exact k _ (cr.trans S3)
def Kx(dq:Addr)(H H':Hp):Prop:=∀b o,H b=some o->b≠dq->(∀C dx fs,o≠ .ins C dx fs)->H' b=some o
def Kx.of{dq:Addr}(S:Qn H H'):Kx dq H H':=λb o e _ _=>S b o e
def Kx.trans{H H1 H2:Hp}(a:Kx dq H H1)(b:Kx dq H1 H2):Kx dq H H2:=λc o e n1 n2=>b c o (a c o e n1 n2) n1 n2
def Kx.wH:Kx q H (upd H q o):=λb o' e n1 _=>by
 rw[Qo n1];exact e
def Kx.NC{fs:List (Str × V)}(h:H q=some (.ins C dx fs)):Kx dq H (upd H q o):=λb o' e _ n2=>by
 rw[Qo (λz=>by rw[z,h]at e;exact n2 C dx fs (tO e).symm)];exact e
def Kx.qK{ds:List V}(a:Kx dq H H')(hd:H dq=some (.lst ds)):∀b ys,H b=some (.tup ys)->H' b=some (.tup ys):=λb ys e=>a b _ e (λz=>by rw[z,hd]at e;cases e) (λ_ _ _ z=>nomatch z)
def ND:¬ (("layout":Str)="held"):=by rfl'
def QiZ:¬ (("layout":Str)="done"):=by rfl'
def NF:¬ (("layout":Str)="undone"):=by rfl'
def NG:¬ (("held":Str)="done"):=by rfl'
def NH:¬ (("held":Str)="undone"):=by rfl'
def NI:¬ (("done":Str)="undone"):=by rfl'
structure oJ(fs:List (Str × V))(lv:V)(h:Str)(dq uq:Addr)(n:Nat):Prop where
 ly:fs.lookup ("layout":Str)=some lv
 hd:fs.lookup ("held":Str)=some (.str h)
 dn:fs.lookup ("done":Str)=some (.ref dq)
 un:fs.lookup ("undone":Str)=some (.ref uq)
 no:∀m:Str,m≠"layout"->m≠"held"->m≠"done"->m≠"undone"->fs.lookup m=none
 ln:fs.length<=n
def oJ.mk0(lv:V)(h:Str)(dq uq:Addr):oJ (Zy "undone" (.ref uq) (Zy "done" (.ref dq) (Zy "held" (.str h) (Zy "layout" lv [])))) lv h dq uq 4:=by
 refine⟨?_,?_,?_,?_,λm h1 h2 h3 h4=>?_,?_⟩
 .rw[QA,yag NF,QA,yag QiZ,QA,yag ND,QA,yai rfl]
 .rw[QA,yag NH,QA,yag NG,QA,yai rfl]
 .rw[QA,yag NI,QA,yai rfl]
 .rw[QA,yai rfl]
 .rw[QA,yag h4,QA,yag h3,QA,yag h2,QA,yag h1];rfl
 .have a:=Q6 "undone" (.ref uq) (Zy "done" (.ref dq) (Zy "held" (.str h) (Zy "layout" lv [])));have b:=Q6 "done" (.ref dq) (Zy "held" (.str h) (Zy "layout" lv []));have c:=Q6 "held" (.str h) (Zy "layout" lv []);have d:=Q6 "layout" lv [];simp only[ybc]at d;lia
def oJ.change{fs:List (Str × V)}{lv:V}(F:oJ fs lv h dq uq n):oJ (Zy "held" (.str h2) (Zy "undone" (.ref q) fs)) lv h2 dq q (n+2):=by
 refine⟨?_,?_,?_,?_,λm h1 h2 h3 h4=>?_,?_⟩
 .rw[QA,yag ND,QA,yag NF];exact F.ly
 .rw[QA,yai rfl]
 .rw[QA,yag (λz=>NG z.symm),QA,yag NI];exact F.dn
 .rw[QA,yag (λz=>NH z.symm),QA,yai rfl]
 .rw[QA,yag h2,QA,yag h4];exact F.no m h1 h2 h3 h4
 .have a:=Q6 "held" (.str h2) (Zy "undone" (.ref q) fs);have b:=Q6 "undone" (.ref q) fs;have:=F.ln;lia
structure b8(K:Frag)(C:Addr):Prop where
 cl:cu K C
 nl:KA K C "layout"
 nh:KA K C "held"
 nd:KA K C "done"
 nu:KA K C "undone"
structure aB(C:Addr)(H:Hp)(x:Addr)(lv:V)(s:List Nat)(n:Nat)(dq:Addr):Prop where
 ob:∃dx fs uq ds,H x=some (.ins C dx fs)/\oJ fs lv (tx s) dq uq n/\H dq=some (.lst ds)/\ds.length<=n
def aB.same{lv:V}{n:Nat}(R:aB C H x lv s n dq)(S:Qn H H'):aB C H' x lv s n dq:=by
 obtain⟨dx,fs,uq,ds,h,F,g,l⟩:=R.ob;exact⟨dx,fs,uq,ds,S _ _ h,F,S _ _ g,l⟩
noncomputable def lay(s:List Nat)(n:Nat)(t:List Nat):List Nat:=s.take n++t++s.drop (n+t.length)
def zf:Sp:=λvs H Q _=>∃(s t:List Nat)(n:Nat),vs=[.str (tx s),.int (n:Nat),.str (tx t)]/\n<=s.length/\s.length<=10000/\t.length<=10000/\Q (.str (tx (lay s n t))) H
def qL(F:az K "with_signs" "with_signs" Ke f fd)(O:Own mg):Zz1 P w K mg Y 1 f fd ["held","start","text"] zf:=by
 refine okN F U7 (by nofun) λam A L s H vs Q E hr h=>?_
 obtain⟨s,t,n,rfl,hn,hs,ht,k⟩:=h;have hz:100000<=sizeLine:=by rw[yaG];lia
 have ls:=Qu s;have lt:=Qu t;exists _,(Qg (Qp (QG Ji (QG Ji (QR Zc (pv 0) JK (QQ (pv 1))) (pv 2)) (QR Zc (pv 0) (QQ (QG Jj (pv 1) (Qx Q2 Z O.len ybb (Qa (pv 2) Qb)))) JK))));refine⟨_,Z,_,Z,_,Z,tx s,Z,by lia,?_⟩;rw[WR s hn];refine⟨_,Z,_,_,Z,Z,by rw[Qu,tX];lia,?_⟩;rw[Z1];refine⟨_,Z,_,Z,_,Z,tx t,Z,by lia,_,_,Z,Z,_,Z,tx s,Z,by lia,?_⟩;rw[lt,show((n:Nat):Int)+((t.length:Nat):Int)=((n+t.length:Nat):Int) by lia,Kq];refine⟨_,_,Z,Z,by rw[Qu,Qu,tJ,tX,tY];lia,?_⟩;rw[Z1];exact k
def qM(K:Frag):Sp:=λvs H Q _=>∃(p:Nat)(a:Addr)(ks:List V),vs=[.str (Y0 p),.ref a]/\aw K H a ks/\ks.all VQ=true/\fj (.str (kindS (aT p))) ks=true/\∀H',Qn H H'->Q .aq H'
def qN(F:az K "check_kind" "check_kind" Z8 f fd)(T:Txt K mg tk c kr)(hV:Def P w K mg Y 7 "kind_of" ["picture"] (Vn c)):Zz1 P w K mg Y 8 f fd ["picture","kinds"] (qM K):=by
 refine bN F U6 (by nofun) λam A L s H vs Q E hr h=>?_
 obtain⟨p,a,ks,rfl,hs,hf,e,k⟩:=h;have fr:=Jh (P:=P) (w:=w) (K:=K) (mg:=mg) (Y:=Y) (N:=["picture","kinds"]) (qual:="check_kind") (scope:=Qe Z8) (f:=f) (cd:=am) (A:=A) (L:=L) (s:=s) (H:=H) (E:=E);have ht:=Jp fr;have hx:=QH fr;refine⟨_,(Qg (QN (PW.pt (ZU (JZ (XU (pv 0))) (JW (Ql ZY (hV.pq hr hx (Qa (pv 0) Qb)) (pv 1) (by with_unfolding_all rfl))))) (Qg (JD ht Z Z T.ub T.uc (Qa Qk Qb))) Qw)),?_⟩;refine⟨_,Z,false,Z,QO ?_⟩;refine Vd (p:=p) (λR h=>⟨_,Z,h⟩) λH1 S1=>?_;exists _,Z,a,_,Z,.inr (hs.same S1),Z,hf;exists _,Z;rw[yai rfl,e];exact QO (k _ S1)
def Hk(C:Addr):Sp:=λvs H Q _=>∃(x dx:Addr)(lv:V)(its:List (Bool × Ly)),vs=[.ref x,lv]/\H x=some (.ins C dx [])/\ag H lv (.tup (bD its))/\aS its<=10000/\aE its<=10000/\bu its/\∀(dq:Addr)(H':Hp),H dq=none->aB C H' x lv (aW its) 4 dq->(∀b o,H b=some o->b≠x->H' b=some o)->Q .aq H'
def Vu(F:az K "__init__" "Area.__init__" ZQ f fd)(R:b8 K C)(gH:Def P w K mg Y 10 "signs_at_beginning" ["layout"] xt):Zz1 P w K mg Y 11 f fd ["self","layout"] (Hk C):=by
 refine okN F Vs (by nofun) λam A L s H vs Q E hr h=>?_
 obtain⟨x,dx,lv,its,rfl,hx,D,hw,hs,ao,k⟩:=h;refine⟨_,(Qd (Y8 (pv 0) (pv 1) Z)
  (Qd (Y8 (pv 0) (gH.pq hr Qr (Qy (pv 1) Qb)) Z)
  (Qd (Y8 (pv 0) (Wk Qb) Z)
  (Qg (Y8 (pv 0) (Wk Qb) Z))))),?_⟩
 refine⟨_,Z,_,Z,x,C,dx,_,Z,hx,R.cl,R.nl,by show 0<1000;lia,?_⟩;have l1:=Q6 "layout" lv [];have K1:∀b o,H b=some o->b≠x->upd H x (.ins C dx (Zy "layout" lv [])) b=some o:=λb o e n=>by rw[Qo n];exact e
 have D1:ag (upd H x (.ins C dx (Zy "layout" lv []))) lv (.tup (bD its)):=D.keep λb ys e=>by rw[Qo (λz=>by rw[z,hx]at e;cases e)];exact e
 have g1:upd H x (.ins C dx (Zy "layout" lv [])) x=some (.ins C dx (Zy "layout" lv [])):=Qf;generalize upd H x (.ins C dx (Zy "layout" lv []))=H1 at K1 D1 g1;refine⟨_,Z,lv,its,Z,D1,hw,hs,ao,λH2 S2=>?_⟩;generalize aW its=s2 at k ⊢;have l2:=Q6 "held" (.str (tx s2)) (Zy "layout" lv []);simp only[ybc]at l1;refine⟨_,Z,x,C,dx,_,Z,S2 _ _ g1,R.cl,R.nh,by lia,?_⟩;have K3:∀b o,H b=some o->b≠x->upd H2 x (.ins C dx (Zy "held" (.str (tx s2)) (Zy "layout" lv []))) b=some o:=λb o e n=>by rw[Qo n];exact S2 _ _ (K1 b o e n)
 have g3:upd H2 x (.ins C dx (Zy "held" (.str (tx s2)) (Zy "layout" lv []))) x=some (.ins C dx (Zy "held" (.str (tx s2)) (Zy "layout" lv []))):=Qf;generalize upd H2 x (.ins C dx (Zy "held" (.str (tx s2)) (Zy "layout" lv [])))=H3 at K3 g3;refine⟨by show 0<=sizeLine;exact lF _,λdq fX=>?_⟩;have fJ:H dq=none:=by
  cases e:H dq with
  |none=>rfl
  |some o=>
   by_cases z:dq=x
   .rw[z,g3]at fX;cases fX
   .rw[K3 _ _ e z]at fX;cases fX
 have nx:x≠dq:=λz=>by rw[<-z,g3]at fX;cases fX
 have l3:=Q6 "done" (.ref dq) (Zy "held" (.str (tx s2)) (Zy "layout" lv []));refine⟨_,Z,x,C,dx,_,Z,by rw[Qo nx];exact g3,R.cl,R.nd,by lia,?_⟩;refine⟨by show 0<=sizeLine;exact lF _,λuq sX=>?_⟩;have NJ:x≠uq:=λz=>by rw[<-z,Qf]at sX;cases sX
 have NK:dq≠uq:=λz=>by rw[<-z,Qo nx.symm,Qf]at sX;cases sX
 have hu3:H3 uq=none:=by rw[Qo NJ.symm,Qo NK.symm]at sX;exact sX
 refine⟨_,Z,x,C,dx,_,Z,by rw[Qo NJ,Qf],R.cl,R.nu,by lia,?_⟩;refine k dq _ fJ ⟨dx,_,uq,[],Qf,oJ.mk0 lv (tx s2) dq uq,?_,lF _⟩ λb o e n=>?_
 .rw[Qo nx.symm,Qo NK,Qo nx.symm,Qf]
 .have e3:=K3 b o e n;rw[Qo n,Qo (QB e3 hu3),Qo n,Qo (QB e3 fX)];exact e3
def Kw(C:Addr):Sp:=λvs H Q _=>∃(x:Addr)(wd:Str)(s2:List Nat)(lv:V)(s:List Nat)(n:Nat)(dq:Addr),vs=[.ref x,.str wd,.str (tx s2)]/\aB C H x lv s n dq/\n<=900/\∀H',Kx dq H H'->aB C H' x lv s2 (n+2) dq->Q .aq H'
def Y2(F:az K "change" "Area.change" XO f fd)(R:b8 K C):Zz1 P w K mg Y 1 f fd ["self","word","held"] (Kw C):=by
 refine okN F YU (by nofun) λam A L s H vs Q E hr h=>?_
 obtain⟨x,wd,s2,lv,s1,n,dq,rfl,AA,hn,k⟩:=h;have hz:100000<=sizeLine:=by rw[yaG];lia
 obtain⟨dx,fs,uq,ds,hx,F1,g,l⟩:=AA.ob;have lf:=F1.ln;refine⟨_,(Qd (Q7 (JL yaC yaD yaE JO (J1 (pv 0) Z) (Qy (Qs (Qy (pv 1) (Qy (J1 (pv 0) Z) Qb))) Qb)))
  (Qd (Y8 (pv 0) (Wk Qb) Z)
  (Qg (Y8 (pv 0) (pv 2) Z)))),?_⟩
 exists _,Z,x,C,dx,fs,_,Z,hx,R.cl,R.nd,F1.dn,.inl ⟨Z,_,.inl (.inl g)⟩;refine⟨_,Z,_,Z,x,C,dx,fs,_,Z,hx,R.cl,R.nh,F1.hd,bj,λp hp=>?_⟩;have S1:=Qn.new (o:=.tup [.str wd,.str (tx s1)]) hp;refine⟨dq,ds,.ref p,Z,Z,S1 _ _ g,by lia,?_⟩;have Hl:x≠dq:=λz=>by rw[z,g]at hx;cases hx
 have k2:Kx dq H (upd (upd H p (.tup [.str wd,.str (tx s1)])) dq (.lst (ds++[.ref p]))):=(Kx.of S1).trans Kx.wH;have g2:upd (upd H p (.tup [.str wd,.str (tx s1)])) dq (.lst (ds++[.ref p])) dq=some (.lst (ds++[.ref p])):=Qf;have ul:upd (upd H p (.tup [.str wd,.str (tx s1)])) dq (.lst (ds++[.ref p])) x=some (.ins C dx fs):=by rw[Qo Hl];exact S1 _ _ hx
 generalize upd (upd H p (.tup [.str wd,.str (tx s1)])) dq (.lst (ds++[.ref p]))=H2 at k2 g2 ul;refine⟨by show 0<=sizeLine;exact lF _,λq hq=>?_⟩;have S3:=Qn.new (o:=.lst []) hq;refine⟨_,Z,x,C,dx,fs,Z,S3 _ _ ul,R.cl,R.nu,by lia,?_⟩;have l2:=Q6 "undone" (.ref q) fs;have iU:upd (upd H2 q (.lst [])) x (.ins C dx (Zy "undone" (.ref q) fs)) x=some (.ins C dx (Zy "undone" (.ref q) fs)):=Qf;have g3:upd (upd H2 q (.lst [])) x (.ins C dx (Zy "undone" (.ref q) fs)) dq=some (.lst (ds++[.ref p])):=by rw[Qo Hl.symm];exact S3 _ _ g2
 have k3:=(k2.trans (Kx.of S3)).trans (Kx.NC (o:=.ins C dx (Zy "undone" (.ref q) fs)) (S3 _ _ ul));generalize upd (upd H2 q (.lst [])) x (.ins C dx (Zy "undone" (.ref q) fs))=H3 at iU g3 k3;refine⟨_,Z,_,Z,x,C,dx,_,Z,iU,R.cl,R.nh,by lia,?_⟩;exact k _ (k3.trans (Kx.NC iU)) ⟨dx,_,q,_,Qf,F1.change,by rw[Qo Hl.symm];exact g3,by rw[tJ,tP];lia⟩
def YK(D:ag H u (Nf n y)):∃q z,u=.ref q/\H q=some (.tup [.int (n:Nat),.int (Jn y:Nat),z])/\ag H z (qG y):=by
 obtain⟨a,xs,rfl,g,t⟩:=ag.Ud (show ag H u (.tup [.int (n:Nat),.int (Jn y:Nat),qG y])from D);cases t with
 |cons p1 t=>cases t with
  |cons p2 t=>cases t with
   |cons p3 t=>
    cases t;obtain rfl:=p1.l9;obtain rfl:=p2.l9;exact⟨a,_,Z,g,p3⟩
structure Led(H:Hp)(lv wv:V)(s:List Nat)(its:List (Bool × Ly))(ss:List Step)(n:Nat)(y:Ly):Prop where
 dl:ag H lv (.tup (bD its))
 dp:ag H wv (Jz ss)
 bd:bh its
 rs:Res its ss n y
 ls:ss.length<=1000
 len:s.length<=10000
 rm:n+Jn y<=s.length
theorem Led.same{lv wv:V}{ss:List Step}{n:Nat}(A:Led H lv wv s its ss n y)(S:Qn H H'):Led H' lv wv s its ss n y:=⟨A.dl.same S,A.dp.same S,A.bd,A.rs,A.ls,A.len,A.rm⟩
noncomputable def part(s:List Nat)(n k:Nat):List Nat:=(s.drop n).take k
def Xq{lv wv:V}{ss:List Step}(A:Led H lv wv s its ss n y)(he:∀R:VK,R lv H->te σ H R)(hf:∀R:VK,R wv H->tf σ H R)(kk:∀q z H',Qn H H'->H' q=some (.tup [.int (n:Nat),.int (Jn y:Nat),z])->ag H' z (qG y)->Q (.ref q) H'):XW Zi [] E (Jf te (Jf tf WM)) σ H Q:=by
 refine he _ (hf _ ?_);refine⟨lv,wv,its,ss,n,_,Z,A.dl,A.dp,A.bd,A.rs,A.ls,λu H' S D=>?_⟩;obtain⟨q,z,rfl,g,Dz⟩:=YK D;exact kk q z H' S g Dz
def qO{lv wv:V}{ss:List Step}{nm:Str}(A:Led H lv wv s its ss n (.box nm p))(he:∀R:VK,R lv H->te σ H R)(hf:∀R:VK,R wv H->tf σ H R)(kk:∀q H',Qn H H'->H' q=some (.tup [.int (n:Nat),.int (aR p:Nat),.str (Y0 p)])->Q (.ref q) H'):XW Zi [] E (Jf te (Jf tf WM)) σ H Q:=
 Xq A he hf λq z H' S g Dz=>by
  obtain rfl:=ag.xZ (show ag H' z (.str (Y0 p))from Dz);exact kk q H' S g
def DG(C:Addr):Sp:=λvs H Q _=>∃(x:Addr)(lv wv:V)(s:List Nat)(k:Nat)(dq:Addr)(its:List (Bool × Ly))(ss:List Step)(n:Nat)(y:Ly),vs=[.ref x,wv]/\aB C H x lv s k dq/\Led H lv wv s its ss n y/\∀H',Qn H H'->Q (.str (tx (part s n (Jn y)))) H'
def xu(F:az K "get" "Area.get" W8 f fd)(R:b8 K C)(gc:Def P w K mg Y 12 "where" ["layout","path"] Zi):Zz1 P w K mg Y 13 f fd ["self","path"] (DG C):=by
 refine okN F XL (by nofun) λam A L s H vs Q E hr h=>?_
 obtain⟨x,lv,wv,s1,k,dq,its,ss,n,y,rfl,AA,A1,kk⟩:=h;have hz:100000<=sizeLine:=by rw[yaG];lia
 obtain⟨dx,fs,uq,ds,hx,F1,g,l⟩:=AA.ob;have hl:=A1.len;have fG:=A1.rm;refine⟨_,(Qd (QW (gc.pq hr Qr (Qy (J1 (pv 0) Z) (Qy (pv 1) Qb))) (QM Z (Qh (Qi (i:=2) XL.nd Z Zz0) (Qh (Qi (i:=3) XL.nd Z Zz0) (Qh (Qi (i:=4) XL.nd Z Zz0) Qz)))))
  (Qg (Qp (QR Zc (J1 (pv 0) Z) (QQ (pv 2)) (QQ (QG Jj (pv 2) (pv 3))))))),?_⟩
 refine Xq A1 (λR' h=>⟨_,Z,x,C,dx,fs,_,Z,hx,R.cl,R.nl,F1.ly,h⟩) (λR' h=>⟨_,Z,h⟩) λq z H1 S1 gq _=>?_;exists q,_,Z,.inl (.inl gq),Z,_,_,Z,_,_,Z,_,_,Z,Z;dsimp only[QL,Za,Zb,Q1];refine⟨_,Z,x,C,dx,fs,_,Z,S1 _ _ hx,R.cl,R.nh,F1.hd,_,Z,_,Z,_,Z,_,Z,_,_,Z,Z,_,Z,tx s1,Z,by rw[Qu];lia,?_⟩;rw[show((n:Nat):Int)+((Jn y:Nat):Int)=((n+Jn y:Nat):Int) by lia,J2 s1 (by lia) (by lia),show n+Jn y-n=Jn y by lia];exact kk _ S1
def kH(C:Addr):Sp:=λvs H Q _=>∃(x:Addr)(lv wv:V)(s:List Nat)(k:Nat)(dq:Addr)(its:List (Bool × Ly))(ss:List Step)(n:Nat)(nm:Str)(p:Nat)(u:Int)(o:Nat),vs=[.ref x,wv]/\aB C H x lv s k dq/\Led H lv wv s its ss n (.box nm p)/\c6 p (part s n (aR p)) u o/\
 ∀q H',Qn H H'->H q=none->H' q=some (.tup [.int u,.int (o:Nat)])->Q (.ref q) H'
def QeQ:∀k,k=2\/k=3->fj (.str (kindS k)) [.str "number",.str "edited"]=true:=by
 rintro k (rfl|rfl)<;>rfl'
def Y3(F:az K "amount" "Area.amount" ZF f fd)(R:b8 K C)(T:Txt K mg tk c kr)(gc:Def P w K mg Y 12 "where" ["layout","path"] Zi)(gM:Def P w K mg Y 8 "check_kind" ["picture","kinds"] (qM K))(gC:Def P w K mg Y 9 "amount_from" ["content","picture"] ze):Zz1 P w K mg Y 13 f fd ["self","path"] (kH C):=by
 refine bN F Zj (by nofun) λam A L s H vs Q E hr h=>?_
 obtain⟨x,lv,wv,s1,k,dq,its,ss,n,nm,p,u,o,rfl,AA,A1,ha,kk⟩:=h;have fr:=Jh (P:=P) (w:=w) (K:=K) (mg:=mg) (Y:=Y) (N:=["self","path","start","size","picture"]) (qual:="Area.amount") (scope:=Qe ZF) (f:=f) (cd:=am) (A:=A) (L:=L) (s:=s) (H:=H) (E:=E);have hx:=QH fr;have hz:100000<=sizeLine:=by rw[yaG];lia
 obtain⟨dx,fs,uq,ds,u8,F1,g,l⟩:=AA.ob;have hl:=A1.len;have fG:n+aR p<=s1.length:=A1.rm;have DH:aT p=2\/aT p=3:=by
  rcases ha.ex with⟨h,_⟩|⟨rfl,_⟩
  .exact .inl h
  .exact .inr rfl
 refine⟨_,(Qd (QW (gc.pq hr hx (Qy (J1 (pv 0) Z) (Qy (pv 1) Qb))) (QM Z (Qh (Qi (i:=2) Zj.nd Z Zz0) (Qh (Qi (i:=3) Zj.nd Z Zz0) (Qh (Qi (i:=4) Zj.nd Z Zz0) Qz)))))
  (Qd (Q7 (gM.pq hr hx (Qy (pv 4) (Qy (QK (v:=V.ref (kr 6)) Z T.gE Z) Qb))))
  (Qg (Qp (gC.pq hr hx (Qy (QR Zc (J1 (pv 0) Z) (QQ (pv 2)) (QQ (QG Jj (pv 2) (pv 3)))) (Qy (pv 4) Qb))))))),?_⟩
 refine qO A1 (λR' h=>⟨_,Z,x,C,dx,fs,_,Z,u8,R.cl,R.nl,F1.ly,h⟩) (λR' h=>⟨_,Z,h⟩) λq H1 S1 gq=>?_;exists q,_,Z,.inl (.inl gq),Z,_,_,Z,_,_,Z,_,_,Z,Z;dsimp only[QL,Za,Zb,Q1];refine⟨_,Z,p,kr 6,_,Z,T.u0 H1,Z,QeQ _ DH,λH2 S2=>?_⟩;have cr:=S1.trans S2;refine⟨_,Z,x,C,dx,fs,_,Z,cr _ _ u8,R.cl,R.nh,F1.hd,_,Z,_,Z,_,Z,_,Z,_,_,Z,Z,_,Z,tx s1,Z,by rw[Qu];lia,?_⟩;rw[show((n:Nat):Int)+((aR p:Nat):Int)=((n+aR p:Nat):Int) by lia,J2 s1 (by lia) (by lia),show n+aR p-n=aR p by lia];refine⟨_,Z,part s1 n (aR p),p,u,o,Z,ha,λq3 H3 S3 hq g3=>kk q3 H3 (cr.trans S3) (cr.free hq) g3⟩
def zo:("change":Str)≠"layout"/\("change":Str)≠"held"/\("change":Str)≠"done"/\("change":Str)≠"undone":=by rfl'
def kJ(C:Addr):Sp:=λvs H Q _=>∃(x:Addr)(lv wv:V)(s:List Nat)(k:Nat)(dq:Addr)(its:List (Bool × Ly))(ss:List Step)(n:Nat)(nm:Str)(p:Nat)(t:List Nat),vs=[.ref x,wv,.str (tx t)]/\aB C H x lv s k dq/\Led H lv wv s its ss n (.box nm p)/\k<=900/\t.length=aR p/\
 ∀H',Kx dq H H'->aB C H' x lv (lay s n t) (k+2) dq->Q .aq H'
def zg(F:az K "load" "Area.load" XM f fd)(R:b8 K C)(O:Own mg)(T:Txt K mg tk c kr)(gc:Def P w K mg Y 12 "where" ["layout","path"] Zi)(gf:Def P w K mg Y 1 "with_signs" ["held","start","text"] zf)(hJ:aX P w K mg Y C 1 "change" ["self","word","held"] (Kw C)):Zz1 P w K mg Y 13 f fd ["self","path","text"] (kJ C):=by
 refine bN F Z6 (by nofun) λam A L s H vs Q E hr h=>?_
 obtain⟨x,lv,wv,s1,k,dq,its,ss,n,nm,p,t,rfl,AA,A1,oK,ap,kk⟩:=h;have fr:=Jh (P:=P) (w:=w) (K:=K) (mg:=mg) (Y:=Y) (N:=["self","path","text","start","size","picture"]) (qual:="Area.load") (scope:=Qe XM) (f:=f) (cd:=am) (A:=A) (L:=L) (s:=s) (H:=H) (E:=E);have hx:=QH fr;have ht:=Jp fr;have hz:100000<=sizeLine:=by rw[yaG];lia
 obtain⟨dx,fs,uq,ds,u8,F1,g,l⟩:=AA.ob;have hl:=A1.len;have fG:n+aR p<=s1.length:=A1.rm;have hsz:=VD p;refine⟨_,(Qd (QW (gc.pq hr hx (Qy (J1 (pv 0) Z) (Qy (pv 1) Qb))) (QM Z (Qh (Qi (i:=3) Z6.nd Z Zz0) (Qh (Qi (i:=4) Z6.nd Z Zz0) (Qh (Qi (i:=5) Z6.nd Z Zz0) Qz)))))
  (Qd (QN (Ql Xl (Qx Q2 Z O.len ybb (Qy (pv 2) Qb)) (pv 4) (Qq _)) (Qg (JD ht Z Z T.ur T.uv (Qy Qk Qb))) Qw)
  (Qg (Q7 (hJ.pe hr (by lia) hx (pv 0) (Qy Qk (Qy (gf.pq hr hx (Qy (J1 (pv 0) Z) (Qy (pv 3) (Qy (pv 2) Qb)))) Qb))))))),?_⟩
 refine qO A1 (λR' h=>⟨_,Z,x,C,dx,fs,_,Z,u8,R.cl,R.nl,F1.ly,h⟩) (λR' h=>⟨_,Z,h⟩) λq H1 S1 gq=>?_;exists q,_,Z,.inl (.inl gq),Z,_,_,Z,_,_,Z,_,_,Z,Z;dsimp only[QL,Za,Zb,Q1];exists _,Z,tx t,Z,by rw[Qu];lia,_,Z,Z,_,Z;rw[Qu,ap,tM rfl];refine QO ?_;exists _,Z,x,dx,fs,Z,S1 _ _ u8,F1.no _ zo.1 zo.2.1 zo.2.2.1 zo.2.2.2;refine⟨_,Z,x,C,dx,fs,_,Z,S1 _ _ u8,R.cl,R.nh,F1.hd,_,Z,_,Z,s1,t,n,Z,by lia,by lia,by lia,?_⟩;exact⟨x,"load",_,lv,s1,k,dq,Z,AA.same S1,oK,λH2 K2 A2=>kk H2 ((Kx.of S1).trans K2) A2⟩
def VE(K:Frag)(C:Addr):Sp:=λvs H Q _=>∃(x:Addr)(lv wv:V)(s:List Nat)(k:Nat)(dq:Addr)(its:List (Bool × Ly))(ss:List Step)(n:Nat)(nm:Str)(p:Nat)(a:Addr)(u o:Int),vs=[.ref x,wv,.ref a,.bl false]/\aB C H x lv s k dq/\Led H lv wv s its ss n (.box nm p)/\k<=900/\cb K H a u o/\aT p=2/\
 (10^(cG p+bB p)<=(ax.Xt u o (bB p)).natAbs->∀H',Qn H H'->Q (.bl false) H')/\((ax.Xt u o (bB p)).natAbs<10^(cG p+bB p)->∀H',Kx dq H H'->aB C H' x lv (lay s n (cont (eY p) (cG p) (bB p) (ax.Xt u o (bB p)) (bB p))) (k+2) dq->Q (.bl true) H')
def Qgw:fj (.str (kindS 2)) [.str "number"]=true:=by rfl'
def qP(F:az K "store" "Area.store" Z7 f fd)(R:b8 K C)(T:Txt K mg tk c kr)(gc:Def P w K mg Y 12 "where" ["layout","path"] Zi)(gM:Def P w K mg Y 8 "check_kind" ["picture","kinds"] (qM K))(pS:bP P w K mg Y 8 "stored" ["picture","amount","nearest"] ["nearest"] (WF K c))(gf:Def P w K mg Y 1 "with_signs" ["held","start","text"] zf)(hJ:aX P w K mg Y C 1 "change" ["self","word","held"] (Kw C)):Zz1 P w K mg Y 13 f fd ["self","path","amount","nearest"] (VE K C):=by
 refine bN F J9 (by nofun) λam A L s H vs Q E hr h=>?_
 obtain⟨x,lv,wv,s1,k,dq,its,ss,n,nm,p,a,u,o,rfl,AA,A1,oK,qMa,DH,kN,kS⟩:=h;have fr:=Jh (P:=P) (w:=w) (K:=K) (mg:=mg) (Y:=Y) (N:=["self","path","amount","nearest","start","size","picture","content"]) (qual:="Area.store") (scope:=Qe Z7) (f:=f) (cd:=am) (A:=A) (L:=L) (s:=s) (H:=H) (E:=E);have hx:=QH fr;have hz:100000<=sizeLine:=by rw[yaG];lia
 obtain⟨dx,fs,uq,ds,u8,F1,g,l⟩:=AA.ob;have hl:=A1.len;have fG:n+aR p<=s1.length:=A1.rm;have hsz:=VD p;obtain⟨px,hp,Hf,ul⟩:=Ki p;obtain⟨nr,e1,e2,e3⟩:=ul DH;refine⟨_,(Qd (QW (gc.pq hr hx (Qy (J1 (pv 0) Z) (Qy (pv 1) Qb))) (QM Z (Qh (Qi (i:=4) J9.nd Z Zz0) (Qh (Qi (i:=5) J9.nd Z Zz0) (Qh (Qi (i:=6) J9.nd Z Zz0) Qz)))))
  (Qd (Q7 (gM.pq hr hx (Qy (pv 6) (Qy (Qs (Qy Qk Qb)) Qb))))
  (Qd (Qt (i:=7) J9.nd Z Zz0 (pS.pe hr (by lia) Z hx (Qy (pv 6) (Qy (pv 2) Qb)) (vH (pv 3) IK)))
  (Qd (QN (JZ (XU (pv 7))) (Qg (Qp Xu)) Qw)
  (Qd (Q7 (hJ.pe hr (by lia) hx (pv 0) (Qy Qk (Qy (gf.pq hr hx (Qy (J1 (pv 0) Z) (Qy (pv 4) (Qy (pv 7) Qb)))) Qb))))
  (Qg (Qp Xu))))))),?_⟩
 refine qO A1 (λR' h=>⟨_,Z,x,C,dx,fs,_,Z,u8,R.cl,R.nl,F1.ly,h⟩) (λR' h=>⟨_,Z,h⟩) λq H1 S1 gq=>?_;exists q,_,Z,.inl (.inl gq),Z,_,_,Z,_,_,Z,_,_,Z,Z;dsimp only[QL,Za,Zb,Q1];refine⟨_,Z,eN,λq1 sj=>?_⟩;have S2:=Qn.new (o:=.tup [.str "number"]) sj;refine⟨p,q1,_,Z,aw.of Qf,Z,by rw[DH];exact Qgw,λH2 S3=>?_⟩;have lw:=(S1.trans S2).trans S3;refine⟨_,Z,_,Z,_,Z,vn p,a,u,o,by rw[YG];rfl,XS p,qMa.same lw,.inr ⟨px,hp,nr,λH4 S4=>?_⟩⟩;have sw:=lw.trans S4;rw[e1,e2,e3];refine⟨λz=>?_,λz=>?_⟩
 .exact⟨_,Z,true,Z,QZ (kN z _ sw)⟩
 .have lc:(cont (eY p) (cG p) (bB p) (ax.Xt u o (bB p)) (bB p)).length=aR p:=by
   rcases ZT p with⟨h1,h2,h3,h4⟩|⟨h1,_⟩|h1|h1
   .rw[h3];exact(Z9 (eY p) _ _ h4).2.2.1
   all_goals lia
  have kS:=kS z;generalize cont (eY p) (cG p) (bB p) (ax.Xt u o (bB p)) (bB p)=t at lc kS ⊢;refine⟨_,Z,false,Z,QO ?_⟩;exists _,Z,x,dx,fs,Z,sw _ _ u8,F1.no _ zo.1 zo.2.1 zo.2.2.1 zo.2.2.2;refine⟨_,Z,x,C,dx,fs,_,Z,sw _ _ u8,R.cl,R.nh,F1.hd,_,Z,_,Z,s1,t,n,Z,by lia,by lia,by lia,?_⟩;exact⟨x,"store",_,lv,s1,k,dq,Z,AA.same sw,oK,λH2 K2 A2=>kS H2 ((Kx.of sw).trans K2) A2⟩
def oM:Sp:=λvs H Q _=>∃(s:List Nat)(q1 q2:Addr)(n1 k1 n2 k2:Nat)(z1 z2:V)(r:List Nat),vs=[.str (tx s),.ref q1,.ref q2,.bl false]/\H q1=some (.tup [.int (n1:Nat),.int (k1:Nat),z1])/\H q2=some (.tup [.int (n2:Nat),.int (k2:Nat),z2])/\n1+k1<=s.length/\n2<=s.length/\s.length<=10000/\r.length<=200/\
 ((z1=.aq/\z2=.aq/\k1<=200/\k2<=200/\r=oH (part s n1 k1) k2)\/∃p1 p2,z1=.str (Y0 p1)/\z2=.str (Y0 p2)/\Mv p1 p2 (part s n1 k1) r)/\∀H',Qn H H'->Q (.str (tx (lay s n2 r))) H'
def zh(F:az K "with_move" "with_move" XQ f fd)(mv:Def P w K mg Y 1 "as_text" ["text","size","right"] DF)(gf:Def P w K mg Y 1 "with_signs" ["held","start","text"] zf)(rL:bO P w K mg Y 10 "move" ["content","picture","other","right"] ["right"] Hj):Zz1 P w K mg Y 11 f fd ["held","source","target","right"] oM:=by
 refine bN F Js (by nofun) λam A L s H vs Q E hr h=>?_
 obtain⟨s1,q1,q2,n1,k1,n2,k2,z1,z2,r,rfl,g1,g2,h1,h2,h3,h4,hc,kk⟩:=h;have fr:=Jh (P:=P) (w:=w) (K:=K) (mg:=mg) (Y:=Y) (N:=["held","source","target","right","start","size","picture","other_start","other_size","other_picture","content"]) (qual:="with_move") (scope:=Qe XQ) (f:=f) (cd:=am) (A:=A) (L:=L) (s:=s) (H:=H) (E:=E);have hx:=QH fr;have hz:100000<=sizeLine:=by rw[yaG];lia
 refine⟨_,(Qd (QW (pv 1) (QM Z (Qh (Qi (i:=4) Js.nd Z Zz0) (Qh (Qi (i:=5) Js.nd Z Zz0) (Qh (Qi (i:=6) Js.nd Z Zz0) Qz)))))
  (Qd (QW (pv 2) (QM Z (Qh (Qi (i:=7) Js.nd Z Zz0) (Qh (Qi (i:=8) Js.nd Z Zz0) (Qh (Qi (i:=9) Js.nd Z Zz0) Qz)))))
  (Qd (Qt (i:=10) Js.nd Z Zz0 (QR Zc (pv 0) (QQ (pv 4)) (QQ (QG Jj (pv 4) (pv 5)))))
  (Qd (QN (PW.pt (ZU (JZ (XU (pv 6))) (JW (JZ (XU (pv 9)))))) (Qg (Qp (gf.pq hr hx (Qa (pv 0) (Qa (pv 7) (Qa (mv.pq hr hx (Qa (pv 10) (Qa (pv 8) (Qa (pv 3) Qb)))) Qb)))))) Qw)
  (Qg (Qp (gf.pq hr hx (Qa (pv 0) (Qa (pv 7) (Qa (rL.pe hr (by lia) Z hx (Qa (pv 10) (Qa (pv 6) (Qa (pv 9) Qb))) (vH (pv 3) IK)) Qb)))))))))),?_⟩
 exists _,Z,q1,_,Z,.inl (.inl g1),Z,_,_,Z,_,_,Z,_,_,Z,Z;dsimp only[QL,Za,Zb,Q1];exists _,Z,q2,_,Z,.inl (.inl g2),Z,_,_,Z,_,_,Z,_,_,Z,Z;dsimp only[QL,Za,Zb,Q1];refine⟨_,Z,_,Z,_,Z,_,Z,_,Z,_,_,Z,Z,_,Z,tx s1,Z,by rw[Qu];lia,?_⟩;rw[show((n1:Nat):Int)+((k1:Nat):Int)=((n1+k1:Nat):Int) by lia,J2 s1 (by lia) (by lia),show n1+k1-n1=k1 by lia];have lp:(part s1 n1 k1).length<=k1:=by unfold part;rw[tX];lia
 rcases hc with⟨rfl,rfl,c1,c2,rfl⟩|⟨p1,p2,rfl,rfl,qMa⟩
 .refine⟨_,Z,true,Z,QZ (QZ ?_)⟩;refine⟨_,Z,_,Z,_,Z,_,Z,_,Z,part s1 n1 k1,k2,Z,by lia,by lia,?_⟩;exact⟨s1,_,n2,Z,by lia,by lia,by lia,kk _ (Qn.refl _)⟩
 .refine⟨_,Z,false,Z,QO ⟨_,Z,false,Z,QO ?_⟩⟩;refine⟨_,Z,_,Z,_,Z,_,Z,_,Z,_,Z,part s1 n1 k1,p1,p2,r,Z,qMa,λH1 S1=>?_⟩;exact⟨s1,r,n2,Z,by lia,by lia,by lia,kk _ S1⟩
def fY(y1 y2:Ly)(s:List Nat)(n1:Nat)(r:List Nat):Prop:=r.length<=200/\((∃a b i j,y1=.aL a i/\y2=.aL b j/\aE i<=200/\aE j<=200/\r=oH (part s n1 (aE i)) (aE j))\/∃a b p1 p2,y1=.box a p1/\y2=.box b p2/\Mv p1 p2 (part s n1 (aR p1)) r)
def NL(qMa:fY y1 y2 s n1 r)(g1:H q1=some (.tup [.int (n1:Nat),.int (Jn y1:Nat),z1]))(d1:ag H z1 (qG y1))(g2:H q2=some (.tup [.int (n2:Nat),.int (Jn y2:Nat),z2]))(d2:ag H z2 (qG y2))(h1:n1+Jn y1<=s.length)(h2:n2<=s.length)(h3:s.length<=10000)(k:∀H',Qn H H'->Q (.str (tx (lay s n2 r))) H'):oM [.str (tx s),.ref q1,.ref q2,.bl false] H Q E:=by
 obtain⟨hr,⟨a,b,i,j,rfl,rfl,c1,c2,rfl⟩|⟨a,b,p1,p2,rfl,rfl,qMa⟩⟩:=qMa
 .have d1:ag H z1 .aq:=d1;have d2:ag H z2 .aq:=d2;cases d1;cases d2;exact⟨s,q1,q2,n1,_,n2,_,_,_,_,Z,g1,g2,h1,h2,h3,hr,.inl ⟨Z,Z,c1,c2,Z⟩,k⟩
 .obtain rfl:=ag.xZ (show ag H z1 (.str (Y0 p1))from d1);obtain rfl:=ag.xZ (show ag H z2 (.str (Y0 p2))from d2);exact⟨s,q1,q2,n1,_,n2,_,_,_,_,Z,g1,g2,h1,h2,h3,hr,.inr ⟨p1,p2,Z,Z,qMa⟩,k⟩
def QhQ(ha:∀R:VK,R (.str (tx s)) H->ta σ H R)(hb:∀R:VK,R (.ref q1) H->tb σ H R)(hc:∀R:VK,R (.ref q2) H->tc σ H R)(hd:∀R:VK,R (.bl false) H->td σ H R)(qMa:fY y1 y2 s n1 r)(g1:H q1=some (.tup [.int (n1:Nat),.int (Jn y1:Nat),z1]))(d1:ag H z1 (qG y1))(g2:H q2=some (.tup [.int (n2:Nat),.int (Jn y2:Nat),z2]))(d2:ag H z2 (qG y2))(h1:n1+Jn y1<=s.length)(h2:n2<=s.length)(h3:s.length<=10000)(k:∀H',Qn H H'->Q (.str (tx (lay s n2 r))) H'):XW oM [] E (Jf ta (Jf tb (Jf tc (Jf td WM)))) σ H Q:=
 ha _ (hb _ (hc _ (hd _ (NL (E:=E) qMa g1 d1 g2 d2 h1 h2 h3 k))))
def qQ(C:Addr):Sp:=λvs H Q _=>∃(x:Addr)(lv wv AT:V)(s:List Nat)(k:Nat)(dq:Addr)(its:List (Bool × Ly))(ss im:List Step)(n n2:Nat)(y y2:Ly)(r:List Nat),vs=[.ref x,wv,AT,.bl false]/\aB C H x lv s k dq/\Led H lv wv s its ss n y/\Led H lv AT s its im n2 y2/\k<=900/\fY y y2 s n r/\
 ∀H',Kx dq H H'->aB C H' x lv (lay s n2 r) (k+2) dq->Q .aq H'
def zi(F:az K "move" "Area.move" XN f fd)(R:b8 K C)(gc:Def P w K mg Y 12 "where" ["layout","path"] Zi)(gQ:Def P w K mg Y 11 "with_move" ["held","source","target","right"] oM)(hJ:aX P w K mg Y C 1 "change" ["self","word","held"] (Kw C)):Zz1 P w K mg Y 13 f fd ["self","path","other","right"] (qQ C):=by
 refine bN F Kd (by nofun) λam A L s H vs Q E hr h=>?_
 obtain⟨x,lv,wv,AT,s1,k,dq,its,ss,im,n,n2,y,y2,r,rfl,AA,A1,A2,oK,qMa,kk⟩:=h;have fr:=Jh (P:=P) (w:=w) (K:=K) (mg:=mg) (Y:=Y) (N:=["self","path","other","right","source","target"]) (qual:="Area.move") (scope:=Qe XN) (f:=f) (cd:=am) (A:=A) (L:=L) (s:=s) (H:=H) (E:=E);have hx:=QH fr;obtain⟨dx,fs,uq,ds,u8,F1,g,l⟩:=AA.ob;have hl:=A1.len;have fG:=A1.rm;have hrm2:=A2.rm;refine⟨_,(Qd (Qt (i:=4) Kd.nd Z Zz0 (gc.pq hr hx (Qy (J1 (pv 0) Z) (Qy (pv 1) Qb))))
  (Qd (Qt (i:=5) Kd.nd Z Zz0 (gc.pq hr hx (Qy (J1 (pv 0) Z) (Qy (pv 2) Qb))))
  (Qg (Q7 (hJ.pe hr (by lia) hx (pv 0) (Qy Qk (Qy (gQ.pq hr hx (Qy (J1 (pv 0) Z) (Qy (pv 4) (Qy (pv 5) (Qy (pv 3) Qb))))) Qb))))))),?_⟩
 refine Xq A1 (λR' h=>⟨_,Z,x,C,dx,fs,_,Z,u8,R.cl,R.nl,F1.ly,h⟩) (λR' h=>⟨_,Z,h⟩) λq z H1 S1 gq dz=>?_;dsimp only[QL,Za,Zb,Q1];refine Xq (A2.same S1) (λR' h=>⟨_,Z,x,C,dx,fs,_,Z,S1 _ _ u8,R.cl,R.nl,F1.ly,h⟩) (λR' h=>⟨_,Z,h⟩) λq2 z2 H2 S2 Hm BI=>?_;have cr:=S1.trans S2;exists _,Z,x,dx,fs,Z,cr _ _ u8,F1.no _ zo.1 zo.2.1 zo.2.2.1 zo.2.2.2;refine QhQ (λR' h=>⟨_,Z,x,C,dx,fs,_,Z,cr _ _ u8,R.cl,R.nh,F1.hd,h⟩) (λR' h=>⟨_,Z,h⟩) (λR' h=>⟨_,Z,h⟩) (λR' h=>⟨_,Z,h⟩) qMa (S2 _ _ gq) (dz.same S2) Hm BI fG (by lia) hl λH3 S3=>?_;exact⟨x,"move",_,lv,s1,k,dq,Z,AA.same (cr.trans S3),oK,λH4 K4 A4=>kk H4 ((Kx.of (cr.trans S3)).trans K4) A4⟩
def xv:Sp:=λvs H Q _=>∃(lv wv AT:V)(s:List Nat)(its:List (Bool × Ly))(ss im:List Step)(n n2:Nat)(nm dZ:Str)(bn:List (Bool × Ly)),vs=[lv,wv,AT]/\Led H lv wv s its ss n (.aL nm bn)/\Led H lv AT s its im n2 (.aL dZ bn)/\aS bn<=10000/\bu bn/\(bc bn []).length<=4/\jR ((bc bn []).map Jz)/\
 ∀q xs H',Qn H H'->H q=none->H' q=some (.lst xs)->aj H' xs ((bc bn []).map Jz)->Q (.ref q) H'
def Y4(F:az K "boxes_alike" "boxes_alike" J8 f fd)(O:Own mg)(OS:mg "set"=none)(nj:Def P w K mg Y 11 "found" ["layout","path"] qF)(gO:Def P w K mg Y 3 "paths_of_boxes" ["items","with_tables"] xn):Zz1 P w K mg Y 12 f fd ["layout","path","other"] xv:=by
 refine ei F KJ (by nofun) λam A L s H vs Q E hr h=>?_
 obtain⟨lv,wv,AT,s1,its,ss,im,n,n2,nm,dZ,bn,rfl,A1,A2,hw,ao,oN,BJ,kk⟩:=h;have hz:100000<=sizeLine:=by rw[yaG];lia
 have Hn:(A.deeper (envOfC "boxes_alike" (Qe J8) s.heap.objs.size f am)).units+64<cLine:=by have:=hr.units;lia
 have Ho:(A.deeper (envOfC "boxes_alike" (Qe J8) s.heap.objs.size f am)).units+32<cLine:=by lia
 refine⟨_,(QD (JM (i:=3) KJ.nd Z (Or.inr Z) (aA.mk (XZ (wR Z Hn) Z OS boot_set (Qy (gO.pq hr Qr (Qy (QC QE (QC QE (nj.pq hr Qr (Qy (pv 0) (Qy (pv 2) Qb))) Qj (λ_ _=>rfl)) (Wi ZX Qj) (λ_ _=>rfl)) (Qy Xu Qb))) Qb))) Z Z)
  (Jb (Jr (aA.mk (Wt (NB:=[".0","way"]) (FR:=["others"]) (fi:=[3]) Z ⟨Z,by rfl'⟩ Z Z (Xa (gO.pq hr Qr (Qy (QC QE (QC QE (nj.pq hr Qr (Qy (pv 0) (Qy (pv 1) Qb))) Qj (λ_ _=>rfl)) (Wi ZX Qj) (λ_ _=>rfl)) (Qy Xu Qb)))) (λ_ _ _=>(Qi (i:=1) (show([".0","way","others"]:List Str).Nodup by rfl') Z Zz0)) (λ_ _ _=>(V2 (Ql (Qb0 (w0:=w) Z Ho) (pv 1) (pv 2) (by with_unfolding_all rfl)))) (λ_ _ _=>(pv 1))))))),?_⟩
 refine⟨_,Z,_,Z,lv,AT,its,im,n2,_,Z,A2.dl,A2.dp,A2.bd,A2.rs,A2.ls,λq u H1 S1 g1 Du=>?_⟩;obtain⟨a,x,rfl,g,D2⟩:=KK Du;exists q,_,1,_,Z,Z,.inl g1,Z;refine⟨_,Z,a,_,_,_,Z,Z,.inl g,Z,x,bn,Z,D2,hw,ao,λp xs H2 S2 gp Dp=>?_⟩;refine⟨p,xs,_,Z,.inl (.inl gp),Dp,BJ,by rw[Dp.length,tK];exact oN,λqs hqs=>?_⟩;have S3:=Qn.new (o:=iP w qs xs ((bc bn []).map Jz)) hqs;have g3:upd H2 qs (iP w qs xs ((bc bn []).map Jz)) qs=some (iP w qs xs ((bc bn []).map Jz)):=Qf;have lw:=(S1.trans S2).trans S3;have NM:=Dp.same S3;dsimp only[QL,Za,Zb,Q1]
 change i8 _ _ _ (upd H2 qs (iP w qs xs ((bc bn []).map Jz)))
 generalize upd H2 qs (iP w qs xs ((bc bn []).map Jz))=H3 at S3 g3 lw NM ⊢;refine Wy ?_;have B1:=A1.same lw;refine⟨_,Z,_,Z,lv,wv,its,ss,n,_,Z,B1.dl,B1.dp,B1.bd,B1.rs,B1.ls,λq4 u4 H4 S4 g4 Du4=>?_⟩;obtain⟨a4,x4,rfl,ga4,D4⟩:=KK Du4;exists q4,_,1,_,Z,Z,.inl g4,Z;refine⟨_,Z,a4,_,_,_,Z,Z,.inl ga4,Z,x4,bn,Z,D4,hw,ao,λp5 BK H5 S5 NN Hq=>?_⟩;have DJ:=S4.trans S5;have l5:BK.length<=4:=by rw[Hq.length,tK];exact oN
 exists p5,Z,⟨_,.inl (.inl NN)⟩;refine jL (fv:=[.ref qs]) (FL (K:=K) (a:=p5) (xs:=BK)) (λi vs H6=>H6=H5/\vs=BK.take i) (λR h=>h H5 ⟨Z,Z⟩) rfl ?_ ?_ ?_ (by lia)
 .rintro i vs H6 hi ⟨rfl,rfl⟩;exact⟨.inl (.inl NN),by rw[tX];lia⟩
 .rintro i v vs H6 H7 hi ⟨rfl,rfl⟩ ⟨rfl,hv⟩;obtain⟨d,hd,Dd⟩:=Hq.zM hv;have hm:=lh hd;refine⟨Z,_,Z,_,Z,qs,xs,_,d,Z,DJ _ _ g3,NM.same DJ,BJ,Dd,λe he=>BJ e (by rw[yao.mp he];exact hm),λb hb=>⟨_,Z,?_⟩⟩;rw[hb.mpr hm];refine QZ ⟨_,Z,Z,?_⟩;rw[yaK,hv];rfl
 .rintro vs H6 ⟨rfl,rfl⟩ p6 sU;have S6:=Qn.new (o:=.lst (BK.take BK.length)) sU;exact kk p6 _ _ (lw.trans (DJ.trans S6)) ((lw.trans DJ).free sU) (by rw[Qf,ycm]) (Hq.same S6)
inductive Chain (its:List (Bool × Ly)) (ss im:List Step):List (List Step)->List Nat->List Nat->Prop
 |nil {s:List Nat}:Chain its ss im [] s s
 |cons {w:List Step} {ws:List (List Step)} {s s2 r:List Nat} {n n2:Nat} {y y2:Ly} (h1:Res its (ss++w) n y) (h2:Res its (im++w) n2 y2) (l1:n+Jn y<=s.length) (l2:n2+Jn y2<=s.length) (m:fY y y2 s n r) (e:(lay s n2 r).length=s.length) (c:Chain its ss im ws (lay s n2 r) s2):Chain its ss im (w::ws) s s2
def zj{lv wv v:V}{ss wy:List Step}(dl:ag H lv (.tup (bD its)))(bd:bh its)(rs:Res its (ss++wy) n y)(ls:(ss++wy).length<=1000)(d1:ag H wv (Jz ss))(d2:ag H v (Jz wy))(he:∀R:VK,R lv H->te σ H R)(hp:∀R:VK,R wv H->tp σ H R)(hw:∀R:VK,R v H->tw σ H R)(kk:∀q z H',Qn H H'->H' q=some (.tup [.int (n:Nat),.int (Jn y:Nat),z])->ag H' z (qG y)->Q (.ref q) H'):XW Zi [] E (Jf te (Jf (cg jO tp tw) WM)) σ H Q:=by
 have hz:100000<=sizeLine:=by rw[yaG];lia
 have e:(ss++wy).length=ss.length+wy.length:=tJ;refine he _ (hp _ (hw _ (jO.deep d1 d2 (by rw[tK,tK];lia) λu H1 S1 D1=>?_)));rw[<-lq]at D1;refine⟨lv,u,its,ss++wy,n,y,Z,dl.same S1,D1,bd,rs,ls,λu2 H' S D=>?_⟩;obtain⟨q,z,rfl,g,Dz⟩:=YK D;exact kk q z H' (S1.trans S) g Dz
def QhR{lv wv AT v:V}{ss im wy:List Step}(dl:ag H lv (.tup (bD its)))(bd:bh its)(rs:Res its (ss++wy) n y)(TW:Res its (im++wy) n2 y2)(ls:(ss++wy).length<=1000)(BL:(im++wy).length<=1000)(d1:ag H wv (Jz ss))(d2:ag H AT (Jz im))(dw:ag H v (Jz wy))(qMa:fY y y2 s n r)(h1:n+Jn y<=s.length)(h2:n2+Jn y2<=s.length)(h3:s.length<=10000)(ha:∀R:VK,R (.str (tx s)) H->ta σ H R)(he:∀R:VK,R lv H->te σ H R)(hp:∀R:VK,R wv H->tp σ H R)(hw:∀R:VK,R v H->tw σ H R)(AX:∀(R:VK) H',Qn H H'->R lv H'->FJ σ H' R)(ut:∀(R:VK) H',R AT H'->oO σ H' R)(hw2:∀(R:VK) H',R v H'->NO σ H' R)(hb:∀(R:VK) H',R (.bl false) H'->tb σ H' R)(k:∀H',Qn H H'->Q (.str (tx (lay s n2 r))) H'):XW oM [] E (Jf ta (Jf (XW Zi [] E (Jf te (Jf (cg jO tp tw) WM))) (Jf (XW Zi [] E (Jf FJ (Jf (cg jO oO NO) WM))) (Jf tb WM)))) σ H Q:=
 ha _ (zj dl bd rs ls d1 dw he hp hw λq z H1 S1 g1 Dz=>zj (dl.same S1) bd TW BL (d2.same S1) (dw.same S1) (λR h=>AX R H1 S1 h) (λR h=>ut R H1 h) (λR h=>hw2 R H1 h) λq2 z2 H2 S2 g2 Dz2=>hb _ _ (NL (E:=E) qMa (S2 _ _ g1) (Dz.same S2) g2 Dz2 h1 (by lia) h3 λH3 S3=>k H3 ((S1.trans S2).trans S3)))
def VF(C:Addr):Sp:=λvs H Q _=>∃(x:Addr)(lv wv AT:V)(s s2:List Nat)(k:Nat)(dq:Addr)(its:List (Bool × Ly))(ss im:List Step)(n n2:Nat)(nm dZ:Str)(bn:List (Bool × Ly)),vs=[.ref x,wv,AT]/\aB C H x lv s k dq/\Led H lv wv s its ss n (.aL nm bn)/\Led H lv AT s its im n2 (.aL dZ bn)/\k<=900/\aS bn<=10000/\bu bn/\(bc bn []).length<=4/\jR ((bc bn []).map Jz)/\
 (∀w∈bc bn [],(ss++w).length<=1000/\(im++w).length<=1000)/\Chain its ss im (bc bn []) s s2/\∀H',Kx dq H H'->aB C H' x lv s2 (k+2) dq->Q (.int ((bc bn []).length:Nat)) H'
def WI(F:az K "move_alike" "Area.move_alike" JH f fd)(R:b8 K C)(O:Own mg)(T:Txt K mg tk c kr)(gc:Def P w K mg Y 12 "where" ["layout","path"] Zi)(gQ:Def P w K mg Y 11 "with_move" ["held","source","target","right"] oM)(mU:Def P w K mg Y 12 "boxes_alike" ["layout","path","other"] xv)(hJ:aX P w K mg Y C 1 "change" ["self","word","held"] (Kw C)):Zz1 P w K mg Y 13 f fd ["self","path","other"] (VF C):=by
 refine bN F QT (by nofun) λam A L s H vs Q E hr h=>?_
 obtain⟨x,lv,wv,AT,s1,s2,k,dq,its,ss,im,n,n2,nm,dZ,bn,rfl,AA,A1,A2,oK,hw,ao,oN,BJ,hlw,hc,kk⟩:=h;have fr:=Jh (P:=P) (w:=w) (K:=K) (mg:=mg) (Y:=Y) (N:=["self","path","other","source","target","ways","held","way"]) (qual:="Area.move_alike") (scope:=Qe JH) (f:=f) (cd:=am) (A:=A) (L:=L) (s:=s) (H:=H) (E:=E);have hx:=QH fr;have ht:=Jp fr;have hz:100000<=sizeLine:=by rw[yaG];lia
 obtain⟨dx,fs,uq,ds,u8,F1,g,l⟩:=AA.ob;refine⟨_,(Qd (Qt (i:=3) QT.nd Z Zz0 (gc.pq hr hx (Qy (J1 (pv 0) Z) (Qy (pv 1) Qb))))
  (Qd (Qt (i:=4) QT.nd Z Zz0 (gc.pq hr hx (Qy (J1 (pv 0) Z) (Qy (pv 2) Qb))))
  (Qd (QN (PW.pt (ZU (JZ (zr (QC QE (pv 3) Qj (λ_ _=>rfl)))) (JW (JZ (zr (QC QE (pv 4) Qj (λ_ _=>rfl))))))) (Qg (JD ht Z Z T.uo T.uu (Qy Qk Qb))) Qw)
  (Qd (Qt (i:=5) QT.nd Z Zz0 (mU.pq hr hx (Qy (J1 (pv 0) Z) (Qy (pv 1) (Qy (pv 2) Qb)))))
  (Qd (Qt (i:=6) QT.nd Z Zz0 (J1 (pv 0) Z))
  (Qd (ZW UR Z (Xa (pv 5)) (Qi (i:=7) QT.nd Z Zz0) (Qg (Qt (i:=6) QT.nd Z Zz0 (gQ.pq hr hx (Qy (pv 6) (Qy (gc.pq hr hx (Qy (J1 (pv 0) Z) (Qy (QG Yb (pv 1) (pv 7)) Qb))) (Qy (gc.pq hr hx (Qy (J1 (pv 0) Z) (Qy (QG Yb (pv 2) (pv 7)) Qb))) (Qy Xu Qb))))))))
  (Qd (Q7 (hJ.pe hr (by lia) hx (pv 0) (Qy Qk (Qy (pv 6) Qb))))
  (Qg (Qp (Qx QJ Z O.len ybb (Qy (pv 5) Qb))))))))))),?_⟩
 refine Xq A1 (λR' h=>⟨_,Z,x,C,dx,fs,_,Z,u8,R.cl,R.nl,F1.ly,h⟩) (λR' h=>⟨_,Z,h⟩) λq z H1 S1 gq dz=>?_;dsimp only[QL,Za,Zb,Q1];refine Xq (A2.same S1) (λR' h=>⟨_,Z,x,C,dx,fs,_,Z,S1 _ _ u8,R.cl,R.nl,F1.ly,h⟩) (λR' h=>⟨_,Z,h⟩) λq2 z2 H2 S2 Hm BI=>?_;have cr:=S1.trans S2
 try dsimp only[QL,Za,Zb,Q1]
 have dz:ag H1 z .aq:=dz;have BI:ag H2 z2 .aq:=BI;cases dz;cases BI;refine⟨_,Z,q,_,2,_,Z,Z,.inl (S2 _ _ gq),Z,false,Z,QO ?_⟩;refine⟨_,Z,q2,_,2,_,Z,Z,.inl Hm,Z,false,Z,QO ?_⟩;refine⟨_,Z,x,C,dx,fs,_,Z,cr _ _ u8,R.cl,R.nl,F1.ly,_,Z,_,Z,lv,wv,AT,s1,its,ss,im,n,n2,nm,dZ,bn,Z,A1.same cr,A2.same cr,hw,ao,oN,BJ,λq3 xs H3 S3 sN g3 D3=>?_⟩;have lw:=cr.trans S3
 try dsimp only[QL,Za,Zb,Q1]
 exists _,Z,x,C,dx,fs,_,Z,lw _ _ u8,R.cl,R.nh,F1.hd
 try dsimp only[QL,Za,Zb,Q1]
 exists _,Z,q3,Z,⟨_,.inl (.inl g3)⟩;refine WW (FL (K:=K) (a:=q3) (xs:=xs)) (λi σ H4=>∃(t:List Nat)(y7:Option V),σ=[some (.ref x),some wv,some AT,some (.ref q),some (.ref q2),some (.ref q3),some (.str (tx t)),y7]/\Qn H3 H4/\t.length=s1.length/\Chain its ss im ((bc bn []).drop i) t s2) ⟨s1,none,Z,Qn.refl _,Z,hc⟩ ?_ ?_ ?_
 .rintro i σ H4 hi ⟨t,y7,rfl,S4,_,_⟩;exact .inl (.inl (S4 _ _ g3))
 .rintro i v σ H4 H5 hi ⟨t,y7,rfl,S4,lt,hc⟩ ⟨rfl,hv⟩;obtain⟨d,hd,Dd⟩:=D3.zM hv;rw[lg]at hd;cases hb:(bc bn [])[i]? with
  |none=>rw[hb]at hd;cases hd
  |some wy=>
   rw[hb]at hd;obtain rfl:Jz wy=d:=tO hd;have lb:=(yaf.mp hb).1;rw[yaI lb,(yaf.mp hb).2]at hc;have hm:=hlw wy (lh hb);cases hc with
   |@cons _ _ _ _ r m1 m2 y1 y2 h1 h2 l1 l2 m e hc=>
    have sw:=lw.trans S4;refine QhR (A1.dl.same sw) A1.bd h1 h2 hm.1 hm.2 (A1.dp.same sw) (A2.dp.same sw) (Dd.same S4) m l1 l2 (by have:=A1.len;lia) (λR' h=>⟨_,Z,h⟩) (λR' h=>⟨_,Z,x,C,dx,fs,_,Z,sw _ _ u8,R.cl,R.nl,F1.ly,h⟩) (λR' h=>⟨_,Z,h⟩) (λR' h=>⟨_,Z,h⟩) (λR' H' S' h=>⟨_,Z,x,C,dx,fs,_,Z,S' _ _ (sw _ _ u8),R.cl,R.nl,F1.ly,h⟩) (λR' H' h=>⟨_,Z,h⟩) (λR' H' h=>⟨_,Z,h⟩) (λR' H' h=>h) λH6 S6=>?_;exact⟨_,_,Z,S4.trans S6,by lia,hc⟩
 .rintro σ H4 ⟨t,y7,rfl,S4,lt,hc⟩;have sw:=lw.trans S4;rw[D3.length,tK,ycn]at hc;cases hc;exists _,Z,x,dx,fs,Z,sw _ _ u8,F1.no _ zo.1 zo.2.1 zo.2.2.1 zo.2.2.2;refine⟨_,Z,x,"move_alike",s2,lv,s1,k,dq,Z,AA.same sw,oK,λH5 K5 A5=>?_⟩;have n3:q3≠dq:=λz=>by rw[z,cr _ _ g]at sN;cases sN
  refine⟨_,Z,q3,xs,Z,.inl (.inl (.inl (K5 _ _ (S4 _ _ g3) n3 (λ_ _ _ z=>nomatch z)))),?_⟩;rw[D3.length,tK];exact kk _ ((Kx.of sw).trans K5) A5
section
variable {P:Program}{w:World}{K:Frag}{mg:Str->Option Value}{Y:Heap}{f:Addr}{fd:FuncData}{tk:Nat->Tok}
def qR{ns:List Int}(h:aC K H a (ns.map V.int)):Cv K (.ref a) H (!ns.isEmpty):=.inl ⟨_,h,by cases ns<;>rfl⟩
def zk(F:az K "_law_draw" "_law_draw" K7 f fd)(O:Own mg):Zz1 P w K mg Y 1 f fd ["_law_script","_law_town","_law_many"] (jx K):=by
 refine okN F Zp (by nofun) λam A L s H vs Q E hr h=>?_
 obtain⟨a,t,r,ns,c,many,rs,rfl,hS,T,nat,cH,hl,hc,cJ,eM,k⟩:=h;have hu:=Rt hr;have T1:aG (upd H t (.dK [(Sum.inr "count",.int (c+1)),(Sum.inr "rests",.ref r)])) t r (c+1) rs:=⟨Qf,by rw[Qo T.ne.symm];exact T.rt,T.vs,by have:=T.c0;lia,by have:=T.ln;lia,T.ne⟩;have BM:=hS.upd (o:=.dK [(Sum.inr "count",.int (c+1)),(Sum.inr "rests",.ref r)]) nat;have A1:Apart t r H (upd H t (.dK [(Sum.inr "count",.int (c+1)),(Sum.inr "rests",.ref r)])):=λb o e n1 n2=>by rw[Qo n1];exact e
 refine⟨_,(Qd (vS hu (pv 1) Qk (QG Jj (VT hu (pv 1) Qk (λ_ _=>rfl)) Qj) Z)
  (Qd (Qt (i:=3) Zp.nd Z Zz0 (Jd (Je (pv 0) (λ_=>rfl)) (QG Vj (VT hu (pv 1) Qk (λ_ _=>rfl)) (Qx QJ Z O.len ybb (Qa (pv 0) Qb))) Qj))
  (Qd (Qt (i:=4) Zp.nd Z Zz0 (Rn hu (VT hu (pv 1) Qk (λ_ _=>rfl)) (pv 3) (Jd (Je (pv 0) (λ_=>rfl)) (QC Jv (pv 0) (pv 3) (λ_ _=>rfl)) Qj) ⟨Z,Z,Z,Z⟩))
  (Qd (QN (Ql vA (pv 4) (QG IF Qj Qj) (Qq _)) (Qd (vS hu (VT hu (pv 1) Qk (λ_ _=>rfl)) (pv 3) (QG Ut (pv 4) (pv 2)) Z)
  (Qg (Qp (QG Vj (pv 4) (pv 2))))) Qw)
  (Qd (Qt (i:=5) Zp.nd Z Zz0 (QG Vj (QG Jj (pv 4) (QG Wj Qj (VT hu (pv 1) Qk (λ_ _=>rfl)))) Qj))
  (Qd (Qt (i:=5) Zp.nd Z Zz0 (QG Vj (QG IF (pv 5) Qj) Qj))
  (Qg (Qp (QG Vj (QG Ut (QG Vj (QG Jj (QG Wj (QG Ut (pv 5) Qj) Qj) (pv 5)) Qj) Qj) (pv 2)))))))))),?_⟩
 exists _,Z,t,_,Z,Km T.tw,_,_,Z,Z,_,Z,t,_,Z,wz _ T.tw;exists _,Z,_,qR BM;refine bE (λhz=>?_) (λhz=>?_)
 .have hp:0<ns.length:=by cases ns with|nil=>cases hz|cons a r=>exact yfg _
  have oj:(0:Int)<((ns.map V.int).length:Int):=by rw[tK];lia
  exists _,Z,t,_,Z,Km T1.tw,_,Z,a,_,Z,.inl BM,_,_,Z,Z,oj;have m1:=ybw (c+1) (ybQ oj);have m2:=yba (c+1) oj;obtain⟨j,hj⟩:=ydf m1;have Dm:j<ns.length:=by rw[hj,tK]at m2;lia
  exists _,Z,t,_,Z,Ko T1.tw,r,Z,.inl ⟨rs,.inl T1.rt⟩,_,Z,_,Z,_,qR BM;rw[hz];refine QZ ⟨_,Z,_,Z,a,_,_,V.int ns[j],Z,Z,BM,?_,_,wo.k (k:=Sum.inl ((c+1) % ((ns.map V.int).length:Int))) T1.rt,?_⟩
  .show cA (ns.map V.int) ((c+1) % ((ns.map V.int).length:Int))=_;rw[hj];refine Zr ?_;rw[lg,yad Dm];rfl
  obtain⟨z,hz⟩:=jv T1.vs ((c+1) % ((ns.map V.int).length:Int)) (ns[j]);rw[hz];exists _,Z,_,_,Z,Z,⟨by lia,by lia,by lia⟩,_,_,Z,Z,_,Z;refine bE (λg=>?_) (λg=>?_)
  .have P2:=jw T1.vs ((c+1) % ((ns.map V.int).length:Int)) (z/many);refine⟨_,Z,_,Z,_,_,Z,Z,⟨cJ,by lia⟩,_,Z,t,_,Z,Ko T1.tw,_,Z,r,_,Z,iA.k (k:=Sum.inl ((c+1) % ((ns.map V.int).length:Int))) T1.rt (yam (m:=100001) (by have:=T.ln;lia) (by lia)),?_⟩;exists _,Z,_,Z,_,_,Z,Z,cJ;refine k _ (putK rs (Sum.inl ((c+1) % ((ns.map V.int).length:Int))) (.int (z/many))) _ (ybw _ (ybQ cJ)) (yba _ cJ) ⟨?_,Qf,P2.1,T1.c0,?_,T.ne⟩ (A1.trans λb o e n1 n2=>by rw[Qo n2];exact e)
   .rw[Qo T.ne];exact T1.tw
   .have:=P2.2;have:=T.ln;lia
  .refine⟨_,Z,_,Z,t,_,Z,Km T1.tw,_,_,Z,Z,.inl ⟨by lia,by lia⟩,_,_,Z,Z,_,_,Z,Z,(show(0:Int)<4294967291 by lia),?_⟩;have n1:=ybw (z+104729*(c+1)) (show(4294967291:Int)≠0 by lia);have n2:=yba (z+104729*(c+1)) (show(0:Int)<4294967291 by lia);refine⟨_,Z,_,_,Z,Z,⟨by lia,by lia,by show Int.natAbs _<2^64;lia⟩,_,_,Z,Z,(show(0:Int)<4294967279 by lia),?_⟩;exists _,Z,_,_,Z,Z,⟨by lia,by lia⟩,_,_,Z,Z,.inr ⟨by lia,by lia⟩,_,Z,_,_,Z,Z,_,_,Z,Z,(show(0:Int)<4294967231 by lia),_,_,Z,Z,⟨by lia,by lia⟩,_,Z,_,_,Z,Z,cJ;exact k _ rs _ (ybw _ (ybQ cJ)) (yba _ cJ) T1 A1
 .exists _,Z,t,_,Z,Ko T1.tw,r,Z,.inl ⟨rs,.inl T1.rt⟩,_,Z,_,Z,_,qR BM;rw[hz];refine QO ⟨_,wo.k (k:=Sum.inl (0:Int)) T1.rt,?_⟩;obtain⟨z,hz⟩:=jv T1.vs ((0:Int)) (0);rw[hz];exists _,Z,_,_,Z,Z,⟨by lia,by lia,by lia⟩,_,_,Z,Z,_,Z;refine bE (λg=>?_) (λg=>?_)
  .have P2:=jw T1.vs ((0:Int)) (z/many);refine⟨_,Z,_,Z,_,_,Z,Z,⟨cJ,by lia⟩,_,Z,t,_,Z,Ko T1.tw,_,Z,r,_,Z,iA.k (k:=Sum.inl ((0:Int))) T1.rt (yam (m:=100001) (by have:=T.ln;lia) (by lia)),?_⟩;exists _,Z,_,Z,_,_,Z,Z,cJ;refine k _ (putK rs (Sum.inl ((0:Int))) (.int (z/many))) _ (ybw _ (ybQ cJ)) (yba _ cJ) ⟨?_,Qf,P2.1,T1.c0,?_,T.ne⟩ (A1.trans λb o e n1 n2=>by rw[Qo n2];exact e)
   .rw[Qo T.ne];exact T1.tw
   .have:=P2.2;have:=T.ln;lia
  .refine⟨_,Z,_,Z,t,_,Z,Km T1.tw,_,_,Z,Z,.inl ⟨by lia,by lia⟩,_,_,Z,Z,_,_,Z,Z,(show(0:Int)<4294967291 by lia),?_⟩;have n1:=ybw (z+104729*(c+1)) (show(4294967291:Int)≠0 by lia);have n2:=yba (z+104729*(c+1)) (show(0:Int)<4294967291 by lia);refine⟨_,Z,_,_,Z,Z,⟨by lia,by lia,by show Int.natAbs _<2^64;lia⟩,_,_,Z,Z,(show(0:Int)<4294967279 by lia),?_⟩;exists _,Z,_,_,Z,Z,⟨by lia,by lia⟩,_,_,Z,Z,.inr ⟨by lia,by lia⟩,_,Z,_,_,Z,Z,_,_,Z,Z,(show(0:Int)<4294967231 by lia),_,_,Z,Z,⟨by lia,by lia⟩,_,Z,_,_,Z,Z,cJ;exact k _ rs _ (ybw _ (ybQ cJ)) (yba _ cJ) T1 A1
def qS(F:az K "_law_begun" "_law_begun" Kf f fd):Zz1 P w K mg Y 1 f fd [] zD:=by
 refine ei F U8 (λvs H Q E h=>?_) (λam A L s H vs Q E hr h=>?_)
 .obtain⟨rfl,_⟩:=h;rfl
 .obtain⟨rfl,k⟩:=h;exists _,ww;intro p hp d hd;have DK:d≠p:=λz=>by rw[z,Qf]at hd;cases hd
  have fJ:H d=none:=by rw[Qo DK]at hd;exact hd
  exists by rw[Qo DK.symm,Qf],[(Sum.inr "count",.int 0),(Sum.inr "rests",.ref d)],Z,yae rfl;have e:VU [] [((Sum.inr "count":Key),V.int 0),((Sum.inr "rests":Key),V.ref d)]=[((Sum.inr "count":Key),V.int 0),((Sum.inr "rests":Key),V.ref d)]:=by
   have h:¬ ((Sum.inr "count":Key)=(Sum.inr "rests":Key)):=vZ;unfold VU putK;simp[h]
  rw[e];refine k p d _ hp fJ ⟨Qf,by rw[Qo DK,Qf],(λkv hm=>nomatch hm),by lia,by lia,DK.symm⟩ λb o z=>?_;rw[Qo (QB z hp),Qo (QB z fJ),Qo (QB z hp)];exact z
def zl{c:Int}{rs:List (Key × V)}(A:Apart t r H H')(T:aG H' t r c rs)(h:H' q=none):H q=none:=by
 cases e:H q with
 |none=>rfl
 |some o=>
  by_cases z1:q=t
  .rw[z1,T.tw]at h;cases h
  .by_cases z2:q=r
   .rw[z2,T.rt]at h;cases h
   .rw[A q o e z1 z2]at h;cases h
end
def qT(K:Frag):Sp:=λvs H Q _=>∃(a t r:Addr)(ns:List Int)(c rc oP:Int)(rs:List (Key × V)),vs=[.ref a,.ref t,.int rc,.int oP]/\aC K H a (ns.map V.int)/\aG H t r c rs/\a≠t/\a≠r/\ns.length<=63/\c<90000/\0<=rc/\rc<=9/\0<=oP/\oP<=9/\
 ∀(u o c':Int)(IN:List (Key × V))(H':Hp)(q:Addr),u.natAbs<10^9->0<=o->o<=oP->H q=none->H' q=some (.tup [.int u,.int o])->aG H' t r c' IN->c'<=c+20->Apart t r H H'->Q (.ref q) H'
def Vf(F:az K "_law_an_amount" "_law_an_amount" Zv f fd)(O:Own mg)(gk:Def P w K mg Y 1 "_law_draw" ["_law_script","_law_town","_law_many"] (jx K)):Zz1 P w K mg Y 2 f fd ["_law_script","_law_town","_law_figures","_law_far"] (qT K):=by
 refine okN F JI (by nofun) λam A L s H vs Q E hr h=>?_
 obtain⟨a,t,r,ns,c,rc,oP,rs,rfl,hS,T,nat,cH,hl,hc,M9,hf1,hg0,hg1,k⟩:=h;refine⟨_,(Qd (Iw (i:=4) (j:=5) Z JI.nd Z Z (by lia) Z Z (Qa Qj (Qa (gk.pq hr Qr (Qa (pv 0) (Qa (pv 1) (Qa (QG Jj (pv 3) Qj) Qb)))) Qb)) Z)
  (Qd (ZW yaB Z (XY Z O.range (Qa (gk.pq hr Qr (Qa (pv 0) (Qa (pv 1) (Qa (QG Jj (pv 2) Qj) Qb)))) Qb)) (Qi (i:=6) JI.nd Z Zz0) (Qg (Qt (i:=4) JI.nd Z Zz0 (QG Jj (QG Wj (pv 4) Qj) (gk.pq hr Qr (Qa (pv 0) (Qa (pv 1) (Qa Qj Qb))))))))
  (Qg (Qp (Qs (Qa (Jd (Ql Jk (gk.pq hr Qr (Qa (pv 0) (Qa (pv 1) (Qa Qj Qb)))) Qj (Qq _)) (pv 4) (QG VM Qj (pv 4))) (Qa (pv 5) Qb))))))),?_⟩
 refine⟨_,Z,_,Z,_,Z,_,_,Z,Z,a,t,r,ns,c,_,rs,Z,hS,T,nat,cH,hl,by lia,by lia,by lia,λo iS H1 o0 o1 T1 A1=>⟨_,_,Z,?_⟩⟩;refine⟨_,Z,_,Z,_,Z,_,_,Z,Z,a,t,r,ns,_,_,iS,Z,A1.seq hS nat cH,T1,nat,cH,hl,by lia,by lia,by lia,λn TW H2 n0 n1 T2 A2=>?_⟩;refine⟨n,Z,by lia,by lia,ji (n:=n.toNat) (λi σ H3=>∃z x c3 BN,σ=[some (.ref a),some (.ref t),some (.int rc),some (.int oP),some (.int z),some (.int o),x]/\0<=z/\z<10^i/\aG H3 t r c3 BN/\c3<=c+2+i/\Apart t r H H3)
  ⟨0,none,_,TW,Z,by lia,by lia,T2,by lia,A1.trans A2⟩ ?_ ?_⟩
 .rintro i σ H3 hi ⟨z,x,c3,BN,rfl,z0,z1,T3,hc3,A3⟩;refine⟨_,Z,_,_,Z,Z,.inr ⟨by lia,by lia⟩,_,Z,_,Z,a,t,r,ns,c3,_,BN,Z,A3.seq hS nat cH,T3,nat,cH,hl,by lia,by lia,by lia,λd DL H4 d0 d1 T4 A4=>?_⟩;refine⟨_,_,Z,Z,_,_,_,DL,Z,by lia,?_,T4,by lia,A3.trans A4⟩;rw[Int.pow_succ];lia
 .rintro σ H3 ⟨z,x,c3,BN,rfl,z0,z1,T3,hc3,A3⟩;have zb:z<10^9:=Int.lt_of_lt_of_le z1 (by
   have:n.toNat<=9:=by lia
   have h:=ybm (n:=10) (by lia) this
   exact_mod_cast h)
  refine⟨_,Z,_,Z,a,t,r,ns,c3,_,BN,Z,A3.seq hS nat cH,T3,nat,cH,hl,by lia,by lia,by lia,λd DL H4 d0 d1 T4 A4=>?_⟩;exists Z,_,Z;refine bE (λg=>?_) (λg=>?_)
  .refine⟨_,Z,_,Z,by show 2<=sizeLine;lia,λq hq=>?_⟩;exact k z o _ DL _ q (by lia) o0 (by lia) (zl (A3.trans A4) T4 hq) Qf (T4.same (Qn.new hq)) (by lia) ((A3.trans A4).trans (.of (Qn.new hq)))
  .refine⟨_,Z,_,_,Z,Z,_,Z,by show 2<=sizeLine;lia,λq hq=>?_⟩;exact k (0-z) o _ DL _ q (by lia) o0 (by lia) (zl (A3.trans A4) T4 hq) Qf (T4.same (Qn.new hq)) (by lia) ((A3.trans A4).trans (.of (Qn.new hq)))
noncomputable def je:List (Bool × Ly):=[(false,.box "part" 0),(false,.box "note" 1)]
noncomputable def aM(N:Nat):List (Bool × Ly):=[(false,.tab "rows" N je),(false,.box "sum" 2),(true,.box "bits" 3)]
noncomputable def aO(N:Nat):List (Bool × Ly):=[(false,.aL "old" (aM N)),(false,.aL "new" (aM N)),(false,.box "seen" 4),(false,.box "short" 5)]
def DM(σ:L2.St)(H:Hp)(ta:TA)(ds:List Dv):Prop:=∀H1,Qn H H1->∀R:List V->Hp->Prop,(∀xs H2,Qn H1 H2->aj H2 xs ds->R xs H2)->ta σ H1 R
def dk(σ:L2.St)(H:Hp)(te:TE)(d:Dv):Prop:=∀H1,Qn H H1->∀R:VK,(∀x H2,Qn H1 H2->ag H2 x d->R x H2)->te σ H1 R
section
variable {ds:List Dv}
def QU:DM σ H WM []:=λH1 S R h=>h [] H1 (Qn.refl _) .nil
def Qm(h1:dk σ H te d)(h2:DM σ H ta ds):DM σ H (Jf te ta) (d::ds):=λH1 S R h=>h1 H1 S _ λx H2 S2 D=>h2 H2 (S.trans S2) _ λxs H3 S3 t=>h _ _ (S2.trans S3) (.cons (D.same S3) t)
def QF:dk σ H (tC (.str x)) (.str x):=λH1 S R h=>h _ H1 (Qn.refl _) .str
def QV(h1:DM σ H ta ds)(hl:Nat.ble ds.length 1000=true):dk σ H (EE ta) (.tup ds):=λH1 S R h=>h1 H1 S _ λxs H2 S2 t=>⟨by rw[t.length];exact yap (yae hl) (by lia),λp hp=>h _ _ (S2.trans (Qn.new hp)) (.tup Qf (t.same (Qn.new hp)))⟩
def Xr(e:σ[i]? =some (some x))(D:ag H x d):dk σ H (Kz i) d:=λH1 S R h=>⟨x,e,h x H1 (Qn.refl _) (D.same S)⟩
end
def xw:Sp:=λvs H Q _=>∃N:Nat,vs=[.int (N:Nat)]/\∀u H',Qn H H'->ag H' u (.tup (bD (aO N)))->Q u H'
def qU(F:az K "_law_items" "_law_items" Kg f fd):Zz1 P w K mg Y 1 f fd ["_law_many"] xw:=by
 refine okN F ZG (by nofun) λam A L s H vs Q E hr h=>?_
 obtain⟨N,rfl,k⟩:=h;have hz:=zza
 refine⟨_,(Qd (Qt (i:=1) ZG.nd Z Zz0 (Qs (Qa (Qs (Qa Qk (Qa Qk (Qa Qk Qb)))) (Qa (Qs (Qa Qk (Qa Qk (Qa Qk Qb)))) Qb))))
  (Qd (Qt (i:=2) ZG.nd Z Zz0 (Qs (Qa (Qs (Qa Qk (Qa Qk (Qa (pv 0) (Qa (pv 1) Qb))))) (Qa (Qs (Qa Qk (Qa Qk (Qa Qk Qb)))) (Qa (Qs (Qa Qk (Qa (Qs (Qa Qk (Qa Qk (Qa Qk Qb)))) Qb))) Qb)))))
  (Qd (Qt (i:=3) ZG.nd Z Zz0 (Qs (Qa Qk (Qa Qk (Qa Qk Qb)))))
  (Qg (Qp (Qs (Qa (Qs (Qa Qk (Qa Qk (Qa (pv 2) Qb)))) (Qa (Qs (Qa Qk (Qa Qk (Qa (pv 2) Qb)))) (Qa (pv 3) (Qa (Qs (Qa Qk (Qa Qk (Qa Qk Qb)))) Qb)))))))))),?_⟩
 dsimp only[QL,Za,Zb,Q1];refine QV (Qm (QV (Qm QF (Qm QF (Qm QF QU))) Z) (Qm (QV (Qm QF (Qm QF (Qm QF QU))) Z) QU)) rfl H (Qn.refl _) _ λx1 H1 S1 D1=>?_;refine QV (Qm (QV (Qm QF (Qm QF (Qm (Xr Z .int) (Qm (Xr Z D1) QU)))) Z) (Qm (QV (Qm QF (Qm QF (Qm QF QU))) Z) (Qm (QV (Qm QF (Qm (QV (Qm QF (Qm QF (Qm QF QU))) Z) QU)) Z) QU))) rfl H1 (Qn.refl _) _ λx2 H2 S2 D2=>?_;refine QV (Qm QF (Qm QF (Qm QF QU))) rfl H2 (Qn.refl _) _ λx3 H3 S3 D3=>?_;refine QV (Qm (QV (Qm QF (Qm QF (Qm (Xr Z (D2.same S3)) QU))) Z) (Qm (QV (Qm QF (Qm QF (Qm (Xr Z (D2.same S3)) QU))) Z) (Qm (Xr Z D3) (Qm (QV (Qm QF (Qm QF (Qm QF QU))) Z) QU)))) rfl H3 (Qn.refl _) _ λx4 H4 S4 D4=>?_;exact k _ _ (S1.trans (S2.trans (S3.trans S4))) D4
def Res.cast{ss:List Step}(h:Res its ss n y)(e:n=m):Res its ss m y:=e▸h
def qV:("part":Str)≠"note"/\("rows":Str)≠"sum"/\("rows":Str)≠"bits"/\("sum":Str)≠"bits"/\("old":Str)≠"new"/\("old":Str)≠"seen"/\("new":Str)≠"seen"/\("old":Str)≠"short"/\("new":Str)≠"short"/\("seen":Str)≠"short":=by rfl'
def Hr:aE je=8:=by
 unfold je;simp only[aE,cX,Ly.sz,yan,yaM];rfl
def Vg(N:Nat):aE (aM N)=8*N+8:=by
 unfold aM;simp only[aE,cX,Ly.sz,yan,yaM,ybN,Hr];rfl
def NP(N:Nat):aE (aO N)=16*N+31:=by
 unfold aO;simp only[aE,cX,Ly.sz,yan,yaM,Vg];show 8*N+8+(8*N+8+(12+(3+0)))=_;lia
def QeS:cZ je ("part",none) 0 false (.box "part" 0) 0:=⟨Z,Z,λi x h=>by lia,Z⟩
def QeT(h:i<N):cZ (aM N) ("rows",some i) 0 false (.tab "rows" N je) (8*i):=⟨Z,Z,λi x h=>by lia,by
 show(if i<N then some (i*aE je)else none)=_;rw[yai h,Hr,ybP]⟩
def Qgz:cZ (aM N) ("sum",none) 1 false (.box "sum" 2) 0:=⟨Z,Z,λi x h e=>by
 obtain rfl:i=0:=by lia
 cases e;exact qV.2.1,Z⟩
def QeU:cZ (aM N) ("bits",none) 2 true (.box "bits" 3) 0:=⟨Z,Z,λi x h e=>by
 match i,h with
 |0,_=>cases e;exact qV.2.2.1
 |1,_=>cases e;exact qV.2.2.2.1,Z⟩
def NQ:cZ (aO N) ("old",none) 0 false (.aL "old" (aM N)) 0:=⟨Z,Z,λi x h=>by lia,Z⟩
def NR:cZ (aO N) ("new",none) 1 false (.aL "new" (aM N)) 0:=⟨Z,Z,λi x h e=>by
 obtain rfl:i=0:=by lia
 cases e;exact qV.2.2.2.2.1,Z⟩
def QeV:cZ (aO N) ("seen",none) 2 false (.box "seen" 4) 0:=⟨Z,Z,λi x h e=>by
 match i,h with
 |0,_=>cases e;exact qV.2.2.2.2.2.1
 |1,_=>cases e;exact qV.2.2.2.2.2.2.1,Z⟩
def Qcu:cZ (aO N) ("short",none) 3 false (.box "short" 5) 0:=⟨Z,Z,λi x h e=>by
 match i,h with
 |0,_=>cases e;exact qV.2.2.2.2.2.2.2.1
 |1,_=>cases e;exact qV.2.2.2.2.2.2.2.2.1
 |2,_=>cases e;exact qV.2.2.2.2.2.2.2.2.2,Z⟩
def DN(its:List (Bool × Ly)):aE (its.take (under its 0))=0:=by
 rw[under,ycK,aE]
def NS(N:Nat):aE ((aM N).take (under (aM N) 1))=8*N:=by
 have e:(aM N).take (under (aM N) 1)=[(false,.tab "rows" N je)]:=rfl;rw[e];simp only[aE,cX,Ly.sz,yan,yaM,Hr]
 try rfl
def QgA(N:Nat):aE ((aM N).take (under (aM N) 2))=8*N:=NS N
def NT(N:Nat):aE ((aO N).take (under (aO N) 1))=8*N+8:=by
 have e:(aO N).take (under (aO N) 1)=[(false,.aL "old" (aM N))]:=rfl;rw[e];simp only[aE,cX,Ly.sz,yan,yaM,Vg]
 try rfl
def QgB(N:Nat):aE ((aO N).take (under (aO N) 2))=16*N+16:=by
 have e:(aO N).take (under (aO N) 2)=[(false,.aL "old" (aM N)),(false,.aL "new" (aM N))]:=rfl;rw[e];simp only[aE,cX,Ly.sz,yan,yaM,Vg];lia
def QgC(N:Nat):aE ((aO N).take (under (aO N) 3))=16*N+28:=by
 have e:(aO N).take (under (aO N) 3)=[(false,.aL "old" (aM N)),(false,.aL "new" (aM N)),(false,.box "seen" 4)]:=rfl;rw[e];simp only[aE,cX,Ly.sz,yan,yaM,Vg];show 8*N+8+(8*N+8+(12+0))=_;lia
noncomputable def gN:Bool->Str
 |false=>"old"
 |true=>"new"
noncomputable def gB(N:Nat):Bool->Nat
 |false=>0
 |true=>8*N+8
theorem zm(N:Nat):∀b,Res (aO N) [(gN b,none)] (gB N b) (.aL (gN b) (aM N))
 |false=>(Res.one NQ).cast (by rw[DN];rfl)
 |true=>(Res.one NR).cast (by rw[NT];rfl)
theorem Hs{st:Step}{ss:List Step}(r:Res (aM N) (st::ss) m y):∀b,Res (aO N) ((gN b,none)::st::ss) (gB N b+m) y
 |false=>(Res.aL NQ r).cast (by rw[DN];rfl)
 |true=>(Res.aL NR r).cast (by rw[NT];rfl)
def kK(h:i<N)(b:Bool):Res (aO N) [(gN b,none),("rows",some i),("part",none)] (gB N b+8*i) (.box "part" 0):=
 Hs ((Res.tab (QeT h) (Res.one QeS)).cast (by rw[DN,DN];lia)) b
def BO(N:Nat)(b:Bool):Res (aO N) [(gN b,none),("sum",none)] (gB N b+8*N) (.box "sum" 2):=Hs ((Res.one Qgz).cast (by rw[NS];rfl)) b
def kL(N:Nat)(b:Bool):Res (aO N) [(gN b,none),("bits",none)] (gB N b+8*N) (.box "bits" 3):=Hs ((Res.one QeU).cast (by rw[QgA];rfl)) b
def Ht(N:Nat):Res (aO N) [("seen",none)] (16*N+16) (.box "seen" 4):=(Res.one QeV).cast (by rw[QgB])
def NU(N:Nat):Res (aO N) [("short",none)] (16*N+28) (.box "short" 5):=(Res.one Qcu).cast (by rw[QgC])
def Hu(h:N<=5):bh (aO N):=⟨by
 unfold aO aM je;simp only[bK,dX,Ly.cn]
 decide,by
 unfold aO aM je;simp only[bu,dY,Ly.bU,and_true,true_and];lia⟩
def QhT(h:N<=5):aS (aO N)<=10000:=by
 unfold aO aM je;simp only[aS,sT,Ly.wt];lia
def BP(N:Nat):bc (aM N) []=[[(("sum":Str),none)],[(("bits":Str),none)]]:=by
 unfold aM;simp only[bc,G8,Ly.bx];rfl
def QhU(N:Nat):jR ((bc (aM N) []).map Jz):=by
 rw[BP];intro d hd;simp only[lC,ydv,yak,yaL,ycs]at hd;rcases hd with rfl|rfl<;>exact⟨⟨_,Z⟩,by rfl',by rfl'⟩
def Ky(h:n<=s.length):part (lay s n t) n t.length=t:=by
 unfold part lay;rw[lr,ydA (by rw[tX];lia),yaw (by rw[tX];lia),lz,List.take_left]
def Kk(h:n+t.length<=s.length):(lay s n t).length=s.length:=by
 unfold lay;rw[tJ,tJ,tX,tY];lia
def qW(h:n+t.length<=s.length)(i:Nat):(lay s n t)[i]? =if i<n then s[i]? else if i<n+t.length then t[i-n]? else s[i]? :=by
 unfold lay;have l1:(s.take n).length=n:=by rw[tX];lia
 have l2:(s.take n++t).length=n+t.length:=by rw[tJ,l1]
 by_cases h1:i<n
 .rw[yai h1,ybX (by lia),ybX (by lia),yet h1]
 .rw[yag h1]
  by_cases h2:i<n+t.length
  .rw[yai h2,ybX (by lia),ybM (by lia),l1]
  .rw[yag h2,ybM (by lia),l2,ycr]
   congr 1
   lia
def XT(s:List Nat)(n k i:Nat):(part s n k)[i]? =if i<k then s[n+i]? else none:=by
 unfold part;rw[yen]
 split
 .rw[ycr]
 .rfl
def Zk(h:n+t.length<=s.length)(o:m+k<=n\/n+t.length<=m):part (lay s n t) m k=part s m k:=by
 apply ybH;intro i;rw[XT,XT]
 split
 .rw[qW h];rcases o with o|o
  .rw[yai (by lia)]
  .rw[yag (by lia),yag (by lia)]
 .rfl
def QeX(h:n+t.length<=s.length)(o:m+k<=t.length):part (lay s n t) (n+m) k=part t m k:=by
 apply ybH;intro i;rw[XT,XT]
 split
 .rw[qW h,yag (by lia),yai (by lia)]
  congr 1
  lia
 .rfl
def QaQ(o:m+j<=k):part (part s n k) m j=part s (n+m) j:=by
 apply ybH;intro i;rw[XT,XT,XT]
 split
 .rw[yai (by lia),yfd]
 .rfl
def qX(h:n+k<=s.length):(part s n k).length=k:=by
 unfold part;rw[tX,tY];lia
def kM(h:t.length=n):oH t n=t:=by
 unfold oH;rw[h,Nat.sub_self, <-h,ycm];exact lA _
def zn(h1:1<=a+b)(hb:b<=18)(h:u.natAbs<10^(a+b)):ve true a b (cont true a b u b)/\ZR true (cont true a b u b)=u/\(cont true a b u b).length=a+b:=by
 obtain⟨h1,h2,h3,_⟩:=Z9 true u b h1;rw[WG hb h]at h2;refine⟨h1,?_,h3⟩;rw[h2]
 split
 .lia
 .rename_i z;simp only[true_and]at z;lia
def YL(e:t=cont true 3 2 u 2)(h:u.natAbs<10^5):c6 0 t u 2:=by
 obtain⟨h1,h2,h3⟩:=zn (a:=3) (b:=2) (u:=u) (by lia) (by lia) h;have h3:(cont true 3 2 u 2).length=5:=h3;subst e;exact⟨.inl ⟨Z,h1,h2.symm,Z⟩,by rw[h3];lia⟩
def Hv(e:t=cont true 6 2 u 2)(h:u.natAbs<10^8):c6 2 t u 2:=by
 obtain⟨h1,h2,h3⟩:=zn (a:=6) (b:=2) (u:=u) (by lia) (by lia) h;have h3:(cont true 6 2 u 2).length=8:=h3;subst e;exact⟨.inl ⟨Z,h1,h2.symm,Z⟩,by rw[h3];lia⟩
noncomputable def Jy(us:Nat->Int):Nat->Int
 |0=>0
 |n+1=>Jy us n+us n
theorem kO(us:Nat->Int)(i:Nat)(v:Int):∀N,Jy (λj=>if j=i then v else us j) N=if i<N then Jy us N+v-us i else Jy us N
 |0=>rfl
 |n+1=>by
  have ih:=kO us i v n;show Jy (λj=>if j=i then v else us j) n+(if n=i then v else us n)=if i<n+1 then Jy us n+us n+v-us i else Jy us n+us n;rw[ih]
  by_cases h:i<n
  .rw[yai h,yag (show ¬ n=i by lia),yai (show i<n+1 by lia)];lia
  .rw[yag h]
   by_cases e:n=i
   .subst e;rw[yai rfl,yai (show n<n+1 by lia)];lia
   .rw[yag e,yag (show ¬ i<n+1 by lia)]
def qY{us:Nat->Int}(h:∀i<N,(us i).natAbs<10^5):(Jy us N).natAbs<=N*10^5:=by
 induction N with
 |zero=>exact ycu rfl
 |succ n ih=>
  have h1:=ih λi hi=>h i (by lia);have h2:=h n (by lia);rw[Jy];lia
structure Cells(N:Nat)(s:List Nat)(us:Nat->Int)(d:Int):Prop where
 len:s.length=16*N+31
 pt:∀i<N,part s (8*i) 5=cont true 3 2 (us i) 2
 bd:∀i<N,(us i).natAbs<10^5
 sm:part s (8*N) 8=cont true 6 2 d 2
def Cells.part{us:Nat->Int}(h:Cells N s us d)(hi:i<N)(hv:v.natAbs<10^5):Cells N (lay s (8*i) (cont true 3 2 v 2)) (λj=>if j=i then v else us j) d:=by
 have l5:(cont true 3 2 v 2).length=5:=(Z9 true v 2 (by lia)).2.2.1;have hl:=h.len;refine⟨by rw[Kk (by lia)];exact hl,λj hj=>?_,λj hj=>?_,?_⟩
 .by_cases e:j=i
  .subst e;rw[yai rfl];have:=Ky (s:=s) (t:=cont true 3 2 v 2) (n:=8*j) (by lia);rw[l5]at this;exact this
  .rw[yag e,Zk (by lia) (by lia)];exact h.pt j hj
 .show(if j=i then v else us j).natAbs<10^5
  split
  .exact hv
  .exact h.bd j hj
 .rw[Zk (by lia) (by lia)];exact h.sm
def Cells.sum{us:Nat->Int}(h:Cells N s us d):Cells N (lay s (8*N) (cont true 6 2 v 2)) us v:=by
 have l8:(cont true 6 2 v 2).length=8:=(Z9 true v 2 (by lia)).2.2.1;have hl:=h.len;exists by rw[Kk (by lia)];exact hl,λj hj=>?_,h.bd
 .rw[Zk (by lia) (by lia)];exact h.pt j hj
 .have:=Ky (s:=s) (t:=cont true 6 2 v 2) (n:=8*N) (by lia);rw[l8]at this;exact this
def NV(s r:List Nat)(h:k<=s.length):part (s++r) 0 k=s.take k:=by
 unfold part;rw[yco,ydB h]
def kP:part (l++s) (l.length+n) k=part s n k:=by
 unfold part;rw[List.drop_append,yaw (by lia),lz,show l.length+n-l.length=n by lia]
theorem kR(h:l.length=8):∀(i N:Nat)(r:List Nat),i<N->part ((replicate N l).flatten++r) (8*i) 5=l.take 5
 |0,N+1,r,_=>by
  rw[yas,yaJ,lr,Nat.mul_zero];exact NV _ _ (by lia)
 |i+1,N+1,r,hi=>by
  rw[yas,yaJ,lr,show 8*(i+1)=l.length+8*i by lia,kP];exact kR h i N r (by lia)
def QeY{l:List Nat}(h:l.length=8)(N:Nat):(replicate N l).flatten.length=8*N:=by
 induction N with
 |zero=>rfl
 |succ n ih=>
  rw[yas,yaJ,tJ,ih,h];lia
def NW:aW je=cont true 3 2 0 2++[32,32,32]:=by
 unfold je;simp only[aW,fW,Ly.bg,yan,yaM]
 rfl'
def QhV(N:Nat):aW (aM N)=(replicate N (aW je)).flatten++cont true 6 2 0 2:=by
 unfold aM;simp only[aW,fW,Ly.bg,yan,yaM,ybN,lA]
 congr 1
def QgD(N:Nat):Cells N (aW (aO N)) (λ_=>0) 0:=by
 have h8:(aW je).length=8:=by rw[NW];rfl'
 have e:aW (aO N)=(replicate N (aW je)).flatten++(cont true 6 2 0 2++(aW (aM N)++(fV 4++fV 5))):=by
  unfold aO;simp only[aW,fW,Ly.bg,yan,yaM,lA];rw[QhV,lr]
 refine⟨by rw[YI,NP],λi hi=>?_,λi hi=>by lia,?_⟩
 .rw[e,kR h8 i N _ hi,NW]
  rfl'
 .have:=QeY h8 N;rw[e,show 8*N=(replicate N (aW je)).flatten.length+0 by lia,kP,NV _ _ (by rfl')]
  rfl'
def qZ(h:d.natAbs<10^8):c6 4 (putL 4 d 2) d 2/\(putL 4 d 2).length=12:=by
 have fs:fit d 2 6 2=d:=WG (a:=6) (b:=2) (by lia) h;have hs:sgn [] 45 []=true:=by lia
 have e:iX [] xp [] 6 2 (bI [] xp [] (fit d 2 6 2))=some (if sgn [] 45 []=true/\d<0 then 0-((fit d 2 6 2).natAbs:Int)else((fit d 2 6 2).natAbs:Int)):=BF.told d (by lia);have ep:putL 4 d 2=bI [] xp [] (fit d 2 6 2):=rfl;have hl:(putL 4 d 2).length=12:=kG (p:=4) d 2 (.inr Z);have ha:∀x∈bI [] xp [] (fit d 2 6 2),x<128:=BF.QhM (Uk d 2 6 2);refine⟨⟨.inr ⟨Z,?_,Z,ep▸ha⟩,by lia⟩,hl⟩;rw[ep,e,fs,hs]
 congr 1
 split
 .lia
 .rename_i z;simp only[true_and]at z;lia
def ja(d:Int):c6 5 (putL 5 d 2) ((d.natAbs/100 % 1000:Nat):Int) 0/\(putL 5 d 2).length=3:=by
 have e:putL 5 d 2=cont false 3 0 d 2:=rfl;obtain⟨h1,h2,h3,_⟩:=Z9 false (a:=3) (b:=0) d 2 (by lia);have hf:=(Hc d (o:=2) (a:=3) (b:=0) (by lia) (by lia)).1;rw[e];refine⟨⟨.inl ⟨Z,h1,?_,Z⟩,by rw[h3];lia⟩,h3⟩;show _=ZR false _;rw[h2,yag (by rintro⟨z,_⟩;cases z)];have hf:(fit d 2 3 0).natAbs=d.natAbs*10^0/10^2 % 10^(3+0):=hf;rw[hf];simp
def Qcv:c6 2 [48,48,48,48,48,48,48,113] (-1) 2:=⟨.inl ⟨Z,by rfl',by rfl',Z⟩,by lia⟩
def QeZ{us:Nat->Int}(h:Cells N s us d)(hd:d.natAbs<10^8):fY (.box "sum" 2) (.box "seen" 4) s (8*N) (putL 4 d 2):=
 ⟨by rw[(qZ hd).2];lia,.inr ⟨_,_,2,4,Z,Z,.DE (Hv h.sm hd) (ybu hd (by lia)) (.inr Z)⟩⟩
def Qcw(hd:d.natAbs<10^8)(e:part s n 12=putL 4 d 2):fY (.box "seen" 4) (.box "short" 5) s n (putL 5 d 2):=
 ⟨by rw[(ja d).2];lia,.inr ⟨_,_,4,5,Z,Z,.DE (show c6 4 (part s n 12) d 2 from e▸(qZ hd).1) (ybu hd (by lia)) (.inl Z)⟩⟩
def Qcx(hN:N<=5)(hl:s.length=16*N+31):fY (.aL "old" (aM N)) (.aL "new" (aM N)) s 0 (part s 0 (8*N+8)):=by
 have lp:(part s 0 (8*N+8)).length=8*N+8:=qX (by lia);refine⟨by lia,.inl ⟨_,_,aM N,aM N,Z,Z,by rw[Vg];lia,by rw[Vg];lia,?_⟩⟩;rw[Vg,kM lp]
def alike(hN:N<=5)(hl:s.length=16*N+31)(hd:d.natAbs<10^8)(e:part s (8*N) 8=cont true 6 2 d 2):Chain (aO N) [("old",none)] [("new",none)] (bc (aM N) []) s (lay s (16*N+8) (cont true 6 2 d 2)):=by
 have l8:(cont true 6 2 d 2).length=8:=(Z9 true d 2 (by lia)).2.2.1;have fs:fit d 2 6 2=d:=WG (a:=6) (b:=2) (by lia) hd;rw[BP];have e1:gB N true+8*N=16*N+8:=by show 8*N+8+8*N=_;lia
 have e0:gB N false+8*N=8*N:=by show 0+8*N=_;lia
 have q1:(lay s (16*N+8) (cont true 6 2 d 2)).length=s.length:=Kk (by lia);have pp:part (lay s (16*N+8) (cont true 6 2 d 2)) (8*N) 8=cont true 6 2 d 2:=by rw[Zk (by lia) (by lia),e]
 have ll:lay (lay s (16*N+8) (cont true 6 2 d 2)) (16*N+8) (cont true 6 2 d 2)=lay s (16*N+8) (cont true 6 2 d 2):=by
  apply ybH;intro i;rw[qW (by lia),qW (by lia)]
  by_cases h1:i<16*N+8
  .simp only[yai h1]
  .by_cases h2:i<16*N+8+(cont true 6 2 d 2).length
   .simp only[yag h1,yai h2]
   .simp only[yag h1,yag h2]
 refine .cons (n:=8*N) (n2:=16*N+8) (y:=.box "sum" 2) (y2:=.box "sum" 2) (r:=cont true 6 2 d 2) ((BO N false).cast e0) ((BO N true).cast e1) (by show 8*N+8<=_;lia) (by show 16*N+8+8<=_;lia) ⟨by lia,.inr ⟨_,_,2,2,Z,Z,?_⟩⟩ q1 ?_
 .have:=Mv.DE (p:=2) (p2:=2) (t:=part s (8*N) 8) (Hv e hd) (ybu hd (by lia)) (.inl Z);exact this
 .refine .cons (n:=8*N) (n2:=16*N+8) (y:=.box "bits" 3) (y2:=.box "bits" 3) (r:=cont true 6 2 d 2) ((kL N false).cast e0) ((kL N true).cast e1) (by show 8*N+8<=_;lia) (by show 16*N+8+8<=_;lia) ⟨by lia,.inr ⟨_,_,3,3,Z,Z,?_⟩⟩ (by rw[ll]) ?_
  .have:=Mv.txt (p:=3) (p2:=3) (t:=part (lay s (16*N+8) (cont true 6 2 d 2)) (8*N) 8) rfl rfl (by rw[pp,l8];lia);have e8:oH (part (lay s (16*N+8) (cont true 6 2 d 2)) (8*N) 8) (aR 3)=cont true 6 2 d 2:=by
    rw[pp];exact kM l8
   rw[e8]at this;exact this
  .rw[ll];exact .nil
structure aI(C:Addr)(H0 H:Hp)(a t r:Addr)(ns:List Int)(c:Int)(x:Addr)(lv:V)(s:List Nat)(k:Nat)(dq:Addr):Prop where
 fz:∃o,H a=some (.bY o (.lst (ns.map V.int)))
 tw:∃rs,aG H t r c rs
 ln:ns.length<=63
 kt:∀b ys,H0 b=some (.tup ys)->H b=some (.tup ys)
 ar:aB C H x lv s k dq
section
variable {K:Frag}{C:Addr}{H0 H H':Hp}{a t r:Addr}{ns:List Int}{c:Int}{x:Addr}{lv:V}{s:List Nat}{k:Nat}{dq:Addr}
def aI.bag(S:aI C H0 H a t r ns c x lv s k dq):iE K H a t r ns c:=by
 obtain⟨o,h⟩:=S.fz;obtain⟨rs,T⟩:=S.tw;exact⟨.inl (.inr ⟨o,h⟩),S.tw,(λz=>by rw[z,T.tw]at h;cases h),(λz=>by rw[z,T.rt]at h;cases h),S.ln⟩
theorem aI.same(S:aI C H0 H a t r ns c x lv s k dq)(e:Qn H H'):aI C H0 H' a t r ns c x lv s k dq:=by
 obtain⟨o,h⟩:=S.fz;obtain⟨rs,T⟩:=S.tw;exact⟨⟨o,e _ _ h⟩,⟨rs,T.same e⟩,S.ln,λb ys q=>e _ _ (S.kt b ys q),S.ar.same e⟩
def aI.NX(S:aI C H0 H a t r ns c x lv s k dq)(A:Apart t r H H'){IN:List (Key × V)}(T':aG H' t r c' IN):aI C H0 H' a t r ns c' x lv s k dq:=by
 obtain⟨o,h⟩:=S.fz;obtain⟨rs,T⟩:=S.tw;have keep:∀b o,H b=some o->(∀al,o≠ .dK al)->H' b=some o:=λb o e n=>A b o e (λz=>by rw[z,T.tw]at e;exact n _ (tO e).symm) (λz=>by rw[z,T.rt]at e;exact n _ (tO e).symm);obtain⟨dx,fs,uq,ds,hx,F1,g,l⟩:=S.ar.ob;exact⟨⟨o,keep _ _ h (λ_ z=>nomatch z)⟩,⟨IN,T'⟩,S.ln,λb ys q=>keep _ _ (S.kt b ys q) (λ_ z=>nomatch z),⟨dx,fs,uq,ds,keep _ _ hx (λ_ z=>nomatch z),F1,keep _ _ g (λ_ z=>nomatch z),l⟩⟩
def aI.kx(S:aI C H0 H a t r ns c x lv s k dq)(e:Kx dq H H')(A:aB C H' x lv s' k' dq):aI C H0 H' a t r ns c x lv s' k' dq:=by
 obtain⟨o,h⟩:=S.fz;obtain⟨rs,T⟩:=S.tw;obtain⟨dx,fs,uq,ds,hx,F1,g,l⟩:=S.ar.ob;have d1:=e _ _ T.tw (λz=>by have q:=T.tw;rw[z,g]at q;cases q) (λ_ _ _ z=>nomatch z);have d2:=e _ _ T.rt (λz=>by have q:=T.rt;rw[z,g]at q;cases q) (λ_ _ _ z=>nomatch z);exact⟨⟨o,e _ _ h (λz=>by rw[z,g]at h;cases h) (λ_ _ _ z=>nomatch z)⟩,⟨rs,⟨d1,d2,T.vs,T.c0,T.ln,T.ne⟩⟩,S.ln,λb ys q=>e.qK g _ _ (S.kt b ys q),A⟩
end
def sY:∀m∈([("get":Str),"amount","load","store","move","move_alike"]:List Str),m≠"layout"/\m≠"held"/\m≠"done"/\m≠"undone":=by rfl'
section
variable {K:Frag}{C:Addr}{H0 H:Hp}{a t r:Addr}{ns:List Int}{c:Int}{x:Addr}{lv:V}{s:List Nat}{k:Nat}{dq:Addr}{σ:L2.St}{i:Nat}{tp:TE}{its:List (Bool × Ly)}{ss im:List Step}{n:Nat}{nm:Str}{p:Nat}{Q:VK}{E:XK}
structure Hand(H0:Hp)(lv:V)(s:List Nat)(its:List (Bool × Ly)):Prop where
 dl:ag H0 lv (.tup (bD its))
 bd:bh its
 len:s.length<=10000
def Vp(qLa:aI C H0 H a t r ns c x lv s k dq)(Hd:Hand H0 lv s its)(rs:Res its ss n y)(ls:ss.length<=1000)(rm:n+Jn y<=s.length){wv:V}{H1:Hp}(S:Qn H H1)(D:ag H1 wv (Jz ss)):Led H1 lv wv s its ss n y:=⟨(Hd.dl.keep qLa.kt).same S,D,Hd.bd,rs,ls,Hd.len,rm⟩
def WJ(qLa:aI C H0 H a t r ns c x lv s k dq)(Hd:Hand H0 lv s its)(hi:σ[i]? =some (some (.ref x)))(hp:dk σ H tp (Jz ss))(rs:Res its ss n (.box nm p))(ls:ss.length<=1000)(rm:n+aR p<=s.length)(ha:c6 p (part s n (aR p)) u o)(kk:∀q H',Qn H H'->H q=none->H' q=some (.tup [.int u,.int (o:Nat)])->Q (.ref q) H'):Ux C "amount" (kH C) [] E (Kz i) (Jf tp WM) σ H Q:=by
 obtain⟨dx,fs,uq,ds,hx,F1,g,l⟩:=qLa.ar.ob;have nn:=sY "amount" (by rfl');exists _,hi,x,dx,fs,Z,hx,F1.no _ nn.1 nn.2.1 nn.2.2.1 nn.2.2.2;refine hp H (Qn.refl _) _ λwv H1 S1 D1=>?_;exact⟨x,lv,wv,s,k,dq,its,ss,n,nm,p,u,o,Z,qLa.ar.same S1,Vp qLa Hd rs ls rm S1 D1,ha,λq H' S2 hq g=>kk q H' (S1.trans S2) (S1.free hq) g⟩
def Up(qLa:aI C H0 H a t r ns c x lv s k dq)(Hd:Hand H0 lv s its)(hi:σ[i]? =some (some (.ref x)))(hp:dk σ H tp (Jz ss))(rs:Res its ss n y)(ls:ss.length<=1000)(rm:n+Jn y<=s.length)(kk:∀H',Qn H H'->Q (.str (tx (part s n (Jn y)))) H'):Ux C "get" (DG C) [] E (Kz i) (Jf tp WM) σ H Q:=by
 obtain⟨dx,fs,uq,ds,hx,F1,g,l⟩:=qLa.ar.ob;have nn:=sY "get" (by rfl');exists _,hi,x,dx,fs,Z,hx,F1.no _ nn.1 nn.2.1 nn.2.2.1 nn.2.2.2;refine hp H (Qn.refl _) _ λwv H1 S1 D1=>?_;exact⟨x,lv,wv,s,k,dq,its,ss,n,y,Z,qLa.ar.same S1,Vp qLa Hd rs ls rm S1 D1,λH' S2=>kk H' (S1.trans S2)⟩
def jb(qLa:aI C H0 H a t r ns c x lv s k dq)(Hd:Hand H0 lv s its)(hk:k<=900)(hi:σ[i]? =some (some (.ref x)))(hp:dk σ H tp (Jz ss))(hj:σ[j]? =some (some (.ref b)))(qMa:cb K H b u o)(rs:Res its ss n (.box nm p))(ls:ss.length<=1000)(rm:n+aR p<=s.length)(h2:aT p=2)(kN:10^(cG p+bB p)<=(ax.Xt u o (bB p)).natAbs->∀H',Qn H H'->Q (.bl false) H')(kS:(ax.Xt u o (bB p)).natAbs<10^(cG p+bB p)->∀H',aI C H0 H' a t r ns c x lv (lay s n (cont (eY p) (cG p) (bB p) (ax.Xt u o (bB p)) (bB p))) (k+2) dq->Kx dq H H'->Q (.bl true) H'):Ux C "store" (VE K C) [.bl false] E (Kz i) (Jf tp (Jf (Kz j) WM)) σ H Q:=by
 obtain⟨dx,fs,uq,ds,hx,F1,g,l⟩:=qLa.ar.ob;have nn:=sY "store" (by rfl');exists _,hi,x,dx,fs,Z,hx,F1.no _ nn.1 nn.2.1 nn.2.2.1 nn.2.2.2;refine hp H (Qn.refl _) _ λwv H1 S1 D1=>?_;refine⟨_,hj,x,lv,wv,s,k,dq,its,ss,n,nm,p,b,u,o,Z,qLa.ar.same S1,Vp qLa Hd rs ls rm S1 D1,hk,qMa.same S1,h2,λz H' S2=>kN z H' (S1.trans S2),λz H' K2 A2=>?_⟩;exact kS z H' (qLa.kx ((Kx.of S1).trans K2) A2) ((Kx.of S1).trans K2)
def xx(qLa:aI C H0 H a t r ns c x lv s k dq)(Hd:Hand H0 lv s its)(hk:k<=900)(hi:σ[i]? =some (some (.ref x)))(hp:dk σ H tp (Jz ss))(ut:dk σ H oO (Jz im))(rs:Res its ss n y)(ls:ss.length<=1000)(rm:n+Jn y<=s.length)(TW:Res its im n2 y2)(BL:im.length<=1000)(Hw:n2+Jn y2<=s.length){tt:List Nat}(qMa:fY y y2 s n tt)(kk:∀H',aI C H0 H' a t r ns c x lv (lay s n2 tt) (k+2) dq->Kx dq H H'->Q .aq H'):Ux C "move" (qQ C) [.bl false] E (Kz i) (Jf tp (Jf oO WM)) σ H Q:=by
 obtain⟨dx,fs,uq,ds,hx,F1,g,l⟩:=qLa.ar.ob;have nn:=sY "move" (by rfl');exists _,hi,x,dx,fs,Z,hx,F1.no _ nn.1 nn.2.1 nn.2.2.1 nn.2.2.2;refine hp H (Qn.refl _) _ λwv H1 S1 D1=>ut H1 S1 _ λAT H2 S2 D2=>?_;have cr:=S1.trans S2;exact⟨x,lv,wv,AT,s,k,dq,its,ss,im,n,n2,y,y2,tt,Z,qLa.ar.same cr,Vp qLa Hd rs ls rm cr (D1.same S2),Vp qLa Hd TW BL Hw cr D2,hk,qMa,λH' K2 A2=>kk H' (qLa.kx ((Kx.of cr).trans K2) A2) ((Kx.of cr).trans K2)⟩
def Qe0(qLa:aI C H0 H a t r ns c x lv s k dq)(Hd:Hand H0 lv s its)(hk:k<=900)(hi:σ[i]? =some (some (.ref x)))(hp:dk σ H tp (Jz ss))(rs:Res its ss n (.box nm p))(ls:ss.length<=1000)(rm:n+aR p<=s.length){tt:List Nat}(ht:∀H1,∀R:VK,R (.str (tx tt)) H1->ta σ H1 R)(hl:tt.length=aR p)(kk:∀H',aI C H0 H' a t r ns c x lv (lay s n tt) (k+2) dq->Kx dq H H'->Q .aq H'):Ux C "load" (kJ C) [] E (Kz i) (Jf tp (Jf ta WM)) σ H Q:=by
 obtain⟨dx,fs,uq,ds,hx,F1,g,l⟩:=qLa.ar.ob;have nn:=sY "load" (by rfl');exists _,hi,x,dx,fs,Z,hx,F1.no _ nn.1 nn.2.1 nn.2.2.1 nn.2.2.2;refine hp H (Qn.refl _) _ λwv H1 S1 D1=>ht H1 _ ?_;exact⟨x,lv,wv,s,k,dq,its,ss,n,nm,p,tt,Z,qLa.ar.same S1,Vp qLa Hd rs ls rm S1 D1,hk,hl,λH' K2 A2=>kk H' (qLa.kx ((Kx.of S1).trans K2) A2) ((Kx.of S1).trans K2)⟩
def Qcy{bn:List (Bool × Ly)}(qLa:aI C H0 H a t r ns c x lv s k dq)(Hd:Hand H0 lv s its)(hk:k<=900)(hi:σ[i]? =some (some (.ref x)))(hp:dk σ H tp (Jz ss))(ut:dk σ H oO (Jz im))(rs:Res its ss n (.aL nm bn))(ls:ss.length<=1000)(rm:n+aE bn<=s.length)(TW:Res its im n2 (.aL dZ bn))(BL:im.length<=1000)(Hw:n2+aE bn<=s.length){s2:List Nat}(h1:aS bn<=10000)(h2:bu bn)(h3:(bc bn []).length<=4)(h4:jR ((bc bn []).map Jz))(h5:∀w∈bc bn [],(ss++w).length<=1000/\(im++w).length<=1000)(h6:Chain its ss im (bc bn []) s s2)(kk:∀H',aI C H0 H' a t r ns c x lv s2 (k+2) dq->Kx dq H H'->Q (.int ((bc bn []).length:Nat)) H'):Ux C "move_alike" (VF C) [] E (Kz i) (Jf tp (Jf oO WM)) σ H Q:=by
 obtain⟨dx,fs,uq,ds,hx,F1,g,l⟩:=qLa.ar.ob;have nn:=sY "move_alike" (by rfl');exists _,hi,x,dx,fs,Z,hx,F1.no _ nn.1 nn.2.1 nn.2.2.1 nn.2.2.2;refine hp H (Qn.refl _) _ λwv H1 S1 D1=>ut H1 S1 _ λAT H2 S2 D2=>?_;have cr:=S1.trans S2;exact⟨x,lv,wv,AT,s,s2,k,dq,its,ss,im,n,n2,nm,dZ,bn,Z,qLa.ar.same cr,Vp qLa Hd rs ls rm cr (D1.same S2),Vp qLa Hd TW BL Hw cr D2,hk,h1,h2,h3,h4,h5,h6,λH' K2 A2=>kk H' (qLa.kx ((Kx.of cr).trans K2) A2) ((Kx.of cr).trans K2)⟩
end
def NY(u:Int):ax.Xt u 2 2=u:=by
 have h:=Nv u (o:=2) (p:=2) (by lia) (by lia);have h:ax.Xt u 2 2=if u<0 then-((u.natAbs*10^2/10^2:Nat):Int)else((u.natAbs*10^2/10^2:Nat):Int):=h;rw[h,Nat.mul_div_cancel _ (by lia)]
 split<;>lia
def kU:part s n (k+j)=part s n k++part s (n+k) j:=by
 unfold part;rw[List.take_add,ycL]
def QaS{ds:List Dv}(h:∀d∈ds,d.depth<=n):Dv.JY ds<=n:=by
 induction ds with
 |nil=>exact lF _
 |cons d ds ih=>
  unfold Dv.JY;exact Nat.max_le.mpr ⟨h d (tW ..),ih λe he=>h e (tU _ he)⟩
def Qcz(t:List Nat)(n:Nat):StrLaws.sliceText (tx t) none (some ((n:Nat):Int))=tx (t.take n):=by
 have e2:sliceText (tx t) none (some ((n:Nat):Int))=sliceText (tx t) (some ((0:Nat):Int)) (some ((n:Nat):Int)):=by
  unfold sliceText;rw[sliceIdx_none_lo];rfl
 rw[e2,J2 t (lF _) (lF _)];simp
theorem Hx:∀N,Jy (λ_=>0) N=0
 |0=>rfl
 |n+1=>by rw[Jy,Hx n];rfl
def aI.mono{ns:List Int}{c:Int}{lv:V}(S:aI C H0 H a t r ns c x lv s k dq)(h:k<=k2):aI C H0 H a t r ns c x lv s k2 dq:=by
 obtain⟨dx,fs,uq,ds,hx,F1,g,l⟩:=S.ar.ob;exact⟨S.fz,S.tw,S.ln,S.kt,⟨dx,fs,uq,ds,hx,⟨F1.ly,F1.hd,F1.dn,F1.un,F1.no,yap F1.ln h⟩,g,yap l h⟩⟩
section
variable {P:Program}{w:World}{K:Frag}{mg:Str->Option Value}{Y:Heap}{f:Addr}{fd:FuncData}{tk:Nat->Tok}{c:Nat->Addr}{ca:Value}{C:Addr}
def Hy:Sp:=λvs H Q _=>∃(a:Addr)(ns:List Int),vs=[.ref a]/\ns.length<=63/\(∃o,H a=some (.bY o (.lst (ns.map V.int))))/\∀H',Q (.bl true) H'
def QgE(F:lS K "law" "law" U9 f fd ca)(O:Own mg)(nk:Def P w K mg Y 1 "_law_begun" [] zD)(gk:Def P w K mg Y 1 "_law_draw" ["_law_script","_law_town","_law_many"] (jx K))(nt:Def P w K mg Y 1 "_law_items" ["_law_many"] xw)(gZ:Def P w K mg Y 2 "_law_an_amount" ["_law_script","_law_town","_law_figures","_law_far"] (qT K))(rp:dH P w K mg Y 8 "stored" ["picture","amount","nearest"] (.bl false) (WF K c))(rM:Def P w K mg Y 4 "same" ["one","other"] (GS K))(pQ:Def P w K mg Y 4 "added" ["one","other"] (GU K λx y=>x+y))(ud:dI P w K mg Y C 11 "Area" ["self","layout"] (Hk C))(gI:aX P w K mg Y C 13 "get" ["self","path"] (DG C))(hU:aX P w K mg Y C 13 "amount" ["self","path"] (kH C))(nW:aX P w K mg Y C 13 "load" ["self","path","text"] (kJ C))(ml:bR P w K mg Y C 13 "store" ["self","path","amount","nearest"] (.bl false) (VE K C))(mi:bR P w K mg Y C 13 "move" ["self","path","other","right"] (.bl false) (qQ C))(gT:aX P w K mg Y C 13 "move_alike" ["self","path","other"] (VF C)):Zz1 P w K mg Y 15 f fd ["_law_script"] Hy:=by
 refine Sb F ZA (by nofun) λA L s H vs Q E hr h=>?_
 obtain⟨a,ns,rfl,oN,⟨oa,DO⟩,k⟩:=h;have hz:100000<=sizeLine:=by rw[yaG];lia
 have hn9:(A.deeper (envOfC "law" (Qe U9) s.heap.objs.size f ca)).units+1+8<cLine:=by have:=hr.units;lia
 refine⟨_,(QD (JM (i:=1) ZA.nd Z Zz0 (aA.mk (nk.RJ hr (by lia) Z Qr)) Z Z)
  (QD (JM (i:=2) ZA.nd Z Zz0 (L0 Jj (aA.mk Qj) (aA.mk (gk.pq hr Qr (Qy (pv 0) (Qy (pv 1) (Qy Qj Qb)))))) Z Z)
  (QD (JM (i:=3) ZA.nd Z Zz0 (yN nt hr (by lia) Z Qr (JP (aA.mk (pv 2)) JB Z) Z Z) Z Z)
  (QD (b9.mk (QW (Qs (Qy (ud.pe hr (by lia) Z Qr (Qy (pv 3) Qb)) (Qy (Qs (Qy Qj (Qy Qj Qb))) Qb))) (QM Z (Qh (Qi (i:=4) ZA.nd Z (Or.inr Z)) (Qh (Qi (i:=5) ZA.nd Z Zz0) Qz)))))
  (QD (yH yaB Z (XY Z O.range (Qy Qj Qb)) (Qi (i:=6) ZA.nd Z Zz0) (QD (b9.mk (Iw (i:=7) (j:=8) Z ZA.nd Z Z (by lia) Z Z (Qy (gk.pq hr Qr (Qy (pv 0) (Qy (pv 1) (Qy (pv 2) Qb)))) (Qy (gZ.pq hr Qr (Qy (pv 0) (Qy (pv 1) (Qy Qj (Qy Qj Qb))))) Qb)) Z))
  (QD (JM (i:=9) ZA.nd Z Zz0 (X4 (JP (aA.mk Qk) (JP (X4 (JP (aA.mk Qk) (JP (aA.mk (pv 7)) JB Z) Z)) (JP (aA.mk Qk) JB Z) Z) Z)) Z Z)
  (QD (JM (i:=10) ZA.nd Z Zz0 (aA.mk (hU.pe hr (by lia) Qr (pv 4) (Qy (pv 9) Qb))) Z Z)
  (QD (JM (i:=11) ZA.nd Z Zz0 (aA.mk (OP (zr (rp.pe hr (by lia) Z Qr (Qy Qk (Qy (pv 8) Qb)))))) Z Z)
  (QD (XB (Mb (Ma (cv.mk (Ql Xl (ml.pe hr (by lia) Qr (pv 4) (Qy (pv 9) (Qy (pv 8) Qb))) (pv 11) (Qq _))) (yM (cv.mk (PW.pt (Zx (Wf (Je (pv 11) (λ_=>rfl))) (J0 (Ql (zN (n:=16) (zQ hr)) (hU.pe hr (by lia) Qr (pv 4) (Qy (pv 9) Qb)) (pv 10) (Qq _))))))))) (Jb (Jr (aA.mk Xu))) ZM)
  (Jb (XB (cv.mk (Je (pv 11) (λ_=>rfl))) (QD (JM (i:=5) ZA.nd Z Zz0 (X5 pQ hr (by lia) Z Qr (JP (X5 pQ hr (by lia) Z Qr (JP (aA.mk (pv 5)) (JP (aA.mk (hU.pe hr (by lia) Qr (pv 4) (Qy (pv 9) Qb))) JB Z) Z) Z Z Z) (JP (X4 (JP (L0 VM (aA.mk Qj) (aA.mk (QC QE (pv 10) Qj (λ_ _=>rfl)))) (JP (aA.mk (QC QE (pv 10) Qj (λ_ _=>rfl))) JB Z) Z)) JB Z) Z) Z Z Z) Z Z)
  (Jb (XB (cv.mk (JZ (Qel (ml.pe hr (by lia) Qr (pv 4) (Qy (Qs (Qy Qk (Qy Qk Qb))) (Qy (pv 5) Qb)))))) (Jb (Jr (aA.mk Xu))) ZM))) ZM))))))) (λ_=>rfl))
  (QD (b9.mk (ye (NB:=[".0","_law_at"]) (FR:=["_law_area"]) (fi:=[4]) (iy:=12) Z ⟨Z,by rfl'⟩ Z Z (XY Z O.range (Qy (pv 2) Qb)) (λ_ _ _=>(Qi (i:=1) (show([".0","_law_at","_law_area"]:List Str).Nodup by rfl') Z Zz0)) (λ_ _ _=>Xb) (λ_ _ _=>(hU.pe hr (by lia) Qr (pv 2) (Qy (Qs (Qy Qk (Qy (Qs (Qy Qk (Qy (pv 1) Qb))) (Qy Qk Qb)))) Qb))) ZA.nd Z Zz0 Z))
  (QD (JM (i:=13) ZA.nd Z Zz0 (X4 (JP (aA.mk Qj) (JP (aA.mk Qj) JB Z) Z)) Z Z)
  (QD (yH yaB Z (Xa (pv 12)) (Qi (i:=14) ZA.nd Z Zz0) (Jb (JM (i:=13) ZA.nd Z Zz0 (X5 pQ hr (by lia) Z Qr (JP (aA.mk (pv 13)) (JP (aA.mk (pv 14)) JB Z) Z) Z Z Z) Z Z)) (λ_=>rfl))
  (QD (XB (yL (x0 (X5 rM hr (by lia) Z Qr (JP (aA.mk (pv 13)) (JP (aA.mk (hU.pe hr (by lia) Qr (pv 4) (Qy (Qs (Qy Qk (Qy Qk Qb))) Qb))) JB Z) Z) Z Z Z))) (Jb (Jr (aA.mk Xu))) ZM)
  (QD (b9.mk (Q7 (mi.pe hr (by lia) Qr (pv 4) (Qy (Qs (Qy Qk (Qy Qk Qb))) (Qy (Qs (Qy Qk Qb)) Qb)))))
  (QD (XB (Mb (Ma (yL (x0 (X5 rM hr (by lia) Z Qr (JP (aA.mk (hU.pe hr (by lia) Qr (pv 4) (Qy (Qs (Qy Qk Qb)) Qb))) (JP (aA.mk (pv 13)) JB Z) Z) Z Z Z))) (yM (cv.mk (Ql Xl (gI.pe hr (by lia) Qr (pv 4) (Qy (Qs (Qy Qk (Qy Qk Qb))) Qb)) (gI.pe hr (by lia) Qr (pv 4) (Qy (Qs (Qy Qk (Qy Qk Qb))) Qb)) (Qq _)))))) (Jb (Jr (aA.mk Xu))) ZM)
  (QD (b9.mk (Q7 (mi.pe hr (by lia) Qr (pv 4) (Qy (Qs (Qy Qk Qb)) (Qy (Qs (Qy Qk Qb)) Qb)))))
  (QD (XB (cv.mk (Ql (zN (n:=16) (zQ hr)) (hU.pe hr (by lia) Qr (pv 4) (Qy (Qs (Qy Qk Qb)) Qb)) (Qs (Qy (QG Vj (QG Ut (Qx Xw Z O.abs yeX (Qy (QC QE (pv 13) Qj (λ_ _=>rfl)) Qb)) Qj) Qj) (Qy Qj Qb))) (Qq _))) (Jb (Jr (aA.mk Xu))) ZM)
  (QD (b9.mk (Q7 (mi.pe hr (by lia) Qr (pv 4) (Qy (Qs (Qy Qk Qb)) (Qy (Qs (Qy Qk Qb)) Qb)))))
  (QD (XB (cv.mk (Ql (Qej (n:=8) hn9) (Wt (NB:=[".0","_law_at"]) (FR:=["_law_area"]) (fi:=[4]) Z ⟨Z,by rfl'⟩ Z Z (XY Z O.range (Qy (pv 2) Qb)) (λ_ _ _=>(Qi (i:=1) (show([".0","_law_at","_law_area"]:List Str).Nodup by rfl') Z Zz0)) (λ_ _ _=>Xb) (λ_ _ _=>(hU.pe hr (by lia) Qr (pv 2) (Qy (Qs (Qy Qk (Qy (Qs (Qy Qk (Qy (pv 1) Qb))) (Qy Qk Qb)))) Qb)))) (pv 12) (Qq _))) (Jb (Jr (aA.mk Xu))) ZM)
  (QD (b9.mk (Q7 (nW.pe hr (by lia) Qr (pv 4) (Qy (Qs (Qy Qk (Qy Qk Qb))) (Qy (QG Ji Qk Qk) Qb)))))
  (QD (XB (cv.mk (Ql (zN (n:=16) (zQ hr)) (hU.pe hr (by lia) Qr (pv 4) (Qy (Qs (Qy Qk (Qy Qk Qb))) Qb)) (Qs (Qy (Wi ZX Qj) (Qy Qj Qb))) (Qq _))) (Jb (Jr (aA.mk Xu))) ZM)
  (QD (XB (cv.mk (Ql Xl (QR Zc (gI.pe hr (by lia) Qr (pv 4) (Qy (Qs (Qy Qk Qb)) Qb)) JK (QQ (QG Wj Qj (pv 2)))) (QR Zc (gI.pe hr (by lia) Qr (pv 4) (Qy (Qs (Qy Qk Qb)) Qb)) JK (QQ (QG Wj Qj (pv 2)))) (Qq _))) (Jb (Jr (aA.mk Xu))) ZM)
  (Jb (Jr (QbS (aA.mk (JS Jk (gT.pe hr (by lia) Qr (pv 4) (Qy (Qs (Qy Qk Qb)) (Qy (Qs (Qy Qk Qb)) Qb))) Qj (Qq _))) (aA.mk (JS Jk (gI.pe hr (by lia) Qr (pv 4) (Qy (Qs (Qy Qk Qb)) Qb)) (gI.pe hr (by lia) Qr (pv 4) (Qy (Qs (Qy Qk Qb)) Qb)) (Qq _)))))))))))))))))))))))),?_⟩
 refine⟨Z,λt r H1 ht eR T1 S1=>?_⟩;have B1:iE K H1 a t r ns 0:=⟨.inl (.inr ⟨oa,S1 _ _ DO⟩),⟨[],T1⟩,(λz=>by rw[<-z,DO]at ht;cases ht),(λz=>by rw[<-z,DO]at eR;cases eR),oN⟩
 try dsimp only[QL,Za,Zb,Q1]
 refine B1.draw rfl rfl (λR h=>h) (by lia) (by lia) (by lia) λd0 H2 fJ B2 A2=>?_;have fJ:d0<5:=by lia
 exists _,_,Z,Z;rw[show(λi j:Int=>V.int (i+j)) 1 (d0:Int)=V.int ((d0+1:Nat):Int)from yaF V.int (by lia)];generalize hN0:d0+1=N;have hN:N<=5:=by lia
 have hN1:1<=N:=by lia
 clear hN0 fJ
 try dsimp only[QL,Za,Zb,Q1]
 refine⟨_,Z,N,Z,λv H3 S3 DI=>?_⟩
 try dsimp only[QL,Za,Zb,Q1]
 refine⟨_,Z,λx dx hx NZ re=>?_⟩;have S4:Qn H3 (upd (upd H3 dx (.own x)) x (.ins C dx [])):=λb o e=>by rw[Qo (QB e hx),Qo (QB e NZ)];exact e
 refine⟨x,dx,v,aO N,Z,Qf,DI.same S4,QhT hN,by rw[NP];lia,(Hu hN).ok,λdq H5 fX A5 keep=>?_⟩;have S5:Qn H3 H5:=λb o e=>keep b o (S4 b o e) (QB e hx);refine⟨Z,bj,λq0 N0=>?_⟩;have S6:=Qn.new (o:=.tup [.int 0,.int 2]) N0;have g6:upd H5 q0 (.tup [.int 0,.int 2]) q0=some (.tup [.int 0,.int 2]):=Qf;refine⟨bj,λq1 sj=>?_⟩;have S7:=Qn.new (o:=.tup [.ref x,.ref q0]) sj;exists q1,_,Z,.inl (.inl Qf),Z,_,_,Z,_,_,Z,Z;have DQ:=S6.trans S7;have g7:=S7 _ _ g6
 change Zb _ _ _ _ (upd (upd H5 q0 (.tup [.int 0,.int 2])) q1 (.tup [.ref x,.ref q0]))
 generalize upd (upd H5 q0 (.tup [.int 0,.int 2])) q1 (.tup [.ref x,.ref q0])=H7 at S7 DQ g7 ⊢;have N1:∃o,H2 a=some (.bY o (.lst (ns.map V.int))):=⟨oa,A2 _ _ (S1 _ _ DO) B1.nat B1.cH⟩;have DR:=S5.trans DQ;have DV:=DI.same DR;have L7:aI C H7 H7 a t r ns 1 x v (aW (aO N)) 4 dq:=by
  obtain⟨o,h⟩:=N1;obtain⟨rs,T⟩:=B2.tw;exact⟨⟨o,DR _ _ (S3 _ _ h)⟩,⟨rs,(T.same S3).same DR⟩,oN,λ_ _ q=>q,A5.same DQ⟩
 clear S4 S5 S6 S7 DQ DR S3 keep A5 N1 hx NZ re fX g6 N0 sj DI B1 B2 A2 T1 S1;refine⟨8,Z,by lia,by lia,?_⟩;refine WW (FN (lo:=0) (n:=8)) (λi σ H'=>∃(y6 y7 y8 y9 DT DU Hz HB BQ:Option V)(s:List Nat)(us:Nat->Int)(qd:Addr)(c':Int),σ=[some (.ref a),some (.ref t),some (.int (N:Nat)),some v,some (.ref x),some (.ref qd),y6,y7,y8,y9,DT,DU,Hz,HB,BQ]/\aI C H7 H' a t r ns c' x v s (4+4*i) dq/\Cells N s us (Jy us N)/\H' qd=some (.tup [.int (Jy us N),.int 2])/\c'<=1+30*i) ⟨none,none,none,none,none,none,none,none,none,_,λ_=>0,q0,1,Z,L7,by rw[Hx];exact QgD N,by rw[Hx];exact g7,by lia⟩ ?_ ?_ ?_
 .intro i σ H6 _ _;trivial
 .rintro i iv σ H60 H' hi ⟨y6,y7,y8,y9,DT,DU,Hz,HB,BQ,s,us,qd,c',rfl,qLa,Ce,gd,hc⟩ ⟨rfl,rfl⟩
  try dsimp only[QL,Za,Zb,Q1]
  have hlen:=Ce.len;have Hd:∀s',s'.length=16*N+31->Hand H7 v s' (aO N):=λs' e=>⟨DV,Hu hN,by lia⟩;refine qLa.bag.draw rfl rfl (λR h=>⟨_,Z,h⟩) (by lia) (by lia) (by lia) λat_ H1 Op B1 A1=>?_;have Op:at_<N:=by lia
  obtain⟨iS,T1⟩:=B1.tw;have L1:=qLa.NX A1 T1;have sZ:H1 qd=some (.tup [.int (Jy us N),.int 2]):=A1 _ _ gd (λz=>by obtain⟨rs,T⟩:=qLa.tw;rw[z,T.tw]at gd;cases gd) (λz=>by obtain⟨rs,T⟩:=qLa.tw;rw[z,T.rt]at gd;cases gd);refine⟨_,Z,_,Z,a,t,r,ns,_,6,3,iS,Z,B1.sq,T1,B1.nat,B1.cH,B1.ln,by lia,by lia,by lia,by lia,by lia,λu o c2 TW H2 q1 hu ho0 ho3 sj g1 T2 df A2=>⟨_,_,Z,?_⟩⟩;have L2:=L1.NX A2 T2;have N2:H2 qd=some (.tup [.int (Jy us N),.int 2]):=A2 _ _ sZ (λz=>by rw[z,T1.tw]at sZ;cases sZ) (λz=>by rw[z,T1.rt]at sZ;cases sZ);clear A1 A2 B1 T1 T2 sZ qLa L1 gd
  try dsimp only[QL,Za,Zb,Q1]
  refine QV (Qm QF (Qm (QV (Qm QF (Qm (Xr Z .int) QU)) Z) (Qm QF QU))) rfl H2 (Qn.refl _) _ λwv H3 S3 Dw=>?_;have L3:=L2.same S3;have N3:=S3 _ _ N2;have g3:=S3 _ _ g1;clear L2 N2 g1;have Dw:ag H3 wv (Jz [("old",none),("rows",some at_),("part",none)]):=Dw
  try dsimp only[QL,Za,Zb,Q1]
  refine WJ L3 (Hd s hlen) rfl (Xr Z Dw) ((kK Op false).cast (show gB N false+8*at_=8*at_ by show 0+8*at_=_;lia)) (yae Z) (by show 8*at_+5<=_;lia) (YL (Ce.pt at_ Op) (Ce.bd at_ Op)) λqb H4 S4 hqb g4=>?_;have L4:=L3.same S4;have gd4:=S4 _ _ N3;have DX:=S4 _ _ g3;have Dw4:=Dw.same S4;clear L3 N3 g3 Dw hqb;obtain⟨px,hp,Hf,ul⟩:=Ki 0;obtain⟨nr,e1,e2,e3⟩:=ul rfl;have M4:cb K H4 q1 u o:=⟨aw.of DX,ybu hu (by lia),ho0,by lia⟩;refine⟨_,Z,vn 0,q1,u,o,by rw[show("S9(3)V99":Str)=tx (vn 0)from YG 0];rfl,XS 0,M4,.inr ⟨px,hp,nr,λH5 S5=>?_⟩⟩;have L5:=L4.same S5;have HC:=S5 _ _ gd4;have g5:=S5 _ _ g4;have M5:=M4.same S5;have BR:=Dw4.same S5;rw[e1,e2,e3];have RP:=(kK Op false).cast (show gB N false+8*at_=8*at_ by show 0+8*at_=_;lia);refine⟨λz=>?_,λz=>?_⟩
  .refine jb (K:=K) L5 (Hd s hlen) (by lia) rfl (Xr Z BR) rfl M5 RP (yae Z) (by show 8*at_+5<=_;lia) rfl (λ_ H6 S6=>?_) (λz2=>absurd z (Nat.not_le.mpr z2));refine⟨_,Z,Z,false,Z,QO ?_⟩;refine⟨_,Z,false,Z,QZ ?_⟩;refine WJ (L5.same S6) (Hd s hlen) rfl (Xr Z (BR.same S6)) RP (yae Z) (by show 8*at_+5<=_;lia) (YL (Ce.pt at_ Op) (Ce.bd at_ Op)) λq8 H8 S8 sV g8=>?_;have HE:=S6.trans S8;refine⟨_,Z,.tup [.int (us at_),.int 2],.tup [.int (us at_),.int 2],.tup g8 (.cons .int (.cons .int .nil)),.tup (HE _ _ g5) (.cons .int (.cons .int .nil)),yae rfl,false,by rw[yai rfl,Dv.Xz];rfl,QO ?_⟩;refine⟨_,Z,false,Z,QO ?_⟩;exact⟨_,_,_,_,_,_,_,_,_,s,us,qd,c2,Z,(L5.same HE).mono (by lia),Ce,HE _ _ HC,by push_cast;lia⟩
  .refine jb (K:=K) L5 (Hd s hlen) (by lia) rfl (Xr Z BR) rfl M5 RP (yae Z) (by show 8*at_+5<=_;lia) rfl (λz2=>absurd z2 (Nat.not_le.mpr z)) (λ_ H6 L6 K6=>?_);refine⟨_,Z,Z,false,Z,QO ?_⟩;refine⟨_,Z,true,Z,QO ?_⟩;refine⟨_,Z,true,Z,QZ ?_⟩
   try dsimp only[QL,Za,Zb,Q1]
   obtain⟨dx,fs,uq,ds,HF,F5,BS,l5⟩:=L5.ar.ob;have DZ:=K6.qK BS;have gd6:=DZ _ _ HC;have g6:=DZ _ _ g5;have Dw6:=BR.keep DZ;have hv:(ax.Xt u o 2).natAbs<10^5:=z;have L6:aI C H7 H6 a t r ns c2 x v (lay s (8*at_) (cont true 3 2 (ax.Xt u o 2) 2)) (4+4*i+2) dq:=L6;have fZ:=Ce.part Op hv;generalize ax.Xt u o 2=nu at hv L6 fZ;have hb0:=Ce.bd at_ Op;have hsu:=qY Ce.bd;have N4:=kO us at_ nu N;rw[yai Op]at N4;have hsu2:=qY fZ.bd;have hN5:N*10^5<=5*10^5:=ycI _ hN;clear L5 K6 DZ HC g5 BR z M5 BS F5 HF;have pw:2^200>10^9:=by lia
   exists _,Z;refine WJ L6 (Hd _ fZ.len) rfl (Xr Z Dw6) RP (yae Z) (by have:=fZ.len;show 8*at_+5<=_;lia) (YL (fZ.pt at_ Op) (fZ.bd at_ Op)) λq8 H8 S8 sV g8=>?_;simp only[ybN]at g8;refine⟨qd,q8,Jy us N,2,nu,2,Z,⟨aw.of (S8 _ _ gd6),by lia,by lia,by lia⟩,⟨aw.of g8,by lia,by lia,by lia⟩,λq9 H9 z9 S9 oB g9 e9=>?_⟩;have D0:mx 2 2=2:=rfl;have t0:ax.aJ ((2:Int)-2)=1:=by lia
   rw[D0]at g9 e9;rw[t0]at e9;have e9:z9=Jy us N*1+nu*1:=e9;have HG:=S9 _ _ (S8 _ _ g6);refine⟨_,Z,qb,_,0,_,Z,Z,.inl HG,Z,_,_,Z,Z,_,Z,qb,_,1,_,Z,Z,.inl HG,Z,bj,λFu HH=>?_⟩;have i0:=Qn.new (o:=.tup [.int (0-us at_),.int 2]) HH;refine⟨q9,Fu,z9,2,0-us at_,2,Z,⟨aw.of (i0 _ _ g9),by lia,by lia,by lia⟩,⟨aw.of Qf,by lia,by lia,by lia⟩,λq11 H11 N5 D6 hq11 HI BU=>?_⟩;rw[D0]at HI BU;rw[t0]at BU;have BU:N5=z9*1+(0-us at_)*1:=BU;have ez:N5=Jy (λj=>if j=at_ then nu else us j) N:=by rw[N4];lia
   have N6:=((S8.trans S9).trans i0).trans D6;subst ez;clear BU e9 HG
   try dsimp only[QL,Za,Zb,Q1]
   have oQ:(Jy (λj=>if j=at_ then nu else us j) N).natAbs<10^8:=by lia
   have RS:=(BO N false).cast (show gB N false+8*N=8*N by show 0+8*N=_;lia);refine jb (K:=K) (L6.same N6) (Hd _ fZ.len) (by lia) rfl (QV (Qm QF (Qm QF QU)) Z) rfl ⟨aw.of HI,by lia,by lia,by lia⟩ RS (yae Z) (by have:=fZ.len;show 8*N+8<=_;lia) rfl (λz2=>?_) (λ_ N7 i4 K12=>?_)
   .have z2:10^8<=(ax.Xt (Jy (λj=>if j=at_ then nu else us j) N) 2 2).natAbs:=z2;rw[NY]at z2;lia
   .refine⟨true,Z,false,Z,QO ?_⟩;have i4:aI C H7 N7 a t r ns c2 x v (lay (lay s (8*at_) (cont true 3 2 nu 2)) (8*N) (cont true 6 2 (ax.Xt (Jy (λj=>if j=at_ then nu else us j) N) 2 2) 2)) (4+4*i+2+2) dq:=i4;rw[NY]at i4;obtain⟨dx2,sI,uq2,ds2,N8,F6,BV,l6⟩:=(L6.same N6).ar.ob;exact⟨_,_,_,_,_,_,_,_,_,_,_,q11,c2,Z,i4.mono (by lia),fZ.sum,K12.qK BV _ _ HI,by push_cast;lia⟩
 .rintro σ H' ⟨y6,y7,y8,y9,DT,DU,Hz,HB,BQ,s,us,qd,c',rfl,qLa,Ce,gd,hc⟩
  try dsimp only[QL,Za,Zb,Q1]
  have hlen:=Ce.len;have Hd:∀s',s'.length=16*N+31->Hand H7 v s' (aO N):=λs' e=>⟨DV,Hu hN,by lia⟩;refine Wy ?_;refine⟨_,Z,(N:Nat),Z,by lia,by lia,?_⟩;rw[lH];have hc0:=hc;have hsu:=qY Ce.bd;have hN5:N*10^5<=5*10^5:=ycI _ hN;have oQ:(Jy us N).natAbs<10^8:=by lia
  refine WX (fv:=[.ref x]) (FN (lo:=0) (n:=N)) ((List.range N).map λi=>.tup [.int (us i),.int 2]) (by simp) (λR h=>h H' (Qn.refl _)) rfl (λ_ _=>trivial) ?_ ?_ (by lia)
  .intro i v0 H1 H2 d RR hd S1 hit BH;obtain⟨rfl,hv⟩:=hit;rw[Int.zero_add]at hv;subst hv;have hi:i<N:=by
    have:=(yaf.mp hd).1;simpa using this
   have ed:d=.tup [.int (us i),.int 2]:=by
    rw[lg,ydY hi]at hd;exact(tO hd).symm
   subst ed;exists Z;exact WJ (qLa.same S1) (Hd s hlen) rfl (QV (Qm QF (Qm (QV (Qm QF (Qm (Xr Z .int) QU)) Z) (Qm QF QU))) Z) ((kK hi false).cast (show gB N false+8*i=8*i by show 0+8*i=_;lia)) (yae Z) (by show 8*i+5<=_;lia) (YL (Ce.pt i hi) (Ce.bd i hi)) λq H3 S3 hq g3=>BH _ _ S3 (.tup g3 (.cons .int (.cons .int .nil)))
  .intro xs H1 lp S1 DP D8;have S2:=Qn.new (o:=.lst xs) D8;have gp:upd H1 lp (.lst xs) lp=some (.lst xs):=Qf;obtain⟨dx,fs,uq,ds,HF,F5,BS,l5⟩:=qLa.ar.ob;have np:lp≠dq:=λz=>by rw[z,S1 _ _ BS]at D8;cases D8
   have D9:=DP.same S2;have cr:=S1.trans S2
   try dsimp only[QL,Za,Zb,Q1]
   have LP:=qLa.same cr;generalize upd H1 lp (.lst xs)=H2 at S2 gp D9 cr LP ⊢;have fN:xs.length=N:=by rw[DP.length];simp
   clear qLa S1 S2 DP D8 BS F5 HF l5 cr;refine⟨bj,λqw N9=>?_⟩;have S3:=Qn.new (o:=.tup [.int 0,.int 2]) N9;exists _,Z,lp,Z,⟨_,.inl (.inl (S3 _ _ gp))⟩;refine WW (FL (K:=K) (a:=lp) (xs:=xs)) (λi σ H'=>∃(BQ:Option V)(qw:Addr),σ=[some (.ref a),some (.ref t),some (.int (N:Nat)),some v,some (.ref x),some (.ref qd),y6,y7,y8,y9,DT,DU,some (.ref lp),some (.ref qw),BQ]/\Qn H2 H'/\H' qw=some (.tup [.int (Jy us i),.int 2])) ⟨_,qw,Z,S3,Qf⟩ ?_ ?_ ?_
   .rintro i σ H4 hi ⟨BW,Aa,rfl,S4,_⟩;exact .inl (.inl (S4 _ _ gp))
   .rintro i v0 σ H4 H5 hi ⟨BW,Aa,rfl,S4,g4⟩ ⟨rfl,hv⟩;have hi:i<N:=by lia
    obtain⟨d,hd,Dd⟩:=D9.zM hv;rw[lg,ydY hi]at hd;obtain rfl:=tO hd;obtain⟨pa,ps,rfl,gpa,BX⟩:=ag.Ud (Dd.same S4);cases BX with
    |cons p1 BX=>cases BX with
     |cons p2 BX=>
      cases BX;obtain rfl:=p1.l9;obtain rfl:=p2.l9;have hb0:=Ce.bd i hi;have hsi:=qY (us:=us) (N:=i) λj hj=>Ce.bd j (by lia);have hi5:i*10^5<=5*10^5:=ycI _ (by lia);have pw:2^200>10^9:=by lia
      refine⟨_,Z,_,Z,Aa,pa,Jy us i,2,us i,2,Z,⟨aw.of g4,by lia,by lia,by lia⟩,⟨aw.of gpa,by lia,by lia,by lia⟩,λq9 H9 z9 S9 oB g9 e9=>?_⟩;have D0:mx 2 2=2:=rfl;have t0:ax.aJ ((2:Int)-2)=1:=by lia
      rw[D0]at g9 e9;rw[t0]at e9;have e9:z9=Jy us i*1+us i*1:=e9;have e9:z9=Jy us (i+1):=by rw[Jy];lia
      subst e9;exact⟨_,q9,Z,S4.trans S9,g9⟩
   .rintro σ H4 ⟨BW,Aa,rfl,S4,g4⟩;rw[fN]at g4
    try dsimp only[QL,Za,Zb,Q1]
    have L4:=LP.same S4;have N':=S4 _ _ gp;have Oa:=D9.same S4;have pw:2^200>10^9:=by lia
    have RS:=(BO N false).cast (show gB N false+8*N=8*N by show 0+8*N=_;lia);have RB:=(kL N false).cast (show gB N false+8*N=8*N by show 0+8*N=_;lia);clear LP gp D9 S4 S3 N9;exists _,Z;refine WJ L4 (Hd s hlen) rfl (QV (Qm QF (Qm QF QU)) Z) RS (yae Z) (by show 8*N+8<=_;lia) (Hv Ce.sm oQ) λq5 H5 S5 oA g5=>?_;refine⟨Aa,q5,Jy us N,2,Jy us N,2,Z,⟨aw.of (S5 _ _ g4),by lia,by lia,by lia⟩,⟨aw.of g5,by lia,by lia,by lia⟩,λH6 S6=>?_⟩;rw[tM rfl];refine⟨true,Z,QO ?_⟩;have BY:=S5.trans S6;have L6:=L4.same BY;have Ob:=BY _ _ g4;have Oc:=BY _ _ N';have Od:=Oa.same BY;clear L4 N' Oa BY S6 S5 g5 oA g4;have lse:=(qZ oQ).2;refine xx L6 (Hd s hlen) (by lia) rfl (QV (Qm QF (Qm QF QU)) Z) (QV (Qm QF QU) Z) RS (yae Z) (by show 8*N+8<=_;lia) (Ht N) (yae Z) (by show 16*N+16+12<=_;lia) (QeZ Ce oQ) λH8 L8 K8=>?_
    try dsimp only[QL,Za,Zb,Q1]
    obtain⟨dx6,fs6,uq6,ds6,N8,F6,BV,l6⟩:=L6.ar.ob;have HJ:=K8.qK BV _ _ Ob;have Oe:=K8 _ _ Oc np (λ_ _ _ z=>nomatch z);have Of:=Od.keep (K8.qK BV);have HK:part (lay s (16*N+16) (putL 4 (Jy us N) 2)) (16*N+16) 12=putL 4 (Jy us N) 2:=by
     have:=Ky (s:=s) (t:=putL 4 (Jy us N) 2) (n:=16*N+16) (by lia);rw[lse]at this;exact this
    have Og:∀m k,m+k<=16*N+16->part (lay s (16*N+16) (putL 4 (Jy us N) 2)) m k=part s m k:=λm k h=>Zk (by lia) (.inl h);have Ab:(lay s (16*N+16) (putL 4 (Jy us N) 2)).length=16*N+31:=by rw[Kk (by lia)];exact hlen
    generalize lay s (16*N+16) (putL 4 (Jy us N) 2)=s8 at L8 HK Og Ab;clear L6 K8 Ob Oc Od BV F6 N8 l6;refine WJ L8 (Hd s8 Ab) rfl (QV (Qm QF QU) Z) (Ht N) (yae Z) (by show 16*N+16+12<=_;lia) (show c6 4 (part s8 (16*N+16) 12) (Jy us N) 2 from HK▸(qZ oQ).1) λq9 H9 S9 oB g9=>?_;refine⟨_,Z,q9,Aa,Jy us N,2,Jy us N,2,Z,⟨aw.of g9,by lia,by lia,by lia⟩,⟨aw.of (S9 _ _ HJ),by lia,by lia,by lia⟩,λAQ i0=>?_⟩;rw[tM rfl];refine⟨true,Z,QO ?_⟩;have HL:=S9.trans i0;refine Up (L8.same HL) (Hd s8 Ab) rfl (QV (Qm QF (Qm QF QU)) Z) RB (yae Z) (by show 8*N+8<=_;lia) λH11 D6=>?_;have HM:=HL.trans D6;refine Up (L8.same HM) (Hd s8 Ab) rfl (QV (Qm QF (Qm QF QU)) Z) RS (yae Z) (by show 8*N+8<=_;lia) λN7 cr=>?_;have BZ:=HM.trans cr;refine⟨Z,false,by show V.bl (!decide (V.str (tx (part s8 (8*N) 8))=V.str (tx (part s8 (8*N) 8))))=_;rw[tM rfl];rfl,QO ?_⟩;have i4:=L8.same BZ;have B0:=BZ _ _ HJ;have B6:=BZ _ _ Oe;have B7:=Of.same BZ;clear L8 HJ Oe Of HL HM BZ S9 i0 D6 cr g9 oB;have lsh:=(ja (Jy us N)).2;refine xx i4 (Hd s8 Ab) (by lia) rfl (QV (Qm QF QU) Z) (QV (Qm QF QU) Z) (Ht N) (yae Z) (by show 16*N+16+12<=_;lia) (NU N) (yae Z) (by show 16*N+28+3<=_;lia) (Qcw oQ HK) λH13 D' Ea=>?_
    try dsimp only[QL,Za,Zb,Q1]
    obtain⟨dx7,fs7,uq7,ds7,hx7,F7,HN,l7⟩:=i4.ar.ob;have B8:=Ea.qK HN _ _ B0;have B9:=Ea _ _ B6 np (λ_ _ _ z=>nomatch z);have B':=B7.keep (Ea.qK HN);have oR:part (lay s8 (16*N+28) (putL 5 (Jy us N) 2)) (16*N+28) 3=putL 5 (Jy us N) 2:=by
     have:=Ky (s:=s8) (t:=putL 5 (Jy us N) 2) (n:=16*N+28) (by lia);rw[lsh]at this;exact this
    have ic:∀m k,m+k<=16*N+16->part (lay s8 (16*N+28) (putL 5 (Jy us N) 2)) m k=part s m k:=λm k h=>by rw[Zk (by lia) (.inl (by lia)),Og m k h]
    have d5:(lay s8 (16*N+28) (putL 5 (Jy us N) 2)).length=16*N+31:=by rw[Kk (by lia)];exact Ab
    generalize lay s8 (16*N+28) (putL 5 (Jy us N) 2)=cK at D' oR ic d5;clear i4 Ea B0 B6 B7 HN F7 hx7 l7;refine WJ D' (Hd cK d5) rfl (QV (Qm QF QU) Z) (NU N) (yae Z) (by show 16*N+28+3<=_;lia) (show c6 5 (part cK (16*N+28) 3) (((Jy us N).natAbs/100 % 1000:Nat):Int) 0 from oR▸(ja (Jy us N)).1) λq14 Oh sw HP DX=>?_;exists _,Z,Aa,_,0,_,Z,Z,.inl (sw _ _ B8),Z,_,Z;have Oi:((if Jy us N<0 then-Jy us N else Jy us N)/100 % 1000:Int)=(((Jy us N).natAbs/100 % 1000:Nat):Int):=by
     have:(if Jy us N<0 then-Jy us N else Jy us N)=((Jy us N).natAbs:Int):=by split<;>lia
     rw[this];push_cast;rfl
    refine⟨_,_,Z,Z,?cdiv,_,_,Z,Z,(show(0:Int)<1000 by lia),bj,λOj Ca=>?_⟩
    case cdiv=>unfold Ez;first|exact⟨by lia,by lia⟩|exact⟨by lia,by lia⟩|lia|decide
    have Bk:=Qn.new (o:=.tup [.int ((if Jy us N<0 then-Jy us N else Jy us N)/100 % 1000),.int 0]) Ca;refine⟨.tup [.int (((Jy us N).natAbs/100 % 1000:Nat):Int),.int 0],.tup [.int ((if Jy us N<0 then-Jy us N else Jy us N)/100 % 1000),.int 0],.tup (Bk _ _ DX) (.cons .int (.cons .int .nil)),.tup Qf (.cons .int (.cons .int .nil)),yae rfl,false,by rw[Oi,yai rfl,Dv.Xz];rfl,QO ?_⟩;have lw:=sw.trans Bk;have Eb:=D'.same lw;have oU:=lw _ _ B9;have oW:=B'.same lw
    try dsimp only[QL,Za,Zb,Q1]
    change Iu _ _ _ (upd Oh Oj (.tup [.int ((if Jy us N<0 then-Jy us N else Jy us N)/100 % 1000),.int 0]))
    generalize upd Oh Oj (.tup [.int ((if Jy us N<0 then-Jy us N else Jy us N)/100 % 1000),.int 0])=H15 at Eb oU oW ⊢;clear lw D' B9 B' sw Bk DX HP Oi Ca B8;refine xx Eb (Hd cK d5) (by lia) rfl (QV (Qm QF QU) Z) (QV (Qm QF QU) Z) (zm N false) (yae Z) (by show 0+aE (aM N)<=_;rw[Vg];lia) (zm N true) (yae Z) (by show 8*N+8+aE (aM N)<=_;rw[Vg];lia) (Qcx hN d5) λOl Ac HQ=>?_
    try dsimp only[QL,Za,Zb,Q1]
    obtain⟨dx8,fs8,uq8,ds8,hx8,F8,Om,l8⟩:=Eb.ar.ob;have Cb:=HQ _ _ oU np (λ_ _ _ z=>nomatch z);have Cc:=oW.keep (HQ.qK Om);have Ac:aI C H7 Ol a t r ns c' x v (lay cK (8*N+8) (part cK 0 (8*N+8))) _ dq:=Ac;have HS:(part cK 0 (8*N+8)).length=8*N+8:=qX (by lia);have oX:∀m k,m+k<=8*N+8->part (lay cK (8*N+8) (part cK 0 (8*N+8))) m k=part s m k:=λm k h=>by rw[Zk (by lia) (.inl h),ic m k (by lia)]
    have oY:∀m k,m+k<=8*N+8->part (lay cK (8*N+8) (part cK 0 (8*N+8))) (8*N+8+m) k=part s m k:=λm k h=>by rw[QeX (by lia) (by lia),QaQ h,ybU,ic m k (by lia)]
    have ie:(lay cK (8*N+8) (part cK 0 (8*N+8))).length=16*N+31:=by rw[Kk (by lia)];exact d5
    generalize lay cK (8*N+8) (part cK 0 (8*N+8))=oZ at Ac oX oY ie;clear Eb HQ oU oW Om F8 hx8 l8 oR ic HS;unfold Ai k8 cg;dsimp only;refine Wy ?_;refine⟨_,Z,(N:Nat),Z,by lia,by lia,?_⟩;rw[lH];refine WX (fv:=[.ref x]) (FN (lo:=0) (n:=N)) ((List.range N).map λi=>.tup [.int (us i),.int 2]) (by simp) (λR h=>h Ol (Qn.refl _)) rfl (λ_ _=>trivial) ?_ ?_ (by lia)
    .intro i v0 H1 H2 d RR hd S1 hit BH;obtain⟨rfl,hv⟩:=hit;rw[Int.zero_add]at hv;subst hv;have hi:i<N:=by
      have:=(yaf.mp hd).1;simpa using this
     have ed:d=.tup [.int (us i),.int 2]:=by
      rw[lg,ydY hi]at hd;exact(tO hd).symm
     subst ed;exists Z;exact WJ (Ac.same S1) (Hd oZ ie) rfl (QV (Qm QF (Qm (QV (Qm QF (Qm (Xr Z .int) QU)) Z) (Qm QF QU))) Z) ((kK hi true).cast (show gB N true+8*i=8*N+8+8*i from Z)) (yae Z) (by show 8*N+8+8*i+5<=_;lia) (YL ((oY (8*i) 5 (by lia)).trans (Ce.pt i hi)) (Ce.bd i hi)) λq H3 S3 hq g3=>BH _ _ S3 (.tup g3 (.cons .int (.cons .int .nil)))
    .intro HU H17 Oo Oq Cd Cf;have HV:=Qn.new (o:=.lst HU) Cf;have ig:=Oq.trans HV;refine⟨_,Z,Oo,lp,HU,xs,_,_,Z,Z,(.inl (.inl Qf)),(.inl (.inl (ig _ _ Cb))),Cd.same HV,Cc.same ig,?dp,false,by rw[Dv.V9];rfl,QO ?_⟩
     case dp=>exact QaS λd hd=>by obtain⟨j,_,rfl⟩:=yaY.mp hd;exact yae rfl
     have HW:=Ac.same ig
     try dsimp only[QL,Za,Zb,Q1]
     generalize upd H17 Oo (.lst HU)=H18 at HW ⊢;clear Ac Cb Cc Oq HV ig Cd Cf;have RB2:=(kL N true).cast (show gB N true+8*N=16*N+8 by show 8*N+8+8*N=_;lia);have RS2:=(BO N true).cast (show gB N true+8*N=16*N+8 by show 8*N+8+8*N=_;lia);refine Qe0 (tt:=[48,48,48,48,48,48,48,113]) HW (Hd oZ ie) (by lia) rfl (QV (Qm QF (Qm QF QU)) Z) RB2 (yae Z) (by show 16*N+8+8<=_;lia) (λH1 R h=>⟨_,_,Z,Z,(by rfl'),h⟩) rfl λH19 Ec K19=>?_
     try dsimp only[QL,Za,Zb,Q1]
     have Cg:part (lay oZ (16*N+8) [48,48,48,48,48,48,48,113]) (16*N+8) 8=[48,48,48,48,48,48,48,113]:=Ky (by lia);have ij:∀m k,m+k<=16*N+8->part (lay oZ (16*N+8) [48,48,48,48,48,48,48,113]) m k=part oZ m k:=λm k h=>Zk (by show 16*N+8+8<=_;lia) (.inl h);have Re:(lay oZ (16*N+8) [48,48,48,48,48,48,48,113]).length=16*N+31:=by rw[Kk (by show 16*N+8+8<=_;lia)];exact ie
     generalize lay oZ (16*N+8) [48,48,48,48,48,48,48,113]=BT at Ec Cg ij Re;clear HW K19;refine WJ Ec (Hd BT Re) rfl (QV (Qm QF (Qm QF QU)) Z) RS2 (yae Z) (by show 16*N+8+8<=_;lia) (show c6 2 (part BT (16*N+8) 8) (-1) 2 from Cg▸Qcv) λq20 Nd Ot HX Ou=>?_;refine⟨_,Z,bj,λq21 Ci=>?_⟩;have HY:=Qn.new (o:=.tup [.int (-1),.int 2]) Ci;refine⟨.tup [.int (-1),.int 2],.tup [.int (-1),.int 2],.tup (HY _ _ Ou) (.cons .int (.cons .int .nil)),.tup Qf (.cons .int (.cons .int .nil)),yae rfl,false,by rw[yai rfl,Dv.Xz];rfl,QO ?_⟩;have Ef:=Ec.same (Ot.trans HY)
     try dsimp only[QL,Za,Zb,Q1]
     have w8:Jn (.aL (gN false) (aM N))=8*N+8:=Vg N;have w9:Jn (.aL (gN true) (aM N))=8*N+8:=Vg N;generalize upd Nd q21 (.tup [.int (-1),.int 2])=H21 at Ef ⊢;clear Ot HY Ec Ou HX Ci;have ae:part BT 0 (8*N+8)=part s 0 (8*N+8):=by rw[ij _ _ (by lia),oX _ _ (by lia)]
     have be:part BT (8*N+8) (8*N)=part s 0 (8*N):=by rw[ij _ _ (by lia), <-oY 0 (8*N) (by lia)]
     refine Up Ef (Hd BT Re) rfl (QV (Qm QF QU) Z) (zm N false) (yae Z) (by rw[w8];show 0+(8*N+8)<=_;lia) λH22 Ov=>?_;rw[w8];have Ow:∀m,m+(8*N+8)<=16*N+31->(tx (part BT m (8*N+8))).length<=sizeLine:=λm hm=>by rw[Qu,qX (by lia)];lia
     refine⟨_,Z,8,(N:Nat),Z,Z,.inl ⟨by lia,by lia⟩,_,Z,_,Z,Ow 0 (by lia),?_⟩;refine Up (Ef.same Ov) (Hd BT Re) rfl (QV (Qm QF QU) Z) (zm N true) (yae Z) (by rw[w9];show 8*N+8+(8*N+8)<=_;lia) λH23 S23=>?_;rw[w9];refine⟨_,Z,8,(N:Nat),Z,Z,.inl ⟨by lia,by lia⟩,_,Z,_,Z,Ow (8*N+8) (by lia),?_⟩;have e8:((8:Int)*(N:Nat))=((8*N:Nat):Int):=by push_cast;rfl
     have t8:∀m,(part BT m (8*N+8)).take (8*N)=part BT m (8*N):=λm=>by unfold part;rw[List.take_take,ybd (by lia)]
     have sl:∀m,sliceText (tx (part BT m (8*N+8))) none (some ((8:Int)*(N:Nat)))=tx (part BT m (8*N)):=λm=>by rw[e8,Qcz,t8]
     have ee:V.str (sliceText (tx (part BT 0 (8*N+8))) none (some ((8:Int)*(N:Nat))))=V.str (sliceText (tx (part BT (8*N+8) (8*N+8))) none (some ((8:Int)*(N:Nat)))):=by rw[sl,sl,be, <-t8 0,ae];unfold part;rw[List.take_take,ybd (by lia)]
     refine⟨Z,false,by show V.bl (!decide (V.str (sliceText (tx (part BT 0 (8*N+8))) none (some ((8:Int)*(N:Nat))))=V.str (sliceText (tx (part BT (8*N+8) (8*N+8))) none (some ((8:Int)*(N:Nat))))))=_;rw[tM ee];rfl,QO ?_⟩;clear e8 t8 sl ee;have L23:=Ef.same (Ov.trans S23);have ed:part BT (8*N) 8=cont true 6 2 (Jy us N) 2:=by rw[ij _ _ (by lia),oX _ _ (by lia)];exact Ce.sm
     refine Qcy L23 (Hd BT Re) (by lia) rfl (QV (Qm QF QU) Z) (QV (Qm QF QU) Z) (zm N false) (yae Z) (by rw[Vg];show 0+(8*N+8)<=_;lia) (zm N true) (yae Z) (by rw[Vg];show 8*N+8+(8*N+8)<=_;lia) ?w1 ?w2 ?w3 (QhU N) ?w5 (alike hN Re oQ ed) λH24 Ox K24=>?_
     case w1=>unfold aM je;simp only[aS,sT,Ly.wt];lia
     case w2=>unfold aM je;simp only[bu,dY,Ly.bU,and_true,true_and];lia
     case w3=>rw[BP];lia
     case w5=>rw[BP];intro w hw;simp only[yak,yaL,ycs]at hw;rcases hw with rfl|rfl<;>exact⟨yae rfl,yae rfl⟩
     rw[BP];refine⟨Z,true,Z,QZ ?_⟩;have l8:(cont true 6 2 (Jy us N) 2).length=8:=(Z9 true (Jy us N) 2 (by lia)).2.2.1;have Cj:(lay BT (16*N+8) (cont true 6 2 (Jy us N) 2)).length=16*N+31:=by rw[Kk (by lia)];exact Re
     refine Up Ox (Hd _ Cj) rfl (QV (Qm QF QU) Z) (zm N false) (yae Z) (by rw[w8];show 0+(8*N+8)<=_;lia) λH25 S25=>?_;refine Up (Ox.same S25) (Hd _ Cj) rfl (QV (Qm QF QU) Z) (zm N true) (yae Z) (by rw[w9];show 8*N+8+(8*N+8)<=_;lia) λH26 S26=>?_;rw[w8,w9];have ee:V.str (tx (part (lay BT (16*N+8) (cont true 6 2 (Jy us N) 2)) 0 (8*N+8)))=V.str (tx (part (lay BT (16*N+8) (cont true 6 2 (Jy us N) 2)) (8*N+8) (8*N+8))):=by
      congr 2
      have h1:part (lay BT (16*N+8) (cont true 6 2 (Jy us N) 2)) (16*N+8) 8=cont true 6 2 (Jy us N) 2:=by
       have:=Ky (s:=BT) (t:=cont true 6 2 (Jy us N) 2) (n:=16*N+8) (by lia);rw[l8]at this;exact this
      rw[Zk (by lia) (.inl (by lia)),kU (n:=8*N+8),Zk (by lia) (.inl (by lia)),be,show 8*N+8+8*N=16*N+8 by lia,h1,ae,kU,ybU,Ce.sm]
     exists Z;show Q (V.bl (decide (V.str (tx (part (lay BT (16*N+8) (cont true 6 2 (Jy us N) 2)) 0 (8*N+8)))=V.str (tx (part (lay BT (16*N+8) (cont true 6 2 (Jy us N) 2)) (8*N+8) (8*N+8)))))) _;rw[tM ee];exact k _
end
end
end Lw
namespace L2
open PySem PySem.Spec PyProof.Rows
def kW{K:Frag}{xs:List V}{n:Nat}{ge:Array (Option Value)}(l:K.lookup a=some ⟨.type "tuple",od,.seq its n,ge⟩)(z:its.size<=sizeLine)(v:Vals xs its.toList)(H:Hp):aw K H a xs:=.inr ⟨_,its,n,l,Z,Z,z,v⟩
def QaU{K:Frag}{h1 h2:Int}{x1 x2 y1 y2:Str}{t1 t2 u1 u2:Tok}{n:Nat}(ne:(a==sysModules)=false)(l:K.lookup a=some ⟨.type "dict",none,.dict #[⟨h1,.str x1 t1,.str y1 u1⟩,⟨h2,.str x2 t2,.str y2 u2⟩] n, #[]⟩)(e1:h1=eZ w (.inr x1))(e2:h2=eZ w (.inr x2))(hx:x1≠x2):aD P w K a [(Sum.inr x1,.str y1),(Sum.inr x2,.str y2)]:=by
 refine⟨ne,λh KX=>⟨[(Sum.inr x1,.str y1 u1),(Sum.inr x2,.str y2 u2)],.cons ⟨Z,_,Z⟩ (.cons ⟨Z,_,Z⟩ .nil),_,_,_,KX a _ l,⟨Z,Z,Z⟩,Z,λe he=>?_,.cons (Ju P w x1 t1) rfl (.cons (Ju P w x2 t2) Z .nil),?_⟩⟩
 .have he:e=⟨h1,.str x1 t1,.str y1 u1⟩\/e=⟨h2,.str x2 t2,.str y2 u2⟩:=by simpa using he
  rcases he with rfl|rfl
  .exact⟨_,Ju P w x1 t1,e1⟩
  .exact⟨_,Ju P w x2 t2,e2⟩
 .have hk:¬ (Sum.inr x1:Key)=Sum.inr x2:=λq=>hx (ydN q);simp[hk]
end L2
namespace Lw
open PySem PySem.Spec PyProof.Rows L2 bW bt dW cU He
def all_mk{l:PySem.W.OpenLaw}{w:World}{K:Frag}{h:Heap}{ca:Value}{fa fl R0 R1 R2 R3 R4 R5 R6 R7 R8 R9 c7 c8 CR C0 C1 C2 C5 C6 C7 C8 C9 Eg Eh HZ:Addr}{t0 t1 t2 t3 t4 t5 t6 t7 t8 t9:Tok}{oc kV doc pm ct:Value}{od an:Option Addr}{ge:Array (Option Value)}(X:K.In h)(G:h.Ns mainGlobals mg)(hfa:mg "law"=some (.ref fa))(rq:ai K "ten_to" UX)(nv:ai K "is_figures" X6)(nX:ai K "number_of" KP)(pD:ai K "times_at" W2)(pT:ai K "rows_of" Yg)(nY:ai K "floats_at" KR)(nZ:ai K "places_of" KS)(ny:ai K "whole_part" X8)(mV:ai K "broken_part" XH)(pU:ai K "lead_of" Yh)(pV:ai K "tail_of" Yj)(mD:ai K "number_facts" Xc)(mW:ai K "plain_facts" XG)(pW:ai K "body_of" Yi)(mE:ai K "edited_facts" Xe)(pE:ai K "facts_of" W3)(nz:ai K "understood" Z2)(pX:ai K "kind_of" WC)(mF:ai K "quotient_cut" Xh)(uE:ai K "cut" Gn)(rA:ai K "fitted" U4)(nA:ai K "figures_of" X7)(mj:ai K "understood_as" J7)(mX:ai K "written_out" XE)(pY:ai K "size_of" WD)(n4:ai K "sign_text" KU)(mG:ai K "hides_nought" Xi)(mY:ai K "nought_text" XI)(rB:ai K "spread" U5)(n5:ai K "hidden_in" KZ)(n6:ai K "body_text" KY)(mH:ai K "edited_parts" Xf)(rC:ai K "edited" Vx)(nB:ai K "content_of" Z5)(n8:ai K "amount_in" XJ)(mZ:ai K "read_edited" ZD)(ue:ai K "bare" yX)(pF:ai K "signs_in" W4)(pG:ai K "is_whole" W5)(nC:ai K "step_parts" Ka)(nE:ai K "last_first" X9)(ma:ai K "ahead_in_table" JR)(pZ:ai K "item_at" WE)(rN:ai K "found" U0)(rO:ai K "where" zS)(md:ai K "paths_of_boxes" Zu)(uF:ai K "put" De)(rP:ai K "blank" zV)(gJ:ai K "signs_at_beginning" JN)(p0:ai K "as_text" Yq)(m3:ai K "amount_from" ZE)(mI:ai K "figures_from" Xk)(p7:ai K "rounded" Yk)(rQ:aN K "move" x9 "right" (.bool false))(pH:ai K "lined_up" W7)(uf:ai K "same" s_same)(rR:ai K "added" zU)(pA:aN K "stored" Vy "nearest" (.bool false))(n9:ai K "_law_draw" K7)(nF:ai K "_law_begun" Kf)(nG:ai K "with_signs" Ke)(nH:ai K "check_kind" Z8)(pf:MethAt K CR "__init__" "Area.__init__" ZQ)(p8:MethAt K CR "change" "Area.change" XO)(ug:MethAt K CR "get" "Area.get" W8)(p9:MethAt K CR "amount" "Area.amount" ZF)(rS:MethAt K CR "load" "Area.load" XM)(dmD_store:MethAtD K CR "store" "Area.store" Z7 "nearest" (.bool false))(ph:ai K "with_move" XQ)(bS:MethAtD K CR "move" "Area.move" XN "right" (.bool false))(m4:ai K "boxes_alike" J8)(m5:MethAt K CR "move_alike" "Area.move_alike" JH)(me:ai K "_law_an_amount" Zv)(nJ:ai K "_law_items" Kg)(k_0:nsIn K mainGlobals "BoxError"=some (some (.ref C0)))(Ia:nsIn K mainGlobals "NoPicture"=some (some (.ref C1)))(Ib:nsIn K mainGlobals "NoRoom"=some (some (.ref C2)))(Ic:nsIn K mainGlobals "NoFigures"=some (some (.ref C5)))(Ie:nsIn K mainGlobals "NoLetters"=some (some (.ref C6)))(Ig:nsIn K mainGlobals "NoMove"=some (some (.ref C7)))(Ih:nsIn K mainGlobals "NoPath"=some (some (.ref C8)))(Ii:nsIn K mainGlobals "NoAmount"=some (some (.ref C9)))(u5:nsIn K mainGlobals "NoGroup"=some (some (.ref Eg)))(u6:nsIn K mainGlobals "BadSize"=some (some (.ref Eh)))(tj:nsIn K mainGlobals "NoBack"=some (some (.ref HZ)))(k_R:nsIn K mainGlobals "Area"=some (some (.ref CR)))(tm:plainGet K CR Str.empty=true)(tq:hasDictIn K CR=true)(tu:plainOver K CR=true)(tD:findIn K (.ref CR) "__setattr__"=some (some (.builtin "object.__setattr__")))(tE:makesIn K CR=true)(tF:keepIn K (.ref CR)=true)(pI:findIn K (.ref CR) "layout"=some none)(rD:findIn K (.ref CR) "held"=some none)(rE:findIn K (.ref CR) "done"=some none)(pJ:findIn K (.ref CR) "undone"=some none)(gU:nsIn K mainGlobals "FIGURES"=some (some (.str "0123456789" t0)))(gP:nsIn K mainGlobals "INSERTED"=some (some (.str ",B0/" t2)))(pN:nsIn K mainGlobals "SIGNS"=some (some (.str "+-" t3)))(gD:nsIn K mainGlobals "FLOATING"=some (some (.str "+-$" t4)))(nO:nsIn K mainGlobals "PLACES"=some (some (.str "9Z*+-$" t5)))(gx:nsIn K mainGlobals "LAST_BELOW"=some (some (.str "pqrstuvwxy" t8)))(gh:nsIn K mainGlobals "LETTERS_AND_BLANK"=some (some (.str "abcdefghijklmnopqrstuvwxyzABCDEFGHIJKLMNOPQRSTUVWXYZ " t9)))(nN:nsIn K mainGlobals "PART"=some (some (.int 18 t1)))(gm:nsIn K mainGlobals "MOST_FIGURES"=some (some (.int 18 t6)))(gR:nsIn K mainGlobals "MOST_SIGNS"=some (some (.int 60 t7)))(gF:nsIn K mainGlobals "NUMBER_FORMS"=some (some (.ref R0)))(pk:nsIn K mainGlobals "SHOWN"=some (some (.ref R1)))(gA:nsIn K mainGlobals "PLAIN_KINDS"=some (some (.ref R2)))(mJ:∀H,aw K H R0 [.str "9",.str "S9",.str "V9",.str "SV9",.str "9V9",.str "S9V9"])(pq:∀H,aw K H R1 [.str "+",.str "-",.str "CR",.str "DB"])(kd:aD l.prog w K R2 jT)(mf:nsIn K mainGlobals "BESIDE"=some (some (.ref R3)))(rb:aD l.prog w K R3 sO)(mh:nsIn K mainGlobals "NOT_BELOW"=some (some (.ref R4)))(nK:aD l.prog w K R4 Bs)(pO:nsIn K mainGlobals "BELOW"=some (some (.ref R5)))(rF:aD l.prog w K R5 Bt)(pP:nsIn K mainGlobals "MOVES"=some (some (.ref R7)))(rg:aD l.prog w K R7 (DC R8 R9 c7 c8))(gE:nsIn K mainGlobals "WITH_AMOUNTS"=some (some (.ref R6)))(uy:∀H,aw K H R8 [.str "number",.str "edited",.str "text"])(uz:∀H,aw K H R9 [.str "number",.str "edited",.str "text"])(uA:∀H,aw K H c7 [.str "number",.str "edited",.str "text",.str "letters"])(uB:∀H,aw K H c8 [.str "text",.str "letters"])(mK:∀H,aw K H R6 [.str "number",.str "edited"])(rG:nsIn K mainGlobals "tuple"=some none)(nM:nsIn K mainGlobals "enumerate"=some none)(rT:nsIn K mainGlobals "list"=some none)(uh:nsIn K mainGlobals "set"=some none)(ui:nsIn K mainGlobals "zip"=some none)(pj:kitOne K (.type "str") (.type "tuple")=some false)(m7:kitOne K (.type "tuple") (.type "tuple")=some true)(rh:kitOne K (.type "int") (.type "int")=some true)(pK:kitOne K (.type "int") (.type "bool")=some false)(r8:kitOne K (.type "str") (.type "str")=some true)(r9:kitOne K (.type "int") (.type "str")=some false)(pL:kitOne K (.type "NoneType") (.type "str")=some false)(rV:kitOne K (.type "tuple") (.type "str")=some false)(uG:nsIn K mainGlobals "len"=some none)(rW:nsIn K mainGlobals "range"=some none)(uH:nsIn K mainGlobals "abs"=some none)(uI:nsIn K mainGlobals "max"=some none)(uJ:nsIn K mainGlobals "int"=some none)(uK:nsIn K mainGlobals "isinstance"=some none)(uj:nsIn K mainGlobals "bool"=some none)(uL:nsIn K mainGlobals "ValueError"=some none)(pM:nsIn K mainGlobals "reversed"=some none)(rH:nsIn K mainGlobals "divmod"=some none)(uM:nsIn K mainGlobals "str"=some none)(uN:nsIn K mainGlobals "sum"=some none)(uO:excIn K C1 [.type "ValueError",.type "Exception",.type "BaseException",.type "object"] "ValueError.__new__"=true)(uP:excIn K C2 [.type "ValueError",.type "Exception",.type "BaseException",.type "object"] "ValueError.__new__"=true)(uQ:excIn K C5 [.type "ValueError",.type "Exception",.type "BaseException",.type "object"] "ValueError.__new__"=true)(uR:excIn K C6 [.type "ValueError",.type "Exception",.type "BaseException",.type "object"] "ValueError.__new__"=true)(uS:excIn K C7 [.type "ValueError",.type "Exception",.type "BaseException",.type "object"] "ValueError.__new__"=true)(uT:excIn K C8 [.type "ValueError",.type "Exception",.type "BaseException",.type "object"] "ValueError.__new__"=true)(uU:excIn K C9 [.type "ValueError",.type "Exception",.type "BaseException",.type "object"] "ValueError.__new__"=true)(uk:excIn K Eg [.type "ValueError",.type "Exception",.type "BaseException",.type "object"] "ValueError.__new__"=true)(um:excIn K Eh [.type "ValueError",.type "Exception",.type "BaseException",.type "object"] "ValueError.__new__"=true)(uV:nsIn K mainGlobals "law"=some (some (.ref fl)))(uW:K.lookup fl=some ⟨oc,od,.func (fnOf "law" "law" (Q8 U9) (QS U9) (Qe U9) .none kV doc pm an ca ct),ge⟩)(uX:codeIn K ca "law"=true):∃fd:FuncData,(∀(s:Shared)(v:Value),BindsTo s fd ⟨[v],[]⟩ [("_law_script",v)])/\∀Y:Heap,K.In Y->Y.Ns mainGlobals mg->ak l.prog w K mg Y (av l.prog w) 15 fa fd ["_law_script"] Hy:=by
 have e:=hfa.symm.trans (mg_of X G uV);cases e;have O:Own mg:=⟨ybo X G uG,ybo X G rW,ybo X G uH,ybo X G uI,ybo X G uJ,ybo X G uK,ybo X G uj,ybo X G uL,ybo X G pM,ybo X G rH,ybo X G uM,ybo X G uN⟩;have T:Txt K mg (λi=>([t0,t1,t2,t3,t4,t5,t6,t7,t8,t9]:List Tok).getD i 0) (λi=>([C0,C1,C2,0,0,C5,C6,C7,C8,C9,Eg,Eh,HZ,0,0]:List Addr).getD i 0) (λi=>([R0,R1,R2,R3,R4,R5,R6,R7,R8,R9,c7,c8]:List Addr).getD i 0):=⟨mg_of X G k_0,mg_of X G Ia,mg_of X G Ib,mg_of X G Ic,mg_of X G Ie,mg_of X G Ig,mg_of X G Ih,mg_of X G Ii,mg_of X G u5,mg_of X G u6,mg_of X G tj,mg_of X G gU,mg_of X G nN,mg_of X G gP,mg_of X G pN,mg_of X G gD,mg_of X G nO,mg_of X G gm,mg_of X G gR,mg_of X G gx,mg_of X G gh,mg_of X G mf,mg_of X G mh,mg_of X G pO,mg_of X G gE,mg_of X G pP,mg_of X G gF,mg_of X G pk,mg_of X G gA,mJ,pq,mK,uy,uz,uA,uB,⟨uO⟩,⟨uP⟩,⟨uQ⟩,⟨uR⟩,⟨uS⟩,⟨uT⟩,⟨uU⟩,⟨uk⟩,⟨um⟩,r8,r9,pL,rV⟩;have KD:aD l.prog w K ((λi=>([R0,R1,R2,R3,R4,R5,R6,R7,R8,R9,c7,c8]:List Addr).getD i 0) 2) jT:=kd;have KB:aD l.prog w K ((λi=>([R0,R1,R2,R3,R4,R5,R6,R7,R8,R9,c7,c8]:List Addr).getD i 0) 3) sO:=rb;have KN:aD l.prog w K ((λi=>([R0,R1,R2,R3,R4,R5,R6,R7,R8,R9,c7,c8]:List Addr).getD i 0) 4) Bs:=nK;have KW:aD l.prog w K ((λi=>([R0,R1,R2,R3,R4,R5,R6,R7,R8,R9,c7,c8]:List Addr).getD i 0) 5) Bt:=rF;have KM:aD l.prog w K ((λi=>([R0,R1,R2,R3,R4,R5,R6,R7,R8,R9,c7,c8]:List Addr).getD i 0) 7) (DC ((λi=>([R0,R1,R2,R3,R4,R5,R6,R7,R8,R9,c7,c8]:List Addr).getD i 0) 8) ((λi=>([R0,R1,R2,R3,R4,R5,R6,R7,R8,R9,c7,c8]:List Addr).getD i 0) 9) ((λi=>([R0,R1,R2,R3,R4,R5,R6,R7,R8,R9,c7,c8]:List Addr).getD i 0) 10) ((λi=>([R0,R1,R2,R3,R4,R5,R6,R7,R8,R9,c7,c8]:List Addr).getD i 0) 11)):=rg;have OT:mg "tuple"=none:=ybo X G rG;have OE:mg "enumerate"=none:=ybo X G nM;have OL:mg "list"=none:=ybo X G rT;have OS:mg "set"=none:=ybo X G uh;have OZ:mg "zip"=none:=ybo X G ui;generalize (λi=>([C0,C1,C2,0,0,C5,C6,C7,C8,C9,Eg,Eh,HZ,0,0]:List Addr).getD i 0)=c at T;generalize (λi=>([R0,R1,R2,R3,R4,R5,R6,R7,R8,R9,c7,c8]:List Addr).getD i 0)=kr at T KD KB KN KW KM;generalize (λi=>([t0,t1,t2,t3,t4,t5,t6,t7,t8,t9]:List Tok).getD i 0)=tk at T;refine⟨fnOf "law" "law" (Q8 U9) (QS U9) (Qe U9) .none kV doc pm an ca ct,λs v=>.of_eq rfl,λY kb nb=>?_⟩;have KT:fR K:=⟨pj,m7,rh,pK⟩;have cl:cu K CR:=⟨tm,tq,tu,tD⟩;have R:b8 K CR:=⟨cl,pI,rD,rE,pJ⟩;have gg:Def l.prog w K mg Y 1 "ten_to" ["many"] (zW):=rq.d1 X G (λf fd F=>yZ F O) (by nofun);have gj:Def l.prog w K mg Y 1 "is_figures" ["text"] (Ys):=nv.d1 X G (λf fd F=>qa F T) (by nofun);have hZ:Def l.prog w K mg Y 2 "number_of" ["text"] (wW):=nX.d1 X G (λf fd F=>jU F O T gg) (by nofun);have pB:Def l.prog w K mg Y 3 "times_at" ["text","at"] (zX):=pD.d2 X G (λf fd F=>zY F O T gj hZ) (by nofun);have mr:Def l.prog w K mg Y 4 "rows_of" ["thing"] (kc K):=pT.d1 X G (λf fd F=>wY F O T pB) (by nofun);have nP:Def l.prog w K mg Y 1 "floats_at" ["rows","at"] (qe K):=nY.d2 X G (λf fd F=>jW F O T) (by nofun);have mO:Def l.prog w K mg Y 1 "places_of" ["rows","at","place"] (qf K):=nZ.d3 X G (λf fd F=>jX F O T) (by nofun);have ng:Def l.prog w K mg Y 2 "whole_part" ["rows","at"] (zZ K):=ny.d2 X G (λf fd F=>qg F O T mO) (by nofun);have mP:Def l.prog w K mg Y 1 "broken_part" ["rows","at","place"] (qh K):=mV.d3 X G (λf fd F=>YV F O T) (by nofun);have mm:Def l.prog w K mg Y 2 "lead_of" ["rows"] (ke K):=pU.d1 X G (λf fd F=>w4 F O T nP) (by nofun);have mq:Def l.prog w K mg Y 1 "tail_of" ["rows","at"] (kg K):=pV.d2 X G (λf fd F=>w6 F O T) (by nofun);have mw:Def l.prog w K mg Y 1 "number_facts" ["rows"] (Zh K Jc):=mD.d1 X G (λf fd F=>Yw F O T) (by nofun);have mQ:Def l.prog w K mg Y 1 "plain_facts" ["rows"] (Zh K JX):=mW.d1 X G (λf fd F=>YW F O T KD) (by nofun);have mn:Def l.prog w K mg Y 3 "body_of" ["rows","at"] (kh K):=pW.d2 X G (λf fd F=>vc F ng mP) (by nofun);have my:Def l.prog w K mg Y 4 "edited_facts" ["rows"] (Zh K Jw):=mE.d1 X G (λf fd F=>Yx F O T mm mn mq) (by nofun);have gW:Def l.prog w K mg Y 5 "facts_of" ["rows"] (Zh K JT):=pE.d1 X G (λf fd F=>z6 F mw mQ my) (by nofun);have gK:Def l.prog w K mg Y 6 "understood" ["picture"] (qk K c):=nz.d1 X G (λf fd F=>ql F T mr gW) (by nofun);have hV:Def l.prog w K mg Y 7 "kind_of" ["picture"] (Vn c):=pX.d1 X G (λf fd F=>vd F gK) (by nofun);have mz:Def l.prog w K mg Y 1 "quotient_cut" ["number","by"] (Gv):=mF.d2 X G (λf fd F=>Yy F O) (by nofun);have nQ:Def l.prog w K mg Y 2 "cut" ["amount","places"] (Bn K):=uE.d2 X G (λf fd F=>Qgf F O gg mz) (by nofun);have m8:Def l.prog w K mg Y 3 "fitted" ["amount","before","behind"] (Dk K):=rA.d3 X G (λf fd F=>Qam F O gg nQ) (by nofun);have gL:Def l.prog w K mg Y 2 "figures_of" ["number"] (kj):=nA.d1 X G (λf fd F=>qo F O T gg) (by nofun);have hG:Def l.prog w K mg Y 6 "understood_as" ["kind","picture"] (Wb K c):=mj.d2 X G (λf fd F=>Vt F T mr gW) (by nofun);have mR:Def l.prog w K mg Y 1 "written_out" ["rows"] (Gx K):=mX.d1 X G (λf fd F=>YX F O) (by nofun);have gr:Def l.prog w K mg Y 7 "size_of" ["picture"] (Um):=pY.d1 X G (λf fd F=>vf F O gK) (by nofun);have gG:Def l.prog w K mg Y 1 "sign_text" ["symbols","is_below"] (ko):=n4.d2 X G (λf fd F=>j5 F T KN KW) (by nofun);have mB:Def l.prog w K mg Y 1 "hides_nought" ["body"] (xa):=mG.d1 X G (λf fd F=>Yz F T) (by nofun);have mS:Def l.prog w K mg Y 1 "nought_text" ["symbols"] (qt):=mY.d1 X G (λf fd F=>YY F O) (by nofun);have rn:Def l.prog w K mg Y 3 "spread" ["body","units"] (qu):=rB.d2 X G (λf fd F=>Qar F O T KB gL) (by nofun);have nR:Def l.prog w K mg Y 1 "hidden_in" ["body","signs"] (qv):=n5.d2 X G (λf fd F=>j6 F O OE T) (by nofun);have nS:Def l.prog w K mg Y 4 "body_text" ["body","units","is_below"] (xb):=n6.d3 X G (λf fd F=>j7 F T rn nR gG) (by nofun);have gs:Def l.prog w K mg Y 4 "edited_parts" ["rows"] (VA K):=mH.d1 X G (λf fd F=>YB F mm mn mR mq) (by nofun);have m9:Def l.prog w K mg Y 7 "edited" ["picture","amount"] (VB K c):=rC.d2 X G (λf fd F=>Qat F O hG gs m8 mB mS gG nS) (by nofun);have gy:Def l.prog w K mg Y 7 "content_of" ["picture","amount"] (kl K c):=nB.d2 X G (λf fd F=>qr F O T hG m8 gL) (by nofun);have nV:Def l.prog w K mg Y 7 "amount_in" ["picture","content"] (z7 K c):=n8.d2 X G (λf fd F=>j4 F O T hG gj hZ) (by nofun);have mT:Def l.prog w K mg Y 8 "read_edited" ["picture","text"] (GK K c):=mZ.d2 X G (λf fd F=>YZ F O OZ T KB hZ hG gs m9) (by nofun);have nU:Def l.prog w K mg Y 1 "bare" ["item"] (ky):=ue.d1 X G (λf fd F=>QeI F) (by nofun);have gz:Def l.prog w K mg Y 8 "signs_in" ["layout"] (YF):=pF.d1 X G (λf fd F=>xh F gr) (by nofun);have pC:Def l.prog w K mg Y 1 "is_whole" ["thing"] (qB):=pG.d1 X G (λf fd F=>xj F O KT) (by nofun);have ni:Def l.prog w K mg Y 2 "step_parts" ["step"] (xk):=nC.d1 X G (λf fd F=>qC F O OT KT pC) (by nofun);have gS:Def l.prog w K mg Y 2 "last_first" ["path","items"] (G2):=nE.d2 X G (λf fd F=>qD F O nU) (by nofun);have gY:Def l.prog w K mg Y 9 "ahead_in_table" ["item","number"] (xm):=ma.d2 X G (λf fd F=>Vb F T gz) (by nofun);have pR:Def l.prog w K mg Y 10 "item_at" ["items","step"] (qE):=pZ.d2 X G (λf fd F=>vh F O OE T ni nU gz gY) (by nofun);have nj:Def l.prog w K mg Y 11 "found" ["layout","path"] (qF):=rN.d2 X G (λf fd F=>Qcm F O OT KT T pR) (by nofun);have gc:Def l.prog w K mg Y 12 "where" ["layout","path"] (Zi):=rO.d2 X G (λf fd F=>Qcn F nj gr gz) (by nofun);have gO:Def l.prog w K mg Y 3 "paths_of_boxes" ["items","with_tables"] (xn):=md.d2 X G (λf fd F=>Vc F O gS) (by nofun);have rJ:Def l.prog w K mg Y 8 "put" ["picture","amount"] (BG K):=uF.d2 X G (λf fd F=>Qgt F hV gy m9) (by nofun);have rK:Def l.prog w K mg Y 9 "blank" ["picture"] (xq):=rP.d1 X G (λf fd F=>Qcp F hV rJ gr) (by nofun);have gH:Def l.prog w K mg Y 10 "signs_at_beginning" ["layout"] (xt):=gJ.d1 X G (λf fd F=>Kj F O OL rK) (by nofun);have mv:Def l.prog w K mg Y 1 "as_text" ["text","size","right"] (DF):=p0.d3 X G (λf fd F=>vi F O) (by nofun);have gC:Def l.prog w K mg Y 9 "amount_from" ["content","picture"] (ze):=m3.d2 X G (λf fd F=>Y1 F O T hV nV mT gj hZ) (by nofun);have mC:Def l.prog w K mg Y 1 "figures_from" ["content","picture"] (sP):=mI.d2 X G (λf fd F=>YJ F) (by nofun);have pz:Def l.prog w K mg Y 2 "rounded" ["amount","places"] (sP):=p7.d2 X G (λf fd F=>vj F) (by nofun);have rL:bO l.prog w K mg Y 10 "move" ["content","picture","other","right"] ["right"] (Hj):=rQ.QiL X G (λf fd F=>QeP F T KM hV rJ gC mC gr mv) (by nofun);have gX:Def l.prog w K mg Y 3 "lined_up" ["one","other"] (qx K):=pH.d2 X G (λf fd F=>xf F O nQ) (by nofun);have rM:Def l.prog w K mg Y 4 "same" ["one","other"] (GS K):=uf.d2 X G (λf fd F=>QeF F gX) (by nofun);have pQ:Def l.prog w K mg Y 4 "added" ["one","other"] (GU K λx y=>x+y):=rR.d2 X G (λf fd F=>Qck F gX) (by nofun);have rp:dH l.prog w K mg Y 8 "stored" ["picture","amount","nearest"] (.bl false) (WF K c):=by
  refine pA.QiM X G (λf fd F=>j8 F O gg hG nQ pz gy) λ_ _ _ _ _ _ _ _=>?_;refine' .mk (σ:=?a57) (τ:=?b57) ?g157 ?g257 ?g357 ?h157 ?h257
  case h157=>exact Eq.refl _
  case h257=>exact Eq.refl _
 have pS:bP l.prog w K mg Y 8 "stored" ["picture","amount","nearest"] ["nearest"] (WF K c):=pA.QfX X G (λf fd F=>j8 F O gg hG nQ pz gy) (by nofun);have gk:Def l.prog w K mg Y 1 "_law_draw" ["_law_script","_law_town","_law_many"] (jx K):=n9.d3 X G (λf fd F=>zk F O) (by nofun);have nk:Def l.prog w K mg Y 1 "_law_begun" [] (zD):=nF.d0 X G (λf fd F=>qS F) (by nofun);have gf:Def l.prog w K mg Y 1 "with_signs" ["held","start","text"] (zf):=nG.d3 X G (λf fd F=>qL F O) (by nofun);have gM:Def l.prog w K mg Y 8 "check_kind" ["picture","kinds"] (qM K):=nH.d2 X G (λf fd F=>qN F T hV) (by nofun);have ud:dI l.prog w K mg Y CR 11 "Area" ["self","layout"] (Hk CR):=pf.dc2 (mg_of X G k_R) tE tF (λf fd F=>Vu F R gH) (by nofun);have hJ:aX l.prog w K mg Y CR 1 "change" ["self","word","held"] (Kw CR):=p8.FP cl (λf fd F=>Y2 F R) (by nofun);have gI:aX l.prog w K mg Y CR 13 "get" ["self","path"] (DG CR):=ug.Mc cl (λf fd F=>xu F R gc) (by nofun);have hU:aX l.prog w K mg Y CR 13 "amount" ["self","path"] (kH CR):=p9.Mc cl (λf fd F=>Y3 F R T gc gM gC) (by nofun);have nW:aX l.prog w K mg Y CR 13 "load" ["self","path","text"] (kJ CR):=rS.FP cl (λf fd F=>zg F R O T gc gf hJ) (by nofun);have ml:bR l.prog w K mg Y CR 13 "store" ["self","path","amount","nearest"] (.bl false) (VE K CR):=by
  refine dmD_store.Mt cl (λf fd F=>qP F R T gc gM pS gf hJ) λ_ _ _ _ _ _ _ _ _=>?_;refine' .mk (σ:=?a67) (τ:=?b67) ?g167 ?g267 ?g367 ?h167 ?h267
  case h167=>exact Eq.refl _
  case h267=>exact Eq.refl _
 have gQ:Def l.prog w K mg Y 11 "with_move" ["held","source","target","right"] (oM):=ph.d4 X G (λf fd F=>zh F mv gf rL) (by nofun);have mi:bR l.prog w K mg Y CR 13 "move" ["self","path","other","right"] (.bl false) (qQ CR):=by
  refine bS.Mt cl (λf fd F=>zi F R gc gQ hJ) λ_ _ _ _ _ _ _ _ _=>?_;refine' .mk (σ:=?a69) (τ:=?b69) ?g169 ?g269 ?g369 ?h169 ?h269
  case h169=>exact Eq.refl _
  case h269=>exact Eq.refl _
 have mU:Def l.prog w K mg Y 12 "boxes_alike" ["layout","path","other"] (xv):=m4.d3 X G (λf fd F=>Y4 F O OS nj gO) (by nofun);have gT:aX l.prog w K mg Y CR 13 "move_alike" ["self","path","other"] (VF CR):=m5.FP cl (λf fd F=>WI F R O T gc gQ mU hJ) (by nofun);have gZ:Def l.prog w K mg Y 2 "_law_an_amount" ["_law_script","_law_town","_law_figures","_law_far"] (qT K):=me.d4 X G (λf fd F=>Vf F O gk) (by nofun);have nt:Def l.prog w K mg Y 1 "_law_items" ["_law_many"] (xw):=nJ.d1 X G (λf fd F=>qU F) (by nofun);exact QgE (P:=l.prog) (w:=w) (Y:=Y) ⟨oc,od,kV,doc,pm,an,ct,ge,Z,uW,uX⟩ O nk gk nt gZ rp rM pQ ud gI hU nW ml mi gT
def QgF(z:av P w [] H s (λ_ _ _=>False) e s'):False:=by
 obtain⟨_,_,_,_,_,_,_,_,_,_,_,_,_,_,h⟩:=z;exact h
end Lw
structure PySem.W.Fast:Prop where
 (tw12987512702741847072 tw1339491301491109920 tw14774071827319153728 tw17516694350078196832 tw3956734330233862336 tw15468743082168977632 tw14988431583663793888 tw14462340866439926688 tw11493333203119718433 tw10569962904498930913 tw12438663455599309121 tw12010382125564105217 tw3972385084826697313 tw2412472406615916257 tw10593611435424876513 tw12473228365566110242 tw9514432277143526018 tw8267091045421915906 tw10744442224551711522 tw15799540600945244962 tw11592969535228554403 tw14277978933128062243 tw8170880519730290019 tw2822036704926743043 tw7629129431578445411 tw2426851673766475395 tw13248192887696839331 tw2917974744709916387 tw9867278469032047395 tw8605266842637607747 tw15056568491411342211 tw2757172313935940483 tw332414061815491908 tw7458434939722557124 tw14969915831469880292 tw15834192676026241029 tw12117514434445636645 tw9761079542985269477 tw13971055338104141285 tw10941479937447961125 tw2395604929977780037 tw10424161648262387621 tw1286290389314322341 tw16666035215593131014 tw3427903355664152678 tw3175197965814020230 tw9911920133481164934 tw7901957475180731910 tw15914970903137398406 tw17803484549307560582 tw14211960615198594790 tw5548619140287039559 tw6047080621940210887 tw771183711286863111 tw4875094034139979079 tw15503062465099496775 tw9207853969266470311 tw16673847655080828391 tw6429184013820881607 tw6198621384270222408 tw14974565389655614568 tw14260104183460006312 tw16847687019786081864 tw5421727312371151592 tw12413305901599711976 tw951933206677790472 tw2856682484090050472 tw14031721053279341512 tw16428848598294062024 tw10923242438148930697 tw1307144032368627945 tw12839031973074790889 tw15566407148717124105 tw16706975713666834153 tw5425413407696892713 tw4004245970844457897 tw6006154498376643594 tw18214753079341306954 tw11474683992747343050 tw4913893442925761802 tw581286461913437482 tw14639488545839332650 tw5063114300757254506 tw10894719519116799338 tw8134613902119074154 tw15167037433277816266 tw13386532213682573834 tw600661561711168106 tw10660037967990242922 tw12599786225831469738 tw14333436114061061802 tw17090154534708157162 tw9605041123228981994 tw8982390783520846794 tw11984582900924161002 tw7652153198697226571 tw14541981410962035083 tw18403481137257788843 tw6602203946343291563 tw15742419549368922987 tw4782868062946018316 tw4933198770620276812 tw11579392932540778700 tw16147868679879972076 tw2557065376883283372 tw12071335750624582124 tw9125789393765337676 tw15718550849493059148 tw860379265185308396 tw6991865463179959180 tw16778480394584351660 tw4802576848408835405 tw845163885210032557 tw1020410847515079149 tw56442932438225421 tw16471024422496559693 tw10197873093901109901 tw8410199671786842829 tw6313296730151174893 tw9431945510895963917 tw5970417997987584845 tw10377856830843093006 tw6560638455791814670 tw15613908511025247246 tw13417427313438515246 tw9671106622491067726 tw13737350420609997262 tw3460731783715958414 tw1617461224662448910 tw4921964780111528814 tw15273456697618469806 tw6963067628392957007 tw6347687305569319023 tw7336030882354459919 tw14573298431306777295 tw6506295643783679695 tw16604466292904667887 tw14600557239550088368 tw13684263629607241008 tw17119933612087851728 tw4659159105528155024 tw11945741243408970672 tw7292534595772754321 tw8362525467836979729 tw15669448084152386097 tw3909845673585464977 tw15535813843949056721 tw10743105400565780209 tw14601076845426307889 tw11712283054175666097 tw10031501505084184786 tw17397140518241591506 tw15541399625258278290 tw11363756984005576274 tw10728936378470646578 tw11542756344050592594 tw6514954998503514994 tw1651585961128444850 tw2501567673201446834 tw8152626256593276882 tw13377590102580379699 tw12464222429257949235 tw14261666548784445555 tw17385832391837883795 tw15229165204190081555 tw2139026581288891187 tw17511737740257163123 tw1934432984017261459 tw2049953272338061267 tw5778269408214302675 tw3501703320301575155 tw879039664626947124 tw16905447448150292 tw12658595388581741876 tw3915728838669047092 tw13385081055519734100 tw11660972316711246196 tw7083875567402825492 tw14810293604257458964 tw8088381083923151732 tw4874282843209920404 tw7560245492122372341 tw9969163317646945525 tw11648847310749980309 tw8916869699477921557 tw8046937520994484117 tw17698439552596150261 tw4043448059931731062 tw5801090934291620022 tw13988550046184714454 tw8976552009413858582 tw3200989341508771222 tw1836388299851236854 tw9973987942493654518 tw14144754931859478230 tw17492249737925925814 tw10648192172184511478 tw1061864377822438199 tw13178313612466716471 tw13258405210128300184 tw1357826915894220184 tw15987701441921875480 tw1281094389935669816 tw2277132031447234168 tw16826039782301489144 tw13959572797432587417 tw17008872981189144761 tw12851715354300305721 tw12821679396622746937 tw16433422775367402841 tw18063737872435586489 tw17318431384115483161 tw15701170440419566105 tw15439085938023114297 tw11722040938797557401 tw8123719455472051897 tw13860737135631493881 tw13158217125242048345 tw18312495737405062105 tw8874893205929702586 tw11038047534747828634 tw406546149961884090 tw16255333004458502586 tw12942651977366755930 tw4461372749433989722 tw3689289150817941114 tw151568246223697754 tw7833830166956569434 tw5421659764331163578 tw17603604527975216122 tw13751884130452180027 tw9044282233630707163 tw6744570702652742171 tw5915472211149794107 tw12954858998476669787 tw8542011936581538683 tw12856475335626573755 tw10256423604473230331 tw15588543546575648828 tw5003189929896936572 tw16683723783960384700 tw18301868599511142652 tw16087109182602337532 tw340599237211828604 tw13735181666725583420 tw7128209800367282780 tw6925566280968417980 tw1626361240632340252 tw1267703620824876892 tw6512624624254457949 tw10961355929079346397 tw9385919444312716733 tw14909011599737898653 tw320036300735502045 tw16655682213890488125 tw4543708983592864605 tw8092377410151320445 tw2481365415090696222 tw7321020321472873598 tw620136517592456318 tw11378166157595730046 tw16301395002618619038 tw13434987122464584894 tw4440723633102999870 tw16332507752792217982 tw11175376743459786238 tw10467584861696561822 tw16017001713415090942 tw1109439485220974526 tw16333411412908545087 tw668703075818076319 tw2565955050479756575 tw768884952880301535 tw18421189349219336703 tw16702571888107348479 tw2512372258377037311 tw14635124083223636703 tw12049826644833168159 tw7159853225093449535 tw15779385230426199903 tw5399253710558747519 tw1778063209104942015 tw10883654942160888799 tw11527242319889300826:True)
open PySem PySem.W PyProof.Rows
theorem PySem.Challenge.cw_boxmoves_k46_whole_sums_in_areas_holds : PySem.Challenge.rw_boxmoves_k46_whole_sums_in_areas.Holds := by
 w_on;o_law;k_head;(case hw=>w_witness2)
 k_fill
 refine L2.QbC (l:=PySem.Challenge.rw_boxmoves_k46_whole_sums_in_areas) (n:=63) (k:=15) (x:="_law_script") (CX:=λw=>L2.av PySem.Challenge.rw_boxmoves_k46_whole_sums_in_areas.prog w) (sp:=λ_=>Lw.Hy) rfl (by lia) rfl ⟨Z,by lia,by lia⟩ (λw h qYa=>kIn_of qYa) ?nL ?F (λw H a ns hl hS=>⟨a,ns,Z,hl,hS,λ_=>rfl⟩) (λw H s e s' z=>Lw.QgF z)
 case nL=>intro w;kernel_rfl
 case F=>
  intro w mg fa h KX G Ay;refine' Lw.all_mk KX G Ay ?rq ?nv ?nX ?pD ?pT ?nY ?nZ ?ny ?mV ?pU ?pV ?mD ?mW ?pW ?mE ?pE ?nz ?pX ?mF ?uE ?rA ?nA ?mj ?mX ?pY ?n4 ?mG ?mY ?rB ?n5 ?n6 ?mH ?rC ?nB ?n8 ?mZ ?ue ?pF ?pG ?nC ?nE ?ma ?pZ ?rN ?rO ?md ?uF ?rP ?gJ ?p0 ?m3 ?mI ?p7 ?rQ ?pH ?uf ?rR ?pA ?n9 ?nF ?nG ?nH ?pf ?p8 ?ug ?p9 ?rS ?dmD_store ?ph ?bS ?m4 ?m5 ?me ?nJ ?k_0 ?Ia ?Ib ?Ic ?Ie ?Ig ?Ih ?Ii ?u5 ?u6 ?tj ?k_R ?tm ?tq ?tu ?tD ?tE ?tF ?pI ?rD ?rE ?pJ ?gU ?gP ?pN ?gD ?nO ?gx ?gh ?nN ?gm ?gR ?gF ?pk ?gA ?mJ ?pq ?kd ?mf ?rb ?mh ?nK ?pO ?rF ?pP ?rg ?gE ?uy ?uz ?uA ?uB ?mK ?rG ?nM ?rT ?uh ?ui ?pj ?m7 ?rh ?pK ?r8 ?r9 ?pL ?rV ?uG ?rW ?uH ?uI ?uJ ?uK ?uj ?uL ?pM ?rH ?uM ?uN ?uO ?uP ?uQ ?uR ?uS ?uT ?uU ?uk ?um ?uV ?uW ?uX
  (case k_R=>k_is)
  (case k_0|Ia|Ib|Ic|Ie|Ig|Ih|Ii|u5|u6|tj|tm|tq|tu|tD|tE|tF|pI|rD|rE|pJ|gU|gP|pN|gD|nO|gx|gh|nN|gm|gR|gF|pk|gA|mf|mh|pO|pP|gE|rG|nM|rT|uh|ui|uG|rW|uH|uI|uJ|uK|uj|uL|pM|rH|uM|uN|uV|uW|uX=>k_is)
  (case rg=>(refine' L2.yA ?ne ?l ?h ?nd;(case l=>k_is);(case ne=>exact rfl);(case h=>repeat (first|exact .nil|refine .cons rfl ?_));(case nd=>rfl')))
  (case rq|nv|nX|pD|pT|nY|nZ|ny|mV|pU|pV|mD|mW|pW|mE|pE|nz|pX|mF|uE|rA|nA|mj|mX|pY|n4|mG|mY|rB|n5|n6|mH|rC|nB|n8|mZ|ue|pF|pG|nC|nE|ma|pZ|rN|rO|md|uF|rP|gJ|p0|m3|mI|p7|pH|uf|rR|n9|nF|nG|nH|ph|m4|me|nJ=>(refine' L2.RM ?a ?l ?c ?k;(case a=>k_is);(case l=>k_is);(case c=>k_is);(case k=>k_is)))
  (case rQ|pA=>(refine' L2.yB ?a ?l ?c ?k ?n ?d;(case a=>k_is);(case l=>k_is);(case c=>k_is);(case k=>k_is);(case n=>(refine' L2.yC ?nl ?nh;(case nl=>k_is);(case nh=>exact rfl)));(case d=>k_is)))
  (case pf|p8|ug|p9|rS|m5=>(refine' L2.yO ?a ?i ?l ?c ?k;(case a=>k_is);(case i=>k_is);(case l=>k_is);(case c=>k_is);(case k=>k_is)))
  (case dmD_store|bS=>(refine' L2.wT ?a ?i ?l ?c ?k ?n ?d;(case a=>k_is);(case i=>k_is);(case l=>k_is);(case c=>k_is);(case k=>k_is);(case n=>(refine' L2.yC ?nl ?nh;(case nl=>k_is);(case nh=>exact rfl)));(case d=>k_is)))
  (case mJ=>(refine' L2.kW ?l ?z ?v;(case l=>k_is);(case z=>show 6<=sizeLine;lia);(case v=>exact(.cons ⟨_,Z⟩ (.cons ⟨_,Z⟩ (.cons ⟨_,Z⟩ (.cons ⟨_,Z⟩ (.cons ⟨_,Z⟩ (.cons ⟨_,Z⟩ .nil)))))))))
  (case pq|uA=>(refine' L2.kW ?l ?z ?v;(case l=>k_is);(case z=>show 4<=sizeLine;lia);(case v=>exact(.cons ⟨_,Z⟩ (.cons ⟨_,Z⟩ (.cons ⟨_,Z⟩ (.cons ⟨_,Z⟩ .nil)))))))
  (case kd=>(refine' L2.QaU ?ne ?l ?e1 ?e2 ?hx;(case l=>k_is);(case ne=>exact rfl);(case e1=>exact rfl);(case e2=>exact rfl);(case hx=>rfl')))
  (case rb|nK|rF=>(refine' L2.yo ?ne ?l ?h ?nd;(case l=>k_is);(case ne=>exact rfl);(case h=>repeat (first|exact .nil|refine .cons rfl ?_));(case nd=>rfl')))
  (case uy|uz=>(refine' L2.kW ?l ?z ?v;(case l=>k_is);(case z=>show 3<=sizeLine;lia);(case v=>exact(.cons ⟨_,Z⟩ (.cons ⟨_,Z⟩ (.cons ⟨_,Z⟩ .nil))))))
  (case uB|mK=>(refine' L2.kW ?l ?z ?v;(case l=>k_is);(case z=>show 2<=sizeLine;lia);(case v=>exact(.cons ⟨_,Z⟩ (.cons ⟨_,Z⟩ .nil)))))
  (case pj|m7|rh|pK|r8|r9|pL|rV=>kit_is)
  (case uO|uP|uQ|uR|uS|uT|uU|uk|um=>k_exc)
