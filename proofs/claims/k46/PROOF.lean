import PyProof.Rows.All
import Wide.All
import OpenK.AllK
import Wide.FinOn
import Lean
import PyProof.EqAt
import PyProof.EqKinds
import PyProof.TupleCall
import PyProof.NeKinds
import PyProof.WalksMore
import PyProof.Rows.SetFrom
import PyProof.FString5
import PyProof.FactsLen
import KE.KSortTup
import KE.KMinKey
import PyProof.SetKind
import PyProof.TupleKey
import KE.KItemsList
import PySem.Challenge.RW_boxmoves_k46_whole_sums_in_areas
local macro_rules|`(tactic|nofun)=>`(tactic|(intros;rfl))
local macro_rules|`(tactic|nofun)=>`(tactic|(rintro _ _ _ _ h;(repeat obtain⟨_,h⟩:=h)<;>subst_vars<;>rfl))
local macro_rules|`(tactic|exists $t,*)=>`(tactic|refine⟨$t,*, ?_⟩)
local macro_rules|`(tactic|rfl')=>`(tactic|decide+kernel)
local macro_rules|`(tactic|lia)=>`(tactic|decide)
set_option Elab.async false
set_option linter.all false
set_option maxRecDepth 100000
set_option maxHeartbeats 0
def Z{α:Sort _}{a:α}:a=a:=rfl
def Zz0{α:Sort _}{a:α}{q:Prop}:a=a\/q:=.inl rfl
def tK{α:Type}{a b:List α}:(a++b).length=a.length+b.length:=List.length_append
def tL{α β:Type}{l:List α}(f:α->β):(l.map f).length=l.length:=List.length_map f
def tM[Decidable p](h:¬p):decide p=false:=decide_eq_false h
def tN[Decidable p](h:p):decide p=true:=decide_eq_true h
def tO(n:Nat):n<=n:=Nat.le_refl n
def tP{α:Type}{a b:α}(h:some a=some b):a=b:=Option.some.inj h
def tQ{α:Type}{a:α}:[a].length=1:=rfl
def tR{α:Type}{a:α}{l:List α}:(a::l).length=l.length+1:=rfl
def tT{α:Type}{a:α}(l:List α){m:List α}(h:a∈m):a∈l++m:=List.mem_append_right l h
def tU{α:Type}{a:α}{l:List α}(m:List α)(h:a∈l):a∈l++m:=List.mem_append_left m h
def tW{α:Type}(b:α){a:α}{l:List α}(h:a∈l):a∈b::l:=List.mem_cons_of_mem b h
def tX{α:Type}{a:α}{l:List α}:a∈a::l:=List.mem_cons_self
def tY{α:Type}{i:Nat}{l:List α}:(l.take i).length=min i l.length:=List.length_take
def tZ{α:Type}{i:Nat}{l:List α}:(l.drop i).length=l.length-i:=List.length_drop
def lg{α:Type}{l:List α}:l.reverse.length=l.length:=List.length_reverse
def lh{α β:Type}{f:α->β}{l:List α}{i:Nat}:(l.map f)[i]?=Option.map f l[i]?:=List.getElem?_map
def lj{α:Type}{l:List α}{i:Nat}{a:α}(h:l[i]?=some a):a∈l:=List.mem_of_getElem? h
def lq{α:Type}{a:α}:(List.replicate n a).length=n:=List.length_replicate
def lr{α β:Type}{l m:List α}{f:α->β}:(l++m).map f=l.map f++m.map f:=List.map_append
def lu{α:Type}(a b c:List α):a++b++c=a++(b++c):=List.append_assoc a b c
def lz{α:Type}{a:α}{l m:List α}:a::l++m=a::(l++m):=rfl
def lA{α:Type}(l:List α):[]++l=l:=rfl
def lB{α:Type}(l:List α):l++[]=l:=List.append_nil l
def lC{α β γ:Type}{g:β->γ}{f:α->β}{l:List α}:(l.map f).map g=l.map (g∘f):=List.map_map
def lD{α β:Type}{f:α->β}{a:α}{l:List α}:(a::l).map f=f a::l.map f:=rfl
def lE{α:Type}{a:Array α}:a.toList.length=a.size:=Array.length_toList
def lF{α:Type}{l:List α}:l.toArray.size=l.length:=List.size_toArray
def lG(n:Nat):0<=n:=Nat.zero_le n
def lH(n:Nat):¬n<n:=Nat.lt_irrefl n
def lI(n:Nat):(n:Int).toNat=n:=rfl
open PySem.W (Frag InitBack KitX any_some bind_fn callWith_K callWith_K0 callWith_KW cellsFrom_some codeIn codeRec_of emptyDict eq_bytes excIn findIn findObj_own fnOf funFrames_hide get_value handedIn hasDictIn hideAll hideAll_get hideAll_none hideAll_size instObj isFn isNs_of_in kIn_of keepIn ki_setAt ki_setBack kia_one kitOne kitx_bool kitx_dict kitx_float kitx_int kitx_list kitx_none kitx_own kitx_str kitx_tuple lookIn looks_clsIn looks_findIn make_core makesIn makes_of mem_of_lookupK methodCall_KW methodObj method_fn mg_none_of mg_of mroIn ne_bytes nsIn nsMap_none_of_in nsOkIn of_hideAll osa_open plainGet plainGet_of plainOver set_plain specialIn tail_of_in takerIn takesIn truthy_bytes typeIn)
open PySem.F (args_dict_get_3 args_tuple_add_2 entry_dict_get entry_tuple_add excBase_ValueError plainAttrs_dict plainAttrs_list plainAttrs_str slot_dict_get slot_list_extend slot_list_pop slot_str_find slot_str_join slot_str_ljust slot_str_rjust slot_str_startswith slot_str_strip slot_str_zfill slot_tuple_add type_dict_get type_list_extend type_list_pop type_str_find type_str_join type_str_ljust type_str_rjust type_str_startswith type_str_strip type_str_zfill)
abbrev yaa:=@PySem.wpAny_bind
abbrev yab:=@PySem.Heap.get?_push_of_some
abbrev yac:=@PySem.wpAny_pure
abbrev yad:=@List.getElem?_eq_getElem
abbrev yae:=@Nat.le_of_ble_eq_true
abbrev yaf:=@List.getElem?_eq_some_iff
abbrev yag:=@PySem.Heap.get?_push_size
abbrev yah:=@if_neg
abbrev yai:=@if_pos
abbrev yaj:=@PySem.Heap.lt_size
abbrev yak:=@List.mem_cons
abbrev yal:=@Bool.false_ne_true
abbrev yam:=@Bool.false_eq_true
abbrev yan:=@Nat.lt_of_lt_of_le
abbrev yao:=@Nat.le_trans
abbrev yap:=@List.mem_singleton
abbrev yaq:=@Nat.ne_of_lt
abbrev yar:=@List.replicate_succ
abbrev yas:=@beq_eq_false_iff_ne
abbrev yat:=@List.mem_append
abbrev yau:=@PyProof.Rows.callWith_type1
abbrev yav:=@List.take_of_length_le
abbrev yaw:=@List.drop_eq_nil_of_le
abbrev yax:=@List.eq_of_mem_replicate
abbrev yay:=@Bool.and_eq_true
abbrev yaz:=@PySem.PassesOwn.never
abbrev yaA:=@PySem.F.plainAttrs_list
abbrev yaB:=@PySem.F.slot_list_append
abbrev yaC:=@PySem.F.type_list_append
abbrev yaD:=@PySem.F.plainAttrs_str
abbrev yaE:=@congrArg
abbrev yaF:=@PySem.sizeLine_eq
abbrev yaG:=@PySem.wpAny_field
abbrev yaH:=@List.drop_eq_getElem_cons
abbrev yaI:=@List.flatten_cons
abbrev yaJ:=@List.take_add_one
abbrev yaK:=@List.not_mem_nil
abbrev yaL:=@if_false
abbrev yaM:=@PySem.wpAny_call_entry
abbrev yaN:=@PySem.wpAny_specialOf
abbrev yaO:=@PySem.builtinLookup_eq_fast
abbrev yaP:=@PySem.wpAny_callSpecial?_slot
abbrev yaQ:=@PySem.Heap.size_push
abbrev yaR:=@Array.getElem?_eq_getElem
abbrev yaS:=@List.length_nil
abbrev yaT:=@List.contains_iff_mem
abbrev yaU:=@List.concat_eq_append
abbrev yaV:=@PySem.wpAny_mono
abbrev yaW:=@PySem.wpAny_truthy_bool
abbrev yaX:=@PySem.wpAny_newObj_type
abbrev yaY:=@PySem.wpAny_Call_Name_kw
abbrev yaZ:=@List.mem_map
abbrev yba:=@Nat.lt_or_ge
abbrev ybb:=@Int.emod_lt_of_pos
abbrev ybc:=@Nat.min_eq_left
abbrev ybd:=@PySem.wpAny_seqItems
abbrev ybe:=@PySem.wpAny_holding
abbrev ybf:=@beq_self_eq_true
abbrev ybg:=@PySem.boot_len
abbrev ybh:=@Nat.lt_trans
abbrev ybi:=@List.eq_nil_or_concat
abbrev ybj:=@List.length_filter_le
abbrev ybk:=@List.length_eq_zero_iff
abbrev ybl:=@beq_iff_eq
abbrev ybm:=@PySem.W.mg_none_of
abbrev ybn:=@List.filter_cons
abbrev ybo:=@Option.map_eq_some_iff
abbrev ybp:=@PyProof.Rows.slot_tuple_getitem
abbrev ybq:=@of_decide_eq_true
abbrev ybr:=@PySem.wpAny_loadPart'
abbrev ybs:=@PySem.Heap.get?_update_self
abbrev ybt:=@PySem.typeLookup_type
abbrev ybu:=@Int.emod_nonneg
abbrev ybv:=@PySem.Calls.spliced_cons
abbrev ybw:=@PySem.wpAny_setField_rec
abbrev ybx:=@List.filter_append
abbrev yby:=@List.lookup_cons
abbrev ybz:=@PySem.wpAny_of_eq
abbrev ybA:=@List.eq_nil_of_length_eq_zero
abbrev ybB:=@PySem.Around.under_plainId
abbrev ybC:=@List.mem_iff_getElem
abbrev ybD:=@List.getLast?_concat
abbrev ybE:=@List.mem_of_mem_drop
abbrev ybF:=@List.drop_zero
abbrev ybG:=@List.ext_getElem?
abbrev ybH:=@decide_eq_true_eq
abbrev ybI:=@List.reverse_cons
abbrev ybJ:=@PySem.codeAny_builtin
abbrev ybK:=@PySem.Heap.get?_update_other
abbrev ybL:=@List.getElem?_append_right
abbrev ybM:=@if_true
abbrev ybN:=@PySem.F.slot_tuple_iterator_next
abbrev ybO:=@List.drop_length
abbrev ybP:=@Nat.mul_comm
abbrev ybQ:=@Int.ne_of_gt
abbrev ybR:=@List.getElem?_eq_none
abbrev ybS:=@List.mem_iff_getElem?
abbrev ybT:=@List.take_append_drop
abbrev ybU:=@of_decide_eq_false
abbrev ybV:=@List.getElem?_append_left
abbrev ybW:=@Int.mul_neg_of_neg_of_pos
abbrev ybX:=@List.length_dropLast
abbrev ybY:=@PySem.codeAny_call_builtin
abbrev ybZ:=@Nat.pow_le_pow_right
abbrev yca:=@List.dropLast_concat
abbrev ycb:=@PySem.wpAny_passesOwn
abbrev ycc:=@PySem.Calls.spliced_nil
abbrev ycd:=@List.find?_cons
abbrev yce:=@Bool.not_eq_true'
abbrev ycf:=@PySem.wpAny_ite_split
abbrev ycg:=@PySem.sizeLine_eq
abbrev ych:=@Nat.le_of_eq
abbrev yci:=@Nat.zero_add
abbrev ycj:=@PySem.mem_of_lookup
abbrev yck:=@PySem.F.slot_str_join
abbrev ycl:=@PySem.F.type_str_join
abbrev ycm:=@List.take_succ_cons
abbrev ycn:=@PySem.F.sub_reversed_self
abbrev yco:=@Nat.lt_succ_self
abbrev ycp:=@List.take_length
abbrev ycq:=@PySem.Calls.callWith_builtin
abbrev ycr:=@List.drop_of_length_le
abbrev ycs:=@List.getElem?_drop
abbrev yct:=@Nat.ne_of_gt
abbrev ycu:=@PySem.PadOk.parts
abbrev ycv:=@List.takeWhile_prefix
abbrev ycw:=@List.take_left'
abbrev ycx:=@List.drop_left'
abbrev ycy:=@PySem.wpAny_loadPart_at
abbrev ycz:=@PySem.plainId_quiet
abbrev ycA:=@Nat.lt_succ_of_lt
abbrev ycB:=@List.cons.inj
abbrev ycC:=@or_false
abbrev ycD:=@PySem.wpAny_setState_of
abbrev ycE:=@Int.fdiv_eq_ediv_of_nonneg
abbrev ycF:=@Array.mem_toList_iff
abbrev ycG:=@PySem.Calls.evalArgs_plain
abbrev ycH:=@Nat.mul_le_mul_right
abbrev ycI:=@List.take_zero
abbrev ycJ:=@List.drop_drop
abbrev ycK:=@PySem.Draws.strAscii
abbrev ycL:=@Classical.byContradiction
abbrev ycM:=@PySem.post_val_or_made
abbrev ycN:=@PySem.wpAny_isInstance
abbrev ycO:=@Nat.le_add_right
abbrev ycP:=@PySem.wpAny_forIn_list
abbrev ycQ:=@List.map_reverse
abbrev ycR:=@List.filterMap_cons
abbrev ycS:=@List.takeWhile_cons
abbrev ycT:=@List.reverse_append
abbrev ycU:=@Nat.le_of_lt
abbrev ycV:=@PySem.wpAny_rule
abbrev ycW:=@PySem.codeAny_mono
abbrev ycX:=@Int.le_of_lt
abbrev ycY:=@Bool.eq_iff_iff
abbrev ycZ:=@List.nodup_cons
abbrev yda:=@List.any_cons
abbrev ydb:=@List.foldl_cons
abbrev ydc:=@List.map_replicate
abbrev ydd:=@Int.eq_ofNat_of_zero_le
abbrev yde:=@PySem.wpAny_attempt
abbrev ydf:=@Array.forIn_toList
abbrev ydg:=@Bool.not_true
abbrev ydh:=@PyProof.Rows.F.plain_set_update_loop
abbrev ydi:=@PyProof.Rows.boot_isinstance
abbrev ydj:=@PySem.wpAny_pyIter_rangeiter
abbrev ydk:=@PyProof.noPylong_small
abbrev ydl:=@PySem.wpAny_pyIter_list
abbrev ydm:=@PySem.call_gives
abbrev ydn:=@List.takeWhile_append_dropWhile
abbrev ydo:=@PySem.wpAny_pyIter_enum
abbrev ydp:=@PySem.eqIsQuiet_byValue
abbrev ydq:=@PySem.isSubtype_type
abbrev ydr:=@Int.ediv_one
abbrev yds:=@PySem.wpAny_typeOf
abbrev ydt:=@List.map_nil
abbrev ydu:=@PySem.F.typeOf_object_class
abbrev ydv:=@List.getElem?_reverse
abbrev ydw:=@PySem.StrLaws.glued_eq_join
abbrev ydx:=@List.IsPrefix.eq_of_length_le
abbrev ydy:=@List.drop_append_of_le_length
abbrev ydz:=@List.mem_reverse
abbrev ydA:=@PySem.F.slot_list_extend
abbrev ydB:=@PySem.F.type_list_extend
abbrev ydC:=@PySem.wpAny_updateSeq_pair
abbrev ydD:=@PySem.F.plain_reversed_new
abbrev ydE:=@List.mem_of_mem_take
abbrev ydF:=@List.reverse_reverse
abbrev ydG:=@PySem.wpAny_standAt
abbrev ydH:=@PyProof.Rows.boot_reversed
abbrev ydI:=@PySem.F.args_tuple_iterator_next_1
abbrev ydJ:=@List.take_nil
abbrev ydK:=@PySem.typeIs_str
abbrev ydL:=@Int.not_lt
abbrev ydM:=@Sum.inr.inj
abbrev ydN:=@PySem.wpAny_execs_nil
abbrev ydO:=@PySem.W.kia_one
abbrev ydP:=@List.of_mem_zip
abbrev ydQ:=@PySem.F.plain_extend_loop
abbrev ydR:=@List.head?_cons
abbrev ydS:=@List.toList_toArray
abbrev ydT:=@PySem.F.slot_zip_next
abbrev ydU:=@PySem.F.entry_tuple_iterator_next
abbrev ydV:=@PySem.Heap.SameBut.update
abbrev ydW:=@List.length_zip
abbrev ydX:=@List.getElem?_range
abbrev ydY:=@PySem.Calls.Name_function_global
abbrev ydZ:=@Int.fmod_eq_emod_of_nonneg
abbrev yea:=@PySem.wpAny_letOwnedTupleGo_enum
abbrev yeb:=@Array.getElem?_eq_some_iff
abbrev yec:=@PySem.SeqAt.EqAt.int_str
abbrev yed:=@PySem.SeqAt.EqAt.str_int
abbrev yee:=@PyProof.Rows.assignInOrder_cons
abbrev yef:=@PySem.wpAny_pyIter_tuple
abbrev yeg:=@List.mem_filterMap
abbrev yeh:=@PySem.tupleKind_room_in1
abbrev yei:=@List.contains_cons
abbrev yej:=@PySem.wpAny_pyIter_ascii
abbrev yek:=@Array.foldl_toList
abbrev yel:=@Int.natAbs_natCast
abbrev yem:=@List.getElem?_take
abbrev yen:=@Bool.and_false
abbrev yeo:=@Int.mul_nonneg
abbrev yep:=@Decidable.byContradiction
abbrev yeq:=@PySem.wpAny_call
abbrev yer:=@List.getElem?_take_of_lt
abbrev yet:=@PySem.call_meets
abbrev yeu:=@PySem.Paired.length
abbrev yev:=@List.getElem?_replicate
abbrev yew:=@List.all_cons
abbrev yex:=@Nat.mul_assoc
abbrev yey:=@List.IsPrefix.length_le
abbrev yez:=@PySem.wpAny_onRaise
abbrev yeA:=@List.map_take
abbrev yeB:=@List.map_drop
abbrev yeC:=@PySem.F.slot_list_pop
abbrev yeD:=@PySem.F.type_list_pop
abbrev yeE:=@PySem.noFill_tuple_add
abbrev yeF:=@PySem.F.args_tuple_add_2
abbrev yeG:=@PySem.W.Looks.at
abbrev yeH:=@List.getElem_mem
abbrev yeI:=@Nat.min_eq_right
abbrev yeJ:=@List.getElem?_set_self
abbrev yeK:=@UInt32.le_iff_toNat_le
abbrev yeL:=@List.takeWhile_sublist
abbrev yeM:=@List.mem_filter
abbrev yeN:=@PySem.W.looks_findIn
abbrev yeO:=@LawfulBEq.eq_of_beq
abbrev yeP:=@Array.getElem?_toList
abbrev yeQ:=@List.forIn_cons
abbrev yeR:=@List.singleton_append
abbrev yeS:=@Nat.zero_min
abbrev yeT:=@PySem.codeAny_of_tree
abbrev yeU:=@PySem.wpAny_updateSeq
abbrev yeV:=@Nat.mul_div_mul_right
abbrev yeW:=@PyProof.Rows.boot_abs
abbrev yeX:=@List.getElem?_set_ne
abbrev yeY:=@PySem.intText_digits
abbrev yeZ:=@Bool.false_and
abbrev yfa:=@PySem.wpAny_letGo
abbrev yfb:=@Bool.false_or
abbrev yfc:=@Nat.add_assoc
abbrev yfd:=@Nat.lt_min
abbrev yfe:=@Nat.mod_lt
abbrev yff:=@Nat.succ_pos
abbrev yfg:=@Nat.add_zero
def zza:1000<=PySem.sizeLine:=by lia
open List (replicate)
namespace L2
open PySem PySem.Spec PyProof.Rows
noncomputable abbrev Key:=Sum Int Str
noncomputable def xu:Key->Value->Bool
 | .inl k,v=>Value.isInt k v
 | .inr x,v=>Value.isStrOf x v
noncomputable def yE(w:World):Key->Int
 | .inl k=>hashInt k
 | .inr x=>hashStr w x
theorem Jt:∀{k:Key}{v:Value},xu k v=true->(∃i t,k=Sum.inl i/\v=Value.int i t)\/(∃x t,k=Sum.inr x/\v=Value.str x t)
 | .inl i,v,h=>by
  obtain⟨t,e⟩:=Value.isInt_shape (k:=i) (v:=v) h;exact .inl ⟨i,t,Z,e⟩
 | .inr x,v,h=>by
  obtain⟨t,e⟩:=Value.isStrOf_shape (x:=x) (v:=v) h;exact .inr ⟨x,t,Z,e⟩
def Vr(i:Int)(t:Tok):xu (.inl i) (.int i t)=true:=by simp[xu,Value.isInt]
def Vs(x:Str)(t:Tok):xu (.inr x) (.str x t)=true:=by simp[xu,Value.isStrOf]
def Pe(a b:Int):decide ((Sum.inl a:Key)=Sum.inl b)=(a==b):=by
 by_cases e:a=b
 .subst e;simp
 .have h:¬ (Sum.inl a:Key)=Sum.inl b:=λq=>e (Sum.inl.inj q);rw[tM h];exact(yas.mpr e).symm
def Pf(a b:Str):decide ((Sum.inr a:Key)=Sum.inr b)=decide (a=b):=by
 by_cases e:a=b
 .subst e;simp
 .have h:¬ (Sum.inr a:Key)=Sum.inr b:=λq=>e (ydM q);rw[tM h,tM e]
def Pg(a:Int)(b:Str):decide ((Sum.inl a:Key)=Sum.inr b)=false:=tM (λq=>nomatch q)
def Ph(a:Str)(b:Int):decide ((Sum.inr a:Key)=Sum.inl b)=false:=tM (λq=>nomatch q)
noncomputable def QY(prog:Program)(w:World):PySem.KeyKind prog w Key where
 is:=xu
 hash:=yE w
 inj:=λv a b ha hb=>by
  rcases Jt ha with⟨i,t,rfl,rfl⟩|⟨x,t,rfl,rfl⟩
  .rcases Jt hb with⟨j,u,rfl,e⟩|⟨y,u,rfl,e⟩
   .injection e with e1 _;rw[e1]
   .exact nomatch e
  .rcases Jt hb with⟨j,u,rfl,e⟩|⟨y,u,rfl,e⟩
   .exact nomatch e
   .injection e with e1 _;rw[e1]
 byValue:=λk v h=>by
  rcases Jt h with⟨i,t,rfl,rfl⟩|⟨x,t,rfl,rfl⟩<;>rfl
 pyHash:=λhv h=>by
  rcases Jt hv with⟨i,t,rfl,rfl⟩|⟨x,t,rfl,rfl⟩
  .exact wpAny_pyHash_int h
  .exact wpAny_pyHash_str h
 eqBool:=λhu hv h=>by
  rcases Jt hu with⟨i,t,rfl,rfl⟩|⟨x,t,rfl,rfl⟩
  .rcases Jt hv with⟨j,u,rfl,rfl⟩|⟨y,u,rfl,rfl⟩
   .rw[Pe]at h;exact wpAny_eqBool_int h
   .rw[Pg]at h;exact yec i t y u _ _ _ _ h
  .rcases Jt hv with⟨j,u,rfl,rfl⟩|⟨y,u,rfl,rfl⟩
   .rw[Ph]at h;exact yed x t j u _ _ _ _ h
   .rw[Pf]at h;exact wpAny_eqBool_str h
 «strs»:=λk x t v h=>by
  rcases Jt h with⟨i,u,rfl,e⟩|⟨y,u,rfl,e⟩
  .exact nomatch e
  .injection e with e1 _;subst e1;cases v<;>rfl
def jL(prog:Program)(w:World)(i:Int)(t:Tok):(QY prog w).is (.inl i) (.int i t)=true:=Vr i t
def Ju(prog:Program)(w:World)(x:Str)(t:Tok):(QY prog w).is (.inr x) (.str x t)=true:=Vs x t
inductive V where
 |aq|bl (b:Bool)|int (i:Int)|str (x:Str)|eB (b:Array UInt8)|ow (b:UInt64)|ref (a:Addr)|ty (n:String)
 deriving DecidableEq
def RelV:V->Value->Prop
 | .aq,u=>u=Value.none
 | .bl b,u=>u=Value.bool b
 | .int i,u=>∃t,u=Value.int i t
 | .str x,u=>∃t,u=Value.str x t
 | .eB b,u=>∃t,u=Value.bytes b t
 | .ow b,u=>∃t,u=Value.float b t
 | .ref a,u=>u=Value.ref a
 | .ty n,u=>u=Value.type n
abbrev Vals:List V->List Value->Prop:=Paired RelV
theorem Vals.length{xs:List V}{us:List Value}(r:Vals xs us):xs.length=us.length:=yeu r
theorem Vals.get:∀{xs:List V}{us:List Value}{i:Nat}{x:V},Vals xs us->xs[i]? =some x->∃u,us[i]? =some u/\RelV x u
 |_,_,_,_,.nil,e=>by simp at e
 |_,_,0,_,.cons r _,e=>by simp at e;subst e;exact⟨_,Z,r⟩
 |_,_,i+1,x,.cons _ t,e=>by
  obtain⟨u,h1,h2⟩:=Vals.get (i:=i) (x:=x) t (by simpa using e);exact⟨u,by simpa using h1,h2⟩
theorem Vals.set(r:RelV x u):∀{xs:List V}{us:List Value}(i:Nat),Vals xs us->Vals (xs.set i x) (us.set i u)
 |_,_,_,.nil=>.nil
 |_,_,0,.cons _ t=>.cons r t
 |_,_,i+1,.cons q t=>.cons q (Vals.set r i t)
theorem Vals.append:∀{xs ys:List V}{us ws:List Value},Vals xs us->Vals ys ws->Vals (xs++ys) (us++ws)
 |_,_,_,_,.nil,s=>s
 |_,_,_,_,.cons r t,s=>.cons r (Vals.append t s)
theorem Vals.take:∀{xs:List V}{us:List Value}(n:Nat),Vals xs us->Vals (xs.take n) (us.take n)
 |_,_,0,_=>.nil
 |_,_,_+1,.nil=>.nil
 |_,_,n+1,.cons r t=>.cons r (Vals.take n t)
theorem Vals.drop:∀{xs:List V}{us:List Value}(n:Nat),Vals xs us->Vals (xs.drop n) (us.drop n)
 |_,_,0,r=>r
 |_,_,_+1,.nil=>.nil
 |_,_,n+1,.cons _ t=>Vals.drop n t
def Y8:Option V->Option Value->Prop
 |some v,some u=>RelV v u
 |none,none=>True
 |_,_=>False
def KV{κ:Type}:List (κ × V)->List (κ × Value)->Prop:=Paired λ(p:κ × V)(q:κ × Value)=>p.1=q.1/\RelV p.2 q.2
noncomputable def kV:Key->V
 | .inl i=>.int i
 | .inr x=>.str x
inductive HO where
 |lst (xs:List V)
 |tup (xs:List V)
 |dK (al:List (Key × V))|dT (al:List (List Key × V))
 |set (S:Int->Bool) (n:Nat)
 |ins (C dx:Addr) (fs:List (Str × V))
 |own (x:Addr)
 |xd (fs:List (Str × V))
 |met (f x:Addr)
 |D9 (lo hi:Int)
 |dA (o:Obj) (u:HO)
 |ox (ps:Array Value)
 |ext (φ:Heap->Prop)
noncomputable abbrev Hp:=Addr->Option HO
noncomputable def upd(H:Hp)(a:Addr)(o:HO):Hp:=λb=>if b=a then some o else H b
def Qf:upd H a o a=some o:=by unfold upd;rw[yai rfl]
def Qo(h:b≠a):upd H a o b=H b:=by unfold upd;rw[yah h]
def Fu{H:Hp}(h:H a=some o)(h':H b=some u)(d:o≠u):a≠b:=by
 intro e;subst e;rw[h]at h';exact d (tP h')
def QA{H:Hp}(h:H a=some o)(h':H b=none):a≠b:=by
 intro e;subst e;rw[h]at h';cases h'
def Vt(h:Heap)(a:Addr)(items:Array Value):Prop:=∃o,h.get? a=some o/\o.cls=.type "tuple"/\∃n,o.data=.seq items n/\o.dict=none
def Vt.tup{h:Heap}{a:Addr}{items:Array Value}(p:Vt h a items):IsTup h a items:=let ⟨o,h1,h2,n,h3,_⟩:=p;⟨o,h1,h2,n,h3⟩
def Vt.new(h:Heap)(items:Array Value):Vt (h.push {cls:=.type "tuple",data:=.seq items}) h.objs.size items:=⟨_,yag _ rfl,Z,_,Z,Z⟩
section
variable (P:Program)(w:World)
def JJ(H:Hp)(h:Heap)(a:Addr):HO->Prop
 | .lst xs=>xs.length<=sizeLine/\∃(its:List Value)(n:Nat),Vals xs its/\h.get? a=some {cls:=.type "list",data:=.seq its.toArray n}
 | .tup xs=>xs.length<=sizeLine/\∃its:List Value,Vals xs its/\Vt h a its.toArray
 | .dK al=>al.length<=sizeLine/\(a==sysModules)=false/\∃vs,KV al vs/\h.DictOf (QY P w) a vs
 | .dT al=>al.length<=sizeLine/\(a==sysModules)=false/\∃xs:List (List Key × Addr × Value),
   Paired (λ(p:List Key × V)(q:List Key × Addr × Value)=>p.1=q.1/\H q.2.1=some (.tup (p.1.map kV))/\RelV p.2 q.2.2) al xs/\
   ∃o es ep,h.get? a=some o/\o.ExactDict/\o.data=.dict es ep/\es.toList=xs.map (entryOfKey (tupleKind (QY P w)))/\(xs.map (·.1)).Nodup
 | .set S n=>h.SetOf (intKind P w) a S n
 | .ins C dx fs=>H dx=some (.own a)/\fs.length<=1000/\dx≠a/\h.get? a=some (instObj C dx)/\
   ∃mA,h.Ns1 dx mA/\(∀f,Y8 (fs.lookup f) (mA f))/\PySem.Within mA (fs.map (·.1))
 | .own _=>∃o,h.get? a=some o
 | .xd fs=>∃mA,h.Ns1 a mA/\∀f,Y8 (fs.lookup f) (mA f)
 | .D9 lo hi=>∃t u v,h.get? a=some {cls:=.type "range",data:=.fields #[.int lo t,.int hi u,.int 1 v]}
 | .dA o u=>h.get? a=some o/\JJ H h a u
 | .ox ps=>h.get? a=some {cls:=.none,data:=.fields ps}
 | .met f x=>h.get? a=some (methodObj (.ref f) (.ref x))
 | .ext φ=>φ h/\(∃o,h.get? a=some o)/\∀h1 h2:Heap,φ h1->(∀o,h1.get? a=some o->h2.get? a=some o)->φ h2
def bG(H:Hp)(h:Heap):Prop:=∀a o,H a=some o->JJ P w H h a o
end
section
variable {P:Program}{w:World}{H:Hp}{h h':Heap}{a:Addr}{o:HO}
theorem JJ.lt(x:JJ P w H h a o):a<h.objs.size:=by
 cases o with
 |lst xs=>obtain⟨_,_,_,_,e⟩:=x;exact yaj e
 |tup xs=>obtain⟨_,_,_,p⟩:=x;exact p.tup.lt
 |dK al=>obtain⟨_,_,_,_,o,_,_,e,_⟩:=x;exact yaj e
 |dT al=>obtain⟨_,_,_,_,o,_,_,e,_⟩:=x;exact yaj e
 |set S n=>obtain⟨o,_,_,_,e,_⟩:=x;exact yaj e
 |ins C dx fs=>obtain⟨_,_,_,e,_⟩:=x;exact yaj e
 |own y=>obtain⟨_,e⟩:=x;exact yaj e
 |xd fs=>obtain⟨_,⟨_,_,_,e,_⟩,_⟩:=x;exact yaj e
 |D9 lo hi=>obtain⟨_,_,_,e⟩:=x;exact yaj e
 |dA ob u=>obtain⟨e,_⟩:=x;exact yaj e
 |ox ps=>exact yaj (show h.get? a=some _ from x)
 |met f y=>exact yaj (show h.get? a=some _ from x)
 |ext φ=>obtain⟨_,⟨_,e⟩,_⟩:=x;exact yaj e
theorem Paired.Fv:∀{l₁:List α}{l₂:List β},Paired F l₁ l₂->(∀a b,F a b->G a b)->Paired G l₁ l₂
 |_,_,.nil,_=>.nil
 |_,_,.cons r t,f=>.cons (f _ _ r) (Paired.Fv t f)
def JJ.yz(x:JJ P w H h a o)(k:∀b u,(b=a\/H b=some (.own a))->h.get? b=some u->h'.get? b=some u)(ho:∀b,H b=some (.own a)->H' b=some (.own a))(ht:∀b xs,H b=some (.tup xs)->H' b=some (.tup xs)):JJ P w H' h' a o:=by
 induction o with
 |lst xs=>obtain⟨z,its,n,r,e⟩:=x;exact⟨z,its,n,r,k _ _ (.inl Z) e⟩
 |tup xs=>obtain⟨z,its,r,ob,e,c⟩:=x;exact⟨z,its,r,ob,k _ _ (.inl Z) e,c⟩
 |dK al=>obtain⟨z,y,vs,r,ob,es,ep,e,c⟩:=x;exact⟨z,y,vs,r,ob,es,ep,k _ _ (.inl Z) e,c⟩
 |dT al=>
  obtain⟨z,y,xs,r,ob,es,ep,e,c⟩:=x;exact⟨z,y,xs,Paired.Fv r λp q z=>⟨z.1,ht _ _ z.2.1,z.2.2⟩,ob,es,ep,k _ _ (.inl Z) e,c⟩
 |set S n=>obtain⟨ob,es,ep,t,e,c⟩:=x;exact⟨ob,es,ep,t,k _ _ (.inl Z) e,c⟩
 |ins C dx fs=>
  obtain⟨d,z,ne,e,mA,⟨od,es,ep,e2,c⟩,r⟩:=x;exact⟨ho _ d,z,ne,k _ _ (.inl Z) e,mA,⟨od,es,ep,k _ _ (.inr d) e2,c⟩,r⟩
 |own y=>obtain⟨ob,e⟩:=x;exact⟨ob,k _ _ (.inl Z) e⟩
 |xd fs=>obtain⟨mA,⟨od,es,ep,e,c⟩,r⟩:=x;exact⟨mA,⟨od,es,ep,k _ _ (.inl Z) e,c⟩,r⟩
 |D9 lo hi=>obtain⟨t,u,v,e⟩:=x;exact⟨t,u,v,k _ _ (.inl Z) e⟩
 |dA ob u ih=>obtain⟨e,q⟩:=x;exact⟨k _ _ (.inl Z) e,ih q⟩
 |ox ps=>
  have e:h.get? a=some {cls:=.none,data:=.fields ps}:=x;show h'.get? a=some {cls:=.none,data:=.fields ps};exact k a _ (.inl Z) e
 |met f y=>
  have e:h.get? a=some (methodObj (.ref f) (.ref y)):=x;show h'.get? a=some (methodObj (.ref f) (.ref y));exact k a _ (.inl Z) e
 |ext φ=>obtain⟨p,⟨o,e⟩,st⟩:=x;exact⟨st _ _ p λo q=>k _ _ (.inl Z) q,⟨o,k _ _ (.inl Z) e⟩,st⟩
theorem bG.lt(x:bG P w H h)(e:H a=some o):a<h.objs.size:=(x a o e).lt
def bG.fresh(x:bG P w H h)(e:h.objs.size<=a):H a=none:=by
 cases q:H a with
 |none=>rfl
 |some u=>exact absurd (yan (x.lt q) e) (lH _)
def bG.kept(x:bG P w H h)(k:∀b u,h.get? b=some u->h'.get? b=some u):bG P w H h':=λa o e=>
 (x a o e).yz (λb u _ q=>k b u q) (λ_ q=>q) λ_ _ q=>q
def bG.laid(x:bG P w H h)(k:∀b u,h.get? b=some u->h'.get? b=some u)(hp:h.objs.size<=a)(new:JJ P w (upd H a o) h' a o):bG P w (upd H a o) h':=λb u e=>by
 have hn:=x.fresh hp
 by_cases hb:b=a
 .subst hb;rw[Qf]at e;cases e;exact new
 .rw[Qo hb]at e;exact(x b u e).yz (λc v _ q=>k c v q) (λc q=>by rw[Qo (QA q hn)];exact q) λc xs q=>by rw[Qo (QA q hn)];exact q
end
def Rd(H:Hp)(a:Addr)(u:HO):Prop:=H a=some u\/∃o,H a=some (.dA o u)
def Rd.ok(r:Rd H a u)(x:bG P w H h):JJ P w H h a u:=by
 rcases r with r|⟨o,r⟩
 .exact x a u r
 .obtain⟨_,q⟩:=x a _ r;exact q
def BC:Option HO->Prop
 |some (.lst _)=>True
 |some (.dK _)=>True
 |some (.dT _)=>True
 |some (.set _ _)=>True
 |some (.ins _ _ _)=>True
 |some (.ext _)=>True
 |_=>False
section
def bG.write(ok:bG P w H h)(mu:BC (H x))(he:e=x\/H e=some (.own x))(k:∀b u,b≠e->h.get? b=some u->h'.get? b=some u)(AL:∃u,h'.get? e=some u)(new:JJ P w (upd H x o') h' x o'):bG P w (upd H x o') h':=λb u q=>by
 have BD:∀c y,H c=some (.own y)->c≠x:=λc y r z=>by subst z;rw[r]at mu;exact mu
 have Fw:∀c xs,H c=some (.tup xs)->c≠x:=λc xs r z=>by subst z;rw[r]at mu;exact mu
 by_cases hb:b=x
 .subst hb;rw[Qf]at q;cases q;exact new
 .rw[Qo hb]at q
  by_cases FB:b=e
  .have q':H b=some (.own x):=by
    rcases he with z|z
    .exact absurd (FB.trans z) hb
    .rw[FB];exact z
   rw[q]at q';cases q';obtain⟨v,hv⟩:=AL;exact⟨v,by rw[FB];exact hv⟩
  .refine(ok b u q).yz (λc v hc r=>k c v ?_ r) (λc r=>by rw[Qo (BD c b r)];exact r) λc xs r=>by rw[Qo (Fw c xs r)];exact r
   rcases hc with rfl|hc
   .exact FB
   .rintro rfl;rcases he with z|z
    .exact BD c b hc z
    .rw[hc]at z;cases z;exact hb rfl
end
structure Un(fs ex:List Addr)(H H':Hp)(h h':Heap):Prop where
 keep:∀b o,h.get? b=some o->H b=none->b∉fs->b∉ex->h'.get? b=some o
 slot:∀b o,h.get? b=some o->H b=none->b∈fs->b∉ex->∃sl,h'.get? b=some {o with slots:=sl}
 free:∀b o,h.get? b=some o->H b=none->b∉ex->H' b=none
 there:∀b o,h.get? b=some o->b∉ex->∃o',h'.get? b=some o'
 qe:∀b xs,H b=some (.tup xs)->H' b=some (.tup xs)
 cQ:∀b o u,H b=some (.dA o u)->H' b=some (.dA o u)
 dm:∀b ps,H b=some (.ox ps)->∃more,H' b=some (.ox (ps++more))
section
variable {fs ex:List Addr}{H H1:Hp}{h h':Heap}{a:Addr}{o:HO}
def Un.any(u:Un fs ex H H1 h h1)(q:h.get? b=some ob)(n:H b=none)(hx:b∉ex):∃sl,h1.get? b=some {ob with slots:=sl}:=by
 by_cases hb:b∈fs
 .exact u.slot b ob q n hb hx
 .exact⟨ob.slots,u.keep b ob q n hb hx⟩
def Un.kept(k:∀b u,h.get? b=some u->h'.get? b=some u):Un fs ex H H h h':=
 ⟨λb ob q _ _ _=>k b ob q,λb ob q _ _ _=>⟨ob.slots,k b ob q⟩,λ_ _ _ n _=>n,λb ob q _=>⟨ob,k b ob q⟩,λ_ _ q=>q,λ_ _ _ q=>q,λ_ ps q=>⟨#[],by rw[q];simp⟩⟩
def Un.refl:Un fs ex H H h h:=Un.kept λ_ _ q=>q
def Un.laid(k:∀b u,h.get? b=some u->h'.get? b=some u)(hp:h.objs.size<=a)(hn:H a=none):Un fs ex H (upd H a o) h h' where
 keep:=λb u q _ _ _=>k b u q
 slot:=λb u q _ _ _=>⟨u.slots,k b u q⟩
 free:=λb u q n _=>by rw[Qo (yaq (yan (yaj q) hp))];exact n
 there:=λb u q _=>⟨u,k b u q⟩
 qe:=λb xs q=>by rw[Qo (QA q hn)];exact q
 cQ:=λb u xs q=>by rw[Qo (QA q hn)];exact q
 dm:=λb ps q=>⟨#[],by rw[Qo (QA q hn),q];simp⟩
def Un.write(mu:BC (H x))(he:e=x\/H e=some (.own x))(k:∀b u,b≠e->h.get? b=some u->h'.get? b=some u)(AL:∃u,h'.get? e=some u):Un fs ex H (upd H x o) h h':=by
 have hx:∀b,H b=none->b≠x:=λb n z=>by subst z;rw[n]at mu;exact mu
 have hb:∀b,H b=none->b≠e:=λb n z=>by
  subst z;rcases he with r|r
  .exact hx b n r
  .rw[n]at r;cases r
 have hm:∀b u,H b=some u->¬ BC (some u)->b≠x:=λb u q nm z=>by subst z;rw[q]at mu;exact nm mu
 refine⟨λb u q n _ _=>k b u (hb b n) q,λb u q n _ _=>⟨u.slots,k b u (hb b n) q⟩,λb u q n _=>by rw[Qo (hx b n)];exact n,λb u q _=>?_,
  λb xs q=>by rw[Qo (hm b _ q λz=>z)];exact q,λb u xs q=>by rw[Qo (hm b _ q λz=>z)];exact q,λb ps q=>⟨#[],by rw[Qo (hm b _ q λz=>z),q];simp⟩⟩
 by_cases FB:b=e
 .subst FB;exact AL
 .exact⟨u,k b u FB q⟩
end
noncomputable def D'(h:Heap)(H:Hp):List Addr:=(List.range h.objs.size).filter λa=>(H a).isSome
noncomputable def yF(h:Heap)(H:Hp):Heap:=hideAll h (D' h H)
def kL(h:Heap)(H:Hp):(yF h H).objs.size=h.objs.size:=hideAll_size _ _
def yG(e:h.get? b=some o)(n:H b=none):(yF h H).get? b=some o:=
 hideAll_get _ e λhm=>by
  have q:(H b).isSome=true:=(yeM.mp hm).2;rw[n]at q;simp at q
def Pk(e:(yF h H).get? b=some o):h.get? b=some o/\H b=none:=by
 have e':h.get? b=some o:=of_hideAll (D' h H) e;exists e';cases q:H b with
 |none=>rfl
 |some x=>
  have hm:b∈D' h H:=yeM.mpr ⟨List.mem_range.mpr (yaj e'),by simp[q]⟩;have z:(yF h H).get? b=none:=hideAll_none (D' h H) hm;rw[z]at e;cases e
structure Mod(K:Frag)(mg:Str->Option Value)(Y:Heap):Prop where
 sE:K.In Y
 glob:Y.Ns mainGlobals mg
 blt:∃mb,Y.Ns builtinsNs mb/\∀x:Str,x≠"__name__"->mb x=bootBuiltins x
 nolimit:Y.NoLimit
structure Cx where
 prog:Program
 w:World
 K:Frag
 mg:Str->Option Value
 Y:Heap
 A:Around
 N:List Str
 s₀:Shared
 H₀:Hp
 env:Env
 L:List Env
 stack:List Env
 ex:List Addr
 fn:Str->Bool
 calm:Bool
 pn:List (Addr × Obj)
 xe:Value->Shared->Prop
noncomputable def bM(l:List Env):List Addr:=l.filterMap (·.frame)
noncomputable abbrev Cx.fs(X:Cx):List Addr:=bM X.L
def Ea(sc:Scope)(x:Str):Prop:=sc.names.lookup x=some .local\/sc.names.lookup x=some .cell\/sc.names.lookup x=some .free
def Loc(sc:Scope)(x:Str):Prop:=sc.names.lookup x=some .local\/sc.names.lookup x=some .cell
def Look(env:Env)(h:Heap)(m:Str->Option Value)(x:Str)(u:Value):Prop:=
 (env.kindOf x=some .local/\m x=some u)\/((env.kindOf x=some .cell\/env.kindOf x=some .free)/\∃c,env.cells.lookup x=some c/\h.IsCell c (some u))
structure Cx.Ok(X:Cx):Prop where
 mod:Mod X.K X.mg X.Y
 kind:X.env.scope.kind=.function
 glob:X.env.globals=mainGlobals
 blt:X.env.builtins=builtinsNs
 above:X.s₀.heap.objs.size<=X.env.locals
 inj:∀x y c,X.env.cells.lookup x=some c->X.env.cells.lookup y=some c->x=y
 has:∀x,(X.env.kindOf x=some .cell\/X.env.kindOf x=some .free)->∃c,X.env.cells.lookup x=some c
 BE:∀x c,X.fn x=true->X.env.cells.lookup x=some c->X.s₀.heap.objs.size<=c
 hd:X.calm=true->X.A.handled=none
 frames:X.A.frames=some X.stack
 fL:X.stack=X.L\/(X.stack=X.env::X.L/\X.env.frame=some X.env.locals)
 Li:∀b∈X.ex,b≠X.env.locals/\∀x c,X.env.cells.lookup x=some c->c≠b
 bs:∀b o,X.Y.get? b=some o->X.s₀.heap.get? b=some o/\X.H₀ b=none
 oz:X.Y.objs.size<=X.s₀.heap.objs.size
 fM:∀b o,X.Y.get? b=some o->b∉X.ex
 iT:∀b∈X.ex,b∉X.fs
 kH:X.s₀.heap.FunFrames X.Y X.L
 sF:∀b∈X.fs,X.H₀ b=none
structure Inv(X:Cx)(U:List (Addr × Obj))(σ:List (Option V))(H:Hp)(s:Shared):Prop where
 ok:X.Ok
 os:s.os=X.s₀.os
 bare:AllBare s.gens
 Y:Un X.fs X.ex X.H₀ H X.s₀.heap s.heap
 loc:∃m,s.heap.Ns X.env.locals m/\∀(i:Nat)(x:Str)(v:V),X.N[i]? =some x->σ[i]? =some (some v)->Ea X.env.scope x->∃u,RelV v u/\Look X.env s.heap m x u
 cell:∀x c,X.env.cells.lookup x=some c->∃v,s.heap.IsCell c v
 free:H X.env.locals=none
 aV:∀x c,X.env.cells.lookup x=some c->H c=none
 pin:∀p∈X.pn++U,s.heap.get? p.1=some p.2/\H p.1=none/\p.1≠X.env.locals/\p.1∉X.fs/\∀v,p.2.data≠ .cell v
 ao:bG X.prog X.w H s.heap
 len:σ.length=X.N.length
section
variable {X:Cx}{U:List (Addr × Obj)}{σ:List (Option V)}{H:Hp}{s:Shared}{h':Heap}
def Cx.Ok.Pl(ok:X.Ok)(e:X.Y.get? b=some o):b∉X.fs:=λhb=>by
 have:=(ok.kH.mem hb).1;rw[e]at this;cases this
theorem Inv.bs(I:Inv X U σ H s):∀b o,X.Y.get? b=some o->s.heap.get? b=some o/\H b=none:=λb o e=>
 ⟨I.Y.keep b o (I.ok.bs b o e).1 (I.ok.bs b o e).2 (I.ok.Pl e) (I.ok.fM b o e),I.Y.free b o (I.ok.bs b o e).1 (I.ok.bs b o e).2 (I.ok.fM b o e)⟩
def Inv.bk(I:Inv X U σ H s):∀b o,X.Y.get? b=some o->s.heap.get? b=some o:=λb o e=>(I.bs b o e).1
theorem Inv.mod(I:Inv X U σ H s):Mod X.K X.mg X.Y:=I.ok.mod
def Inv.bH(I:Inv X U σ H s):X.K.In s.heap:=I.ok.mod.sE.keeps I.bk
theorem Inv.lt(I:Inv X U σ H s):X.env.locals<s.heap.objs.size:=let ⟨_,hn,_⟩:=I.loc;hn.lt
def Inv.sz(I:Inv X U σ H s):X.s₀.heap.objs.size<=s.heap.objs.size:=yao I.ok.above (ycU I.lt)
def Inv.Pm(I:Inv X U σ H s){a:Addr}(h:s.heap.objs.size<=a):a∉X.fs:=λhb=>by
 obtain⟨_,o,ho,_⟩:=I.ok.kH.mem hb;exact absurd (yan (yaj ho) (yao I.sz h)) (lH _)
def Inv.sG(I:Inv X U σ H s):∀x c,X.env.cells.lookup x=some c->c≠X.env.locals:=λx c e z=>by
 obtain⟨v,o,ho,hd⟩:=I.cell x c e;obtain⟨m,⟨o',es,ep,iU,Sc,_⟩,_⟩:=I.loc;rw[z,iU]at ho;cases ho;rw[Sc]at hd;cases hd
theorem Inv.kH(I:Inv X U σ H s):s.heap.FunFrames X.Y X.L:=by
 have all:∀(l:List Env),(∀b∈bM l,b∈X.fs)->X.s₀.heap.FunFrames X.Y l->s.heap.FunFrames X.Y l:=by
  intro l
  induction l with
  |nil=>intro _ _;trivial
  |cons env r ih=>
   intro hs hl;obtain⟨hk,⟨qLa,o,hf,hn,ho,hd⟩,hr⟩:=hl;have hL:qLa∈X.fs:=hs qLa (by unfold bM;rw[ycR,hf];exact tX);obtain⟨sl,e⟩:=I.Y.slot qLa o ho (I.ok.sF qLa hL) hL λz=>I.ok.iT qLa z hL;exact⟨hk,⟨qLa,_,hf,hn,e,hd⟩,ih (λb hb=>hs b (by unfold bM;rw[ycR,hf];exact tW _ hb)) hr⟩
 exact all X.L (λ_ hb=>hb) I.ok.kH
theorem Inv.stack(I:Inv X U σ H s):s.heap.FunFrames X.Y X.stack:=by
 rcases I.ok.fL with e|⟨e,hf⟩
 .rw[e];exact I.kH
 .rw[e];obtain⟨m,hn,_⟩:=I.loc;refine .cons (by rw[I.ok.kind];lia) hf hn ?_ I.kH;exact Heap.get?_none_of_le (yao I.ok.oz I.ok.above)
def Inv.zu(I:Inv X U σ H s):∀b∈bM X.stack,b∈X.env.locals::X.fs:=λb hb=>by
 rcases I.ok.fL with e|⟨e,hf⟩
 .rw[e]at hb;exact tW _ hb
 .rw[e]at hb;unfold bM at hb;rw[ycR,hf]at hb;exact hb
def Inv.jM(I:Inv X U σ H s):∀b∈bM X.stack,H b=none:=λb hb=>by
 rcases yak.mp (I.zu b hb)with e|hb
 .rw[e];exact I.free
 .obtain⟨_,o,ho,_⟩:=I.ok.kH.mem hb;exact I.Y.free b o ho (I.ok.sF b hb) λz=>I.ok.iT b z hb
def Inv.step{ch:List Addr}(I:Inv X U σ H s)(No:∀b∈ch,(b∈X.ex\/X.s₀.heap.objs.size<=b)/\b≠X.env.locals/\(∀x c,X.env.cells.lookup x=some c->c≠b)/\∀p∈X.pn++U,p.1≠b)(keep:∀b o,b≠X.env.locals->b∉X.fs->b∉ch->s.heap.get? b=some o->H b=none->h'.get? b=some o)(slot:∀b o,b≠X.env.locals->b∈X.fs->b∉ch->s.heap.get? b=some o->H b=none->∃sl,h'.get? b=some {o with slots:=sl})(free:∀b o,b∉ch->s.heap.get? b=some o->H b=none->H' b=none)(there:∀b o,b∉ch->s.heap.get? b=some o->∃o',h'.get? b=some o')(qe:∀b xs,H b=some (.tup xs)->H' b=some (.tup xs))(cQ:∀b o u,H b=some (.dA o u)->H' b=some (.dA o u))(dm:∀b ps,H b=some (.ox ps)->∃more,H' b=some (.ox (ps++more)))(ns:∀m,s.heap.Ns X.env.locals m->h'.Ns X.env.locals m)(ao:bG X.prog X.w H' h')(hg:AllBare g'):Inv X U σ H' {s with heap:=h',gens:=g',drawn:=d',toks:=t'}:=by
 have Eb:∀b o,X.s₀.heap.get? b=some o->b≠X.env.locals:=λb o e=>yaq (yan (yaj e) I.ok.above);have Ec:∀b o,X.s₀.heap.get? b=some o->b∉X.ex->b∉ch:=λb o e hx hb=>by
  rcases(No b hb).1 with z|z
  .exact hx z
  .exact absurd (yan (yaj e) z) (lH _)
 have cellK:∀x c,X.env.cells.lookup x=some c->∀v,s.heap.IsCell c v->h'.IsCell c v:=λx c e v⟨o,ho,hd⟩=>by
  have BF:c∉ch:=λz=>(No c z).2.2.1 x c e rfl
  by_cases hc:c∈X.fs
  .obtain⟨sl,q⟩:=slot c o (I.sG x c e) hc BF ho (I.aV x c e);exact⟨_,q,hd⟩
  .exact⟨o,keep c o (I.sG x c e) hc BF ho (I.aV x c e),hd⟩
 refine⟨I.ok,I.os,hg,⟨λb o e n hb hx=>?_,λb o e n hb hx=>?_,λb o e n hx=>?_,λb o e hx=>?_,λb xs e=>qe b xs (I.Y.qe b xs e),λb o xs e=>cQ b o xs (I.Y.cQ b o xs e),λb ps e=>?_⟩,?_,λx c e=>?_,?_,λx c e=>?_,λp hp=>?_,ao,I.len⟩
 .exact keep b o (Eb b o e) hb (Ec b o e hx) (I.Y.keep b o e n hb hx) (I.Y.free b o e n hx)
 .obtain⟨sl,e1⟩:=I.Y.slot b o e n hb hx;obtain⟨BG,e2⟩:=slot b _ (Eb b o e) hb (Ec b o e hx) e1 (I.Y.free b o e n hx);exact⟨BG,e2⟩
 .obtain⟨o',e1⟩:=I.Y.there b o e hx;exact free b o' (Ec b o e hx) e1 (I.Y.free b o e n hx)
 .obtain⟨o',e1⟩:=I.Y.there b o e hx;exact there b o' (Ec b o e hx) e1
 .obtain⟨m1,e1⟩:=I.Y.dm b ps e;obtain⟨m2,e2⟩:=dm b _ e1;exact⟨m1++m2,by rw[e2,Array.append_assoc]⟩
 .obtain⟨m,hn,hl⟩:=I.loc;refine⟨m,ns m hn,λi x v e1 e2 e3=>?_⟩;obtain⟨u,r,l⟩:=hl i x v e1 e2 e3;exists u,r;rcases l with l|⟨k,c,e,z⟩
  .exact .inl l
  .exact .inr ⟨k,c,e,cellK x c e _ z⟩
 .obtain⟨v,z⟩:=I.cell x c e;exact⟨v,cellK x c e v z⟩
 .obtain⟨m,⟨o,_,_,ho,_⟩,_⟩:=I.loc;exact free _ o (λz=>(No _ z).2.1 Z) ho I.free
 .obtain⟨v,o,ho,hd⟩:=I.cell x c e;exact free c o (λz=>(No c z).2.2.1 x c e Z) ho (I.aV x c e)
 .obtain⟨e,n,ne,nf,d⟩:=I.pin p hp;have BF:p.1∉ch:=λz=>(No p.1 z).2.2.2 p hp rfl;exact⟨keep p.1 p.2 ne nf BF e n,free p.1 p.2 BF e n,ne,nf,d⟩
def Inv.un(I:Inv X U σ H s)(u:Un X.fs [] H H' s.heap h')(ao:bG X.prog X.w H' h'):Inv X U σ H' {s with heap:=h',toks:=t'}:=by
 obtain⟨m,⟨o,es,ep,ho,r⟩,_⟩:=id I.loc;obtain⟨sl,hL⟩:=u.any ho I.free (by simp);exact I.step (g':=s.gens) (d':=s.drawn) (ch:=[]) (λ_ z=>nomatch z) (λb o _ hb _ e n=>u.keep b o e n hb (by simp)) (λb o _ hb _ e n=>u.slot b o e n hb (by simp)) (λb o _ e n=>u.free b o e n (by simp)) (λb o _ e=>u.there b o e (by simp)) u.qe u.cQ u.dm (λm' hm=>by
  obtain⟨o',sK,Fx,iU,r'⟩:=hm;rw[ho]at iU;cases iU;exact⟨_,sK,Fx,hL,r'⟩) ao I.bare
def Inv.call{ch:List Addr}(I:Inv X U σ H s)(u:Un (bM X.stack) ch H H' s.heap h')(ao:bG X.prog X.w H' h')(hg:AllBare g')(No:∀b∈ch,(b∈X.ex\/X.s₀.heap.objs.size<=b)/\b≠X.env.locals/\(∀x c,X.env.cells.lookup x=some c->c≠b)/\∀p∈X.pn++U,p.1≠b):Inv X U σ H' {s with heap:=h',gens:=g',drawn:=d',toks:=t'}:=by
 obtain⟨m,⟨o,es,ep,ho,r⟩,_⟩:=id I.loc;obtain⟨sl,hL⟩:=u.any ho I.free λz=>(No _ z).2.1 rfl;exact I.step (ch:=ch) No (λb o hL hb hc e n=>u.keep b o e n (λz=>(yak.mp (I.zu b z)).elim hL hb) hc) (λb o _ _ hc e n=>u.any e n hc) (λb o hc e n=>u.free b o e n hc) (λb o hc e=>u.there b o e hc) u.qe u.cQ u.dm (λm' hm=>by
  obtain⟨o',sK,Fx,iU,r'⟩:=hm;rw[ho]at iU;cases iU;exact⟨_,sK,Fx,hL,r'⟩) ao hg
def Inv.turned{it:Addr}(I:Inv X U σ H s)(k:∀b o,b≠it->s.heap.get? b=some o->h'.get? b=some o)(hn:H it=none)(hL:it≠X.env.locals)(h1:it∈X.ex\/X.s₀.heap.objs.size<=it)(h2:∀x c,X.env.cells.lookup x=some c->c≠it)(h3:∀p∈X.pn++U,p.1≠it):Inv X U σ H {s with heap:=h',toks:=t'}:=by
 have fN:∀b u,H b=some u->b≠it:=λb u e z=>by rw[z,hn]at e;cases e
 refine I.step (g':=s.gens) (d':=s.drawn) (ch:=[it]) (λb hb=>?_) (λb o _ _ hc e _=>k b o (λz=>hc (by simp[z])) e) (λb o _ _ hc e _=>⟨o.slots,k b o (λz=>hc (by simp[z])) e⟩) (λ_ _ _ _ n=>n)
  (λb o hc e=>⟨o,k b o (λz=>hc (by simp[z])) e⟩) (λ_ _ e=>e) (λ_ _ _ e=>e) (λb ps e=>⟨#[],by rw[e];simp⟩) (λm hm=>?_) (λb u e=>?_) I.bare
 .have e:b=it:=by simpa using hb
  subst e;exact⟨h1,hL,h2,h3⟩
 .obtain⟨o,es,ep,ho,r⟩:=hm;exact⟨o,es,ep,k _ o (Ne.symm hL) ho,r⟩
 .refine(I.ao b u e).yz (λc v hc q=>k c v ?_ q) (λ_ q=>q) λ_ _ q=>q;rcases hc with z|z
  .rw[z];exact fN b u e
  .exact fN c _ z
def Inv.tok(I:Inv X U σ H s)(t:Nat):Inv X U σ H {s with toks:=t}:=I.un (h':=s.heap) (t':=t) Un.refl I.ao
theorem Inv.kept(I:Inv X U σ H s)(k:∀b u,s.heap.get? b=some u->h'.get? b=some u):Inv X U σ H {s with heap:=h',toks:=t'}:=I.un (Un.kept k) (I.ao.kept k)
theorem Inv.laid{a:Addr}{o:HO}{t':Nat}(I:Inv X U σ H s)(k:∀b u,s.heap.get? b=some u->h'.get? b=some u)(hp:s.heap.objs.size<=a)(new:JJ X.prog X.w (upd H a o) h' a o):Inv X U σ (upd H a o) {s with heap:=h',toks:=t'}:=I.un (Un.laid k hp (I.ao.fresh hp)) (I.ao.laid k hp new)
theorem Inv.write(I:Inv X U σ H s)(mu:BC (H x))(he:e=x\/H e=some (.own x))(k:∀b u,b≠e->s.heap.get? b=some u->h'.get? b=some u)(AL:∃u,h'.get? e=some u)(new:JJ X.prog X.w (upd H x o) h' x o):Inv X U σ (upd H x o) {s with heap:=h',toks:=t'}:=I.un (Un.write mu he k AL) (I.ao.write mu he k AL new)
def Inv.weak(I:Inv X U σ H s)(hl:σ'.length=σ.length)(w:∀(i:Nat) v,σ'[i]? =some (some v)->σ[i]? =some (some v)):Inv X U σ' H s:=
 ⟨I.ok,I.os,I.bare,I.Y,let ⟨m,hn,Pn⟩:=I.loc;⟨m,hn,λi x v e1 e2 e3=>Pn i x v e1 (w i v e2) e3⟩,I.cell,I.free,I.aV,I.pin,I.ao,hl.trans I.len⟩
def Inv.Y9(I:Inv X U σ H s)(h:∀p∈oA,s.heap.get? p.1=some p.2/\H p.1=none/\p.1≠X.env.locals/\p.1∉X.fs/\∀v,p.2.data≠ .cell v):Inv X oA σ H s:=
 ⟨I.ok,I.os,I.bare,I.Y,I.loc,I.cell,I.free,I.aV,λp hp=>(yat.mp hp).elim (λz=>I.pin p (tU _ z)) (h p),I.ao,I.len⟩
def zw{N:List Str}(hN:N.Nodup){i j:Nat}{x:Str}(a:N[i]? =some x)(b:N[j]? =some x):i=j:=by
 obtain⟨h1,e1⟩:=yaf.mp a;obtain⟨h2,e2⟩:=yaf.mp b;exact(List.getElem_inj hN).mp (e1.trans e2.symm)
def qB(I:Inv X U σ H s)(hN:X.N.Nodup)(hi:X.N[i]? =some x)(hx:Loc X.env.scope x)(r:RelV v u)(h:∀s',Inv X U (σ.set i (some v)) H s'->(∃a,Heap.SameBut a s.heap s'.heap/\(a=X.env.locals\/X.env.cells.lookup x=some a))->Q () s')(hf:X.fn x=true\/X.env.scope.names.lookup x=some .local:=by first|exact .inl rfl|exact .inr rfl|assumption):wpAny qMa A (storeName X.env x u) Q E s:=by
 obtain⟨m,hn,hl⟩:=id I.loc;have Fy:(X.env.scope.kind==.class||(X.env.scope.kind==.module&&X.env.locals !=X.env.globals))=false:=by rw[I.ok.kind];rfl
 have Lj:i<σ.length:=by rw[I.len];exact(yaf.mp hi).1
 have sG:=I.sG;have tracked:∀{a:Addr}{h':Heap},(∃o,s.heap.get? a=some o/\H a=none)->Heap.SameBut a s.heap h'->bG X.prog X.w H h':=λ{a h'} ha hs b ob e=>by
  obtain⟨_,_,Fk⟩:=ha;refine(I.ao b ob e).yz (λc w' hc q=>(hs.2 c ?_).trans q) (λ_ q=>q) λ_ _ q=>q;rintro rfl;rcases hc with rfl|hc
  .rw[Fk]at e;cases e
  .rw[Fk]at hc;cases hc
 rcases hx with hk|hk
 .refine wpAny_storeName_local hk hn (λh' Po hs=>?_) Fy;obtain⟨oL,_,_,Pp,_⟩:=id hn;refine h _ ⟨I.ok,I.os,I.bare,⟨λb o e n hb hx=>?_,λb o e n hb hx=>?_,I.Y.free,λb o e hx=>?_,I.Y.qe,I.Y.cQ,I.Y.dm⟩,⟨_,Po,λj y v' e1 e2 e3=>?_⟩,λy c e=>?_,I.free,I.aV,λp hp=>?_,tracked ⟨oL,Pp,I.free⟩ hs,by simpa using I.len⟩ ⟨_,hs,.inl rfl⟩
  .exact(hs.2 b (yaq (yan (yaj e) I.ok.above))).trans (I.Y.keep b o e n hb hx)
  .obtain⟨sl,e1⟩:=I.Y.slot b o e n hb hx;exact⟨sl,(hs.2 b (yaq (yan (yaj e) I.ok.above))).trans e1⟩
  .obtain⟨o',e1⟩:=I.Y.there b o e hx;exact⟨o',(hs.2 b (yaq (yan (yaj e) I.ok.above))).trans e1⟩
  .by_cases hj:j=i
   .subst hj;rw[hi]at e1;cases e1;rw[yeJ Lj]at e2;cases e2;exact⟨u,r,.inl ⟨hk,by simp⟩⟩
   .rw[yeX (Ne.symm hj)]at e2;obtain⟨u',r',q⟩:=hl j y v' e1 e2 e3;exists u',r';rcases q with⟨k,e⟩|⟨k,c,e,z⟩
    .refine .inl ⟨k,?_⟩;have:y≠x:=λe=>hj (zw hN e1 (e▸hi));simp[this,e]
    .exact .inr ⟨k,c,e,z.sameBut hs (sG y c e)⟩
  .obtain⟨w',z⟩:=I.cell y c e;exact⟨w',z.sameBut hs (sG y c e)⟩
  .obtain⟨e,n,ne,nf,d⟩:=I.pin p hp;exact⟨(hs.2 p.1 ne).trans e,n,ne,nf,d⟩
 .have Fz:X.fn x=true:=by
   rcases hf with z|z
   .exact z
   .rw[z]at hk;cases hk
  obtain⟨c,hc⟩:=I.ok.has x (.inl hk);obtain⟨w',z⟩:=I.cell x c hc;refine wpAny_storeName_cell I.ok.kind hk hc z (λh' iC hs=>?_);obtain⟨oc,Lk,FA⟩:=id z;refine h {s with heap:=h'} ⟨I.ok,I.os,I.bare,⟨λb o e n hb hx=>?_,λb o e n hb hx=>?_,I.Y.free,λb o e hx=>?_,I.Y.qe,I.Y.cQ,I.Y.dm⟩,⟨m,hn.sameBut hs (Ne.symm (sG x c hc)),λj y v' e1 e2 e3=>?_⟩,λy c' e=>?_,I.free,I.aV,λp hp=>?_,tracked ⟨oc,Lk,I.aV x c hc⟩ hs,by simpa using I.len⟩ ⟨c,hs,.inr hc⟩
  .exact(hs.2 b (yaq (yan (yaj e) (I.ok.BE x c Fz hc)))).trans (I.Y.keep b o e n hb hx)
  .obtain⟨sl,e1⟩:=I.Y.slot b o e n hb hx;exact⟨sl,(hs.2 b (yaq (yan (yaj e) (I.ok.BE x c Fz hc)))).trans e1⟩
  .obtain⟨o',e1⟩:=I.Y.there b o e hx;exact⟨o',(hs.2 b (yaq (yan (yaj e) (I.ok.BE x c Fz hc)))).trans e1⟩
  .by_cases hj:j=i
   .subst hj;rw[hi]at e1;cases e1;rw[yeJ Lj]at e2;cases e2;exact⟨u,r,.inr ⟨.inl hk,c,hc,iC⟩⟩
   .rw[yeX (Ne.symm hj)]at e2;obtain⟨u',r',q⟩:=hl j y v' e1 e2 e3;exists u',r';rcases q with q|⟨k,c',e,z'⟩
    .exact .inl q
    .refine .inr ⟨k,c',e,z'.sameBut hs ?_⟩;rintro rfl;exact hj (zw hN e1 (I.ok.inj _ _ _ e hc▸hi))
  .by_cases Ll:c'=c
   .subst Ll;exact⟨_,iC⟩
   .obtain⟨w2,z2⟩:=I.cell y c' e;exact⟨w2,z2.sameBut hs Ll⟩
  .obtain⟨e,n,ne,nf,d⟩:=I.pin p hp;refine⟨(hs.2 p.1 ?_).trans e,n,ne,nf,d⟩;intro q;rw[q,Lk]at e;have q':oc=p.2:=tP e;exact d w' (by rw[<-q'];exact FA)
def KR(I:Inv X U σ H s)(hN:X.N.Nodup)(hi:X.N[i]? =some x)(hx:Loc X.env.scope x)(r:RelV v u)(h:∀s',Inv X U (σ.set i (some v)) H s'->Q () s')(hf:X.fn x=true\/X.env.scope.names.lookup x=some .local:=by first|exact .inl rfl|exact .inr rfl|assumption):wpAny qMa A (storeName X.env x u) Q E s:=
 qB I hN hi hx r (λs' I' _=>h s' I') hf
def Inv.Lm{ch:List Addr}(I:Inv X U σ H s)(ho:s'.os=s.os)(u:Un (bM X.stack) ch H H' s.heap s'.heap)(ao:bG X.prog X.w H' s'.heap)(hg:AllBare s'.gens)(No:∀b∈ch,(b∈X.ex\/X.s₀.heap.objs.size<=b)/\b≠X.env.locals/\(∀x c,X.env.cells.lookup x=some c->c≠b)/\∀p∈X.pn++U,p.1≠b):Inv X U σ H' s':=by
 obtain⟨h',g',d',t',o'⟩:=s';have e:o'=s.os:=ho;subst e;exact I.call (g':=g') (t':=t') (d':=d') u ao hg No
end
noncomputable abbrev XK:=Value->Option Addr->Hp->Prop
noncomputable abbrev St:=List (Option V)
noncomputable abbrev VK:=V->Hp->Prop
noncomputable abbrev TE:=St->Hp->VK->Prop
noncomputable abbrev TT:=St->Hp->(Bool->Hp->Prop)->Prop
noncomputable abbrev TA:=St->Hp->(List V->Hp->Prop)->Prop
structure Ends where
 nx:St->Hp->Prop
 rt:VK
 bk:St->Hp->Prop:=λ_ _=>False
 ct:St->Hp->Prop:=λ_ _=>False
noncomputable abbrev TS:=Ends->St->Hp->Prop
inductive EP (X:Cx) (U:List (Addr × Obj)) (σ:St) (Q:VK) (u:Value) (s':Shared):Prop
 |mk (v:V) (H':Hp):Inv X U σ H' s'->RelV v u->Q v H'->EP X U σ Q u s'
inductive TP (X:Cx) (U:List (Addr × Obj)) (σ:St) (Q:Bool->Hp->Prop) (b:Bool) (s':Shared):Prop
 |mk (H':Hp):Inv X U σ H' s'->Q b H'->TP X U σ Q b s'
inductive AP (X:Cx) (U:List (Addr × Obj)) (σ:St) (Q:List V->Hp->Prop) (us:List Value) (s':Shared):Prop
 |mk (vs:List V) (H':Hp):Inv X U σ H' s'->Vals vs us->Q vs H'->AP X U σ Q us s'
inductive NP (X:Cx) (U:List (Addr × Obj)) (N:St->Hp->Prop) (s':Shared):Prop
 |mk (σ':St) (H':Hp):Inv X U σ' H' s'->N σ' H'->NP X U N s'
inductive RP (X:Cx) (U:List (Addr × Obj)) (Q:VK) (u:Value) (s':Shared):Prop
 |mk (v:V) (σ':St) (H':Hp):Inv X U σ' H' s'->RelV v u->Q v H'->RP X U Q u s'
def SP(X:Cx)(U:List (Addr × Obj))(D:Ends)(f:Flow)(s':Shared):Prop:=
 match f with
 | .next=>NP X U D.nx s'
 | .brk=>NP X U D.bk s'
 | .cont=>NP X U D.ct s'
 | .ret u=>RP X U D.rt u s'
def PE(X:Cx)(e:Expr)(t:TE):Prop:=
 ∀(U:List (Addr × Obj))(s:Shared)(σ:St)(H:Hp)(Q:VK),Inv X U σ H s->t σ H Q->wpAny (model X.prog X.w) X.A (eval e X.env) (EP X U σ Q) X.xe s
def PT(X:Cx)(e:Expr)(t:TT):Prop:=
 ∀(U:List (Addr × Obj))(s:Shared)(σ:St)(H:Hp)(Q:Bool->Hp->Prop),Inv X U σ H s->t σ H Q->wpAny (model X.prog X.w) X.A (isTrue e X.env (eval e X.env)) (TP X U σ Q) X.xe s
def PW(X:Cx)(e:Expr)(t:TT):Prop:=
 ∀(whole:Sem Value)(U:List (Addr × Obj))(s:Shared)(σ:St)(H:Hp)(Q:Bool->Hp->Prop),Inv X U σ H s->t σ H Q->wpAny (model X.prog X.w) X.A (isTrue e X.env whole) (TP X U σ Q) X.xe s
def PW.pt(h:PW X e t):PT X e t:=h _
def PA(X:Cx)(es:List Expr)(t:TA):Prop:=
 ∀(pos:Pos)(U:List (Addr × Obj))(s:Shared)(σ:St)(H:Hp)(Q:List V->Hp->Prop),Inv X U σ H s->t σ H Q->wpAny (model X.prog X.w) X.A (spliced (backTo pos (starEach es X.env))) (AP X U σ Q) X.xe s
def PS(X:Cx)(st:Stmt)(t:TS):Prop:=
 ∀(U:List (Addr × Obj))(s:Shared)(σ:St)(H:Hp)(D:Ends),Inv X U σ H s->t D σ H->wpAny (model X.prog X.w) X.A (exec st X.env) (SP X U D) X.xe s
def d9(X:Cx)(st:List Stmt)(t:TS):Prop:=
 ∀(U:List (Addr × Obj))(s:Shared)(σ:St)(H:Hp)(D:Ends),Inv X U σ H s->t D σ H->wpAny (model X.prog X.w) X.A (execs st X.env) (SP X U D) X.xe s
def ax{α:Type}{t:Sem α}{Q Q':α->Shared->Prop}{qMa:Model}{A:Around}{s:Shared}(h:wpAny qMa A t Q E s)(hQ:∀a s,Q a s->Q' a s):wpAny qMa A t Q' E s:=yaV h hQ λ_ _ x=>x
section
variable {X:Cx}
inductive aF (i:Nat) (σ:St) (H:Hp) (Q:VK):Prop
 |mk (v:V):σ[i]? =some (some v)->Q v H->aF i σ H Q
def tC(v:V):TE:=λ_ H Q=>Q v H
def Pq{pos:Pos}(hN:X.N[i]? =some x)(hv:Ea X.env.scope x)(hd:(x==("__debug__":Str))=false:=by lia)(e6:(x==("__classdict__":Str))=false:=by lia):PE X (.Name x pos) (aF i):=by
 intro U s σ H Q I h;obtain⟨v,e,h⟩:=h;obtain⟨m,hn,hl⟩:=I.loc;obtain⟨u,r,l⟩:=hl i x v hN e hv;have fin:EP X U σ Q u s:=⟨v,H,I,r,h⟩;rcases l with⟨hk,hm⟩|⟨hk,c,hc,SC⟩
 .exact wpAny_Name (wpAny_loadName_local I.ok.kind hk hn hm fin) hd
 .rcases hk with hk|hk
  .exact wpAny_Name (wpAny_loadName_cell I.ok.kind hk hc SC fin) hd
  .exact wpAny_Name (wpAny_loadName_free I.ok.kind hk hc SC fin e6) hd
def Qj{i j pos}:PE X (.Constant (.int i) j pos) (tC (.int i)):=λ_ _ _ H _ I h=>wpAny_Constant_int ⟨.int i,H,I.tok _,⟨_,Z⟩,h⟩
def Xk{b j pos}:PE X (.Constant (.bool b) j pos) (tC (.bl b)):=λ_ _ _ H _ I h=>Constant_bool ⟨.bl b,H,I,Z,h⟩
def Zt{j pos}:PE X (.Constant .none j pos) (tC .aq):=λ_ _ _ H _ I h=>Constant_none ⟨.aq,H,I,Z,h⟩
def Qk{x j pos}:PE X (.Constant (.str x) j pos) (tC (.str x)):=λ_ _ _ H _ I h=>Calls.Constant_str ⟨.str x,H,I.tok _,⟨_,Z⟩,h⟩
def Gl(X:Cx)(x:Str):Prop:=X.env.kindOf x=some .globalImplicit
def Wv{U:List (Addr × Obj)}{σ:St}{x:Str}{pos:Pos}(I:Inv X U σ H s)(hg:Gl X x)(hm:X.mg x=some u)(h:Q u s)(hd:(x==("__debug__":Str))=false:=by lia):wpAny (model X.prog X.w) X.A (eval (.Name x pos) X.env) Q E s:=
 ydY I.ok.kind hg (Calls.loadGlobal_global (by rw[I.ok.glob];exact I.mod.glob.keeps I.bk) hm h) hd
def ZQ{E:Value->Shared->Prop}{U:List (Addr × Obj)}{s:Shared}{σ:St}{H:Hp}{x:Str}{u:Value}{pos:Pos}(I:Inv X U σ H s)(hg:Gl X x)(hm:X.mg x=none)(hv:bootBuiltins x=some u)(h:Q u s)(hn:x≠"__name__":=by lia)(hd:(x==("__debug__":Str))=false:=by lia):wpAny (model X.prog X.w) X.A (eval (.Name x pos) X.env) Q E s:=by
 obtain⟨mb,h1,h2⟩:=I.mod.blt;exact ydY I.ok.kind hg (Calls.loadGlobal_builtin (by rw[I.ok.glob];exact I.mod.glob.keeps I.bk) hm (by rw[I.ok.blt];exact h1.keeps I.bk) ((h2 x hn).trans hv) h) hd
def QK{pos:Pos}(hg:Gl X x)(hm:X.mg x=some u)(r:RelV v u)(hd:(x==("__debug__":Str))=false:=by lia):PE X (.Name x pos) (tC v):=
 λ_ _ _ H _ I h=>Wv I hg hm ⟨v,H,I,r,h⟩ hd
def Vu{pos:Pos}(hg:Gl X x)(hm:X.mg x=none)(hv:bootBuiltins x=some u)(r:RelV v u)(hn:x≠"__name__":=by lia)(hd:(x==("__debug__":Str))=false:=by lia):PE X (.Name x pos) (tC v):=
 λ_ _ _ H _ I h=>ZQ I hg hm hv ⟨v,H,I,r,h⟩ hn hd
variable {pos:Pos}
def PC(X:Cx)(op:CmpOp)(a b:Expr)(t:TE):Prop:=
 ∀(U:List (Addr × Obj))(s:Shared)(σ:St)(H:Hp)(Q:VK),Inv X U σ H s->t σ H Q->
  wpAny (model X.prog X.w) X.A (eval a X.env) (λv s₁=>wpAny (model X.prog X.w) X.A (eval b X.env) (λu s₂=>wpAny (model X.prog X.w) X.A (compareOp op v u) (EP X U σ Q) X.xe s₂) X.xe s₁) X.xe s
def zx(b:Expr){op:CmpOp}(h:op≠ .In)(h2:op≠ .NotIn):behindInMarks op b=false:=by
 have e1:(op==CmpOp.In)=false:=by cases op<;>first|rfl|exact absurd rfl h
 have e2:(op==CmpOp.NotIn)=false:=by cases op<;>first|rfl|exact absurd rfl h2
 cases b<;>simp[behindInMarks,e1,e2]
def Pr(ta:TE):TE:=λσ H Q=>ta σ H λx H1=>Q (.bl (decide (x=.aq))) H1
def Pu(ta:TE):TE:=λσ H Q=>ta σ H λx H1=>Q (.bl (!decide (x=.aq))) H1
def RelV.zy(r:RelV x v):(v==Value.none)=decide (x=.aq):=by
 cases x with
 |aq=>cases r;rfl
 |bl _=>cases r;rfl
 |int _=>obtain⟨t,rfl⟩:=r;rfl
 |str _=>obtain⟨t,rfl⟩:=r;rfl
 |eB _=>obtain⟨t,rfl⟩:=r;rfl
 |ow _=>obtain⟨t,rfl⟩:=r;rfl
 |ref _=>cases r;rfl
 |ty _=>cases r;rfl
def XN{j pos'}(ha:PE X a ta):PC X .Is a (.Constant .none j pos') (Pr ta):=by
 intro U s σ H Q I h;refine ax (ha U s σ H _ I h) λv s1⟨x,H1,I1,r1,q1⟩=>?_;exact Constant_none (is_none_gen ⟨.bl _,H1,I1,by rw[r1.zy];rfl,q1⟩)
def jN{j pos'}(ha:PE X a ta):PC X .IsNot a (.Constant .none j pos') (Pu ta):=by
 intro U s σ H Q I h;refine ax (ha U s σ H _ I h) λv s1⟨x,H1,I1,r1,q1⟩=>?_;exact Constant_none (isnot_none_gen ⟨.bl _,H1,I1,by rw[r1.zy];rfl,q1⟩)
inductive BH (Q:Bool->Hp->Prop) (x:V) (H1:Hp):Prop
 |mk (c:Bool):x=.bl c->Q c H1->BH Q x H1
def tB(t:TE):TT:=λσ H Q=>t σ H (BH Q)
def Pw{op:CmpOp}(h:PC X op a b t)(h1:behindInMarks op b=false:=by first|exact zx _ (by lia) (by lia)|rfl):PE X (.Compare a [op] [b] pos) t:=λU s σ H Q I hw=>wpAny_Compare1 (h U s σ H Q I hw) h1
def JY{op:CmpOp}(h:PC X op a b t)(h1:behindInMarks op b=false:=by first|exact zx _ (by lia) (by lia)|rfl):PT X (.Compare a [op] [b] pos) (tB t):=by
 intro U s σ H Q I hw;refine wpAny_isTrue_Compare1 (ax (h U s σ H _ I hw) λv s1 h1=>ax h1 λu s2 h2=>ax h2 λc s3⟨x,H1,I1,r1,q1⟩=>?_) h1;obtain⟨d,rfl,q⟩:=q1;cases r1;exact yaW ⟨H1,I1,q⟩
def XT(h:PE X e t)(he:∀whole,isTrue e X.env whole=(do let v<-whole;standAt e.pos;holding [v] (truthy v)):=by intro _;rfl):PT X e (tB t):=by
 intro U s σ H Q I hw;refine isTrue_plain (ax (h U s σ H _ I hw) λv s1⟨x,H1,I1,r1,q1⟩=>?_) (he _);obtain⟨d,rfl,q⟩:=q1;cases r1;exact yaW ⟨H1,I1,q⟩
variable {rest:List Expr}
def Px(t u:TT):TT:=λσ H Q=>t σ H λc H1=>if c=true then u σ H1 Q else Q false H1
def Ln(t u:TT):TT:=λσ H Q=>t σ H λc H1=>if c=true then Q true H1 else u σ H1 Q
def Lo(t:TT):TT:=λσ H Q=>t σ H λc H1=>Q (!c) H1
def JZ(ha:PT X a tA):PW X (.BoolOp .And [a] pos) tA:=by
 intro wh U s σ H Q I h;refine isTrue_and (ax (ha U s σ H Q I h) λc s1 e=>?_);cases c with
 |true=>exact isTrue_and_nil e
 |false=>exact e
def JV(ha:PT X a tA):PW X (.BoolOp .Or [a] pos) tA:=by
 intro wh U s σ H Q I h;refine isTrue_or (ax (ha U s σ H Q I h) λc s1 e=>?_);cases c with
 |false=>exact isTrue_or_nil e
 |true=>exact e
def Zu(ha:PT X a tA)(hb:PW X (.BoolOp .And (b::rest) pos) Ef):PW X (.BoolOp .And (a::b::rest) pos) (Px tA Ef):=by
 intro wh U s σ H Q I h;refine isTrue_and (ax (ha U s σ H _ I h) λc s1⟨H1,I1,q1⟩=>?_);cases c with
 |true=>exact hb wh U s1 σ H1 Q I1 q1
 |false=>exact⟨H1,I1,q1⟩
def ZP(ha:PT X a tA)(hb:PW X (.BoolOp .Or (b::rest) pos) Ef):PW X (.BoolOp .Or (a::b::rest) pos) (Ln tA Ef):=by
 intro wh U s σ H Q I h;refine isTrue_or (ax (ha U s σ H _ I h) λc s1⟨H1,I1,q1⟩=>?_);cases c with
 |true=>exact⟨H1,I1,q1⟩
 |false=>exact hb wh U s1 σ H1 Q I1 q1
def KS(ha:PT X a tA):PT X (.UnaryOp .Not a pos) (Lo tA):=by
 intro U s σ H Q I h;exact isTrue_not (ax (ha U s σ H (λc H1=>Q (!c) H1) I h) λc s1⟨H1,I1,q⟩=>⟨H1,I1,q⟩)
def FC(ta tb:TE):TE:=λσ H Q=>ta σ H (BH λc H1=>if c=true then tb σ H1 Q else Q (.bl false) H1)
def Py(ta:TE):TE:=λσ H Q=>ta σ H (BH λc H1=>Q (.bl (!c)) H1)
def YN{op}(h:PE X a t):PE X (.BoolOp op [a] pos) t:=λU s σ H Q I hw=>BoolOp_one (h U s σ H Q I hw)
def YO(ha:PE X a ta)(hb:PE X (.BoolOp .And (b::rest) pos) tb):PE X (.BoolOp .And (a::b::rest) pos) (FC ta tb):=by
 intro U s σ H Q I h;refine BoolOp_and (ax (ha U s σ H _ I h) λv s1⟨x,H1,I1,r1,q1⟩=>?_);obtain⟨c,rfl,q1⟩:=q1;cases r1;refine yaW ?_;cases c with
 |true=>exact hb U s1 σ H1 Q I1 q1
 |false=>exact⟨.bl false,H1,I1,Z,q1⟩
def Pz(ha:PE X a ta):PE X (.UnaryOp .Not a pos) (Py ta):=by
 intro U s σ H Q I h;refine UnaryOp_ (ax (ha U s σ H _ I h) λv s1⟨x,H1,I1,r1,q1⟩=>?_);obtain⟨c,rfl,q1⟩:=q1;cases r1;exact not_of (yaW ⟨.bl (!c),H1,I1,Z,q1⟩)
def Lp(t:TT)(ta tb:TE):TE:=λσ H Q=>t σ H λc H1=>if c=true then ta σ H1 Q else tb σ H1 Q
def Jh(hc:PT X c tA)(ha:PE X a ta)(hb:PE X b tb):PE X (.IfExp c a b pos) (Lp tA ta tb):=by
 intro U s σ H Q I h;refine wpAny_IfExp (ax (hc U s σ H _ I h) λd s1⟨H1,I1,q1⟩=>?_);cases d with
 |true=>exact ha U s1 σ H1 Q I1 q1
 |false=>exact hb U s1 σ H1 Q I1 q1
end
def aE(K:Frag)(H:Hp)(a:Addr)(xs:List V):Prop:=
 Rd H a (.lst xs)\/
  ∃(o:Obj)(its:Array Value)(n:Nat),K.lookup a=some o/\o.cls=.type "list"/\o.dict=none/\o.data=.seq its n/\its.size<=sizeLine/\Vals xs its.toList
def aw(K:Frag)(H:Hp)(a:Addr)(xs:List V):Prop:=
 Rd H a (.tup xs)\/
  ∃(o:Obj)(its:Array Value)(n:Nat),K.lookup a=some o/\o.cls=.type "tuple"/\o.data=.seq its n/\its.size<=sizeLine/\Vals xs its.toList
noncomputable def PB:Value->Option V
 | .none=>some .aq
 | .bool b=>some (.bl b)
 | .int i _=>some (.int i)
 | .str x _=>some (.str x)
 | .bytes b _=>some (.eB b)
 | .float b _=>some (.ow b)
 | .ref a=>some (.ref a)
 | .type n=>some (.ty n)
 |_=>none
def RelV.abs(r:RelV x u):PB u=some x:=by
 cases x with
 |aq=>cases r;rfl
 |bl _=>cases r;rfl
 |int _=>obtain⟨t,rfl⟩:=r;rfl
 |str _=>obtain⟨t,rfl⟩:=r;rfl
 |eB _=>obtain⟨t,rfl⟩:=r;rfl
 |ow _=>obtain⟨t,rfl⟩:=r;rfl
 |ref _=>cases r;rfl
 |ty _=>cases r;rfl
def RelV.inj(r:RelV x u)(q:RelV y u):x=y:=tP (r.abs.symm.trans q.abs)
theorem Vals.inj:∀{xs ys:List V}{us:List Value},Vals xs us->Vals ys us->xs=ys
 |_,_,_,.nil,.nil=>rfl
 |_,_,_,.cons r t,.cons r' t'=>by rw[r.inj r',Vals.inj t t']
section
variable {X:Cx}{U:List (Addr × Obj)}{σ:St}{H:Hp}{s:Shared}{a:Addr}{xs ys:List V}
def aE.of{K:Frag}(h:H a=some (.lst xs)):aE K H a xs:=.inl (.inl h)
def aw.of{K:Frag}(h:H a=some (.tup xs)):aw K H a xs:=.inl (.inl h)
def Inv.list(I:Inv X U σ H s)(h:aE X.K H a xs):∃its:List Value,Vals xs its/\PlainL s.heap a its.toArray/\xs.length<=sizeLine:=by
 rcases h with h|⟨o,its,n,hk,hc,hd,hs,hz,r⟩
 .obtain⟨z,its,n,r,e⟩:=h.ok I.ao;exact⟨its,r,⟨_,n,e,Z,Z,Z⟩,z⟩
 .refine⟨its.toList,r,⟨o,n,I.bH a o hk,hc,hd,by simpa using hs⟩,?_⟩;have e:=r.length;simp only[lE]at e;lia
def Inv.tuple(I:Inv X U σ H s)(h:aw X.K H a xs):∃its:List Value,Vals xs its/\IsTup s.heap a its.toArray/\xs.length<=sizeLine:=by
 rcases h with h|⟨o,its,n,hk,hc,hs,hz,r⟩
 .obtain⟨z,its,r,p⟩:=h.ok I.ao;exact⟨its,r,p.tup,z⟩
 .refine⟨its.toList,r,⟨o,I.bH a o hk,hc,n,by simpa using hs⟩,?_⟩;have e:=r.length;simp only[lE]at e;lia
def Inv.yH(I:Inv X U σ H s)(h:aE X.K H a xs)(h':aE X.K H a ys):xs=ys:=by
 obtain⟨its,r,⟨o,n,e,_,_,d⟩,_⟩:=I.list h;obtain⟨its',r',⟨o',n',e',_,_,d'⟩,_⟩:=I.list h';rw[e]at e';cases e';rw[d]at d';injection d' with d1 _;have:its=its':=by simpa using yaE Array.toList d1
 subst this;exact r.inj r'
def Inv.Vv(I:Inv X U σ H s)(h:aw X.K H a xs)(h':aw X.K H a ys):xs=ys:=by
 obtain⟨its,r,⟨o,e,_,n,d⟩,_⟩:=I.tuple h;obtain⟨its',r',⟨o',e',_,n',d'⟩,_⟩:=I.tuple h';rw[e]at e';cases e';rw[d]at d';injection d' with d1 _;have:its=its':=by simpa using yaE Array.toList d1
 subst this;exact r.inj r'
end
noncomputable abbrev Cx.yA(X:Cx)(E:Value->Shared->Prop):Cx:={X with xe:=E}
noncomputable abbrev Cx.oB(X:Cx):Cx:=X.yA λ_ _=>False
theorem Cx.Ok.yA{X:Cx}(ok:X.Ok)(E:Value->Shared->Prop):(X.yA E).Ok:=
 ⟨ok.mod,ok.kind,ok.glob,ok.blt,ok.above,ok.inj,ok.has,ok.BE,ok.hd,ok.frames,ok.fL,ok.Li,ok.bs,ok.oz,ok.fM,ok.iT,ok.kH,ok.sF⟩
def Cx.Ok.W5{X:Cx}(ok:(X.yA E).Ok):X.Ok:=
 ⟨ok.mod,ok.kind,ok.glob,ok.blt,ok.above,ok.inj,ok.has,ok.BE,ok.hd,ok.frames,ok.fL,ok.Li,ok.bs,ok.oz,ok.fM,ok.iT,ok.kH,ok.sF⟩
section
variable {X:Cx}{U:List (Addr × Obj)}{σ:St}{H:Hp}{s:Shared}{E:Value->Shared->Prop}
theorem Inv.yA(I:Inv X U σ H s)(E:Value->Shared->Prop):Inv (X.yA E) U σ H s:=⟨I.ok.yA E,I.os,I.bare,I.Y,I.loc,I.cell,I.free,I.aV,I.pin,I.ao,I.len⟩
theorem Inv.W5(I:Inv (X.yA E) U σ H s):Inv X U σ H s:=⟨I.ok.W5,I.os,I.bare,I.Y,I.loc,I.cell,I.free,I.aV,I.pin,I.ao,I.len⟩
theorem SP.W5(h:SP (X.yA E) U D f s'):SP X U D f s':=by
 cases f with
 |next=>obtain⟨σ',H',I,q⟩:=h;exact⟨σ',H',I.W5,q⟩
 |brk=>obtain⟨σ',H',I,q⟩:=h;exact⟨σ',H',I.W5,q⟩
 |cont=>obtain⟨σ',H',I,q⟩:=h;exact⟨σ',H',I.W5,q⟩
 |ret u=>obtain⟨v,σ',H',I,r,q⟩:=h;exact⟨v,σ',H',I.W5,r,q⟩
theorem d9.oB{st:List Stmt}(h:d9 X.oB st t):d9 X st t:=λU s σ H D I hw=>
 yaV (h U s σ H D (I.yA _) hw) (λ_ _ q=>q.W5) λ_ _ z=>False.elim z
end
section
variable {st:Stmt}{rest:List Stmt}{pos:Pos}
def Q4:TS:=λD σ H=>D.nx σ H
def Za(t u:TS):TS:=λD σ H=>t {D with nx:=u D} σ H
def Qu:d9 X [] Q4:=λ_ _ σ H _ I h=>ydN ⟨σ,H,I,h⟩
def Qd(h1:PS X st t)(h2:d9 X rest u):d9 X (st::rest) (Za t u):=by
 intro U s σ H D I h;refine wpAny_execs_cons (ax (h1 U s σ H {D with nx:=u D} I h) λf s1 q=>?_);cases f with
 |next=>
  obtain⟨σ',H',I',q⟩:=q;exact h2 U s1 σ' H' D I' q
 |ret v=>exact q
 |brk=>exact q
 |cont=>exact q
def Qg(h1:PS X st t):d9 X [st] t:=by
 intro U s σ H D I h;refine wpAny_execs_cons (ax (h1 U s σ H D I h) λf s1 q=>?_);cases f with
 |next=>exact ydN q
 |ret v=>exact q
 |brk=>exact q
 |cont=>exact q
def Inv.quiet{U:List (Addr × Obj)}{σ:St}(I:Inv X U σ H s):interactive X.env=false:=by simp[interactive,I.ok.kind]
def Lq(te:TE):TS:=λD σ H=>te σ H λ_ H1=>D.nx σ H1
def Q6(he:PE X e te)(hs:swapsWith e none pos.line X.env=pure false:=by rfl):PS X (.Expr e pos) (Lq te):=by
 intro U s σ H D I h;exact wpAny_Expr_any (ax (he U s σ H _ I h) λv s1⟨x,H1,I1,r1,q1⟩=>⟨σ,H1,I1,q1⟩) I.quiet hs
def sH(te:TE):TS:=λD σ H=>te σ H D.rt
def Qp(he:PE X e te):PS X (.Return (some e) pos) (sH te):=by
 intro U s σ H D I h;exact wpAny_Return_some (ax (he U s σ H _ I h) λv s1⟨x,H1,I1,r1,q1⟩=>⟨x,σ,H1,I1,r1,q1⟩)
def BI(c:TT)(t u:TS):TS:=λD σ H=>c σ H λb H1=>if b=true then t D σ H1 else u D σ H1
def QN(hc:PT X c tc)(ha:d9 X a t)(hb:d9 X b u):PS X (.If c a b pos) (BI tc t u):=by
 intro U s σ H D I h;refine wpAny_If (ax (hc U s σ H _ I h) λd s1⟨H1,I1,q1⟩=>?_);cases d with
 |true=>exact ha U s1 σ H1 D I1 q1
 |false=>exact hb U s1 σ H1 D I1 q1
end
noncomputable abbrev TG:=V->St->Hp->(St->Hp->Prop)->Prop
noncomputable abbrev AM:=List V->St->Hp->(St->Hp->Prop)->Prop
def PG(X:Cx)(target:Expr)(t:TG):Prop:=
 ∀(U:List (Addr × Obj))(s:Shared)(σ:St)(H:Hp)(v:V)(u:Value)(Q:St->Hp->Prop),Inv X U σ H s->RelV v u->t v σ H Q->
  wpAny (model X.prog X.w) X.A (assign target X.env u) (λ_=>NP X U Q) X.xe s
def BJ(X:Cx)(ts:List Expr)(t:AM):Prop:=
 ∀(U:List (Addr × Obj))(s:Shared)(σ:St)(H:Hp)(vs:List V)(us:List Value)(Q:St->Hp->Prop),Inv X U σ H s->Vals vs us->t vs σ H Q->
  wpAny (model X.prog X.w) X.A (assignInOrder ((assignEach ts X.env).map (·.2)) us) (λ_=>NP X U Q) X.xe s
noncomputable abbrev FD:=V->V->V->Hp->(Hp->Prop)->Prop
def Lr(X:Cx)(t:FD):Prop:=
 ∀(U:List (Addr × Obj))(s:Shared)(σ:St)(H:Hp)(o i v:V)(ov iv u:Value)(Q:Hp->Prop),Inv X U σ H s->RelV o ov->RelV i iv->RelV v u->t o i v H Q->
  wpAny (model X.prog X.w) X.A (setItem ov iv u) (λ_ s'=>∃H',Inv X U σ H' s'/\Q H') X.xe s
noncomputable abbrev FE:=V->V->Hp->VK->Prop
def FF(X:Cx)(op:Operator)(t:FE):Prop:=
 ∀(U:List (Addr × Obj))(s:Shared)(σ:St)(H:Hp)(x y:V)(v u:Value)(Q:VK),Inv X U σ H s->RelV x v->RelV y u->t x y H Q->
  wpAny (model X.prog X.w) X.A (inplaceOp op v u) (EP X U σ Q) X.xe s
section
variable {pos:Pos}
def QL(i:Nat):TG:=λv σ H Q=>Q (σ.set i (some v)) H
def Qi(hN:X.N.Nodup)(hi:X.N[i]? =some x)(hx:Loc X.env.scope x)(hf:X.fn x=true\/X.env.scope.names.lookup x=some .local:=by first|exact .inl rfl|exact .inr rfl|assumption):PG X (.Name x pos) (QL i):=by
 intro U s σ H v u Q I r h;exact wpAny_assign_Name (KR I hN hi hx r (λs' I'=>⟨_,H,I',h⟩) hf)
inductive e7 (vs:List V) (σ:St) (H:Hp) (Q:St->Hp->Prop):Prop
 |mk:vs=[]->Q σ H->e7 vs σ H Q
inductive bE (t:TG) (u:AM) (vs:List V) (σ:St) (H:Hp) (Q:St->Hp->Prop):Prop
 |mk (v:V) (r:List V):vs=v::r->(t v σ H λσ' H'=>u r σ' H' Q)->bE t u vs σ H Q
def Qy:BJ X [] e7:=by
 intro U s σ H vs us Q I r h;obtain⟨e,h⟩:=h;subst e;cases r;exact assignInOrder_nil ⟨σ,H,I,h⟩
def Qh(h1:PG X e t)(h2:BJ X es u)(hs:(assignEach (e::es) X.env).map (·.2)=assign e X.env::(assignEach es X.env).map (·.2):=by rfl):BJ X (e::es) (bE t u):=by
 intro U s σ H vs us Q I r h;obtain⟨v,vr,e1,h⟩:=h;subst e1;cases r with
 |cons r rr=>
  rw[hs];refine yee (ax (h1 U s σ H _ _ _ I r h) λ_ s1⟨σ1,H1,I1,q1⟩=>?_);exact h2 U s1 σ1 H1 _ _ Q I1 rr q1
inductive eC (K:Frag) (n:Nat) (t:AM) (v:V) (σ:St) (H:Hp) (Q:St->Hp->Prop):Prop
 |mk (a:Addr) (xs:List V):v=.ref a->aw K H a xs->xs.length=n->t xs σ H Q->eC K n t v σ H Q
def QM{k:Nat}(hc:X.calm=true)(h:BJ X es t)(hn:(assignEach es X.env).length=n:=by rfl)(lm:(assignEach es X.env).findIdx? (·.1)=none:=by rfl):PG X (.Tuple es k pos) (eC X.K n t):=by
 intro U s σ H v u Q I r hw;obtain⟨a,xs,e1,hq,hl,hw⟩:=hw;subst e1;cases r;obtain⟨its,rv,ht,hz⟩:=I.tuple hq;refine assign_Tuple_tuple (I.ok.hd hc) ht (by simp[hn, <-hl,rv.length]) lm λh' hx=>?_;have I1:Inv X U σ H {s with heap:=h'}:=I.kept (t':=s.toks) λb o e=>hx b o (yaq (yaj e)) e;exact h U _ σ H xs _ Q I1 (by simpa using rv) hw
def PD(to ti:TE)(t:FD):TG:=λv σ H Q=>to σ H λo H1=>ti σ H1 λi H2=>t o i v H2 λH3=>Q σ H3
def PF{to ti:TE}(ho:PE X o to)(hi:PE X i ti)(hs:Lr X t)(ha:∀v,assign (.Subscript o i pos) X.env v=(do
   let ov<-holding [v] (eval o X.env)
   let iv<-holding [v,ov] (eval i X.env)
   standAt pos
   holding [v,ov,iv] (setItem ov iv v)
   release [v,ov,iv] []):=by intro _;rfl):PG X (.Subscript o i pos) (PD to ti t):=by
 intro U s σ H v u Q I r h;rw[ha];refine yaa (ybe (ax (ho U s σ H _ I h) λov s1⟨x,H1,I1,r1,q1⟩=>?_));refine yaa (ybe (ax (hi U s1 σ H1 _ I1 q1) λiv s2⟨y,H2,I2,r2,q2⟩=>?_));refine yaa (ydG (yaa (ybe (ax (hs U s2 σ H2 x y v ov iv u _ I2 r1 r2 r q2) λ_ s3⟨H3,I3,q3⟩=>?_))));exact wpAny_release ⟨σ,H3,I3,q3⟩
def J9(te:TE)(g:TG):TS:=λD σ H=>te σ H λx H1=>g x σ H1 D.nx
def QW(he:PE X e te)(hg:PG X tg g)(hs:swapsWithSole [tg] e pos.line X.env=pure false:=by rfl)(hw:swappedStores [tg] e X.env=pure none:=by rfl)(h1:(assignEach [tg] X.env).map (·.2)=[assign tg X.env]:=by rfl):PS X (.Assign [tg] e pos) (J9 te g):=by
 intro U s σ H D I h;refine wpAny_Assign_stores (ax (he U s σ H _ I h) λv s1⟨x,H1,I1,r1,q1⟩=>?_) hs hw;rw[h1];exact ax (hg U s1 σ H1 x v _ I1 r1 q1) λ_ s2 q=>q
def Qt{pos':Pos}(hN:X.N.Nodup)(hi:X.N[i]? =some x)(hx:Loc X.env.scope x)(he:PE X e te)(hs:swapsWith e (some (.Name x pos')) pos.line X.env=pure false:=by rfl)(hf:X.fn x=true\/X.env.scope.names.lookup x=some .local:=by first|exact .inl rfl|exact .inr rfl|assumption):PS X (.Assign [.Name x pos'] e pos) (J9 te (QL i)):=by
 intro U s σ H D I h;refine wpAny_Assign_Name (ax (he U s σ H _ I h) λv s1⟨y,H1,I1,r1,q1⟩=>?_) hs;exact KR I1 hN hi hx r1 (λs2 I2=>⟨_,H1,I2,q1⟩) hf
def PH(i j:Nat)(ta:TA):TS:=λD σ H=>ta σ H λvs H1=>∃v w,vs=[v,w]/\D.nx ((σ.set i (some v)).set j (some w)) H1
def Ls{px py pt:Pos}{kt k2 FG}(hc:X.calm=true)(hN:X.N.Nodup)(hi:X.N[i]? =some x)(hj:X.N[j]? =some y)(FH:i≠j)(hx:X.env.scope.names.lookup x=some .local)(hy:X.env.scope.names.lookup y=some .local)(ha:PA X [a,b] ta)(hw:swappedStores [.Tuple [.Name x px,.Name y py] kt pt] (.Tuple [a,b] k2 FG) X.env=pure (some [x,y]))(hs:swapsWithSole [.Tuple [.Name x px,.Name y py] kt pt] (.Tuple [a,b] k2 FG) pos.line X.env=pure false:=by rfl):PS X (.Assign [.Tuple [.Name x px,.Name y py] kt pt] (.Tuple [a,b] k2 FG) pos) (PH i j ta):=by
 intro U s σ H D I h;rw[exec_Assign_arm];refine yaa (ydG ?_);rw[hs];refine yaa (yac ?_);rw[yah (by lia)];refine yaa (Tuple_ (ax (ha _ U s σ H _ I h) λus s1⟨vs,H1,I1,r1,q1⟩=>?_));obtain⟨v,w,e1,q1⟩:=q1;subst e1;obtain⟨u1,u2,rfl,rv,Os⟩:∃u1 u2,us=[u1,u2]/\RelV v u1/\RelV w u2:=by
  cases r1 with
  |cons p q=>
   cases q with
   |cons p' q'=>
    cases q';exact⟨_,_,Z,p,p'⟩
 refine yaX ?_ (by show 2<=sizeLine;lia);have I2:Inv X U σ H1 {s1 with heap:=s1.heap.push {cls:=.type "tuple",data:=.seq [u1,u2].toArray}}:=I1.kept (t':=s1.toks) λb o e=>yab _ e;rw[hw];refine yaa (yac ?_);show wpAny (model X.prog X.w) X.A (do rule "assign.swapped-stores";let items<-unpackItems (.ref s1.heap.objs.size) 2 none;assignInOrder [λv=>bindName X.env y v,λv=>bindName X.env x v] items.reverse;pure Flow.next) _ _ _;refine yaa (ycV (yaa (unpackItems_tuple (items:= #[u1,u2]) (I.ok.hd hc) (IsTup.new s1.heap _) λh' FM=>?_)));have I3:=I2.kept (h':=h') (t':=s1.toks) λb o e=>FM b o (yaq (yaj e)) e;show wpAny _ _ (assignInOrder [λv=>bindName X.env y v,λv=>bindName X.env x v] [u2,u1]>>=λ_=>pure Flow.next) _ _ _;refine yaa (yee (wpAny_bindName (KR I3 hN hj (.inl hy) Os (λs2 I4=>?_) (.inr hy))));refine yee (wpAny_bindName (KR I4 hN hi (.inl hx) rv (λs3 I5=>assignInOrder_nil (yac ?_)) (.inr hx)));rw[List.set_comm _ _ (Ne.symm FH)]at I5;exact⟨_,H1,I5,q1⟩
inductive BK (i:Nat) (te:TE) (ti:FE) (D:Ends) (σ:St) (H:Hp):Prop
 |mk (x):σ[i]? =some (some x)->(te σ H λy H1=>ti x y H1 λz H2=>D.nx (σ.set i (some z)) H2)->BK i te ti D σ H
def KU{op:Operator}{pos':Pos}(hN:X.N.Nodup)(hi:X.N[i]? =some x)(hx:Loc X.env.scope x)(he:PE X e te)(ho:FF X op ti)(hf:X.fn x=true\/X.env.scope.names.lookup x=some .local:=by first|exact .inl rfl|exact .inr rfl|assumption):PS X (.AugAssign (.Name x pos') op e pos) (BK i te ti):=by
 intro U s σ H D I h;obtain⟨v,e1,h⟩:=h;obtain⟨m,hn,hl⟩:=I.loc;have PJ:Ea X.env.scope x:=by rcases hx with k|k;exact .inl k;exact .inr (.inl k)
 obtain⟨u,r,l⟩:=hl i x v hi e1 PJ;refine wpAny_AugAssign_Name ?_;have go:wpAny (model X.prog X.w) X.A (eval e X.env) (λw s₂=>wpAny (model X.prog X.w) X.A (inplaceOp op u w) (λr s₃=>wpAny (model X.prog X.w) X.A (storeName X.env x r) (λ_=>SP X U D .next) X.xe s₃) X.xe s₂) X.xe s:=by
  refine ax (he U s σ H _ I h) λw s1⟨y,H1,I1,r1,q1⟩=>?_;refine ax (ho U s1 σ H1 v y u w _ I1 r r1 q1) λz s2⟨zv,H2,I2,r2,q2⟩=>?_;exact KR I2 hN hi hx r2 (λs3 I3=>⟨_,H2,I3,q2⟩) hf
 rcases l with⟨hk,hm⟩|⟨hk,c,hc,SC⟩
 .exact wpAny_loadName_local I.ok.kind hk hn hm go
 .rcases hk with hk|hk
  .exact wpAny_loadName_cell I.ok.kind hk hc SC go
  .rcases hx with k|k
   .have:X.env.scope.names.lookup x=some .free:=hk;rw[k]at this;cases this
   .have:X.env.scope.names.lookup x=some .free:=hk;rw[k]at this;cases this
inductive Lu (f:Int->Int->Int) (x:V) (y:V) (H:Hp) (Q:VK):Prop
 |mk (i j):x=.int i->y=.int j->Q (.int (f i j)) H->Lu f x y H Q
def W6:FF X .Add (Lu λi j=>i+j):=by
 intro U s σ H x y v u Q I r1 r2 h;obtain⟨i,j,e1,e2,q⟩:=h;subst e1;subst e2;obtain⟨t,rfl⟩:=r1;obtain⟨t',rfl⟩:=r2;exact iadd_int ⟨.int _,H,I.tok _,⟨_,Z⟩,q⟩
def PL(c:TT)(tb:TS):TS:=λD σ H=>∃W:Nat->St->Hp->Prop,(∃m,W m σ H)/\∀m σ H,W m σ H->
 c σ H λb H1=>if b=true then ∃N:St->Hp->Prop,(∀σ' H',N σ' H'->∃m',m'<m/\W m' σ' H')/\tb {D with nx:=N,ct:=N,bk:=D.nx} σ H1 else D.nx σ H1
def Xl{body:List Stmt}(hp:PassesOwn (model X.prog X.w) X.A X.env X.xe)(hc:PT X c tc)(hb:d9 X body tb):PS X (.While c body [] pos) (PL tc tb):=by
 intro U s σ H D I h;obtain⟨W,⟨m0,w0⟩,turn⟩:=h;refine wpAny_While (codeAny_whileLoop (λn s'=>∃σ' H',Inv X U σ' H' s'/\W n σ' H') ?_ m0 ⟨σ,H,I,w0⟩);rintro n s1 ⟨σ1,H1,I1,w1⟩;refine ycb hp (ax (hc U s1 σ1 H1 _ I1 (turn n σ1 H1 w1)) λb s2⟨H2,I2,q2⟩=>?_);cases b with
 |true=>
  obtain⟨N,hN,q2⟩:=q2;rw[yai rfl];refine ycb hp (ax (hb U s2 σ1 H2 _ I2 q2) λf s3 q3=>?_);cases f with
  |next=>
   obtain⟨σ3,H3,I3,n3⟩:=q3;obtain⟨m',hm,w3⟩:=hN σ3 H3 n3;exact⟨m',hm,σ3,H3,I3,w3⟩
  |cont=>
   obtain⟨σ3,H3,I3,n3⟩:=q3;obtain⟨m',hm,w3⟩:=hN σ3 H3 n3;exact⟨m',hm,σ3,H3,I3,w3⟩
  |brk=>exact q3
  |ret v=>exact q3
 |false=>
  rw[yah yal];exact ydN ⟨σ1,H2,I2,q2⟩
end
structure It where
 go:Nat->Hp->Prop
 dj:Nat->Hp->V->Hp->Prop
 stop:Nat->Hp->Prop
def yB(X:Cx)(U:List (Addr × Obj))(H:Hp)(b:Addr):Prop:=
 H b=none/\b≠X.env.locals/\b∉X.fs/\(b∈X.ex\/X.s₀.heap.objs.size<=b)/\(∀x c,X.env.cells.lookup x=some c->c≠b)/\∀p∈X.pn++U,p.1≠b
def Inv.xv{X:Cx}{U:List (Addr × Obj)}{σ:St}{b:Addr}(I:Inv X U σ H s)(hb:s.heap.objs.size<=b)(hn:H' b=none):yB X U H' b:=by
 refine⟨hn,yct (yan I.lt hb),I.Pm hb,.inr (yao I.sz hb),λx c e z=>?_,λp hp z=>?_⟩
 .obtain⟨v,q⟩:=I.cell x c e;exact absurd (yan q.lt (by rw[z];exact hb)) (lH _)
 .exact absurd (yan (yaj (I.pin p hp).1) (by rw[z];exact hb)) (lH _)
structure Turn(P:Program)(w:World)(K:Frag)(tg:Expr)(J:It)(fp:List Addr)(it:Addr)(tn:Nat->Heap->Prop):Prop where
 mem:it∈fp
 obj:∀i h,tn i h->∀b∈fp,∃o,h.get? b=some o/\∀v,o.data≠ .cell v
 keep:∀i h h',tn i h->(∀b∈fp,∀o,h.get? b=some o->h'.get? b=some o)->tn i h'
 item:∀(X:Cx),X.prog=P->X.w=w->X.K=K->X.calm=true->∀(i:Nat)(U:List (Addr × Obj))(s:Shared)(σ:St)(H:Hp)(E:Value->Shared->Prop),Inv X U σ H s->(∀b∈fp,yB X U H b)->tn i s.heap->J.go i H->
  wpAny (model P w) X.A (pyNext (.ref it)) (λr s1=>∃u,r=some u/\
   wpAny (model P w) X.A (letOwnedTupleGo tg (.ref it) u) (λ_ s2=>∃x H',Inv X U σ H' s2/\RelV x u/\J.dj i H x H'/\tn (i+1) s2.heap/\∀b∈fp,H' b=none) E s1) E s
 done:∀(X:Cx),X.prog=P->X.w=w->X.K=K->X.calm=true->∀(i:Nat)(U:List (Addr × Obj))(s:Shared)(σ:St)(H:Hp)(E:Value->Shared->Prop),Inv X U σ H s->(∀b∈fp,yB X U H b)->tn i s.heap->J.stop i H->
  wpAny (model P w) X.A (pyNext (.ref it)) (λr s1=>r=none/\Inv X U σ H s1) E s
 self:∀(A:Around)(i:Nat)(s:Shared)(Q:Value->Shared->Prop)(E:Value->Shared->Prop),tn i s.heap->Q (.ref it) s->wpAny (model P w) A (pyIter (.ref it)) Q E s
noncomputable abbrev TI:=St->Hp->(It->Hp->Prop)->Prop
def Lv(X:Cx)(U:List (Addr × Obj))(σ:St)(tg:Expr)(R:It->Hp->Prop)(FI:Value)(s2:Shared):Prop:=
 ∃(it:Addr)(fp:List Addr)(tn:Nat->Heap->Prop)(J:It)(H':Hp),FI=.ref it/\Inv X U σ H' s2/\Turn X.prog X.w X.K tg J fp it tn/\tn 0 s2.heap/\(∀b∈fp,yB X U H' b)/\R J H'
def PI(X:Cx)(tg iter:Expr)(wi:TI):Prop:=
 ∀(U:List (Addr × Obj))(s:Shared)(σ:St)(H:Hp)(R:It->Hp->Prop),Inv X U σ H s->wi σ H R->
  wpAny (model X.prog X.w) X.A (eval iter X.env) (λv s1=>wpAny (model X.prog X.w) X.A (pyIter v) (Lv X U σ tg R) X.xe s1) X.xe s
def xw{it:Addr}(ho:s.heap.get? it=some o)(hc:o.cls=.type n)(hd:o.data=.fields vs)(hn:["enumerate","zip","dict_itemiterator","dict_reverseitemiterator","odict_iterator","itertools.zip_longest","itertools.pairwise"].contains n=false)(hQ:Q () s):wpAny qMa A (letOwnedTupleGo tg (.ref it) u) Q E s:=by
 unfold letOwnedTupleGo;cases tg<;>first
  |exact yac hQ
  |(cases u<;>first
    |exact yac hQ
    |(refine yaa (wpAny_load ho ?_)
      rw[hc,hd];show wpAny qMa A (if(["enumerate","zip","dict_itemiterator","dict_reverseitemiterator","odict_iterator","itertools.zip_longest","itertools.pairwise"].contains n&&vs[0]? ==some (rawInt _))=true then _ else _) Q E s;rw[yah (by intro h;rw[hn,yeZ]at h;cases h)];exact yac hQ))
noncomputable def fC(K:Frag)(a:Addr):It:=
 ⟨λi H=>∃xs x,aE K H a xs/\xs[i]? =some x,λi H x H'=>H'=H/\∀xs,aE K H a xs->xs[i]? =some x,λi H=>∃xs,aE K H a xs/\xs.length<=i⟩
noncomputable def fD(K:Frag)(a:Addr):It:=
 ⟨λi H=>∃xs x,aw K H a xs/\xs[i]? =some x,λi H x H'=>H'=H/\∀xs,aw K H a xs->xs[i]? =some x,λi H=>∃xs,aw K H a xs/\xs.length<=i⟩
noncomputable def sI(lo:Int)(n:Nat):It:=⟨λi _=>i<n,λi H x H'=>H'=H/\x=.int (lo+i),λi _=>n<=i⟩
def kM{P:Program}{w:World}{K:Frag}{tg:Expr}(a it:Addr):Turn P w K tg (fC K a) [it] it (λi h=>h.IsListIter it a i) where
 mem:=by simp
 obj:=λi h st b hb=>by
  have e:b=it:=by simpa using hb
  subst e;obtain⟨o,e,c,d⟩:=st;exact⟨o,e,λv z=>by rw[d]at z;cases z⟩
 keep:=λi h h' st k=>st.at λo e=>k it (by simp) o e
 item:=by
  intro X hP hw hK hc i U s σ H E I hf st hg;subst hP hw hK;obtain⟨xs,x,hq,hx⟩:=hg;obtain⟨its,rv,p,hz⟩:=I.list hq;obtain⟨u,hu,ru⟩:=rv.get hx;obtain⟨f0,f1,f2,f3,f4,f5⟩:=hf it (by simp);refine wpAny_pyNext_list_item st p.isList (x:=u) (by simpa using hu) λh' Db sb=>?_;have I1:Inv X U σ H {s with heap:=h'}:=I.turned (t':=s.toks) (λb o hb e=>(sb.2 b hb).trans e) f0 f1 f3 f4 f5;obtain⟨o,e,c,d⟩:=id Db;exact⟨u,Z,xw (s:={s with heap:=h'}) e c d (by lia) ⟨x,H,I1,ru,⟨Z,λys hy=>by rw[I.yH hy hq];exact hx⟩,Db,λb hb=>(hf b hb).1⟩⟩
 done:=by
  intro X hP hw hK hc i U s σ H E I hf st hg;subst hP hw hK;obtain⟨xs,hq,hx⟩:=hg;obtain⟨its,rv,p,hz⟩:=I.list hq;obtain⟨f0,f1,f2,f3,f4,f5⟩:=hf it (by simp);have hl:=rv.length;exact wpAny_pyNext_list_end (I.ok.hd hc) st p.isList (by simp;lia) λh' eb=>⟨Z,I.turned (t':=s.toks) (λb o hb e=>eb b o hb e) f0 f1 f3 f4 f5⟩
 self:=λ_ _ _ _ _ st h=>wpAny_pyIter_listiter st h
def xx{P:Program}{w:World}{K:Frag}{tg:Expr}(a it:Addr):Turn P w K tg (fD K a) [it] it (λi h=>h.IsTupleIter it a i) where
 mem:=by simp
 obj:=λi h st b hb=>by
  have e:b=it:=by simpa using hb
  subst e;obtain⟨o,e,c,d⟩:=st;exact⟨o,e,λv z=>by rw[d]at z;cases z⟩
 keep:=λi h h' st k=>st.at λo e=>k it (by simp) o e
 item:=by
  intro X hP hw hK hc i U s σ H E I hf st hg;subst hP hw hK;obtain⟨xs,x,hq,hx⟩:=hg;obtain⟨its,rv,p,hz⟩:=I.tuple hq;obtain⟨u,hu,ru⟩:=rv.get hx;obtain⟨f0,f1,f2,f3,f4,f5⟩:=hf it (by simp);refine wpAny_pyNext_tuple_item st (show s.heap.IsTuple a its.toArray from p) (x:=u) (by simpa using hu) λh' Db sb=>?_;have I1:Inv X U σ H {s with heap:=h'}:=I.turned (t':=s.toks) (λb o hb e=>(sb.2 b hb).trans e) f0 f1 f3 f4 f5;obtain⟨o,e,c,d⟩:=id Db;exact⟨u,Z,xw (s:={s with heap:=h'}) e c d (by lia) ⟨x,H,I1,ru,⟨Z,λys hy=>by rw[I.Vv hy hq];exact hx⟩,Db,λb hb=>(hf b hb).1⟩⟩
 done:=by
  intro X hP hw hK hc i U s σ H E I hf st hg;subst hP hw hK;obtain⟨xs,hq,hx⟩:=hg;obtain⟨its,rv,p,hz⟩:=I.tuple hq;obtain⟨f0,f1,f2,f3,f4,f5⟩:=hf it (by simp);have hl:=rv.length;exact wpAny_pyNext_tuple_end (I.ok.hd hc) st (show s.heap.IsTuple a its.toArray from p) (by simp;lia) λh' eb=>⟨Z,I.turned (t':=s.toks) (λb o hb e=>eb b o hb e) f0 f1 f3 f4 f5⟩
 self:=λ_ _ _ _ _ st h=>wpAny_pyIter_tupleiter st h
def xy{P:Program}{w:World}{K:Frag}{tg:Expr}(it:Addr)(lo:Int)(n:Nat):Turn P w K tg (sI lo n) [it] it (λi h=>IsRangeIter h it (lo+(i:Nat)*1) ((n:Int)-(i:Nat)) 1) where
 mem:=by simp
 obj:=λi h st b hb=>by
  have e:b=it:=by simpa using hb
  subst e;exact⟨_,st,λv z=>by
   have z':Data.fields _=Data.cell v:=z;cases z'⟩
 keep:=λi h h' st k=>k it (by simp) _ st
 item:=by
  intro X hP hw hK hc i U s σ H E I hf st hg;subst hP hw hK;obtain⟨f0,f1,f2,f3,f4,f5⟩:=hf it (by simp);have W:=Walks.range (prog:=X.prog) (w:=X.w) (I.ok.hd hc) it lo 1 n;refine W.item i s _ _ hg st λv h' tk hv Db kk=>?_;obtain⟨t,rfl⟩:=hv;have I1:Inv X U σ H {s with heap:=h',toks:=tk}:=I.turned (λb o hb e=>kk b o (by simpa using hb) e) f0 f1 f3 f4 f5;refine⟨_,Z,xw (s:={s with heap:=h',toks:=tk}) (n:="range_iterator") Db rfl rfl (by lia) ⟨.int (lo+i),H,I1,⟨t,?_⟩,⟨Z,Z⟩,Db,λb hb=>(hf b hb).1⟩⟩;rw[Int.mul_one]
 done:=by
  intro X hP hw hK hc i U s σ H E I hf st hg;subst hP hw hK;obtain⟨f0,f1,f2,f3,f4,f5⟩:=hf it (by simp);exact wpAny_pyNext_range_end (I.ok.hd hc) st (by have:n<=i:=hg;lia) λh' eb=>⟨Z,I.turned (t':=s.toks) (λb o hb e=>eb b o hb e) f0 f1 f3 f4 f5⟩
 self:=λ_ _ _ _ _ st h=>ydj st h
section
def yI(K:Frag)(tl:TE):TI:=λσ H R=>tl σ H λx H1=>∃a,x=.ref a/\(∃xs,aE K H1 a xs)/\R (fC K a) H1
def Lx(K:Frag)(tl:TE):TI:=λσ H R=>tl σ H λx H1=>∃a,x=.ref a/\(∃xs,aw K H1 a xs)/\R (fD K a) H1
def Z4{tl:TE}(hl:PE X l tl):PI X tg l (yI X.K tl):=by
 intro U s σ H R I h;refine ax (hl U s σ H _ I h) λv s1⟨x,H1,I1,r1,q1⟩=>?_;obtain⟨a,e,⟨xs,hq⟩,q⟩:=q1;subst e;cases r1;obtain⟨its,rv,p,hz⟩:=I1.list hq;refine ydl p.isList ?_;refine⟨s1.heap.objs.size,[s1.heap.objs.size],_,_,H1,Z,I1.kept (t':=s1.toks) λb o e=>yab _ e,kM a _,⟨_,yag _ rfl,Z,Z⟩,λb hb=>?_,q⟩;have e:b=s1.heap.objs.size:=by simpa using hb
 subst e;exact I1.xv (tO _) (I1.ao.fresh (tO _))
def qC{tl:TE}(hl:PE X l tl):PI X tg l (Lx X.K tl):=by
 intro U s σ H R I h;refine ax (hl U s σ H _ I h) λv s1⟨x,H1,I1,r1,q1⟩=>?_;obtain⟨a,e,⟨xs,hq⟩,q⟩:=q1;subst e;cases r1;obtain⟨its,rv,p,hz⟩:=I1.tuple hq;refine yef (show s1.heap.IsTuple a its.toArray from p) ?_;refine⟨s1.heap.objs.size,[s1.heap.objs.size],_,_,H1,Z,I1.kept (t':=s1.toks) λb o e=>yab _ e,xx a _,⟨_,yag _ rfl,Z,Z⟩,λb hb=>?_,q⟩;have e:b=s1.heap.objs.size:=by simpa using hb
 subst e;exact I1.xv (tO _) (I1.ao.fresh (tO _))
def yJ{U:List (Addr × Obj)}{σ:St}{lo hi:Int}{tk:Nat}(I:Inv X U σ H s)(h1: -(2^62)<=lo)(h2:lo<2^62)(h3: -(2^62)<=hi)(h4:hi<2^62)(q:R (sI lo (hi-lo).toNat) H):wpAny (model X.prog X.w) X.A (pyIter (.ref s.heap.objs.size)) (Lv X U σ tg R) E {s with heap:=s.heap.push {cls:=.type "range",data:=.fields #[.int lo t,.int hi u,.int 1 v]},toks:=tk}:=by
 refine wpAny_pyIter_range (IsRange.new ..) (small_one h1 h2 h3 h4) ?_;have I1:Inv X U σ H {s with heap:=s.heap.push {cls:=.type "range",data:=.fields #[.int lo t,.int hi u,.int 1 v]},toks:=tk}:=I.kept λb o e=>yab _ e;refine⟨(s.heap.push {cls:=.type "range",data:=.fields #[.int lo t,.int hi u,.int 1 v]}).objs.size,[(s.heap.push {cls:=.type "range",data:=.fields #[.int lo t,.int hi u,.int 1 v]}).objs.size],_,_,H,Z,
  I1.kept (t':=tk) λb o e=>yab _ e,xy _ lo (hi-lo).toNat,?_,λb hb=>?_,q⟩
 .have e1:lo+((0:Nat):Int)*1=lo:=by simp
  have e2:(((hi-lo).toNat:Nat):Int)-((0:Nat):Int)=Builtin.Range.rangeSize lo hi 1:=by rw[rangeSize_one];split<;>lia
  show IsRangeIter _ _ (lo+((0:Nat):Int)*1) ((((hi-lo).toNat:Nat):Int)-((0:Nat):Int)) 1;rw[e1,e2];exact yag _ rfl
 .have e:b=(s.heap.push {cls:=.type "range",data:=.fields #[.int lo t,.int hi u,.int 1 v]}).objs.size:=by simpa using hb
  subst e;exact I1.xv (tO _) (I1.ao.fresh (tO _))
def PM(ta:TA):TI:=λσ H R=>ta σ H λvs H1=>∃j:Int,vs=[.int j]/\ -(2^62)<=j/\j<2^62/\R (sI 0 j.toNat) H1
def XU{p pos:Pos}(hg:Gl X "range")(hm:X.mg "range"=none)(ha:PA X [a] ta)(hs:starEach [a] X.env=[(false,eval a X.env)]:=by rfl):PI X tg (.Call (.Name "range" p) [a] [] pos) (PM ta):=by
 intro U s σ H R I h;refine Call_ (ZQ I hg hm boot_range (yau (ax (ha pos U s σ H _ I h) λus s1⟨vs,H1,I1,r1,q1⟩=>?_) hs Z));obtain⟨j,e,q1,q2,q⟩:=q1;subst e;cases r1 with
 |cons r rr=>
  cases rr;obtain⟨t,rfl⟩:=r;exact call_range_1 (yJ I1 (by lia) (by lia) q1 q2 (by simpa using q))
def Lz(wi:TI)(g:TG)(tb:TS):TS:=λD σ H=>wi σ H λJ H1=>∃W:Nat->Nat->St->Hp->Prop,(∃m,W 0 m σ H1)/\∀i m σ H,W i m σ H->
 (J.stop i H/\D.nx σ H)\/(J.go i H/\∃N:St->Hp->Prop,(∀σ' H',N σ' H'->∃m',m'<m/\W (i+1) m' σ' H')/\∀x H',J.dj i H x H'->g x σ H' λσ2 H2=>tb {D with nx:=N,ct:=N,bk:=D.nx} σ2 H2)
noncomputable def qD(fp:List Addr)(h:Heap):List (Addr × Obj):=fp.filterMap λb=>(h.get? b).map λo=>(b,o)
def Kh(hb:b∈fp)(e:h.get? b=some o):(b,o)∈qD fp h:=yeg.mpr ⟨b,hb,by rw[e];rfl⟩
def kO(hp:p∈qD fp h):p.1∈fp/\h.get? p.1=some p.2:=by
 obtain⟨b,hb,e⟩:=yeg.mp hp;cases q:h.get? b with
 |none=>rw[q]at e;cases e
 |some o=>
  rw[q]at e;have e':(b,o)=p:=tP e;subst e';exact⟨hb,q⟩
def Inv.pinned{U:List (Addr × Obj)}{σ:St}{fp:List Addr}(I:Inv X U σ H s)(hf:∀b∈fp,yB X U H b)(ho:∀b∈fp,∃o,s.heap.get? b=some o/\∀v,o.data≠ .cell v):Inv X (U++qD fp s.heap) σ H s:=
 I.Y9 λp hp=>(yat.mp hp).elim (λz=>I.pin p (tT _ z)) λz=>by
  obtain⟨hb,e⟩:=kO z;obtain⟨f0,f1,f2,_⟩:=hf p.1 hb;obtain⟨o,e',d⟩:=ho p.1 hb;rw[e]at e';cases e';exact⟨e,f0,f1,f2,d⟩
def Inv.KY{U pl:List (Addr × Obj)}{σ:St}(I:Inv X (U++pl) σ H s):Inv X U σ H s:=I.Y9 λp hp=>I.pin p (tT _ (tU _ hp))
def ZR{iter:Expr}{body:List Stmt}{pos:Pos}(hp:PassesOwn (model X.prog X.w) X.A X.env X.xe)(hc:X.calm=true)(hi:PI X tg iter wi)(hg:PG X tg g)(hb:d9 X body tb)(hs:∀x,foldedSetIterable iter X.env x=pure x:=by intro _;rfl):PS X (.For tg iter body [] pos) (Lz wi g tb):=by
 intro U s σ H D I h;refine wpAny_For (ax (hi U s σ H _ I h) λv s1 h1=>ax h1 λFI s2 h2=>?_) hs;obtain⟨it,fp,tn,J,H2,e,I2,T,Do,f2,W,⟨m0,w0⟩,turn⟩:=h2;subst e;have Pi:∀{H':Hp},(∀b∈fp,H' b=none)->∀b∈fp,yB X U H' b:=λhn b hb=>⟨hn b hb,(f2 b hb).2⟩;refine codeAny_forLoop_any (λn s'=>∃i σ' H',Inv X U σ' H' s'/\tn i s'.heap/\(∀b∈fp,H' b=none)/\W i n σ' H') ?_ m0 ⟨0,σ,H2,I2,Do,λb hb=>(f2 b hb).1,w0⟩;rintro n s3 ⟨i,σ3,H3,I3,BL,LA,w3⟩;rcases turn i n σ3 H3 w3 with⟨stop,qn⟩|⟨go,N,hN,step⟩
 .refine ycb hp (ax (T.done X Z Z Z hc i U s3 σ3 H3 X.xe I3 (Pi LA) BL stop) λr s4⟨hr,I4⟩=>?_);subst hr;exact ydN ⟨σ3,H3,I4,qn⟩
 .refine ycb hp (ax (T.item X Z Z Z hc i U s3 σ3 H3 X.xe I3 (Pi LA) BL go) λr s4⟨u,hr,h4⟩=>?_);subst hr;refine ycb hp (ax h4 λ_ s5⟨x,H5,I5,r5,y5,AN,Eg⟩=>?_);have PN:=I5.pinned (Pi Eg) (T.obj _ _ AN);refine ycb hp (ax (hg _ s5 σ3 H5 x u _ PN r5 (step x H5 y5)) λ_ s6⟨σ6,H6,I6,q6⟩=>?_);refine ycb hp (ax (hb _ s6 σ6 H6 _ I6 q6) λf s7 q7=>?_);have again:∀{σ7:St}{H7:Hp},Inv X (U++qD fp s5.heap) σ7 H7 s7->N σ7 H7->∃m,m<n/\∃i σ' H',Inv X U σ' H' s7/\tn i s7.heap/\(∀b∈fp,H' b=none)/\W i m σ' H':=λ{σ7 H7} I7 n7=>by
   obtain⟨m',hm,w7⟩:=hN σ7 H7 n7;refine⟨m',hm,i+1,σ7,H7,I7.KY,T.keep _ _ _ AN λb hb o e=>(I7.pin (b,o) (tT _ (tT _ (Kh hb e)))).1,λb hb=>?_,w7⟩;obtain⟨o,e,d⟩:=T.obj _ _ AN b hb;exact(I7.pin (b,o) (tT _ (tT _ (Kh hb e)))).2.1
  cases f with
  |next=>obtain⟨σ7,H7,I7,n7⟩:=q7;exact again I7 n7
  |cont=>obtain⟨σ7,H7,I7,n7⟩:=q7;exact again I7 n7
  |brk=>obtain⟨σ7,H7,I7,q7⟩:=q7;exact⟨σ7,H7,I7.KY,q7⟩
  |ret v=>obtain⟨x7,σ7,H7,I7,r7,q7⟩:=q7;exact⟨x7,σ7,H7,I7.KY,r7,q7⟩
end
def yK{K:Frag}{a:Addr}{xs:List V}{g:TG}{tb:TS}{D:Ends}{σ:St}{H:Hp}(Pv:Nat->St->Hp->Prop)(h0:Pv 0 σ H)(hl:∀i σ H,i<=xs.length->Pv i σ H->aE K H a xs)(hs:∀i x σ H,xs[i]? =some x->Pv i σ H->g x σ H λσ2 H2=>tb {D with nx:=Pv (i+1),ct:=Pv (i+1),bk:=D.nx} σ2 H2)(hd:∀σ H,Pv xs.length σ H->D.nx σ H):∃W:Nat->Nat->St->Hp->Prop,(∃m,W 0 m σ H)/\∀i m σ H,W i m σ H->
   ((fC K a).stop i H/\D.nx σ H)\/((fC K a).go i H/\∃N:St->Hp->Prop,(∀σ' H',N σ' H'->∃m',m'<m/\W (i+1) m' σ' H')/\∀x H',(fC K a).dj i H x H'->g x σ H' λσ2 H2=>tb {D with nx:=N,ct:=N,bk:=D.nx} σ2 H2):=by
 refine⟨λi m σ H=>m=xs.length-i/\i<=xs.length/\Pv i σ H,⟨xs.length,by simp,lG _,h0⟩,?_⟩;rintro i m σ H ⟨rfl,hi,p⟩;have q:=hl i σ H hi p
 by_cases bi:i<xs.length
 .refine .inr ⟨⟨xs,xs[i],q,by simp[bi]⟩,Pv (i+1),λσ' H' p'=>⟨xs.length-(i+1),by lia,Z,bi,p'⟩,λx H' y=>?_⟩;obtain⟨e,y⟩:=y;subst e;exact hs i x σ _ (y xs q) p
 .have e:i=xs.length:=by lia
  subst e;exact .inl ⟨⟨xs,q,tO _⟩,hd σ H p⟩
def kP{K:Frag}{a:Addr}{xs:List V}{g:TG}{tb:TS}{D:Ends}{σ:St}{H:Hp}(Pv:Nat->St->Hp->Prop)(h0:Pv 0 σ H)(hl:∀i σ H,i<=xs.length->Pv i σ H->aw K H a xs)(hs:∀i x σ H,xs[i]? =some x->Pv i σ H->g x σ H λσ2 H2=>tb {D with nx:=Pv (i+1),ct:=Pv (i+1),bk:=D.nx} σ2 H2)(hd:∀σ H,Pv xs.length σ H->D.nx σ H):∃W:Nat->Nat->St->Hp->Prop,(∃m,W 0 m σ H)/\∀i m σ H,W i m σ H->
   ((fD K a).stop i H/\D.nx σ H)\/((fD K a).go i H/\∃N:St->Hp->Prop,(∀σ' H',N σ' H'->∃m',m'<m/\W (i+1) m' σ' H')/\∀x H',(fD K a).dj i H x H'->g x σ H' λσ2 H2=>tb {D with nx:=N,ct:=N,bk:=D.nx} σ2 H2):=by
 refine⟨λi m σ H=>m=xs.length-i/\i<=xs.length/\Pv i σ H,⟨xs.length,by simp,lG _,h0⟩,?_⟩;rintro i m σ H ⟨rfl,hi,p⟩;have q:=hl i σ H hi p
 by_cases bi:i<xs.length
 .refine .inr ⟨⟨xs,xs[i],q,by simp[bi]⟩,Pv (i+1),λσ' H' p'=>⟨xs.length-(i+1),by lia,Z,bi,p'⟩,λx H' y=>?_⟩;obtain⟨e,y⟩:=y;subst e;exact hs i x σ _ (y xs q) p
 .have e:i=xs.length:=by lia
  subst e;exact .inl ⟨⟨xs,q,tO _⟩,hd σ H p⟩
def qE{lo:Int}{n:Nat}{g:TG}{tb:TS}{D:Ends}{σ:St}{H:Hp}(Pv:Nat->St->Hp->Prop)(h0:Pv 0 σ H)(hs:∀i σ H,i<n->Pv i σ H->g (.int (lo+i)) σ H λσ2 H2=>tb {D with nx:=Pv (i+1),ct:=Pv (i+1),bk:=D.nx} σ2 H2)(hd:∀σ H,Pv n σ H->D.nx σ H):∃W:Nat->Nat->St->Hp->Prop,(∃m,W 0 m σ H)/\∀i m σ H,W i m σ H->
   ((sI lo n).stop i H/\D.nx σ H)\/((sI lo n).go i H/\∃N:St->Hp->Prop,(∀σ' H',N σ' H'->∃m',m'<m/\W (i+1) m' σ' H')/\∀x H',(sI lo n).dj i H x H'->g x σ H' λσ2 H2=>tb {D with nx:=N,ct:=N,bk:=D.nx} σ2 H2):=by
 refine⟨λi m σ H=>m=n-i/\i<=n/\Pv i σ H,⟨n,by simp,lG _,h0⟩,?_⟩;rintro i m σ H ⟨rfl,hi,p⟩
 by_cases bi:i<n
 .refine .inr ⟨bi,Pv (i+1),λσ' H' p'=>⟨n-(i+1),by lia,Z,bi,p'⟩,λx H' y=>?_⟩;obtain⟨e,y⟩:=y;subst e y;exact hs i σ _ bi p
 .have e:i=n:=by lia
  subst e;exact .inl ⟨tO _,hd σ H p⟩
noncomputable abbrev R2:=V->V->Hp->VK->Prop
def aW(X:Cx)(f:Value->Value->Sem Value)(r:R2):Prop:=
 ∀(U:List (Addr × Obj))(s:Shared)(σ:St)(H:Hp)(x y:V)(v u:Value)(Q:VK),Inv X U σ H s->RelV x v->RelV y u->r x y H Q->
  wpAny (model X.prog X.w) X.A (f v u) (EP X U σ Q) X.xe s
def FJ(X:Cx)(f:Value->Sem Value)(r:V->Hp->VK->Prop):Prop:=
 ∀(U:List (Addr × Obj))(s:Shared)(σ:St)(H:Hp)(x:V)(v:Value)(Q:VK),Inv X U σ H s->RelV x v->r x H Q->
  wpAny (model X.prog X.w) X.A (f v) (EP X U σ Q) X.xe s
def Ww(X:Cx)(f:Value)(r:List V->Hp->VK->Prop):Prop:=
 ∀(U:List (Addr × Obj))(s:Shared)(σ:St)(H:Hp)(xs:List V)(us:List Value)(Q:VK),Inv X U σ H s->Vals xs us->r xs H Q->
  wpAny (model X.prog X.w) X.A (call f us) (EP X U σ Q) X.xe s
def PQ(X:Cx)(r:V->Hp->(Bool->Hp->Prop)->Prop):Prop:=
 ∀(U:List (Addr × Obj))(s:Shared)(σ:St)(H:Hp)(x:V)(v:Value)(Q:Bool->Hp->Prop),Inv X U σ H s->RelV x v->r x H Q->
  wpAny (model X.prog X.w) X.A (truthy v) (TP X U σ Q) X.xe s
def dS(r:R2)(ta tb:TE):TE:=λσ H Q=>ta σ H λx H1=>tb σ H1 λy H2=>r x y H2 Q
def PU(r:V->Hp->VK->Prop)(ta:TE):TE:=λσ H Q=>ta σ H λx H1=>r x H1 Q
inductive rI (C:Int->Int->Prop) (g:Int->Int->V) (x:V) (y:V) (H:Hp) (Q:VK):Prop
 |mk (i j):x=.int i->y=.int j->C i j->Q (g i j) H->rI C g x y H Q
inductive iV (g:Int->Int->V) (x:V) (y:V) (H:Hp) (Q:VK):Prop
 |mk (i j):x=.int i->y=.int j->Q (g i j) H->iV g x y H Q
inductive rU (g:Int->V) (x:V) (H:Hp) (Q:VK):Prop
 |mk (i):x=.int i->Q (g i) H->rU g x H Q
section
variable {pos:Pos}
def FK(ha:PE X a ta)(hb:PE X b tb){U:List (Addr × Obj)}{s:Shared}{σ:St}{H:Hp}{R:V->V->Hp->Prop}(I:Inv X U σ H s)(h:ta σ H λx H1=>tb σ H1 λy H2=>R x y H2){Q:Value->Shared->Prop}{f:Value->Value->Sem Value}(hf:∀v u s2 x y H2,Inv X U σ H2 s2->RelV x v->RelV y u->R x y H2->wpAny (model X.prog X.w) X.A (f v u) Q X.xe s2):wpAny (model X.prog X.w) X.A (eval a X.env) (λv s₁=>wpAny (model X.prog X.w) X.A (eval b X.env) (λu s₂=>wpAny (model X.prog X.w) X.A (f v u) Q X.xe s₂) X.xe s₁) X.xe s:=by
 refine ax (ha U s σ H _ I h) λv s1⟨x,H1,I1,r1,q1⟩=>?_;refine ax (hb U s1 σ H1 _ I1 q1) λu s2⟨y,H2,I2,r2,q2⟩=>?_;exact hf v u s2 x y H2 I2 r1 r2 q2
def QF{op:Operator}(ho:aW X (binaryOp op) r)(ha:PE X a ta)(hb:PE X b tb):PE X (.BinOp a op b pos) (dS r ta tb):=by
 intro U s σ H Q I h;exact wpAny_BinOp (FK ha hb I h λv u s2 x y H2 I2 rx ry q=>ho U s2 σ H2 x y v u Q I2 rx ry q)
def KZ{op:UnaryOp}(ho:FJ X (unaryOp op) r)(ha:PE X a ta):PE X (.UnaryOp op a pos) (PU r ta):=by
 intro U s σ H Q I h;exact UnaryOp_ (ax (ha U s σ H _ I h) λv s1⟨x,H1,I1,r1,q1⟩=>ho U s1 σ H1 x v Q I1 r1 q1)
def AO{g:Int->Int->Int}(rule:∀(i j:Int)(t u:Tok)(s:Shared)(Q:Value->Shared->Prop)(E:Value->Shared->Prop),C i j->Q (.int (g i j) s.toks) {s with toks:=s.toks+1}->wpAny (model X.prog X.w) X.A (f (.int i t) (.int j u)) Q E s):aW X f (rI C λi j=>.int (g i j)):=by
 intro U s σ H x y v u Q I rx ry h;obtain⟨i,j,rfl,rfl,hc,q⟩:=h;obtain⟨t,rfl⟩:=rx;obtain⟨t',rfl⟩:=ry;exact rule i j t t' s _ _ hc ⟨.int (g i j),H,I.tok _,⟨_,Z⟩,q⟩
def LB{g:Int->Int->Int}(rule:∀(i j:Int)(t u:Tok)(s:Shared)(Q:Value->Shared->Prop)(E:Value->Shared->Prop),Q (.int (g i j) s.toks) {s with toks:=s.toks+1}->wpAny (model X.prog X.w) X.A (f (.int i t) (.int j u)) Q E s):aW X f (iV λi j=>.int (g i j)):=by
 intro U s σ H x y v u Q I rx ry h;obtain⟨i,j,rfl,rfl,q⟩:=h;obtain⟨t,rfl⟩:=rx;obtain⟨t',rfl⟩:=ry;exact rule i j t t' s _ _ ⟨.int (g i j),H,I.tok _,⟨_,Z⟩,q⟩
def Eh{g:Int->Int->Bool}(rule:∀(i j:Int)(t u:Tok)(s:Shared)(Q:Value->Shared->Prop)(E:Value->Shared->Prop),Q (.bool (g i j)) s->wpAny (model X.prog X.w) X.A (f (.int i t) (.int j u)) Q E s):aW X f (iV λi j=>.bl (g i j)):=by
 intro U s σ H x y v u Q I rx ry h;obtain⟨i,j,rfl,rfl,q⟩:=h;obtain⟨t,rfl⟩:=rx;obtain⟨t',rfl⟩:=ry;exact rule i j t t' s _ _ ⟨.bl (g i j),H,I,Z,q⟩
def FL(i j:Int):Prop:=0<j/\j<1073741824
def PV(i j:Int):Prop:=0<=j/\j<=1000000/\i.natAbs<2^64
def FN(i j:Int):Prop:=(-(2^64)<i/\i<2^64)\/(-(2^64)<j/\j<2^64)
def FN.ok(h:FN i j):IntMulOk i j:=by
 rcases h with⟨h1,h2⟩|⟨h1,h2⟩
 .exact .of_left (intBits_le_64 h1 h2)
 .exact .of_right (intBits_le_64 h1 h2)
def Ji:aW X (binaryOp .Add) (iV λi j=>.int (i+j)):=LB λ_ _ _ _ _ _ _ q=>add_int q
def Vw:aW X (binaryOp .Sub) (iV λi j=>.int (i-j)):=LB λ_ _ _ _ _ _ _ q=>sub_int q
def K7:aW X (binaryOp .Mult) (rI FN λi j=>.int (i*j)):=AO λ_ _ _ _ _ _ _ hc q=>mul_int q hc.ok
def Ua:aW X (binaryOp .FloorDiv) (rI FL λi j=>.int (i/j)):=AO λi j _ _ _ _ _ hc q=>by
 have h1:(0:Int)<j:=hc.1;have h2:j<1073741824:=hc.2;exact floordiv_int (by lia) (by rw[ycE i (by lia)];exact q) (.inl (ydk (by lia)))
def W7:aW X (binaryOp .Mod) (rI (λ_ j=>0<j) λi j=>.int (i % j)):=AO λi j _ _ _ _ _ hc q=>by
 have h1:(0:Int)<j:=hc;exact mod_int' (by lia) (by rw[ydZ i (by lia)];exact q)
def LC:aW X (binaryOp .Pow) (rI PV λi j=>.int (i^j.toNat)):=AO λ_ _ _ _ _ _ _ hc q=>pow_int_small hc.1 hc.2.1 hc.2.2 q
def PX{g:Int->Int}(rule:∀(i:Int)(t:Tok)(s:Shared)(Q:Value->Shared->Prop)(E:Value->Shared->Prop),Q (.int (g i) s.toks) {s with toks:=s.toks+1}->wpAny (model X.prog X.w) X.A (f (.int i t)) Q E s):FJ X f (rU λi=>.int (g i)):=by
 intro U s σ H x v Q I rx h;obtain⟨i,rfl,q⟩:=h;obtain⟨t,rfl⟩:=rx;exact rule i t s _ _ ⟨.int (g i),H,I.tok _,⟨_,Z⟩,q⟩
def ZS:FJ X (unaryOp .USub) (rU λi=>.int (-i)):=PX λ_ _ _ _ _ q=>neg_int q
end
noncomputable def LD:V->V->Bool
 | .aq,.aq=>true| .aq,.int _=>true| .int _,.aq=>true| .aq,.bl _=>true| .bl _,.aq=>true| .aq,.str _=>true| .str _,.aq=>true
 | .int _,.int _=>true| .bl _,.bl _=>true| .str _,.str _=>true| .eB _,.eB _=>true
 | .int _,.str _=>true| .str _,.int _=>true| .bl _,.str _=>true| .str _,.bl _=>true
 |_,_=>false
inductive LF (x:V) (y:V) (H:Hp) (Q:VK):Prop
 |mk:LD x y=true->Q (.bl (decide (x=y))) H->LF x y H Q
inductive LG (x:V) (y:V) (H:Hp) (Q:VK):Prop
 |mk:LD x y=true->Q (.bl (!decide (x=y))) H->LG x y H Q
def kR:decide (V.int i=V.int j)=(i==j):=by
 rw[ycY];simp
def LH:decide (V.bl i=V.bl j)=(i==j):=by
 rw[ycY];simp
def Ub:decide (V.str i=V.str j)=(i==j):=by
 rw[ycY];simp
def kU:decide (V.eB i=V.eB j)=(i.toList==j.toList):=by
 rw[ycY];cases i;cases j;simp
section
variable {pos:Pos}
def Q8{U:List (Addr × Obj)}{σ:St}{k k':Bool}(I:Inv X U σ H s)(q:Q (.bl k) H)(e:k=k'):EP X U σ Q (.bool k') s:=by
 subst e;exact⟨.bl k,H,I,Z,q⟩
def Jl:aW X (compareOp .Eq) LF:=by
 intro U s σ H x y v u Q I rx ry h;obtain⟨hs,q⟩:=h;cases x with
 |aq=>
  cases rx;cases y with
  |aq=>cases ry;exact PySem.EqNone.eq_none_none (Q8 I q (by simp))
  |bl j=>cases ry;exact PySem.EqNone.eq_none_bool (Q8 I q (by simp))
  |int j=>obtain⟨t',rfl⟩:=ry;exact PySem.EqNone.eq_none_int (Q8 I q (by simp))
  |str j=>obtain⟨t',rfl⟩:=ry;exact PySem.EqNone.eq_none_str (Q8 I q (by simp))
  |_=>exact absurd (show false=true from hs) yal
 |bl i=>
  cases rx;cases y with
  |aq=>cases ry;exact PySem.EqNone.eq_bool_none (Q8 I q (by simp))
  |bl j=>cases ry;exact eq_bool (Q8 I q LH)
  |str j=>obtain⟨t',rfl⟩:=ry;exact PySem.EqMixed.eq_bool_str (Q8 I q (by simp))
  |_=>exact absurd (show false=true from hs) yal
 |int i=>
  obtain⟨t,rfl⟩:=rx;cases y with
  |aq=>cases ry;exact PySem.EqNone.eq_int_none (Q8 I q (by simp))
  |int j=>obtain⟨t',rfl⟩:=ry;exact eq_int (Q8 I q kR)
  |str j=>obtain⟨t',rfl⟩:=ry;exact PySem.EqMixed.eq_int_str (Q8 I q (by simp))
  |_=>exact absurd (show false=true from hs) yal
 |str i=>
  obtain⟨t,rfl⟩:=rx;cases y with
  |aq=>cases ry;exact PySem.EqNone.eq_str_none (Q8 I q (by simp))
  |bl j=>cases ry;exact PySem.EqMixed.eq_str_bool (Q8 I q (by simp))
  |int j=>obtain⟨t',rfl⟩:=ry;exact PySem.EqMixed.eq_str_int (Q8 I q (by simp))
  |str j=>obtain⟨t',rfl⟩:=ry;exact eq_str (Q8 I q Ub)
  |_=>exact absurd (show false=true from hs) yal
 |eB i=>
  obtain⟨t,rfl⟩:=rx;cases y with
  |eB j=>obtain⟨t',rfl⟩:=ry;exact eq_bytes (Q8 I q kU)
  |_=>exact absurd (show false=true from hs) yal
 |_=>cases y<;>exact absurd (show false=true from hs) yal
def Xe:aW X (compareOp .NotEq) LG:=by
 intro U s σ H x y v u Q I rx ry h;obtain⟨hs,q⟩:=h;cases x with
 |aq=>
  cases rx;cases y with
  |aq=>cases ry;exact PySem.EqNone.ne_none_none (Q8 I q (by simp))
  |bl j=>cases ry;exact PySem.EqNone.ne_none_bool (Q8 I q (by simp))
  |int j=>obtain⟨t',rfl⟩:=ry;exact PySem.EqNone.ne_none_int (Q8 I q (by simp))
  |str j=>obtain⟨t',rfl⟩:=ry;exact PySem.EqNone.ne_none_str (Q8 I q (by simp))
  |_=>exact absurd (show false=true from hs) yal
 |bl i=>
  cases rx;cases y with
  |aq=>cases ry;exact PySem.EqNone.ne_bool_none (Q8 I q (by simp))
  |bl j=>cases ry;exact ne_bool (Q8 I q (yaE not LH))
  |str j=>obtain⟨t',rfl⟩:=ry;exact PySem.EqMixed.ne_bool_str (Q8 I q (by simp))
  |_=>exact absurd (show false=true from hs) yal
 |int i=>
  obtain⟨t,rfl⟩:=rx;cases y with
  |aq=>cases ry;exact PySem.EqNone.ne_int_none (Q8 I q (by simp))
  |int j=>obtain⟨t',rfl⟩:=ry;exact ne_int (Q8 I q (yaE not kR))
  |str j=>obtain⟨t',rfl⟩:=ry;exact PySem.EqMixed.ne_int_str (Q8 I q (by simp))
  |_=>exact absurd (show false=true from hs) yal
 |str i=>
  obtain⟨t,rfl⟩:=rx;cases y with
  |aq=>cases ry;exact PySem.EqNone.ne_str_none (Q8 I q (by simp))
  |bl j=>cases ry;exact PySem.EqMixed.ne_str_bool (Q8 I q (by simp))
  |int j=>obtain⟨t',rfl⟩:=ry;exact PySem.EqMixed.ne_str_int (Q8 I q (by simp))
  |str j=>obtain⟨t',rfl⟩:=ry;exact ne_str (Q8 I q (yaE not Ub))
  |_=>exact absurd (show false=true from hs) yal
 |eB i=>
  obtain⟨t,rfl⟩:=rx;cases y with
  |eB j=>obtain⟨t',rfl⟩:=ry;exact ne_bytes (Q8 I q (yaE not kU))
  |_=>exact absurd (show false=true from hs) yal
 |_=>cases y<;>exact absurd (show false=true from hs) yal
def Ve:aW X (compareOp .Lt) (iV λi j=>.bl (decide (i<j))):=Eh λ_ _ _ _ _ _ _ q=>lt_int q
def PY:aW X (compareOp .LtE) (iV λi j=>.bl (decide (i<=j))):=Eh λ_ _ _ _ _ _ _ q=>le_int q
def Uc:aW X (compareOp .Gt) (iV λi j=>.bl (decide (j<i))):=Eh λ_ _ _ _ _ _ _ q=>gt_int q
def kW:aW X (compareOp .GtE) (iV λi j=>.bl (decide (j<=i))):=Eh λ_ _ _ _ _ _ _ q=>ge_int q
def Zj:aW X (compareOp .In) (λx y H Q=>∃i j,x=.str i/\y=.str j/\Q (.bl (!(Builtin.Str.occurrences j i 0 j.length 1).isEmpty)) H):=by
 intro U s σ H x y v u Q I rx ry h;obtain⟨i,j,rfl,rfl,q⟩:=h;obtain⟨t,rfl⟩:=rx;obtain⟨t',rfl⟩:=ry;exact in_str (Q8 I q Z)
def ZT:aW X (compareOp .NotIn) (λx y H Q=>∃i j,x=.str i/\y=.str j/\Q (.bl (!(!(Builtin.Str.occurrences j i 0 j.length 1).isEmpty))) H):=by
 intro U s σ H x y v u Q I rx ry h;obtain⟨i,j,rfl,rfl,q⟩:=h;obtain⟨t,rfl⟩:=rx;obtain⟨t',rfl⟩:=ry;exact notIn_str (Q8 I q Z)
def Qq(b:Expr){op:CmpOp}(h:op≠ .In:=by lia)(h2:op≠ .NotIn:=by lia):behindInMarks op b=false:=by
 have e1:(op==CmpOp.In)=false:=by cases op<;>first|rfl|exact absurd rfl h
 have e2:(op==CmpOp.NotIn)=false:=by cases op<;>first|rfl|exact absurd rfl h2
 cases b<;>simp[behindInMarks,e1,e2]
def JS{op:CmpOp}(ho:aW X (compareOp op) r)(ha:PE X a ta)(hb:PE X b tb)(hm:behindInMarks op b=false):PE X (.Compare a [op] [b] pos) (dS r ta tb):=by
 intro U s σ H Q I h;exact wpAny_Compare1 (FK ha hb I h λv u s2 x y H2 I2 rx ry q=>ho U s2 σ H2 x y v u Q I2 rx ry q) hm
def xz(t:TE):TT:=λσ H Q=>t σ H (BH Q)
def Ql{op:CmpOp}(ho:aW X (compareOp op) r)(ha:PE X a ta)(hb:PE X b tb)(hm:behindInMarks op b=false):PT X (.Compare a [op] [b] pos) (xz (dS r ta tb)):=by
 intro U s σ H Q I h;refine wpAny_isTrue_Compare1 (ax (ha U s σ H _ I h) λv s1⟨x,H1,I1,r1,q1⟩=>ax (hb U s1 σ H1 _ I1 q1) λu s2⟨y,H2,I2,r2,q2⟩=>
  ax (ho U s2 σ H2 x y v u _ I2 r1 r2 q2) λc s3⟨z,H3,I3,r3,k,e,q3⟩=>?_) hm
 subst e;cases r3;exact yaW ⟨H3,I3,q3⟩
def PZ(r r':R2)(ta tb tc:TE):TE:=λσ H Q=>ta σ H λx H1=>tb σ H1 λy H2=>r x y H2 λz H3=>∃k,z=.bl k/\
 (if k=true then tc σ H3 λw' H4=>r' y w' H4 Q else Q (.bl false) H3)
def yL{op FO:CmpOp}(ho:aW X (compareOp op) r)(iU:aW X (compareOp FO) r')(ha:PE X a ta)(hb:PE X b tb)(hc:PE X c tc)(hm:lastMarks [op,FO] [b,c]=false:=by with_unfolding_all rfl):PT X (.Compare a [op,FO] [b,c] pos) (xz (PZ r r' ta tb tc)):=by
 intro U s σ H Q I h;refine isTrue_chain (ax (ha U s σ H _ I h) λv s1⟨x,H1,I1,r1,q1⟩=>test_link (ax (hb U s1 σ H1 _ I1 q1) λu s2⟨y,H2,I2,r2,q2⟩=>
  ax (ho U s2 σ H2 x y v u _ I2 r1 r2 q2) λd s3⟨z,H3,I3,r3,k,e,q3⟩=>?_)) hm
 subst e;cases r3;refine yaW ?_;cases k with
 |false=>
  obtain⟨k',e',q'⟩:=q3;cases e';exact ite_ff ⟨H3,I3,q'⟩
 |true=>
  refine ite_tt (test_last (ax (hc U s3 σ H3 _ I3 q3) λw' s4⟨z',H4,I4,r4,q4⟩=>ax (iU U s4 σ H4 y z' u w' _ I4 r2 r4 q4) λd' s5⟨z2,H5,I5,r5,k2,e2,q5⟩=>?_));subst e2;cases r5;exact yaW ⟨H5,I5,q5⟩
def Ei(K:Frag)(x:V)(H:Hp)(k:Bool):Prop:=
 match x with
 | .aq=>k=false
 | .bl b=>k=b
 | .int i=>k=(i !=0)
 | .str y=>y.length<=sizeLine/\k=((y.length:Int) !=0)
 | .eB y=>y.size<=sizeLine/\k=((y.size:Int) !=0)
 | .ref p=>(∃xs,aE K H p xs/\k= !xs.isEmpty)\/(∃xs,aw K H p xs/\k= !xs.isEmpty)\/∃al,H p=some (.dK al)/\k= !al.isEmpty
 |_=>False
def xA{al:List (κ × V)}(r:KV al vs):(!vs.isEmpty)= !al.isEmpty:=by
 cases r<;>rfl
def YQ{xs:List V}(r:Vals xs its):(!its.toArray.isEmpty)= !xs.isEmpty:=by
 cases r<;>simp
def Xf:(sizeLine:Nat)<2^63:=by rw[yaF];lia
def P0:PQ X (λx H Q=>∃k,Ei X.K x H k/\Q k H):=by
 intro U s σ H x v Q I rx h;obtain⟨k,e,q⟩:=h;have hl:=Xf;have hs:sizeLine=16777216:=yaF;cases x with
 |aq=>
  cases rx;have e':k=false:=e;subst e';exact truthy_none ⟨H,I,q⟩
 |bl b=>
  cases rx;have e':k=b:=e;subst e';exact yaW ⟨H,I,q⟩
 |int i=>
  obtain⟨t,rfl⟩:=rx;have e':k=(i !=0):=e;subst e';exact PySem.P.truthy_int ⟨H,I,q⟩
 |str y=>
  obtain⟨t,rfl⟩:=rx;obtain⟨hy,e'⟩:y.length<=sizeLine/\k=((y.length:Int) !=0):=e;subst e';exact PySem.P.truthy_str (by lia) ⟨H,I.tok _,q⟩
 |eB y=>
  obtain⟨t,rfl⟩:=rx;obtain⟨hy,e'⟩:y.size<=sizeLine/\k=((y.size:Int) !=0):=e;subst e';exact truthy_bytes (by lia) ⟨H,I.tok _,q⟩
 |ref p=>
  cases rx;have e':(∃xs,aE X.K H p xs/\k= !xs.isEmpty)\/(∃xs,aw X.K H p xs/\k= !xs.isEmpty)\/∃al,H p=some (.dK al)/\k= !al.isEmpty:=e;rcases e' with⟨xs,hx,e'⟩|⟨xs,hx,e'⟩|⟨al,hx,e'⟩
  .subst e';obtain⟨its,r,pl,hz⟩:=I.list hx;have hlen:=r.length;exact wpAny_truthy_list pl.isList (by simp only[lF];lia) ⟨H,I.tok _,by rw[YQ r];exact q⟩
  .subst e';obtain⟨its,r,pl,hz⟩:=I.tuple hx;have hlen:=r.length;exact truthy_tuple pl (by simp only[lF];lia) ⟨H,I.tok _,by rw[YQ r];exact q⟩
  .subst e';obtain⟨hz,hS,vs,r,m⟩:al.length<=sizeLine/\(p==sysModules)=false/\∃vs,KV al vs/\s.heap.DictOf (QY X.prog X.w) p vs:=I.ao p _ hx;have hlen:al.length=vs.length:=yeu r;exact wpAny_truthy_dict hS m (by lia) ⟨H,I.tok _,by rw[xA r];exact q⟩
 |_=>exact(show False from e).elim
def Jd(ha:PE X a ta)(he:∀whole,isTrue a X.env whole=(do let v<-whole;standAt a.pos;holding [v] (truthy v))):PT X a (λσ H Q=>ta σ H λx H'=>∃k,Ei X.K x H' k/\Q k H'):=by
 intro U s σ H Q I h;exact isTrue_plain (ax (ha U s σ H _ I h) λv s1⟨x,H1,I1,r1,q1⟩=>P0 U s1 σ H1 x v Q I1 r1 q1) (he _)
inductive oC (x y:V) (H:Hp) (Q:VK):Prop
 |mk (i j:Str):x=.str i->y=.str j->i.length+j.length<=sizeLine->Q (.str (i++j)) H->oC x y H Q
def Jg:aW X (binaryOp .Add) oC:=by
 intro U s σ H x y v u Q I rx ry h;obtain⟨i,j,rfl,rfl,hz,q⟩:=h;obtain⟨t,rfl⟩:=rx;obtain⟨t',rfl⟩:=ry;exact add_str (λt' tk=>⟨.str (i++j),H,I.tok _,⟨_,Z⟩,q⟩) hz
def vals1{us:List Value}(r:Vals [x] us):∃u,us=[u]/\RelV x u:=by
 cases r with
 |cons r1 r2=>cases r2;exact⟨_,Z,r1⟩
def vals2{us:List Value}(r:Vals [x,y] us):∃u w',us=[u,w']/\RelV x u/\RelV y w':=by
 cases r with
 |cons r1 r2=>
  cases r2 with
  |cons r3 r4=>cases r4;exact⟨_,_,Z,r1,r3⟩
def Xm:Ww X (.builtin "abs") (λxs H Q=>∃i,xs=[.int i]/\Q (.int (if i<0 then-i else i)) H):=by
 intro U s σ H xs us Q I r h;obtain⟨i,rfl,q⟩:=h;obtain⟨u,rfl,t,rfl⟩:=vals1 r;exact call_abs_int λu tk=>⟨.int (if i<0 then-i else i),H,I.tok _,⟨_,Z⟩,q⟩
def Vx(hc:X.calm=true):Ww X (.builtin "max") (λxs H Q=>∃i j,xs=[.int i,.int j]/\Q (.int (if j>i then j else i)) H):=by
 intro U s σ H xs us Q I r h;obtain⟨i,j,rfl,q⟩:=h;obtain⟨u,w',rfl,⟨t,rfl⟩,⟨t',rfl⟩⟩:=vals2 r;refine max_two_ints (I.ok.hd hc) λh' tk k=>⟨_,H,I.kept k,?_,q⟩
 by_cases hj:j>i
 .rw[yai hj,yai hj];exact⟨_,Z⟩
 .rw[yah hj,yah hj];exact⟨_,Z⟩
def W8:Ww X (.type "str") (λxs H Q=>∃i,xs=[.int i]/\i.natAbs.log2<1920/\Q (.str (toString i)) H):=by
 intro U s σ H xs us Q I r h;obtain⟨i,rfl,hz,q⟩:=h;obtain⟨u,rfl,t,rfl⟩:=vals1 r;exact PySem.P.str_of_int hz ⟨.str _,H,I.tok _,⟨_,Z⟩,q⟩
def jO:Ww X (.builtin "divmod") (λxs H Q=>∃i j,xs=[.int i,.int j]/\FL i j/\∀p,H p=none->Q (.ref p) (upd H p (.tup [.int (i/j),.int (i % j)]))):=by
 intro U s σ H xs us Q I r h;obtain⟨i,j,rfl,⟨h1,h2⟩,q⟩:=h;obtain⟨u,w',rfl,⟨t,rfl⟩,⟨t',rfl⟩⟩:=vals2 r;refine divmod_int (by lia) ?_ (.inl (ydk (by lia)));rw[ycE i (by lia),ydZ i (by lia)];have hn:H s.heap.objs.size=none:=I.ao.fresh (tO _);refine⟨.ref s.heap.objs.size,_,?_,Z,q _ hn⟩;refine I.laid (λb o e=>yab _ e) (tO _) ⟨by simp only[tR,yaS];rw[yaF];lia,[.int (i/j) s.toks,.int (i % j) (s.toks+1)],.cons ⟨_,Z⟩ (.cons ⟨_,Z⟩ .nil),?_⟩;exact⟨_,yag s.heap rfl,Z,0,Z,Z⟩
end
structure eE(h:Heap)(x dx C:Addr)(mA:Str->Option Value):Prop where
 obj:h.get? x=some (instObj C dx)
 ns:h.Ns1 dx mA
 ne:dx≠x
def kX{h:Heap}(n:h.Ns1 dx mA):∃od,h.get? dx=some od/\∀name,lookIn name od=some (mA name):=by
 obtain⟨o,es,ep,ho,hd,hk,_,hm⟩:=n;refine⟨o,ho,λname=>?_⟩;have e:=hm name;unfold nsFind findBy at e;rw[<-Array.find?_toList]at e;unfold lookIn;rw[hd];dsimp only
 split
 .rename_i y q;rw[q]at e;exact yaE some e
 .rename_i q;rw[q]at e;have a:es.toList.any (·.refKey)=false:=by
   rw[List.any_eq_false];intro y hy;obtain⟨z,t,FP⟩:=hk y (ycF.mp hy);simp[DictEntry.refKey,FP]
  have a':¬ es.toList.any (·.refKey)=true:=by rw[a];exact yal
  rw[yah a'];exact yaE some e
def eE.look(I:eE h x dx C mA):∃od,PySem.W.InstAt h x (instObj C dx) C (some od)/\∀name,lookIn name od=some (mA name):=
 let ⟨od,ho,hl⟩:=kX I.ns
 ⟨od,⟨I.obj,Z,Z,ho⟩,hl⟩
section
variable {prog:Program}{w:World}{A:Around}{E:Value->Shared->Prop}{s:Shared}{K:Frag}{x dx C f:Addr}{mA:Str->Option Value}{name:Str}{v:Value}
def get_map{expr:Bool}(X:K.In s.heap)(I:eE s.heap x dx C mA)(hg:plainGet K C name=true)(hh:hasDictIn K C=true)(ha:findIn K (.ref C) name=some none)(hv:mA name=some v)(P4:handedIn v=true)(h:Q v {s with toks:=s.toks+1}):wpAny (model prog w) A (getAttr (.ref x) name expr) Q E s:=by
 obtain⟨od,J,hl⟩:=I.look;exact get_value X J (plainGet_of hg).1 (findObj_own hh ha Z (by rw[hl,hv])) P4 h
def yM(X:K.In s.heap)(I:eE s.heap x dx C mA)(hg:plainGet K C name=true)(hf:findIn K (.ref C) name=some (some (.ref f)))(ht:isFn K (.ref f)=true)(hv:mA name=none)(h:Q (.ref f,[.ref x]) s):wpAny (model prog w) A (getMethod (.ref x) name pl) Q E s:=by
 obtain⟨od,J,hl⟩:=I.look;exact method_fn X J (plainGet_of hg).1 (plainGet_of hg).2 hf (ybl.mp ht) (by show(lookIn name od).map (·.isSome)=some false;rw[hl,hv];rfl) h
def P5{ns:List Str}(X:K.In s.heap)(I:eE s.heap x dx C mA)(hs:findIn K (.ref C) "__setattr__"=some (some (.builtin "object.__setattr__")))(hp:plainOver K C=true)(ht:takerIn K C name=some none)(hh:hasDictIn K C=true)(hw:PySem.Within mA ns)(hsz:ns.length<=sizeLine)(h:∀h',eE h' x dx C (λy=>if y=name then some v else mA y)->Heap.SameBut dx s.heap h'->Q () {s with heap:=h',toks:=s.toks+2}):wpAny (model prog w) A (setAttr (.ref x) name v) Q E s:=by
 obtain⟨od,J,hl⟩:=I.look;refine set_plain X J hs (osa_open (s:={s with toks:=s.toks+1}) (r:=none) X J hp ht λb=>?_);obtain⟨cd,hc,Sc⟩:=any_some hh;have hx:s.heap.get? x=some ⟨.ref C,some dx,.plain, #[]⟩:=I.obj;refine yaa (yac (yaa (yaa (wpAny_loadPart hx (yaa (PySem.W.Looks.here (s:={s with toks:=s.toks+1}) (looks_clsIn X hc) ?_))))));rw[Sc];refine yac (a:=some dx) (yaa (yac (yaa ?_)));refine wpAny_nsSet1 (s:={s with toks:=s.toks+1}) I.ns λh' oE GT=>?_;obtain⟨oD,esD,epD,P6,P7,P8⟩:=oE.count (PySem.Within.cons name v hw);refine yaa (wpAny_lookBehind P6 (by rw[P7];exact pastItsLine_dict (yao P8 (by rw[tR];lia))) ?_);exact yac (h _ ⟨(GT.2 _ (Ne.symm I.ne)).trans I.obj,oE,I.ne⟩ GT)
def yN{kw:List (Str × Value)}(X:K.In s.heap)(hm:makesIn K C=true)(hi:findIn K (.ref C) "__init__"=some (some (.ref f)))(hf:typeIn K (.ref f)=some (.type "function"))(h:codeAny (model prog w) (A.under (.builtin "type.__call__" ⟨.ref C::vs,kw⟩)) (.call (.ref f) ⟨.ref (s.heap.objs.size+1)::vs,kw⟩) (InitBack (s.heap.objs.size+1) R)
   {s with heap:=(s.heap.push emptyDict).push (instObj C s.heap.objs.size)}):
  codeAny (model prog w) A (.call (.ref C) ⟨vs,kw⟩) R s:=by
 obtain⟨hh,g,d,t,os⟩:=s;exact make_core (makes_of X hm) (yeN X hi) (λself=>bind_fn X self hf) (.inl Z) h
end
noncomputable def Zv(f:Str)(v:V):List (Str × V)->List (Str × V)
 |[]=>[(f,v)]
 |(g,x)::r=>if g=f then(g,v)::r else(g,x)::Zv f v r
theorem Qz(f g:Str)(v:V):∀fs:List (Str × V),(Zv f v fs).lookup g=if g=f then some v else fs.lookup g
 |[]=>by
  show List.lookup g [(f,v)]=_
  by_cases h:g=f
  .have hb:(g==f)=true:=ybl.mpr h;simp only[List.lookup,hb,yai h]
  .have hb:(g==f)=false:=yas.mpr h;simp only[List.lookup,hb,yah h]
 |(k,x)::r=>by
  have ih:=Qz f g v r;rw[show Zv f v ((k,x)::r)=(if k=f then(k,v)::r else(k,x)::Zv f v r)from rfl]
  by_cases hk:k=f
  .rw[yai hk]
   by_cases h:g=k
   .have hb:(g==k)=true:=ybl.mpr h;simp only[List.lookup,hb,yai (h.trans hk)]
   .have hb:(g==k)=false:=yas.mpr h;simp only[List.lookup,hb,yah (λe:g=f=>h (e.trans hk.symm))]
  .rw[yah hk]
   by_cases h:g=k
   .have hb:(g==k)=true:=ybl.mpr h;simp only[List.lookup,hb,yah (λe:g=f=>hk (h.symm.trans e))]
   .have hb:(g==k)=false:=yas.mpr h;simp only[List.lookup,hb];exact ih
theorem Vy(f:Str)(v:V):∀fs:List (Str × V),f∈(Zv f v fs).map (·.1)/\∀g,g∈fs.map (·.1)->g∈(Zv f v fs).map (·.1)
 |[]=>⟨by simp[Zv],λg h=>by simp at h⟩
 |(k,x)::r=>by
  obtain⟨i1,i2⟩:=Vy f v r;rw[show Zv f v ((k,x)::r)=(if k=f then(k,v)::r else(k,x)::Zv f v r)from rfl]
  by_cases hk:k=f
  .rw[yai hk];subst hk;exact⟨by simp,λg h=>by simpa using h⟩
  .rw[yah hk];refine⟨?_,λg h=>?_⟩
   .rw[lD];exact tW _ i1
   .rw[lD]at h ⊢;rcases yak.mp h with e|e
    .exact yak.mpr (.inl e)
    .exact tW _ (i2 g e)
theorem Q5(f:Str)(v:V):∀fs:List (Str × V),(Zv f v fs).length<=fs.length+1
 |[]=>by simp[Zv]
 |(k,x)::r=>by
  have ih:=Q5 f v r;rw[show Zv f v ((k,x)::r)=(if k=f then(k,v)::r else(k,x)::Zv f v r)from rfl]
  by_cases hk:k=f
  .rw[yai hk,tR,tR];lia
  .rw[yah hk,tR,tR];lia
def Y8.some_of(r:Y8 (some v) o):∃u,o=some u/\RelV v u:=by
 cases o with
 |none=>exact(show False from r).elim
 |some u=>exact⟨u,Z,r⟩
def Y8.none_of(r:Y8 none o):o=none:=by
 cases o with
 |none=>rfl
 |some u=>exact(show False from r).elim
def kY(r:RelV v u):handedIn u=true:=by
 cases v with
 |aq=>cases(show u=Value.none from r);rfl
 |bl b=>cases(show u=Value.bool b from r);rfl
 |int i=>obtain⟨t,e⟩:=(show ∃t,u=Value.int i t from r);cases e;rfl
 |str x=>obtain⟨t,e⟩:=(show ∃t,u=Value.str x t from r);cases e;rfl
 |eB b=>obtain⟨t,e⟩:=(show ∃t,u=Value.bytes b t from r);cases e;rfl
 |ow b=>obtain⟨t,e⟩:=(show ∃t,u=Value.float b t from r);cases e;rfl
 |ref a=>cases(show u=Value.ref a from r);rfl
 |ty n=>cases(show u=Value.type n from r);rfl
section
variable {fs:List (Str × V)}
def Ud(ao:bG P w H h)(e:H a=some (.ins C dx fs)):∃mA,eE h a dx C mA/\(∀f,Y8 (fs.lookup f) (mA f))/\PySem.Within mA (fs.map (·.1))/\fs.length<=1000/\H dx=some (.own a):=by
 obtain⟨d,z,ne,ob,mA,n,r,q⟩:=(show JJ P w H h a (.ins C dx fs)from ao a _ e);exact⟨mA,⟨ob,n,ne⟩,r,q,z,d⟩
end
structure eh(K:Frag)(C:Addr):Prop where
 pg:plainGet K C Str.empty=true
 hd:hasDictIn K C=true
 po:plainOver K C=true
 sa:findIn K (.ref C) "__setattr__"=some (some (.builtin "object.__setattr__"))
def eh.get{K:Frag}(c:eh K C)(f:Str):plainGet K C f=true:=c.pg
def Kr(K:Frag)(C:Addr)(f:Str):Prop:=findIn K (.ref C) f=some none
def Kr.P9{K:Frag}{f:Str}(n:Kr K C f):takerIn K C f=some none:=by
 unfold takerIn;rw[show findIn K (.ref C) f=some none from n];rfl
structure Meth(K:Frag)(C:Addr)(m:Str)(f:Addr):Prop where
 at_:findIn K (.ref C) m=some (some (.ref f))
 fn:isFn K (.ref f)=true
 kp:keepIn K (.ref f)=true
section
variable {X:Cx}{U:List (Addr × Obj)}{σ:St}{H:Hp}{s:Shared}{a C dx:Addr}{fs:List (Str × V)}{f:Str}{v:V}{A:Around}{E:Value->Shared->Prop}
def xB(I:Inv X U σ H s)(e:H a=some (.ins C dx fs))(c:eh X.K C)(n:Kr X.K C f)(l:fs.lookup f=some v)(h:∀u s',Inv X U σ H s'->RelV v u->Q u s'):wpAny (model X.prog X.w) A (getAttr (.ref a) f b) Q E s:=by
 obtain⟨mA,O,r,_,_,_⟩:=Ud I.ao e;obtain⟨u,hu,ru⟩:=Y8.some_of (v:=v) (o:=mA f) (by rw[<-l];exact r f);exact get_map I.bH O (c.get f) c.hd n hu (kY ru) (h u _ (I.tok _) ru)
def xC(I:Inv X U σ H s)(e:H a=some (.ins C dx fs))(c:eh X.K C)(k:Meth X.K C m g)(l:fs.lookup m=none)(h:Q (.ref g,[.ref a]) s):wpAny (model X.prog X.w) A (getMethod (.ref a) m pl) Q E s:=by
 obtain⟨mA,O,r,_,_,_⟩:=Ud I.ao e;have hn:mA m=none:=Y8.none_of (by rw[<-l];exact r m);exact yM I.bH O (c.get m) k.at_ k.fn hn h
def xD(I:Inv X U σ H s)(e:H a=some (.ins C dx fs))(c:eh X.K C)(n:Kr X.K C f)(hl:fs.length<1000)(ry:RelV y u)(h:∀s',Inv X U σ (upd H a (.ins C dx (Zv f y fs))) s'->Q () s'):wpAny (model X.prog X.w) A (setAttr (.ref a) f u) Q E s:=by
 obtain⟨mA,O,r,wi,_,ho⟩:=Ud I.ao e;have hz:(fs.map (·.1)).length<=sizeLine:=by rw[tL,yaF];lia
 refine P5 I.bH O c.sa c.po n.P9 c.hd wi hz λh' O' sb=>h _ ?_;have hd:∃o,h'.get? dx=some o:=let ⟨o,_,_,e',_⟩:=O'.ns;⟨o,e'⟩;refine I.write (x:=a) (e:=dx) (by rw[e];exact True.intro) (.inr ho) (λb q hb z=>(sb.2 b hb).trans z) hd ?_;refine⟨by rw[Qo O.ne];exact ho,?_,O.ne,O'.obj,_,O'.ns,λg=>?_,λg hg=>?_⟩
 .have:=Q5 f y fs;lia
 .show Y8 ((Zv f y fs).lookup g) (if g=f then some u else mA g);rw[Qz]
  by_cases q:g=f
  .rw[yai q,yai q];exact ry
  .rw[yah q,yah q];exact r g
 .by_cases q:g=f
  .rw[q];exact(Vy f y fs).1
  .refine(Vy f y fs).2 g (wi g λz=>hg ?_);show(if g=f then some u else mA g)=none;rw[yah q];exact z
def Inv.made(I:Inv X U σ H s):Inv X U σ (upd (upd H s.heap.objs.size (.own (s.heap.objs.size+1))) (s.heap.objs.size+1) (.ins C s.heap.objs.size []))
  {s with heap:=(s.heap.push emptyDict).push (instObj C s.heap.objs.size)}:=by
 have e1:(s.heap.push emptyDict).get? s.heap.objs.size=some emptyDict:=yag s.heap rfl;have e2:((s.heap.push emptyDict).push (instObj C s.heap.objs.size)).get? (s.heap.objs.size+1)=some (instObj C s.heap.objs.size):=by
  have:=yag (s.heap.push emptyDict) (o:=instObj C s.heap.objs.size) rfl;rwa[yaQ]at this
 have e3:(s.heap.push emptyDict).Ns s.heap.objs.size (λ_=>none):=⟨emptyDict, #[],_,e1,Z,(λe he=>absurd he (by simp)),λ_=>rfl⟩;have I1:=I.laid (a:=s.heap.objs.size) (o:=.own (s.heap.objs.size+1)) (h':=s.heap.push emptyDict) (t':=s.toks) (λb u q=>yab _ q) (tO _) ⟨_,e1⟩;refine I1.laid (a:=s.heap.objs.size+1) (o:=.ins C s.heap.objs.size []) (t':=s.toks) (λb u q=>yab _ q) (ych (yaQ _ _)) ?_;have ne:s.heap.objs.size≠s.heap.objs.size+1:=yaq (yco _);refine⟨by rw[Qo ne,Qf],lG _,ne,e2,λ_=>none,(Heap.Ns1.of_empty e3).at λo q=>yab _ q,λ_=>True.intro,λy hy=>absurd rfl hy⟩
def P'{prog:Program}{env:Env}{pos:Pos}(hb:attributeBase e f env (eval e env)=eval e env)(h:wpAny (model prog w) A (eval e env) (λo s₁=>wpAny (model prog w) A (getAttr o f true) Q E s₁) E s):wpAny (model prog w) A (eval (.Attribute e f pos) env) Q E s:=
 Attribute_any_ h (by rw[arm_eval_Attribute,hb])
end
inductive LI (K:Frag) (f:Str) (Q:VK) (x:V) (H1:Hp):Prop
 |mk (a C dx:Addr) (fs:List (Str × V)) (v:V):x=.ref a->H1 a=some (.ins C dx fs)->eh K C->Kr K C f->fs.lookup f=some v->Q v H1->LI K f Q x H1
def Ra(K:Frag)(ta:TE)(f:Str):TE:=λσ H Q=>ta σ H (LI K f Q)
def Rb(K:Frag)(ta tv:TE)(f:Str):TS:=λD σ H=>tv σ H λy H1=>ta σ H1 λx H2=>∃a C dx fs,x=.ref a/\H2 a=some (.ins C dx fs)/\eh K C/\Kr K C f/\fs.length<1000/\
 D.nx σ (upd H2 a (.ins C dx (Zv f y fs)))
section
variable {value:Expr}{pos pos':Pos}
def J0(he:PE X e ta)(hb:attributeBase e f X.env (eval e X.env)=eval e X.env):PE X (.Attribute e f pos) (Ra X.K ta f):=by
 intro U s σ H Q I h;refine P' hb (ax (he U s σ H _ I h) λu s1⟨x,H1,I1,rx,a,C,dx,fs,v,ex,ea,c,n,l,q⟩=>?_);subst ex;obtain rfl:u=Value.ref a:=rx;exact xB I1 ea c n l λu' s2 I2 ru=>⟨v,H1,I2,ru,q⟩
def YR(ha:PE X o ta)(hv:PE X value tv)(hs:swapsWith value (some (.Attribute o f pos')) pos.line X.env=pure false):PS X (.Assign [.Attribute o f pos'] value pos) (Rb X.K ta tv f):=by
 intro U s σ H D I h;refine plainObj_wpAny_Assign_Attribute (ax (hv U s σ H _ I h) λu s1⟨y,H1,I1,ry,q⟩=>ax (ha U s1 σ H1 _ I1 q) λov s2⟨x,H2,I2,rx,a,C,dx,fs,ex,ea,c,n,l,q2⟩=>?_) hs;subst ex;obtain rfl:ov=Value.ref a:=rx;exact xD I2 ea c n l ry λs3 I3=>⟨σ,_,I3,q2⟩
end
section
variable {X:Cx}{U:List (Addr × Obj)}{σ:St}{H:Hp}{s:Shared}{A:Around}{E:Value->Shared->Prop}{Q:Value->Shared->Prop}{c:Value}{b:Bool}
inductive bI (K:Frag) (H:Hp):V->Value->Prop where
 |aq:bI K H .aq (.type "NoneType")
 |bl (x:Bool):bI K H (.bl x) (.type "bool")
 |int (i:Int):bI K H (.int i) (.type "int")
 |str (x:Str):bI K H (.str x) (.type "str")
 |ow (x:UInt64):bI K H (.ow x) (.type "float")
 |lst {a:Addr} {xs:List V} (e:H a=some (.lst xs)):bI K H (.ref a) (.type "list")
 |dA {a:Addr} {o:Obj} {xs:List V} (e:H a=some (.dA o (.lst xs))):bI K H (.ref a) (.type "list")
 |tup {a:Addr} {xs:List V} (e:H a=some (.tup xs)):bI K H (.ref a) (.type "tuple")
 |dK {a:Addr} {al:List (Key × V)} (e:H a=some (.dK al)):bI K H (.ref a) (.type "dict")
 |dT {a:Addr} {al:List (List Key × V)} (e:H a=some (.dT al)):bI K H (.ref a) (.type "dict")
 |ins {a C dx:Addr} {fs:List (Str × V)} (e:H a=some (.ins C dx fs)) (cl:eh K C) (ha:findIn K (.ref C) "__class__"=some (some (.builtin "object.__class__")))
   (hn:specialIn K (.builtin "object.__class__") "__get__"=some (some (.builtin "getset_descriptor.__get__"))) (Ps:takesIn K (.builtin "object.__class__")=some true)
   (hm:mroIn K C (.type "object")=some true):bI K H (.ref a) (.ref C)
def kZ(I:Inv X U σ H s)(rx:RelV x u)(ty:bI X.K H x t)(e:kitOne X.K t c=some b)(h:∀tk,Q (.bool b) {s with toks:=tk}):wpAny (model X.prog X.w) A (call (.builtin "isinstance") [u,c]) Q E s:=by
 cases ty with
 |aq=>cases(show u=Value.none from rx);exact ydO kitx_none I.bH True.intro e (λz=>nomatch z) h
 |bl y=>cases(show u=Value.bool y from rx);exact ydO kitx_bool I.bH True.intro e (λz=>nomatch z) h
 |int i=>obtain⟨t,q⟩:=(show ∃t,u=Value.int i t from rx);cases q;exact ydO kitx_int I.bH True.intro e (λz=>nomatch z) h
 |str y=>obtain⟨t,q⟩:=(show ∃t,u=Value.str y t from rx);cases q;exact ydO kitx_str I.bH True.intro e (λz=>nomatch z) h
 |ow y=>obtain⟨t,q⟩:=(show ∃t,u=Value.float y t from rx);cases q;exact ydO kitx_float I.bH True.intro e (λz=>nomatch z) h
 |@lst a xs ea=>
  cases(show u=Value.ref a from rx);obtain⟨_,_,n,_,h1⟩:=(show JJ X.prog X.w H s.heap a (.lst xs)from I.ao a _ ea);exact ydO kitx_list I.bH ⟨_,h1,Z⟩ e (λz=>nomatch z) h
 |@dA a ob xs ea=>
  cases(show u=Value.ref a from rx);obtain⟨_,_,_,n,_,h1⟩:=(show JJ X.prog X.w H s.heap a (.dA ob (.lst xs))from I.ao a _ ea);exact ydO kitx_list I.bH ⟨_,h1,Z⟩ e (λz=>nomatch z) h
 |@tup a xs ea=>
  cases(show u=Value.ref a from rx);obtain⟨_,_,_,p⟩:=(show JJ X.prog X.w H s.heap a (.tup xs)from I.ao a _ ea);obtain⟨o,h1,h2,_⟩:=p;exact ydO kitx_tuple I.bH ⟨o,h1,h2⟩ e (λz=>nomatch z) h
 |@dK a al ea=>
  cases(show u=Value.ref a from rx);obtain⟨_,_,vs,_,p⟩:=(show JJ X.prog X.w H s.heap a (.dK al)from I.ao a _ ea);obtain⟨o,es,ep,h1,h2,_⟩:=p;exact ydO kitx_dict I.bH ⟨o,h1,h2.1⟩ e (λz=>nomatch z) h
 |@dT a al ea=>
  cases(show u=Value.ref a from rx);obtain⟨_,_,xs,_,o,es,ep,h1,h2,_⟩:=(show JJ X.prog X.w H s.heap a (.dT al)from I.ao a _ ea);exact ydO kitx_dict I.bH ⟨o,h1,h2.1⟩ e (λz=>nomatch z) h
 |@ins a C dx fs ea cl ha hn Ps hm=>
  cases(show u=Value.ref a from rx);obtain⟨mA,O,_⟩:=Ud I.ao ea;obtain⟨od,J,_⟩:=O.look;exact ydO (kitx_own (cl.get _) cl.hd ha hn Ps hm) I.bH J e (λz=>nomatch z) h
end
structure Zc(k:Nat)(A:Around):Prop where
 hd:A.handled=none
 dp:A.depth+3*k+5<recursionLimit
 un:A.units+16*k+200<cLine
def Zc.mono{j k:Nat}(r:Zc k A)(h:j<=k):Zc j A:=⟨r.hd,by have:=r.dp;lia,by have:=r.un;lia⟩
theorem Zc.deeper(r:Zc (k+1) A)(env:Env):Zc k (A.deeper env):=
 ⟨r.hd,by have:=r.dp;show A.depth+1+3*k+5<_;lia,by have:=r.un;show A.units+3+16*k+200<_;lia⟩
def xE{A:Around}{C:Addr}{us:List Value}{kw:List (Str × Value)}:(A.under (.builtin "type.__call__" ⟨.ref C::us,kw⟩)).depth=A.depth+1:=by
 first|rfl|simp[Around.under,Code.weight,Code.isCreation,Code.isGuard,Code.isCaller,Code.frames,Code.isFrame,guardIds]
def xF{A:Around}{C:Addr}{us:List Value}{kw:List (Str × Value)}:(A.under (.builtin "type.__call__" ⟨.ref C::us,kw⟩)).units=A.units+1:=by
 first|rfl|simp[Around.under,Code.cUnits,Code.frames,Code.isFrame]
def Zc.make{k:Nat}{A:Around}(r:Zc (k+1) A)(C:Addr)(us:List Value)(kw:List (Str × Value)):Zc k (A.under (.builtin "type.__call__" ⟨.ref C::us,kw⟩)):=
 ⟨r.hd,by have:=r.dp;rw[xE];lia,by have:=r.un;rw[xF];lia⟩
theorem Zc.depth(r:Zc k A):A.depth<recursionLimit:=by have:=r.dp;lia
theorem Zc.units(r:Zc k A):A.units+64<cLine:=by have:=r.un;lia
def Wy:TA:=λ_ H Q=>Q [] H
def Je(ta:TE)(tr:TA):TA:=λσ H Q=>ta σ H λx H1=>tr σ H1 λxs H2=>Q (x::xs) H2
section
variable {pos:Pos}
def Qb:PA X [] Wy:=λ_ _ _ _ H Q I h=>ycc ⟨[],H,I,.nil,h⟩
def Qa(ha:PE X e te)(hr:PA X es t)(hs:starEach (e::es) X.env=(false,eval e X.env)::starEach es X.env:=by rfl):PA X (e::es) (Je te t):=by
 intro pos U s σ H Q I h;rw[hs];show wpAny _ _ (spliced ((false,eval e X.env)::backTo pos (starEach es X.env))) _ _ s;refine ybv (ax (ha U s σ H _ I h) λu s1⟨x,H1,I1,r1,q1⟩=>?_);exact ax (hr pos U s1 σ H1 _ I1 q1) λus s2⟨xs,H2,I2,r2,q2⟩=>⟨x::xs,H2,I2,.cons r1 r2,q2⟩
inductive fP (Q:VK) (f:List V->HO) (xs:List V) (H1:Hp):Prop
 |mk:xs.length<=sizeLine->(∀p,H1 p=none->Q (.ref p) (upd H1 p (f xs)))->fP Q f xs H1
def FT(t:TA):TE:=λσ H Q=>t σ H (fP Q .tup)
def LJ(t:TA):TE:=λσ H Q=>t σ H (fP Q .lst)
def Qs{x1}(h:PA X es t):PE X (.Tuple es x1 pos) (FT t):=by
 intro U s σ H Q I hq;refine wpAny_Tuple_spliced (ax (h pos U s σ H _ I hq) λus s1⟨xs,H1,I1,r,z,q⟩=>⟨by rw[<-r.length];exact z,?_⟩);have hf:H1 s1.heap.objs.size=none:=I1.ao.fresh (tO _);refine⟨.ref s1.heap.objs.size,upd H1 s1.heap.objs.size (.tup xs),I1.laid (t':=s1.toks) (λb u e=>yab _ e) (tO _) ?_,Z,q _ hf⟩;exact⟨z,us,r,⟨_,yag _ rfl,Z,_,Z,Z⟩⟩
def K9(h:PA X es t):PE X (.List es pos) (LJ t):=by
 intro U s σ H Q I hq;refine wpAny_List_spliced (ax (h pos U s σ H _ I hq) λus s1⟨xs,H1,I1,r,z,q⟩=>⟨by rw[<-r.length];exact z,?_⟩);have hf:H1 s1.heap.objs.size=none:=I1.ao.fresh (tO _);refine⟨.ref s1.heap.objs.size,upd H1 s1.heap.objs.size (.lst xs),I1.laid (t':=s1.toks) (λb u e=>yab _ e) (tO _) ?_,Z,q _ hf⟩;exact⟨z,us,0,r,yag _ rfl⟩
end
noncomputable abbrev Sp:=List V->Hp->VK->XK->Prop
noncomputable abbrev fE:=List Env->Hp->Shared->XK->Value->Shared->Prop
structure eF(P:Program)(w:World)(K:Frag)(mg:Str->Option Value)(Y:Heap)(A:Around)(L:List Env)(s:Shared)(H:Hp):Prop where
 frames:A.frames=some L
 mod:Mod K mg Y
 bs:∀b o,Y.get? b=some o->s.heap.get? b=some o/\H b=none
 oz:Y.objs.size<=s.heap.objs.size
 kH:s.heap.FunFrames Y L
 sF:∀b∈bM L,H b=none
 ao:bG P w H s.heap
 bare:AllBare s.gens
def CE(L:List Env)(P:Program)(w:World)(H:Hp)(s:Shared)(Q:VK)(u:Value)(s':Shared):Prop:=
 ∃v H',s'.os=s.os/\AllBare s'.gens/\Un (bM L) [] H H' s.heap s'.heap/\bG P w H' s'.heap/\RelV v u/\Q v H'
def CR(CX:fE)(L:List Env)(P:Program)(w:World)(H:Hp)(s:Shared)(Q:VK)(E:XK)(r:Result)(s':Shared):Prop:=
 match r with
 | .ok (.ret u)=>CE L P w H s Q u s'
 | .ok _=>False
 | .error e=>CX L H s E e s'
structure ak(P:Program)(w:World)(K:Frag)(mg:Str->Option Value)(Y:Heap)(CX:fE)(k:Nat)(f:Addr)(fd:FuncData)(ps:List Str)(sp:Sp):Prop where
 len:∀vs H Q E,sp vs H Q E->vs.length=ps.length
 run:∀(A:Around)(L:List Env)(s:Shared)(H:Hp)(args:Args)(us:List Value)(vs:List V)(Q:VK)(E:XK),Zc k A->eF P w K mg Y A L s H->BindsTo s fd args (ps.zip us)->Vals vs us->sp vs H Q E->
  codeAny (model P w) A (.call (.ref f) args) (CR CX L P w H s Q E) s
def eF.make{K:Frag}{Y:Heap}{L:List Env}{H:Hp}(e:eF P w K mg Y A L s H)(C:Addr)(us:List Value)(kw:List (Str × Value)):eF P w K mg Y (A.under (.builtin "type.__call__" ⟨.ref C::us,kw⟩)) L s H:=⟨by first|exact e.frames|(simpa[Around.under,Code.envs,Code.isFrame,pushEnvs]using e.frames),e.mod,e.bs,e.oz,e.kH,e.sF,e.ao,e.bare⟩
section
variable {X:Cx}{U:List (Addr × Obj)}{σ:St}{H:Hp}{s s':Shared}
def Inv.FU(I:Inv X U σ H s):eF X.prog X.w X.K X.mg X.Y X.A X.stack s H:=
 ⟨I.ok.frames,I.ok.mod,I.bs,yao I.ok.oz I.sz,I.stack,I.jM,I.ao,I.bare⟩
def Inv.after(I:Inv X U σ H s)(h:CE X.stack X.prog X.w H s Q u s'):EP X U σ Q u s':=by
 obtain⟨v,H',os,bare,un,ao,r,q⟩:=h;obtain⟨hh,g,d,t,iW⟩:=s';obtain rfl:iW=s.os:=os;exact⟨v,H',I.call (h':=hh) (g':=g) (d':=d) (t':=t) (ch:=[]) un ao bare (λb z=>absurd z (by simp)),r,q⟩
end
def XS(sp:Sp)(EQ:List V)(E:XK)(t:TA):TE:=λσ H Q=>t σ H λvs H1=>sp (vs++EQ) H1 Q E
inductive LK (C:Addr) (m:Str) (N:VK) (x:V) (H1:Hp):Prop
 |mk (a dx:Addr) (fs:List (Str × V)):x=.ref a->H1 a=some (.ins C dx fs)->fs.lookup m=none->N x H1->LK C m N x H1
def Ue(C:Addr)(m:Str)(sp:Sp)(EQ:List V)(E:XK)(ta:TE)(t:TA):TE:=λσ H Q=>ta σ H (LK C m λx H1=>t σ H1 λvs H2=>sp (x::(vs++EQ)) H2 Q E)
def LL(C:Addr)(sp:Sp)(EQ:List V)(E:XK)(t:TA):TE:=λσ H Q=>t σ H λvs H1=>∀x dx,H1 x=none->H1 dx=none->dx≠x->
 sp (.ref x::(vs++EQ)) (upd (upd H1 dx (.own x)) x (.ins C dx [])) (λv H2=>v=.aq/\Q (.ref x) H2) E
def Binds(K:Frag)(fd:FuncData)(ps:List Str)(ds:List Value):Prop:=
 ∀(s:Shared)(us:List Value),K.In s.heap->(us++ds).length=ps.length->BindsTo s fd ⟨us,[]⟩ (ps.zip (us++ds))
def Binds.all{K:Frag}{fd:FuncData}{ps:List Str}(h:∀us:List Value,us.length=ps.length->bindArgs fd ⟨us,[]⟩=pure (ps.zip us)):Binds K fd ps []:=λs us _ hl=>by
 rw[lB]at hl ⊢;exact .of_eq (h us hl)
def Passes(CX:fE)(X:Cx)(E:XK):Prop:=∀(U:List (Addr × Obj))(σ:St)(H:Hp)(s:Shared)(e:Value)(s':Shared),Inv X U σ H s->CX X.stack H s E e s'->X.xe e s'
section
variable {X:Cx}{CX:fE}{k:Nat}{f C:Addr}{fd:FuncData}{ps:List Str}{sp:Sp}{EQ:List V}{ds:List Value}{E:XK}{x:Str}{p pos apos:Pos}{e:Expr}{es:List Expr}{t:TA}
def k6{U:List (Addr × Obj)}{σ:St}{us:List Value}{vs:List V}(F:ak X.prog X.w X.K X.mg X.Y CX k f fd ps sp)(hr:Zc k X.A)(hb:Binds X.K fd ps ds)(hd:Vals EQ ds)(hx:Passes CX X E)(I:Inv X U σ H s)(r:Vals vs us)(h:sp (vs++EQ) H Q E):wpAny (model X.prog X.w) X.A (call (.ref f) us) (EP X U σ Q) X.xe s:=by
 have r2:Vals (vs++EQ) (us++ds):=r.append hd;have hl:(us++ds).length=ps.length:=by rw[<-r2.length];exact F.len _ _ _ _ h
 refine yeq (ycW (F.run X.A X.stack s H ⟨us,[]⟩ (us++ds) (vs++EQ) Q E hr I.FU (hb s us I.bH hl) r2 h) λr s' hq=>?_);cases r with
 |error e=>exact hx U σ H s e s' I hq
 |ok fl=>
  cases fl with
  |ret u=>exact I.after hq
  |next=>exact False.elim hq
  |brk=>exact False.elim hq
  |cont=>exact False.elim hq
def k7(F:ak X.prog X.w X.K X.mg X.Y CX k f fd ps sp)(hr:Zc k X.A)(hg:Gl X x)(hm:X.mg x=some (.ref f))(hk:keepIn X.K (.ref f)=true)(hb:Binds X.K fd ps ds)(hd:Vals EQ ds)(hx:Passes CX X E)(ha:PA X (e::es) t)(mo:(x==("__debug__":Str))=false:=by lia)(he:starEach (e::es) X.env=(false,eval e X.env)::starEach es X.env:=by rfl)(dL:(backTo pos (starEach es X.env)).any (·.1)=false:=by rfl):PE X (.Call (.Name x p) (e::es) [] pos) (XS sp EQ E t):=by
 intro U s σ H Q I h;refine yaY (Wv I hg hm ?_ mo);refine callWith_K (h₀:=X.Y) I.ok.mod.sE hk (ax (ha pos U s σ H _ I h) λus s1⟨vs,H1,I1,r,q⟩=>⟨I1.bH,?_⟩) he dL;exact k6 F hr hb hd hx I1 r q
def yO(F:ak X.prog X.w X.K X.mg X.Y CX k f fd ps sp)(hr:Zc k X.A)(hg:Gl X x)(hm:X.mg x=some (.ref f))(hk:keepIn X.K (.ref f)=true)(hb:Binds X.K fd ps ds)(hd:Vals EQ ds)(hx:Passes CX X E)(mo:(x==("__debug__":Str))=false:=by lia):PE X (.Call (.Name x p) [] [] pos) (XS sp EQ E Wy):=by
 intro U s σ H Q I h;refine yaY (Wv I hg hm ?_ mo);exact callWith_K0 I.bH hk (k6 (us:=[]) F hr hb hd hx I .nil h)
def k8{pl:Sem Bool}(he:PE X o ta)(c:eh X.K C)(hm:Meth X.K C m f)(F:ak X.prog X.w X.K X.mg X.Y CX k f fd ps sp)(hr:Zc k X.A)(hb:Binds X.K fd ps ds)(hd:Vals EQ ds)(hx:Passes CX X E)(ha:PA X (e::es) t)(lm:starEach (e::es) X.env=(false,eval e X.env)::starEach es X.env:=by rfl)(dL:(backTo pos (starEach es X.env)).any (·.1)=false:=by rfl)(ht:eval (.Call (.Attribute o m apos) (e::es) [] pos) X.env=(do
   let ov<-eval o X.env
   standAt apos.atName
   let (f,first)<-holding [ov] (getMethod ov m pl)
   callWith pos f first (backTo pos (starEach (e::es) X.env)) (backToKw pos (keywordEach [] X.env))):=by rfl):
  PE X (.Call (.Attribute o m apos) (e::es) [] pos) (Ue C m sp EQ E ta t):=by
 intro U s σ H Q I h;refine methodCall_KW (pl:=pl) (ax (he U s σ H _ I h) λu s1⟨x,H1,I1,rx,a,dx,fs,ex,ea,l,q⟩=>?_) ht;subst ex;obtain rfl:u=Value.ref a:=rx;refine xC I1 ea c hm l ?_;refine callWith_K (first:=[.ref a]) (h₀:=X.Y) I.ok.mod.sE hm.kp (ax (ha pos U s1 σ H1 _ I1 q) λus s2⟨vs,H2,I2,r,q2⟩=>⟨I2.bH,?_⟩) lm dL;exact k6 (us:=.ref a::us) (vs:=.ref a::vs) F hr hb hd hx I2 (.cons Z r) q2
structure Mk(K:Frag)(C f:Addr):Prop where
 makes:makesIn K C=true
 init:findIn K (.ref C) "__init__"=some (some (.ref f))
 fn:isFn K (.ref f)=true
 kp:keepIn K (.ref C)=true
def yP{U:List (Addr × Obj)}{σ:St}{us:List Value}{vs:List V}(qMa:Mk X.K C f)(F:ak X.prog X.w X.K X.mg X.Y CX k f fd ps sp)(hr:Zc (k+1) X.A)(hb:Binds X.K fd ps ds)(hd:Vals EQ ds)(hx:Passes CX X E)(I:Inv X U σ H s)(r:Vals vs us)(h:∀x dx,H x=none->H dx=none->dx≠x->sp (.ref x::(vs++EQ)) (upd (upd H dx (.own x)) x (.ins C dx [])) (λv H2=>v=.aq/\Q (.ref x) H2) E):wpAny (model X.prog X.w) X.A (call (.ref C) us) (EP X U σ Q) X.xe s:=by
 have hq:=h (s.heap.objs.size+1) s.heap.objs.size (I.ao.fresh (Nat.le_succ _)) (I.ao.fresh (tO _)) (yaq (yco _));have I2:=Inv.made (C:=C) I;have r2:Vals (V.ref (s.heap.objs.size+1)::(vs++EQ)) (Value.ref (s.heap.objs.size+1)::(us++ds)):=.cons rfl (r.append hd);have hl:(Value.ref (s.heap.objs.size+1)::us++ds).length=ps.length:=by
  have e:=r2.length;rw[F.len _ _ _ _ hq]at e;exact e.symm
 refine yeq (yN (f:=f) I.bH qMa.makes qMa.init (ybl.mp qMa.fn) (ycW (F.run _ X.stack _ _ ⟨Value.ref (s.heap.objs.size+1)::us,[]⟩ (Value.ref (s.heap.objs.size+1)::(us++ds)) _ _ E (hr.make C us [])
  (I2.FU.make C us []) (hb _ (Value.ref (s.heap.objs.size+1)::us) I2.bH hl) r2 hq) λr s' BM=>?_))
 cases r with
 |error e=>exact hx U σ _ _ e s' I2 BM
 |ok fl=>
  cases fl with
  |ret u=>
   obtain⟨v,H',I3,rv,ev,q3⟩:=I2.after BM;subst ev;exact⟨rv,⟨V.ref (s.heap.objs.size+1),H',I3,Z,q3⟩⟩
  |next=>exact False.elim BM
  |brk=>exact False.elim BM
  |cont=>exact False.elim BM
def Rc(qMa:Mk X.K C f)(F:ak X.prog X.w X.K X.mg X.Y CX k f fd ps sp)(hr:Zc (k+1) X.A)(hg:Gl X x)(hm:X.mg x=some (.ref C))(hb:Binds X.K fd ps ds)(hd:Vals EQ ds)(hx:Passes CX X E)(ha:PA X (e::es) t)(mo:(x==("__debug__":Str))=false:=by lia)(he:starEach (e::es) X.env=(false,eval e X.env)::starEach es X.env:=by rfl)(dL:(backTo pos (starEach es X.env)).any (·.1)=false:=by rfl):PE X (.Call (.Name x p) (e::es) [] pos) (LL C sp EQ E t):=by
 intro U s σ H Q I h;refine yaY (Wv I hg hm ?_ mo);refine callWith_K (h₀:=X.Y) I.ok.mod.sE qMa.kp (ax (ha pos U s σ H _ I h) λus s1⟨vs,H1,I1,r,q⟩=>⟨I1.bH,?_⟩) he dL;exact yP qMa F hr hb hd hx I1 r q
end
def PK(X:Cx)(Ev:List Keyword)(t:TA):Prop:=
 ∀(pos:Pos)(U:List (Addr × Obj))(s:Shared)(σ:St)(H:Hp)(Q:List V->Hp->Prop),Inv X U σ H s->t σ H Q->wpAny (model X.prog X.w) X.A (evalAll ((backToKw pos (keywordEach Ev X.env)).map (·.2))) (AP X U σ Q) X.xe s
section
variable {X:Cx}{CX:fE}{k:Nat}{f:Addr}{fd:FuncData}{ps ks:List Str}{sp:Sp}{E:XK}{x:Str}{p pos apos:Pos}{e:Expr}{es:List Expr}{Ev:List Keyword}{t tk:TA}{nm:Option Str}
def LM:PK X [] Wy:=λ_ _ _ _ H Q I h=>wpAny_evalAll_nil ⟨[],H,I,.nil,h⟩
def k9(ha:PE X e te)(hr:PK X Ev t):PK X (⟨nm,e,BN⟩::Ev) (Je te t):=by
 intro pos U s σ H Q I h;show wpAny _ _ (evalAll ((do let v<-eval e X.env;standAt pos;pure v)::(backToKw pos (keywordEach Ev X.env)).map (·.2))) _ _ s;refine wpAny_evalAll_cons (yaa (ax (ha U s σ H _ I h) λu s1⟨x,H1,I1,r1,q1⟩=>yaa (ydG (yac ?_))));exact ax (hr pos U s1 σ H1 _ I1 q1) λus s2⟨xs,H2,I2,r2,q2⟩=>⟨x::xs,H2,I2,.cons r1 r2,q2⟩
structure dF(K:Frag)(fd:FuncData)(ps ks:List Str)(g:List Value->List Value->List Value)(gV:List V->List V->List V):Prop where
 to:∀(s:Shared)(us ws:List Value),K.In s.heap->(g us ws).length=ps.length->BindsTo s fd ⟨us,ks.zip ws⟩ (ps.zip (g us ws))
 rel:∀{vs:List V}{us:List Value}{zs:List V}{ws:List Value},Vals vs us->Vals zs ws->Vals (gV vs zs) (g us ws)
def wb(sp:Sp)(gV:List V->List V->List V)(E:XK)(t tk:TA):TE:=λσ H Q=>t σ H λvs H1=>tk σ H1 λzs H2=>sp (gV vs zs) H2 Q E
variable {g:List Value->List Value->List Value}{gV:List V->List V->List V}
def Rf{U:List (Addr × Obj)}{σ:St}{us ws:List Value}{vs zs:List V}(F:ak X.prog X.w X.K X.mg X.Y CX k f fd ps sp)(hr:Zc k X.A)(hb:dF X.K fd ps ks g gV)(hx:Passes CX X E)(I:Inv X U σ H s)(r:Vals vs us)(rz:Vals zs ws)(h:sp (gV vs zs) H Q E):wpAny (model X.prog X.w) X.A (call (.ref f) us (ks.zip ws)) (EP X U σ Q) X.xe s:=by
 have r2:=hb.rel r rz;have hl:(g us ws).length=ps.length:=by rw[<-r2.length];exact F.len _ _ _ _ h
 refine yeq (ycW (F.run X.A X.stack s H ⟨us,ks.zip ws⟩ (g us ws) (gV vs zs) Q E hr I.FU (hb.to s us ws I.bH hl) r2 h) λr s' hq=>?_);cases r with
 |error e=>exact hx U σ H s e s' I hq
 |ok fl=>
  cases fl with
  |ret u=>exact I.after hq
  |next=>exact False.elim hq
  |brk=>exact False.elim hq
  |cont=>exact False.elim hq
def zA(F:ak X.prog X.w X.K X.mg X.Y CX k f fd ps sp)(hr:Zc k X.A)(hg:Gl X x)(hm:X.mg x=some (.ref f))(hk:keepIn X.K (.ref f)=true)(hb:dF X.K fd ps ks g gV)(hx:Passes CX X E)(ha:PA X (e::es) t)(BO:PK X Ev tk)(mt:(backToKw pos (keywordEach Ev X.env)).all (·.1.isSome)=true:=by rfl)(BP:(backToKw pos (keywordEach Ev X.env)).filterMap (·.1)=ks:=by rfl)(mo:(x==("__debug__":Str))=false:=by lia)(he:starEach (e::es) X.env=(false,eval e X.env)::starEach es X.env:=by rfl)(dL:((backTo pos (starEach (e::es) X.env)).any (·.1)||(backToKw pos (keywordEach Ev X.env)).any (·.1.isNone))=false:=by rfl):PE X (.Call (.Name x p) (e::es) Ev pos) (wb sp gV E t tk):=by
 intro U s σ H Q I h;refine yaY (Wv I hg hm ?_ mo);refine callWith_KW (h₀:=X.Y) I.ok.mod.sE hk mt (ax (ha pos U s σ H _ I h) λus s1⟨vs,H1,I1,r,q⟩=>?_) dL he;refine ax (BO pos U s1 σ H1 _ I1 q) λws s2⟨zs,H2,I2,rz,q2⟩=>⟨I2.bH,?_⟩;rw[BP];exact Rf F hr hb hx I2 r rz q2
end
structure af(N P:List Str)(sc:Scope):Prop where
 kind:sc.kind=.function
 co:sc.isCoroutine=false
 gen:sc.isGenerator=false
 nd:N.Nodup
 pre:N.take P.length=P
 par:∀x∈P,sc.names.lookup x=some .local\/sc.names.lookup x=some .cell
 sJ:∀y∈sc.names,y.2≠ .free
theorem qF{kindOf:Str->Option NameKind}:∀{binds:List (Str × Value)}{m:Str->Option Value},(∀v,(x,v)∉binds)->bindL kindOf binds m x=m x
 |[],_,_=>rfl
 |(n,v)::r,m,h=>by
  unfold bindL;rw[qF λw hw=>h w (tW _ hw)]
  split
  .have:x≠n:=by rintro rfl;exact h v tX
   simp[this]
  .rfl
theorem qG{kindOf:Str->Option NameKind}:∀{binds:List (Str × Value)}{m:Str->Option Value},(∀v,(x,v)∉binds)->bindC kindOf binds m x=m x
 |[],_,_=>rfl
 |(n,v)::r,m,h=>by
  unfold bindC;rw[qG λw hw=>h w (tW _ hw)]
  split
  .rfl
  .have:x≠n:=by rintro rfl;exact h v tX
   simp[this]
theorem qH{kindOf:Str->Option NameKind}:∀{P:List Str}{vs:List Value}{i:Nat}{m:Str->Option Value},P.Nodup->P[i]? =some x->vs[i]? =some v->kindOf x=some .local->
  bindL kindOf (P.zip vs) m x=some v
 |[],_,_,_,_,h,_,_=>by simp at h
 |_::_,[],_,_,_,_,h,_=>by simp at h
 |p::P,w::vs,0,m,nd,h1,h2,hk=>by
  simp at h1 h2;subst h1;subst h2;show bindL kindOf ((p,w)::P.zip vs) m p=_;unfold bindL;rw[qF λv hv=>(ycZ.mp nd).1 (ydP hv).1,yai hk];simp
 |p::P,w::vs,i+1,m,nd,h1,h2,hk=>by
  show bindL kindOf ((p,w)::P.zip vs) m x=_;unfold bindL;exact qH (i:=i) (ycZ.mp nd).2 (by simpa using h1) (by simpa using h2) hk
theorem qI{kindOf:Str->Option NameKind}:∀{P:List Str}{vs:List Value}{i:Nat}{m:Str->Option Value},P.Nodup->P[i]? =some x->vs[i]? =some v->kindOf x≠some .local->
  bindC kindOf (P.zip vs) m x=some v
 |[],_,_,_,_,h,_,_=>by simp at h
 |_::_,[],_,_,_,_,h,_=>by simp at h
 |p::P,w::vs,0,m,nd,h1,h2,hk=>by
  simp at h1 h2;subst h1;subst h2;show bindC kindOf ((p,w)::P.zip vs) m p=_;unfold bindC;rw[qG λv hv=>(ycZ.mp nd).1 (ydP hv).1,yah hk];simp
 |p::P,w::vs,i+1,m,nd,h1,h2,hk=>by
  show bindC kindOf ((p,w)::P.zip vs) m x=_;unfold bindC;exact qI (i:=i) (ycZ.mp nd).2 (by simpa using h1) (by simpa using h2) hk
noncomputable def start(N:List Str)(vs:List V):St:=vs.map some++replicate (N.length-vs.length) none
noncomputable def qJ(CX:fE)(P:Program)(w:World)(K:Frag)(mg:Str->Option Value)(Y:Heap)(N:List Str)(qual:Str)(scope:Scope)(f:Addr)(cd:Value)(A:Around)(L:List Env)(s:Shared)(H:Hp)(E:XK):Cx where
 prog:=P
 w:=w
 K:=K
 mg:=mg
 Y:=Y
 A:=A.deeper (envOfC qual scope s.heap.objs.size f cd)
 N:=N
 s₀:=s
 H₀:=H
 env:=envOfC qual scope s.heap.objs.size f cd
 L:=L
 stack:=envOfC qual scope s.heap.objs.size f cd::L
 ex:=[]
 calm:=true
 fn:=λ_=>true
 pn:=[]
 xe:=λe s'=>wpAny (model P w) (A.deeper (envOfC qual scope s.heap.objs.size f cd)) (leaving (envOfC qual scope s.heap.objs.size f cd) e) (λ_ iX=>CX L H s E e iX) (λe' iX=>CX L H s E e' iX) s'
def zB{sc:Scope}(h:sc.names.lookup x=some .cell):∃c,(cellsFrom n sc.names []).lookup x=some c:=by
 have q:=cellsFrom_some sc.names n [] (.inl h);exact Option.isSome_iff_exists.mp q
def wc{CX:fE}{K:Frag}{Y:Heap}{N ps:List Str}{qual:Str}{scope:Scope}{cd:Value}{L:List Env}{s s1:Shared}{H:Hp}{E:XK}{us:List Value}{vs:List V}(S:af N ps scope)(hd:A.handled=none)(e0:eF P w K mg Y A L s H)(hl:vs.length=ps.length)(r:Vals vs us)(x:InCallC s s.heap.objs.size (bindL (envOfC qual scope s.heap.objs.size f cd).kindOf (ps.zip us) λ_=>none) (cellsFrom (s.heap.objs.size+1) scope.names []) (bindC (envOfC qual scope s.heap.objs.size f cd).kindOf (ps.zip us) λ_=>none) s1):Inv (qJ CX P w K mg Y N qual scope f cd A L s H E) [] (start N vs) H s1:=by
 have dL:ps.length<=N.length:=by have:=yaE List.length S.pre;rw[tY]at this;lia
 obtain⟨h1,tk,rfl,hk⟩:=x.done;have BQ:∀b:Addr,b∉(qJ CX P w K mg Y N qual scope f cd A L s H E).ex:=λb z=>absurd (show b∈([]:List Addr)from z) (by simp);refine⟨⟨e0.mod,S.kind,Z,Z,tO _,λy z c h1 h2=>?_,λy hy=>?_,λy c _ h=>?_,λ_=>hd,Around.frames_deeper e0.frames,.inr ⟨Z,Z⟩,λb z=>absurd z (BQ b),e0.bs,e0.oz,λb _ _=>BQ b,λb z=>absurd z (BQ b),e0.kH,e0.sF⟩,
  Z,e0.bare,Un.kept hk,⟨_,x.toInCall.ns,λi y v h1 h2 h3=>?_⟩,λy c h=>⟨_,x.cell y c h⟩,e0.ao.fresh (tO _),λy c h=>?_,λp hp=>absurd (show p∈([]:List (Addr × Obj))from hp) (by simp),e0.ao.kept hk,?_⟩
 .exact name_of_addr x.apart (ycj h1) (ycj h2)
 .have hy:scope.names.lookup y=some .cell\/scope.names.lookup y=some .free:=hy;rcases hy with hy|hy
  .exact zB hy
  .exact absurd rfl (S.sJ _ (ycj hy))
 .exact ycU (x.above y c (ycj h))
 .have hi:i<vs.length:=by
   unfold start at h2
   by_cases hi:i<vs.length
   .exact hi
   .rw[ybL (by simpa using hi)]at h2;rw[yev]at h2
    split at h2<;>cases h2
  have ha:vs[i]? =some v:=by
   unfold start at h2;rw[ybV (by simpa using hi),lh]at h2;cases e:vs[i]? with
   |none=>rw[e]at h2;cases h2
   |some a=>rw[e]at h2;cases h2;rfl
  obtain⟨u,hu,rv⟩:=r.get ha;have hp:ps[i]? =some y:=by
   rw[<-S.pre,yer (by lia)];exact h1
  have LN:ps.Nodup:=by rw[<-S.pre];exact S.nd.sublist (List.take_sublist _ _)
  exists u,rv;rcases S.par y (lj hp)with k|k
  .exact .inl ⟨k,qH LN hp hu k⟩
  .obtain⟨c,e⟩:=zB (n:=s.heap.objs.size+1) k;refine .inr ⟨.inl k,c,e,?_⟩;have q:=x.cell y c e;rw[qI LN hp hu (by show scope.names.lookup y≠_;rw[k];lia)]at q;exact q
 .exact e0.ao.fresh (ycU (x.above y c (ycj h)))
 .unfold start;show _=N.length;rw[tK,tL,lq];lia
def LO{CX:fE}{K:Frag}{Y:Heap}{k:Nat}{name qual:Str}{params:Arguments}{body:List Stmt}{scope:Scope}{dV kV doc pm am ct oc:Value}{an od:Option Addr}{ge:Array (Option Value)}{N ps:List Str}{sp:Sp}(lk:K.lookup f=some ⟨oc,od,.func (fnOf name qual params body scope dV kV doc pm an am ct),ge⟩)(e6:codeIn K am qual=true)(S:af N ps scope)(len:∀vs H Q E,sp vs H Q E->vs.length=ps.length)(f8:∀(A:Around)(L:List Env)(s:Shared)(H:Hp)(vs:List V)(Q:VK)(E:XK),Zc k (A.deeper (envOfC qual scope s.heap.objs.size f am))->sp vs H Q E->
   ∃t,d9 (qJ CX P w K mg Y N qual scope f am A L s H E) body t/\t {nx:=λ_ H'=>Q .aq H',rt:=Q} (start N vs) H):
  ak P w K mg Y CX (k+1) f (fnOf name qual params body scope dV kV doc pm an am ct) ps sp:=by
 refine⟨len,λA L s H args us vs Q E hr e0 hb r Go=>?_⟩;have hl:=len _ _ _ _ Go;have KX:K.In s.heap:=e0.mod.sE.keeps λb o e=>(e0.bs b o e).1;have lim:s.heap.NoLimit:=e0.mod.nolimit.keeps λb o e=>(e0.bs b o e).1;have BR:∀y∈ps.zip us,scope.names.lookup y.1=some .local\/(scope.names.lookup y.1=some .cell/\((cellsFrom (s.heap.objs.size+1) scope.names []).lookup y.1).isSome=true):=λ⟨n,v⟩ hy=>by
  rcases S.par n (ydP hy).1 with q|q
  .exact .inl q
  .exact .inr ⟨q,cellsFrom_some _ _ _ (.inl q)⟩
 refine codeAny_call_function hr.depth (KX _ _ lk) rfl S.co S.gen rfl (codeRec_of KX e6) (hb _ _ _ _ ?_);refine wpAny_newFunctionEnv_cells S.kind BR λenv he s1 x=>?_;subst he;refine⟨lim.keeps x.toInCall.keep,codeAny_func ?_⟩;obtain⟨t,ht,hq⟩:=f8 A L s H vs Q E (hr.deeper _) Go;have I:Inv (qJ CX P w K mg Y N qual scope f am A L s H E) [] (start N vs) H s1:=wc S hr.hd e0 hl r x;refine yaV (ht [] s1 (start N vs) H _ I hq) (λfl s' hs=>?_) λe s' hs=>hs;have fin:∀{σ':St}{H':Hp}{v:V}{u:Value},Inv (qJ CX P w K mg Y N qual scope f am A L s H E) [] σ' H' s'->RelV v u->Q v H'->CE L P w H s Q u s':=
  λ{σ' H' v u} J rv q=>⟨v,H',J.os,J.bare,J.Y,J.ao,rv,q⟩
 cases fl with
 |ret u=>
  obtain⟨v,σ',H',J,rv,q⟩:=hs;exact fin J rv q
 |next=>
  obtain⟨σ',H',J,q⟩:=hs;exact fin (v:=V.aq) (u:=Value.none) J rfl q
 |brk=>
  obtain⟨_,_,_,q⟩:=hs;exact False.elim q
 |cont=>
  obtain⟨_,_,_,q⟩:=hs;exact False.elim q
section
variable {X:Cx}{x:Str}{p pos:Pos}{e:Expr}{es:List Expr}{t:TA}{id T:String}{r:List V->Hp->VK->Prop}
def sL(r:List V->Hp->VK->Prop)(t:TA):TE:=λσ H Q=>t σ H λvs H1=>r vs H1 Q
def Qw(hc:Ww X (.builtin id) r)(hg:Gl X x)(hm:X.mg x=none)(hv:bootBuiltins x=some (.builtin id))(ha:PA X (e::es) t)(hn:x≠"__name__":=by lia)(mo:(x==("__debug__":Str))=false:=by lia)(he:starEach (e::es) X.env=(false,eval e X.env)::starEach es X.env:=by rfl)(dL:(backTo pos (starEach es X.env)).any (·.1)=false:=by rfl):PE X (.Call (.Name x p) (e::es) [] pos) (sL r t):=by
 intro U s σ H Q I h;refine yaY (ZQ I hg hm hv ?_ hn mo);exact PyProof.Rows.callWith_builtin1 (ax (ha pos U s σ H _ I h) λus s1⟨vs,H1,I1,r1,q1⟩=>hc U s1 σ H1 vs us Q I1 r1 q1) he dL
def XV(hc:Ww X (.type T) r)(hg:Gl X x)(hm:X.mg x=none)(hv:bootBuiltins x=some (.type T))(ha:PA X (e::es) t)(hn:x≠"__name__":=by lia)(mo:(x==("__debug__":Str))=false:=by lia)(he:starEach (e::es) X.env=(false,eval e X.env)::starEach es X.env:=by rfl)(dL:(backTo pos (starEach es X.env)).any (·.1)=false:=by rfl):PE X (.Call (.Name x p) (e::es) [] pos) (sL r t):=by
 intro U s σ H Q I h;refine yaY (ZQ I hg hm hv ?_ hn mo);exact yau (ax (ha pos U s σ H _ I h) λus s1⟨vs,H1,I1,r1,q1⟩=>hc U s1 σ H1 vs us Q I1 r1 q1) he dL
end
end L2
namespace HT
open PySem PyProof.Rows
section
open PySem.SeqAt
open PySem.AutoSeq1 (wpAny_loadPart')
open PySem.MeetsSeq PySem.MeetsSeq2 PySem.MeetsSeq3
end
section
variable {prog:Program}
def Rg{vs ws:List Value}(ht:IsTup s.heap t vs.toArray)(hb:IsTup s.heap b ws.toArray)(hv:vs≠[])(h1:ws=[]->Q (.ref t) s)(h2:ws≠[]->Q (.ref s.heap.objs.size) {s with heap:=s.heap.push {cls:=.type "tuple",data:=.seq (vs++ws).toArray}})(hsz:vs.length+ws.length<=sizeLine):wpAny (model prog w) A (binaryOp .Add (.ref t) (.ref b)) Q E s:=by
 obtain⟨⟨cls,dd,data,sl⟩,ho,hc,n,hd⟩:=id ht;obtain⟨⟨FW,AQ,data2,AR⟩,PP,fF,n2,hd2⟩:=id hb;simp only at hc hd fF hd2;subst hc hd fF hd2;have e:vs.toArray++ws.toArray=(vs++ws).toArray:=by simp
 by_cases hw:ws=[]
 .exact concat_meets ⟨_,ho,Z⟩ ⟨_,PP,Z⟩ yeE seq_tuple_add slot_tuple_add entry_tuple_add (yeF _ _)
   (tuple_addW1 t b vs.toArray ws.toArray n n2 dd AQ sl AR (by simpa using hv) (by simp[hw])) ⟨ho,PP,h1 hw⟩
 .refine concat_meets ⟨_,ho,Z⟩ ⟨_,PP,Z⟩ yeE seq_tuple_add slot_tuple_add entry_tuple_add (yeF _ _)
   (tuple_addW2 t b vs.toArray ws.toArray n n2 dd AQ sl AR (by simpa using hv) (by simpa using hw) (by rw[lF,lF];exact hsz)) ⟨ho,PP,?_⟩
  rw[e];exact h2 hw
noncomputable def aJ(n d:Nat):Option Int->Nat
 |none=>d
 |some v=>if v<0 then(v+(n:Int)).toNat else min v.toNat n
def zC(n d:Nat):aJ n d none=d:=rfl
def Xn(n d k:Nat):aJ n d (some (k:Int))=min k n:=by
 show(if(k:Int)<0 then((k:Int)+(n:Int)).toNat else min (k:Int).toNat n)=min k n;rw[yah (by lia),lI]
def Rh(n d:Nat)(hd:d<=n)(o:Option Int):aJ n d o<=n:=by
 cases o with
 |none=>exact hd
 |some v=>
  show(if v<0 then(v+(n:Int)).toNat else min v.toNat n)<=n
  by_cases hv:v<0
  .rw[yai hv];lia
  .rw[yah hv];exact Nat.min_le_right _ _
def we(v:Int)(n d:Nat):(if v<0 then max (v+(n:Int)) 0 else min v (n:Int))=((aJ n d (some v):Nat):Int):=by
 show(if v<0 then max (v+(n:Int)) 0 else min v (n:Int))=(((if v<0 then(v+(n:Int)).toNat else min v.toNat n):Nat):Int)
 by_cases hv:v<0
 .simp only[yai hv];lia
 .simp only[yah hv];lia
def xG(lo hi:Option Int)(n:Nat):Builtin.Slice.sliceAdjust lo hi 1 (n:Int)=(((aJ n 0 lo:Nat):Int),((aJ n n hi:Nat):Int)):=by
 have h1:¬ ((1:Int)<0):=by lia
 unfold Builtin.Slice.sliceAdjust;simp only[h1,yaL];refine Prod.ext ?_ ?_
 .cases lo with
  |none=>rfl
  |some v=>exact we v n 0
 .cases hi with
  |none=>rfl
  |some v=>exact we v n n
def xH(i j:Nat):Builtin.Slice.slicePlaces (i:Int) (j:Int) 1=j-i:=by
 unfold Builtin.Slice.slicePlaces;have h1:(1:Int)>0:=by lia
 simp only[h1,ybM,ydr]
 split<;>lia
def YS(p:IsPart v o)(h:Q o s):wpAny (model prog w) A (Builtin.Slice.slicePartIndex v) Q E s:=by
 cases p with
 |none=>exact slicePart_none h
 |int i t=>exact slicePart_int h
def XO{lo hi:Option Int}{n:Nat}(hs:s.heap.IsSliceOf sl vl vu .none)(pl:IsPart vl lo)(pu:IsPart vu hi)(h:Q (((aJ n 0 lo:Nat):Int),1,aJ n n hi-aJ n 0 lo) s):wpAny (model prog w) A (Builtin.Slice.sliceApplied (.ref sl) (pure (n:Int))) Q E s:=by
 obtain⟨os,sM,SL,iY⟩:=id hs;unfold Builtin.Slice.sliceApplied Builtin.Slice.sliceFields;refine yaa (yaa (yaG sM iY (x:=vl) Z (yaa (yaG sM iY (x:=vu) Z (yaa (yaG sM iY (x:=.none) Z (yac ?_)))))));refine yaa (slicePart_none ?_);show wpAny _ _ (if((1:Int)==0)=true then _ else _) _ _ s;rw[yah (by lia)];refine yaa (YS pl (yaa (YS pu (yaa (yac ?_)))));show wpAny _ _ (match Builtin.Slice.sliceAdjust lo hi 1 (n:Int)with|(lo,hi)=>pure (lo,(1:Int),Builtin.Slice.slicePlaces lo hi 1)) _ _ s;rw[xG lo hi n];show wpAny _ _ (pure (((aJ n 0 lo:Nat):Int),(1:Int),Builtin.Slice.slicePlaces ((aJ n 0 lo:Nat):Int) ((aJ n n hi:Nat):Int) 1)) _ _ s;rw[xH];exact yac h
def yQ(xs:Array Value)(i k:Nat):((List.range k).filterMap λ(m:Nat)=>xs[((i:Int)+(m:Int)*1).toNat]?).toArray=((xs.toList.drop i).take k).toArray:=by
 have e:(λ(m:Nat)=>xs[((i:Int)+(m:Int)*1).toNat]?)=λm=>xs[i+m]? :=by
  funext m
  have:((i:Int)+(m:Int)*1).toNat=i+m:=by lia
  rw[this]
 rw[e];have:=pick_run xs i k;rw[List.filterMap_map]at this;have e2:((λx=>xs[x]?)∘λx=>i+x)=λm=>xs[i+m]? :=rfl;rw[e2]at this;rw[this]
def Wz{items:Array Value}{lo hi:Option Int}(ht:IsTup s.heap t items)(hs:s.heap.IsSliceOf sl vl vu .none)(pl:IsPart vl lo)(pu:IsPart vu hi)(hw:¬ (aJ items.size 0 lo=0/\aJ items.size items.size hi=items.size))(h:Q (.ref s.heap.objs.size) {s with heap:=s.heap.push {cls:=.type "tuple",data:=.seq ((items.toList.drop (aJ items.size 0 lo)).take (aJ items.size items.size hi-aJ items.size 0 lo)).toArray}})(hsz:items.size<=sizeLine):wpAny (model prog w) A (getItem (.ref t) (.ref sl)) Q E s:=by
 have ST:sizeOk (.seq ((items.toList.drop (aJ items.size 0 lo)).take (aJ items.size items.size hi-aJ items.size 0 lo)).toArray):=by
  show((items.toList.drop (aJ items.size 0 lo)).take (aJ items.size items.size hi-aJ items.size 0 lo)).toArray.size<=sizeLine;rw[lF,tY,tZ,lE];lia
 have hj:aJ items.size items.size hi<=items.size:=Rh _ _ (tO _) hi;obtain⟨os,sM,SL,iY⟩:=id hs;have FX:s.TypeIs (.ref sl) "slice":=⟨os,sM,SL⟩;unfold getItem
 try with_reducible refine ybe ?_
 first|refine yaa (yac ?_)|skip
 refine yaa (wpAny_sequenceKey ht.typeIs (by lia) ?_);refine yaa (yaP (name:=Str.ofString "__getitem__") ht.typeIs ybp
  (yaM ybp ht.typeIs entry_tuple_getitem ?_ (args_tuple_getitem _ _)))
 show wpAny _ _ (Builtin.Tuple.tupleItemsOf (.ref t)>>=_) _ _ s;refine yaa (tupleItemsOf_ ht ?_);refine yaa (yds FX ?_);rw[yai (by lia)];refine yaa (XO hs pl pu ?_);have SZ:¬ ((((aJ items.size 0 lo:Nat):Int)==0&&(1:Int)==1&&(aJ items.size items.size hi-aJ items.size 0 lo)==items.size)=true):=by
  intro q;rw[yay,yay]at q;have q1:((aJ items.size 0 lo:Nat):Int)=0:=yeO q.1.1;have q2:aJ items.size items.size hi-aJ items.size 0 lo=items.size:=yeO q.2;exact hw ⟨by lia,by lia⟩
 show wpAny _ _ (if(((aJ items.size 0 lo:Nat):Int)==0&&(1:Int)==1&&(aJ items.size items.size hi-aJ items.size 0 lo)==items.size)=true then _ else _) _ _ s;rw[yah SZ,yQ]
 first
  |exact yaa (m:=Builtin.Tuple.tupleExact _) (yaX (yac ⟨_,rfl,yac h⟩) ST)
  |exact yaa (m:=Builtin.Tuple.tupleExact _) (yaX (yaa (yac (yac ⟨_,rfl,yac h⟩))) ST)
  |exact yaa (yaa (m:=Builtin.Tuple.tupleExact _) (yaX (yac (yac ⟨_,rfl,yac h⟩)) ST))
  |exact yaa (yaa (m:=Builtin.Tuple.tupleExact _) (yaX (yac ⟨_,rfl,yac h⟩) ST))
end
end HT
namespace L2
open PySem PySem.Spec PyProof.Rows
noncomputable abbrev TO:=St->Hp->(Option Int->Hp->Prop)->Prop
def PO(X:Cx)(e:Option Expr)(t:TO):Prop:=
 ∀(U:List (Addr × Obj))(s:Shared)(σ:St)(H:Hp)(Q:Option Int->Hp->Prop),Inv X U σ H s->t σ H Q->
  wpAny (model X.prog X.w) X.A (evalPart e X.env) (λu s'=>∃o H',Inv X U σ H' s'/\IsPart u o/\Q o H') X.xe s
def jP:TO:=λ_ H Q=>Q none H
inductive LQ (N:Int->Hp->Prop) (x:V) (H1:Hp):Prop
 |mk (i:Int):x=.int i->N i H1->LQ N x H1
def FY(t:TE):TO:=λσ H Q=>t σ H (LQ λi=>Q (some i))
section
variable {lo:Option Expr}{tl:TO}{pos:Pos}
def JK:PO X none jP:=by
 intro U s σ H Q I h;rw[evalPart_none];exact yac ⟨none,H,I,.none,h⟩
def QQ(h:PE X e te):PO X (some e) (FY te):=by
 intro U s σ H Q I hw;rw[evalPart_some];refine ax (h U s σ H _ I hw) λu s1⟨x,H1,I1,r1,q1⟩=>?_;obtain⟨i,rfl,q⟩:=q1;obtain⟨t,rfl⟩:=r1;exact⟨some i,H1,I1,.int i t,q⟩
def BS(X:Cx)(r:V->Option Int->Option Int->Hp->VK->Prop):Prop:=
 ∀(U:List (Addr × Obj))(s:Shared)(σ:St)(H:Hp)(x:V)(v vl vu:Value)(lo hi:Option Int)(sl:Addr)(Q:VK),Inv X U σ H s->RelV x v->s.heap.IsSliceOf sl vl vu .none->IsPart vl lo->IsPart vu hi->r x lo hi H Q->
  ∃T id,typeLookup (.type T) "__getitem__"=pure (some (.builtin id))/\s.TypeIs v T/\wpAny (model X.prog X.w) X.A (getItem v (.ref sl)) (EP X U σ Q) X.xe s
def FZ(r:V->Option Int->Option Int->Hp->VK->Prop)(te:TE)(tl th:TO):TE:=λσ H Q=>te σ H λx H1=>tl σ H1 λl H2=>th σ H2 λu H3=>r x l u H3 Q
def QR(hr:BS X r)(he:PE X e te)(hl:PO X lo tl)(hu:PO X hi th):PE X (.Subscript e (.Slice lo hi none p2) pos) (FZ r te tl th):=by
 intro U s σ H Q I h;refine Subscript_ (ax (he U s σ H _ I h) λv s1⟨x,H1,I1,r1,q1⟩=>?_);refine wpAny_Slice (ax (hl U s1 σ H1 _ I1 q1) λvl s2⟨l,H2,I2,pl,q2⟩=>ax (hu U s2 σ H2 _ I2 q2) λvu s3⟨u,H3,I3,pu,q3⟩=>?_);rw[evalPart_none];refine yac ?_;have I4:Inv X U σ H3 {s3 with heap:=s3.heap.push {cls:=.type "slice",data:=.fields #[vl,vu,.none]}}:=I3.kept (t':=s3.toks) λb ob q=>yab _ q;obtain⟨T,id,hT,ht,hg⟩:=hr U {s3 with heap:=s3.heap.push {cls:=.type "slice",data:=.fields #[vl,vu,.none]}} σ H3 x v vl vu l u s3.heap.objs.size Q I4 r1 (Heap.IsSliceOf.new ..) pl pu q3;show wpAny (model X.prog X.w) X.A (subscriptTail e (.Slice lo hi none p2) v (.ref s3.heap.objs.size)) (EP X U σ Q) X.xe {s3 with heap:=s3.heap.push {cls:=.type "slice",data:=.fields #[vl,vu,.none]}};exact tail_any (ops:=[.ref s3.heap.objs.size,v]) ht hT hg (by with_unfolding_all rfl)
noncomputable def qx(xs:List V)(lo hi:Option Int):List V:=(xs.drop (HT.aJ xs.length 0 lo)).take (HT.aJ xs.length xs.length hi-HT.aJ xs.length 0 lo)
def Vz(xs:List V)(lo hi:Option Int):(qx xs lo hi).length<=xs.length:=by
 unfold qx;rw[tY,tZ];lia
inductive BU (K:Frag) (x:V) (lo:Option Int) (hi:Option Int) (H:Hp) (Q:VK):Prop
 |mk (a xs):x=.ref a->aw K H a xs->¬ (HT.aJ xs.length 0 lo=0/\HT.aJ xs.length xs.length hi=xs.length)->(∀p,H p=none->Q (.ref p) (upd H p (.tup (qx xs lo hi))))->BU K x lo hi H Q
def LR:BS X (BU X.K):=by
 intro U s σ H x v vl vu lo hi sl Q I rx hs pl pu h;obtain⟨a,xs,rfl,hx,hw,q⟩:=h;cases rx;obtain⟨its,r,ht,hz⟩:=I.tuple hx;have hlen:its.toArray.size=xs.length:=by rw[lF];exact r.length.symm
 exists "tuple",_,PyProof.Rows.slot_tuple_getitem.lookup,ht.typeIs;refine HT.Wz ht hs pl pu (by rw[hlen];exact hw) ?_ (by rw[hlen];exact hz);rw[hlen];refine⟨.ref s.heap.objs.size,_,I.laid (t':=s.toks) (o:=.tup (qx xs lo hi)) (λb ob q=>yab _ q) (tO _) ?_,Z,q _ (I.ao.fresh (tO _))⟩;exact⟨yao (Vz xs lo hi) hz,_,(r.drop (HT.aJ xs.length 0 lo)).take (HT.aJ xs.length xs.length hi-HT.aJ xs.length 0 lo),Vt.new _ _⟩
inductive oF (K:Frag) (x:V) (y:V) (H:Hp) (Q:VK):Prop
 |mk (a b xs ys):x=.ref a->y=.ref b->aw K H a xs->aw K H b ys->xs≠[]->xs.length+ys.length<=sizeLine->((ys=[]->Q (.ref a) H))->((ys≠[]->∀p,H p=none->Q (.ref p) (upd H p (.tup (xs++ys)))))->oF K x y H Q
def Vals.Uf{xs:List V}{us:List Value}(r:Vals xs us):us=[]↔xs=[]:=by
 cases r with
 |nil=>simp
 |cons _ _=>simp
def Ri:aW X (binaryOp .Add) (oF X.K):=by
 intro U s σ H x y v u Q I rx ry h;obtain⟨a,b,xs,ys,rfl,rfl,ha,hb,hx,hz,q1,q2⟩:=h;cases rx;cases ry;obtain⟨its,r1,p1,_⟩:=I.tuple ha;obtain⟨ci,r2,p2,_⟩:=I.tuple hb;refine HT.Rg p1 p2 (λz=>hx (r1.Uf.mp z)) (λz=>⟨.ref a,H,I,Z,q1 (r2.Uf.mp z)⟩) (λz=>?_) (by rw[<-r1.length, <-r2.length];exact hz);refine⟨.ref s.heap.objs.size,_,I.laid (t':=s.toks) (o:=.tup (xs++ys)) (λb ob q=>yab _ q) (tO _) ?_,Z,q2 (λw=>z (r2.Uf.mpr w)) _ (I.ao.fresh (tO _))⟩;exact⟨by rw[tK];exact hz,_,r1.append r2,Vt.new _ _⟩
end
noncomputable def iZ(n:Nat)(i:Int):Option Nat:=if 0<=i then(if i<n then some i.toNat else none)else if-(n:Int)<=i then some (i+n).toNat else none
noncomputable def eG{α:Type}(xs:List α)(i:Int):Option α:=(iZ xs.length i).bind λj=>xs[j]?
def wf(h:iZ n i=some j):seqIndex? i n=some j/\j<n/\ -(n:Int)<=i/\i<n:=by
 unfold iZ at h
 by_cases h0:0<=i
 .rw[yai h0]at h
  by_cases h1:i<n
  .rw[yai h1]at h;have e:i.toNat=j:=tP h;exact⟨by rw[seqIndex_of h0 h1,e],by lia,by lia,h1⟩
  .rw[yah h1]at h;cases h
 .rw[yah h0]at h
  by_cases h1: -(n:Int)<=i
  .rw[yai h1]at h;have e:(i+n).toNat=j:=tP h;exact⟨by rw[seqIndex_neg (by lia) h1,e],by lia,h1,by lia⟩
  .rw[yah h1]at h;cases h
def jQ{xs:List α}(h:eG xs i=some v):∃j,seqIndex? i xs.length=some j/\xs[j]? =some v/\j<xs.length/\ -(xs.length:Int)<=i/\i<xs.length:=by
 unfold eG at h;cases e:iZ xs.length i with
 |none=>rw[e]at h;cases h
 |some j=>
  rw[e]at h;obtain⟨h1,h2,h3,h4⟩:=wf e;exact⟨j,h1,h,h2,h3,h4⟩
def Zo{α:Type}{xs:List α}{j:Nat}{v:α}(h:xs[j]? =some v):eG xs (j:Int)=some v:=by
 have hj:j<xs.length:=(yaf.mp h).1;have e:iZ xs.length (j:Int)=some j:=by
  unfold iZ;rw[yai (by lia),yai (by lia)];simp
 unfold eG;rw[e];exact h
def Ug(xs:List α)(v:α):eG (xs++[v]) (-1)=some v:=by
 have hl:(xs++[v]).length=xs.length+1:=by simp
 have e:iZ (xs++[v]).length (-1)=some xs.length:=by
  unfold iZ;rw[hl,yah (by lia),yai (by lia)]
  congr 1
  lia
 unfold eG;rw[e];show(xs++[v])[xs.length]? =some v;simp
def Rj(b:Expr):Prop:=∀o i,subscripted b false o i=operate [o,i] (getItem o i)
def BV(X:Cx)(r:R2):Prop:=
 ∀(value slice:Expr)(U:List (Addr × Obj))(s:Shared)(σ:St)(H:Hp)(x y:V)(v u:Value)(Q:VK),Inv X U σ H s->RelV x v->RelV y u->r x y H Q->
  subscripted slice false v u=operate [v,u] (getItem v u)->wpAny (model X.prog X.w) X.A (subscriptTail value slice v u) (EP X U σ Q) X.xe s
def fQ(X:Cx)(id:String)(r:V->List V->Hp->VK->Prop):Prop:=
 ∀(U:List (Addr × Obj))(s:Shared)(σ:St)(H:Hp)(x:V)(xs:List V)(v:Value)(us:List Value)(Q:VK),Inv X U σ H s->RelV x v->Vals xs us->r x xs H Q->
  wpAny (model X.prog X.w) X.A (call (.builtin id) (v::us)) (EP X U σ Q) X.xe s
section
variable {pos:Pos}
def QB(hr:BV X r)(ha:PE X a ta)(hb:PE X b tb)(hs:Rj b):PE X (.Subscript a b pos) (dS r ta tb):=by
 intro U s σ H Q I h;exact Subscript_ (FK ha hb I h λv u s2 x y H2 I2 rx ry q=>hr a b U s2 σ H2 x y v u Q I2 rx ry q (hs _ _))
inductive fR (K:Frag) (x:V) (y:V) (H:Hp) (Q:VK):Prop
 |mk (p xs i v):x=.ref p->y=.int i->aE K H p xs->eG xs i=some v->Q v H->fR K x y H Q
inductive i0 (K:Frag) (x:V) (y:V) (H:Hp) (Q:VK):Prop
 |mk (p xs i v):x=.ref p->y=.int i->aw K H p xs->eG xs i=some v->Q v H->i0 K x y H Q
inductive BW (x:V) (y:V) (H:Hp) (Q:VK):Prop
 |mk (z i c):x=.str z->y=.int i->z.length<=sizeLine->eG z.cps.toList i=some c->Q (.str ⟨#[c]⟩) H->BW x y H Q
def Jv:BV X (fR X.K):=by
 intro value slice U s σ H x y v u Q I rx ry h hs;obtain⟨p,xs,i,z,rfl,rfl,hq,he,q⟩:=h;cases rx;obtain⟨t,rfl⟩:=ry;obtain⟨its,r,pl,hz⟩:=I.list hq;obtain⟨j,h1,h2,h3,h4,h5⟩:=jQ he;obtain⟨w,ew,Os⟩:=r.get h2;have hl:=r.length;have hn:=Xf;have fin:EP X U σ Q w s:=⟨z,H,I,Os,q⟩
 by_cases h0:0<=i
 .have hj:i.toNat=j:=by
   rw[seqIndex_of h0 h5]at h1;exact tP h1
  exact item_listR pl.isList h0 (by lia) (by rw[hj];simpa using ew) fin hs
 .have hj:(i+(its.toArray.size:Int)).toNat=j:=by
   rw[seqIndex_neg (by lia) h4]at h1;rw[lF, <-hl];exact tP h1
  exact subscriptTail_builtinR (x:=w) pl.isList.typeIs slot_list_getitem.lookup
   (wpAny_getItem_list_neg (Q:=λr s'=>r=w/\EP X U σ Q r s') pl.isList (by lia) (by rw[lF]<;>lia) (by lia) (by rw[hj];simpa using ew) ⟨Z,fin⟩) hs
def JE:BV X (i0 X.K):=by
 intro value slice U s σ H x y v u Q I rx ry h hs;obtain⟨p,xs,i,z,rfl,rfl,hq,he,q⟩:=h;cases rx;obtain⟨t,rfl⟩:=ry;obtain⟨its,r,pl,hz⟩:=I.tuple hq;obtain⟨j,h1,h2,h3,h4,h5⟩:=jQ he;obtain⟨w,ew,Os⟩:=r.get h2;have hl:=r.length;have hn:=Xf;have fin:EP X U σ Q w s:=⟨z,H,I,Os,q⟩;exact subscriptTail_builtinR (x:=w) pl.typeIs slot_tuple_getitem.lookup
  (getItem_tuple (j:=j) (Q:=λr s'=>r=w/\EP X U σ Q r s') pl (by lia) (by lia) (by rw[lF, <-hl];exact h1) (by simpa using ew) ⟨Z,fin⟩) hs
def Wa:BV X BW:=by
 intro value slice U s σ H x y v u Q I rx ry h hs;obtain⟨z,i,c,rfl,rfl,hz,he,q⟩:=h;obtain⟨t,rfl⟩:=rx;obtain⟨t',rfl⟩:=ry;obtain⟨j,h1,h2,h3,h4,h5⟩:=jQ he;have hl:z.cps.toList.length=z.length:=by simp[Str.length]
 rw[hl]at h1 h4 h5;have hn:=Xf;exact tail_any (ydK s z t) slot_str_getitem.lookup (getItem_str (c:=c) (by
  have e1:decide (i< -(2^63:Int))=false:=tM (by lia);have e2:decide (i≥2^63)=false:=tM (by lia);rw[e1,e2,Bool.or_false]) (by rw[h1];simpa using h2) ⟨.str ⟨#[c]⟩,H,I.tok _,⟨_,Z⟩,q⟩) hs
def xI(its:List Value)(n j:Nat)(u:Value):Obj.mapSeq (·.setIfInBounds j u) {cls:=.type "list",data:=.seq its.toArray n}={cls:=.type "list",data:=.seq (its.set j u).toArray n}:=by
 simp[Obj.mapSeq]
theorem Inv.lst{U:List (Addr × Obj)}{σ:St}{H:Hp}{s:Shared}{p:Addr}{xs:List V}(I:Inv X U σ H s)(h:H p=some (.lst xs)):∃(its:List Value)(n:Nat),Vals xs its/\s.heap.get? p=some {cls:=.type "list",data:=.seq its.toArray n}/\xs.length<=sizeLine:=by
 obtain⟨z,its,n,r,e⟩:=I.ao p _ h;exact⟨its,n,r,e,z⟩
def Inv.Rk{U:List (Addr × Obj)}{σ:St}{xs ys:List V}{its its':List Value}{n n':Nat}(I:Inv X U σ H s)(h:H p=some (.lst xs))(ho:s.heap.get? p=some {cls:=.type "list",data:=.seq its.toArray n})(hf:f {cls:=.type "list",data:=.seq its.toArray n}={cls:=.type "list",data:=.seq its'.toArray n'})(r:Vals ys its')(hz:ys.length<=sizeLine)(t:Nat):Inv X U σ (upd H p (.lst ys)) {s with heap:=s.heap.update p f,toks:=t}:=by
 have e:(s.heap.update p f).get? p=some {cls:=.type "list",data:=.seq its'.toArray n'}:=by
  rw[ybs f ho (by rw[hf]<;>rfl),hf]
 refine I.write (x:=p) (e:=p) (by rw[h];trivial) (.inl Z) (λb u hb q=>(ybK _ _ (Ne.symm hb)).trans q) ⟨_,e⟩ ?_;exact⟨hz,its',n',r,e⟩
def Rl:V->V->V->Hp->(Hp->Prop)->Prop:=λo i v H Q=>∃p xs k j,o=.ref p/\i=.int k/\H p=some (.lst xs)/\iZ xs.length k=some j/\Q (upd H p (.lst (xs.set j v)))
def set_list:Lr X Rl:=by
 intro U s σ H o i v ov iv u Q I ro ri rv h;obtain⟨p,xs,k,j,rfl,rfl,hp,hj,q⟩:=h;cases ro;obtain⟨t,rfl⟩:=ri;obtain⟨its,n,r,ho,hz⟩:=I.lst hp;obtain⟨h1,h2,h3,h4⟩:=wf hj;have hl:=r.length;have hn:=Xf;have I':Inv X U σ (upd H p (.lst (xs.set j v))) {s with heap:=s.heap.update p (Obj.mapSeq (·.setIfInBounds j u))}:=
  I.Rk hp ho (xI its n j u) (r.set rv j) (by rw[List.length_set];exact hz) s.toks
 by_cases h0:0<=k
 .have hk:k.toNat=j:=by
   rw[seqIndex_of h0 h4]at h1;exact tP h1
  exact ki_setAt ho h0 (by lia) (by rw[lF, <-hl];exact h4) (by rw[hk];exact⟨_,I',q⟩)
 .have hk:(k+(its.toArray.size:Int)).toNat=j:=by
   rw[seqIndex_neg (by lia) h3]at h1;rw[lF, <-hl];exact tP h1
  exact ki_setBack ho (by lia) (by rw[lF, <-hl];exact h3) (by lia) (by rw[hk];exact⟨_,I',q⟩)
def qK(lo hi:Option Int)(n:Nat):(sliceBounds lo hi none n).1=((HT.aJ n 0 lo:Nat):Int)/\(sliceBounds lo hi none n).2.1=((HT.aJ n n hi:Nat):Int)/\(sliceBounds lo hi none n).2.2=1:=by
 refine⟨?_,?_,Z⟩
 .cases lo with
  |none=>simp[sliceBounds,HT.aJ]
  |some i=>
   simp only[sliceBounds,HT.aJ,Option.getD_none,show(1:Int)>0 by lia,ybM]
   by_cases h:i<0
   .simp only[h,ybM]<;>lia
   .simp only[h,yaL]<;>lia
 .cases hi with
  |none=>simp[sliceBounds,HT.aJ]
  |some i=>
   simp only[sliceBounds,HT.aJ,Option.getD_none,show(1:Int)>0 by lia,ybM]
   by_cases h:i<0
   .simp only[h,ybM]<;>lia
   .simp only[h,yaL]<;>lia
def Uh(its:List Value)(lo hi:Option Int):slicePick its.toArray lo hi none=((its.drop (HT.aJ its.length 0 lo)).take (HT.aJ its.length its.length hi-HT.aJ its.length 0 lo)).toArray:=by
 obtain⟨h1,h2,h3⟩:=qK lo hi its.toArray.size;unfold slicePick;rw[h1,h2,h3];simp only[sliceRange_one,pick_run,lF]<;>rfl
inductive i3 (K:Frag) (x:V) (lo:Option Int) (hi:Option Int) (H:Hp) (Q:VK):Prop
 |mk (a xs):x=.ref a->aE K H a xs->(∀p,H p=none->Q (.ref p) (upd H p (.lst (qx xs lo hi))))->i3 K x lo hi H Q
def jR:BS X (i3 X.K):=by
 intro U s σ H x v vl vu lo hi sl Q I rx hs pl pu h;obtain⟨a,xs,rfl,hx,q⟩:=h;cases rx;obtain⟨its,r,ht,hz⟩:=I.list hx;have hlen:=r.length;exists "list",_,slot_list_getitem.lookup,ht.isList.typeIs;refine wpAny_getItem_list_slice ht.isList hs pl pu .none (by simp) ?_ (by rw[lF]<;>lia);rw[Uh, <-hlen];refine⟨.ref s.heap.objs.size,_,I.laid (t':=s.toks) (o:=.lst (qx xs lo hi)) (λb ob q=>yab _ q) (tO _) ?_,Z,q _ (I.ao.fresh (tO _))⟩;exact⟨yao (Vz xs lo hi) hz,_,0,(r.drop (HT.aJ xs.length 0 lo)).take (HT.aJ xs.length xs.length hi-HT.aJ xs.length 0 lo),yag _ rfl⟩
noncomputable def VA:V->Bool
 | .aq=>true
 | .bl _=>true
 | .int _=>true
 | .str _=>true
 |_=>false
noncomputable def i4:V->V->Bool
 | .aq,.aq=>true
 | .bl a,.bl b=>a==b
 | .bl a,.int b=>(if a then 1 else 0)==b
 | .int a,.bl b=>a==(if b then 1 else 0)
 | .int a,.int b=>a==b
 | .str a,.str b=>a==b
 |_,_=>false
def Rm(ry:RelV y u)(rx:RelV x v)(fy:VA y=true)(fx:VA x=true):SeqAt.EqAt A s u v (i4 y x):=by
 cases y with
 |aq=>
  cases ry;cases x with
  |aq=>cases rx;exact SeqAt.EqAt.same _
  |bl b=>cases rx;exact SeqAt.EqAt.none_bool b
  |int b=>obtain⟨t,rfl⟩:=rx;exact SeqAt.EqAt.none_int b t
  |str b=>obtain⟨t,rfl⟩:=rx;exact SeqAt.EqAt.none_str b t
  |_=>exact absurd (show false=true from fx) yal
 |bl a=>
  cases ry;cases x with
  |aq=>cases rx;exact SeqAt.EqAt.bool_none a
  |bl b=>cases rx;exact SeqAt.EqAt.bool_bool a b
  |int b=>obtain⟨t,rfl⟩:=rx;exact SeqAt.EqAt.bool_int a b t
  |str b=>obtain⟨t,rfl⟩:=rx;exact SeqAt.EqAt.bool_str a b t
  |_=>exact absurd (show false=true from fx) yal
 |int a=>
  obtain⟨t',rfl⟩:=ry;cases x with
  |aq=>cases rx;exact SeqAt.EqAt.int_none a t'
  |bl b=>cases rx;exact SeqAt.EqAt.int_bool a t' b
  |int b=>obtain⟨t,rfl⟩:=rx;exact SeqAt.EqAt.int_int a t' b t
  |str b=>obtain⟨t,rfl⟩:=rx;exact yec a t' b t
  |_=>exact absurd (show false=true from fx) yal
 |str a=>
  obtain⟨t',rfl⟩:=ry;cases x with
  |aq=>cases rx;exact SeqAt.EqAt.str_none a t'
  |bl b=>cases rx;exact SeqAt.EqAt.str_bool a t' b
  |int b=>obtain⟨t,rfl⟩:=rx;exact yed a t' b t
  |str b=>obtain⟨t,rfl⟩:=rx;exact SeqAt.EqAt.str_str a t' b t
  |_=>exact absurd (show false=true from fx) yal
 |_=>exact absurd (show false=true from fy) yal
noncomputable def eJ(x:V)(u:Value):Bool:=match u with
 | .none=>i4 .aq x
 | .bool b=>i4 (.bl b) x
 | .int i _=>i4 (.int i) x
 | .str z _=>i4 (.str z) x
 |_=>false
def LS(r:RelV y u)(f:VA y=true):eJ x u=i4 y x:=by
 cases y with
 |aq=>cases r;rfl
 |bl b=>cases r;rfl
 |int i=>obtain⟨t,rfl⟩:=r;rfl
 |str z=>obtain⟨t,rfl⟩:=r;rfl
 |_=>exact absurd (show false=true from f) yal
theorem VB:∀{xs:List V}{us:List Value},Vals xs us->xs.all VA=true->us.any (eJ x)=xs.any λy=>i4 y x
 |_,_,.nil,_=>rfl
 |y::xs,u::us,.cons r t,f=>by
  rw[yew,yay]at f;rw[yda,yda,LS r f.1,VB t f.2]
theorem Wb(rx:RelV x v)(fx:VA x=true):∀{xs:List V}{us:List Value},Vals xs us->xs.all VA=true->∀u∈us,SeqAt.EqAt A s u v (eJ x u)
 |_,_,.nil,_=>λu hu=>by cases hu
 |y::xs,u::us,.cons r t,f=>λu' hu=>by
  rw[yew,yay]at f;rcases yak.mp hu with rfl|hu
  .rw[LS r f.1];exact Rm r rx f.1 fx
  .exact Wb rx fx t f.2 u' hu
noncomputable def i5(x:V)(xs:List V):Bool:=xs.any λy=>i4 y x
inductive AS (K:Frag) (neg:Bool) (x:V) (y:V) (H:Hp) (Q:VK):Prop
 |mk (p xs):y=.ref p->(aE K H p xs\/aw K H p xs)->VA x=true->xs.all VA=true->Q (.bl (if neg then !i5 x xs else i5 x xs)) H->AS K neg x y H Q
def wg:aW X (compareOp .In) (AS X.K false):=by
 intro U s σ H x y v u Q I rx ry h;obtain⟨p,xs,rfl,hq,fx,fs,q⟩:=h;cases ry;rcases hq with hq|hq
 .obtain⟨its,r,pl,hz⟩:=I.list hq;refine SeqAt.in_listAt (eJ x) pl.isList (λw hw=>Wb rx fx r fs w (by simpa using hw)) ⟨.bl _,H,I,Z,?_⟩;rw[show its.toArray.any (eJ x)=its.any (eJ x) by simp,VB r fs];exact q
 .obtain⟨its,r,pl,hz⟩:=I.tuple hq;refine SeqAt.in_tupleAt (eJ x) pl (λw hw=>Wb rx fx r fs w (by simpa using hw)) ⟨.bl _,H,I,Z,?_⟩;rw[show its.toArray.any (eJ x)=its.any (eJ x) by simp,VB r fs];exact q
def ZU:aW X (compareOp .NotIn) (AS X.K true):=by
 intro U s σ H x y v u Q I rx ry h;obtain⟨p,xs,rfl,hq,fx,fs,q⟩:=h;cases ry;rcases hq with hq|hq
 .obtain⟨its,r,pl,hz⟩:=I.list hq;refine SeqAt.notIn_listAt (eJ x) pl.isList (λw hw=>Wb rx fx r fs w (by simpa using hw)) ⟨.bl _,H,I,Z,?_⟩;rw[show its.toArray.any (eJ x)=its.any (eJ x) by simp,VB r fs];exact q
 .obtain⟨its,r,pl,hz⟩:=I.tuple hq;refine SeqAt.notIn_tupleAt (eJ x) pl (λw hw=>Wb rx fx r fs w (by simpa using hw)) ⟨.bl _,H,I,Z,?_⟩;rw[show its.toArray.any (eJ x)=its.any (eJ x) by simp,VB r fs];exact q
def QI:Ww X (.builtin "len") (λxs H Q=>∃p ys,xs=[.ref p]/\(aE X.K H p ys\/aw X.K H p ys)/\Q (.int ys.length) H):=by
 intro U s σ H xs us Q I r h;obtain⟨p,ys,rfl,hq,q⟩:=h;obtain⟨u,rfl,rx⟩:=vals1 r;cases rx;have hn:=Xf;rcases hq with hq|hq
 .obtain⟨its,r',pl,hz⟩:=I.list hq;have hlen:=r'.length;exact Calls.call_len_list pl.isList (by simp only[lF]<;>lia) ⟨.int ys.length,H,I.tok _,⟨s.toks+1,by rw[lF,hlen]⟩,q⟩
 .obtain⟨its,r',pl,hz⟩:=I.tuple hq;have hlen:=r'.length;exact len_tuple pl (by simp only[lF]<;>lia) ⟨.int ys.length,H,I.tok _,⟨s.toks+1,by rw[lF,hlen]⟩,q⟩
def Q9:Ww X (.builtin "len") (λxs H Q=>∃z,xs=[.str z]/\z.length<=sizeLine/\Q (.int z.length) H):=by
 intro U s σ H xs us Q I r h;obtain⟨z,rfl,hz,q⟩:=h;obtain⟨u,rfl,t,rfl⟩:=vals1 r;have hn:=Xf;exact len_str (by lia) ⟨.int z.length,H,I.tok _,⟨_,Z⟩,q⟩
def LU(K:Frag)(T:String)(x:V)(H:Hp):Prop:=match x with
 | .str _=>T="str"
 | .int _=>T="int"
 | .ref p=>(T="list"/\∃xs,aE K H p xs)\/(T="tuple"/\∃o,K.lookup p=some o/\o.cls=.type "tuple"/\o.dict=none)\/
   (T="dict"/\((∃al,H p=some (.dK al))\/∃al,H p=some (.dT al)))\/(T="set"/\∃S n,H p=some (.set S n))\/(T="tuple"/\∃xs,H p=some (.tup xs))
 |_=>False
def LV{U:List (Addr × Obj)}{σ:St}{T:String}{x:V}(I:Inv X U σ H s)(r:RelV x v)(ty:LU X.K T x H):s.TypeIs v T/\∀a,v=.ref a->∃ob,s.heap.get? a=some ob/\ob.dict=none:=by
 cases x with
 |str z=>
  obtain⟨t,rfl⟩:=r;cases(show T="str" from ty);exact⟨ydK s z t,λ_ e=>nomatch e⟩
 |int i=>
  obtain⟨t,rfl⟩:=r;cases(show T="int" from ty);exact⟨typeIs_int s i t,λ_ e=>nomatch e⟩
 |ref p=>
  cases r;rcases ty with⟨rfl,xs,hq⟩|⟨rfl,o,hk,hc,hd⟩|⟨rfl,hk⟩|⟨rfl,S,n,hk⟩|⟨rfl,xs,hk⟩
  .obtain⟨its,_,pl,_⟩:=I.list hq;refine⟨pl.isList.typeIs,λa e=>?_⟩;cases e;obtain⟨o,n,e,c,hd,_⟩:=pl;exact⟨o,e,hd⟩
  .refine⟨⟨o,I.bH p o hk,hc⟩,λa e=>?_⟩;cases e;exact⟨o,I.bH _ o hk,hd⟩
  .have z:∃o,s.heap.get? p=some o/\o.ExactDict:=by
    rcases hk with⟨al,hk⟩|⟨al,hk⟩
    .obtain⟨_,_,_,_,o,_,_,e,ex,_⟩:=I.ao p _ hk;exact⟨o,e,ex⟩
    .obtain⟨_,_,_,_,o,_,_,e,ex,_⟩:=I.ao p _ hk;exact⟨o,e,ex⟩
   obtain⟨o,e,ex⟩:=z;refine⟨⟨o,e,ex.1⟩,λa e2=>?_⟩;cases e2;exact⟨o,e,ex.2.1⟩
  .obtain⟨o,_,_,_,e,ex,_⟩:=I.ao p _ hk;refine⟨⟨o,e,ex.1⟩,λa e2=>?_⟩;cases e2;exact⟨o,e,ex.2.1⟩
  .obtain⟨_,its,_,o,h1,h2,n,h3,h4⟩:=(show JJ X.prog X.w H s.heap p (.tup xs)from I.ao p _ hk);exact⟨⟨o,h1,h2⟩,λa e=>by cases e;exact⟨o,h1,h4⟩⟩
 |_=>exact False.elim ty
inductive F0 (K:Frag) (T:String) (N:VK) (x:V) (H1:Hp):Prop
 |mk:LU K T x H1->N x H1->F0 K T N x H1
def Rn(K:Frag)(T:String)(r:V->List V->Hp->VK->Prop)(to:TE):TE:=λσ H Q=>to σ H (F0 K T λx H1=>r x [] H1 Q)
def Ej(K:Frag)(T:String)(r:V->List V->Hp->VK->Prop)(to:TE)(t:TA):TE:=λσ H Q=>to σ H (F0 K T λx H1=>t σ H1 λxs H2=>r x xs H2 Q)
variable {to:TE}{name:Str}{apos ce:Pos}{id:String}
def zD(pa:PlainAttrs T)(slot:Slot T name id)(BX:typeOf (.builtin id)=pure (.type "method_descriptor"))(hm:fQ X id r)(ho:PE X o to)(AT:attributeBase o name X.env (eval o X.env)=eval o X.env:=by rfl)(lw:(apos.endLine==ce.line)=true:=by rfl):PE X (.Call (.Attribute o name apos) [] [] ce) (Rn X.K T r to):=by
 intro U s σ H Q I h;refine wpAny_Call_method0_late AT lw (ax (ho U s σ H _ I h) λv s1⟨x,H1,I1,r1,ty,q1⟩=>?_);obtain⟨h1,h2⟩:=LV I1 r1 ty;exact⟨T,id,pa,slot,BX,h1,h2,ycq rfl (PySem.evalArgs_none (hm U s1 σ H1 x [] v [] Q I1 r1 .nil q1))⟩
def JN(pa:PlainAttrs T)(slot:Slot T name id)(BX:typeOf (.builtin id)=pure (.type "method_descriptor"))(hm:fQ X id r)(ho:PE X o to)(ha:PA X (e::es) t)(AT:attributeBase o name X.env (eval o X.env)=eval o X.env:=by rfl)(F2:((backTo ce (starEach (e::es) X.env)).all (λx=> !x.1)&&(backToKw ce (keywordEach [] X.env)).all (λx=>x.1.isSome)
   &&decide ((e::es).length+([]:List Keyword).length+(if([]:List Keyword).isEmpty then 0 else 1)<30))=true:=by rfl)(lw:(apos.endLine==ce.line)=true:=by rfl)(hs:starEach (e::es) X.env=(false,eval e X.env)::starEach es X.env:=by rfl)(sN:(backTo ce (starEach es X.env)).any (·.1)=false:=by rfl):
  PE X (.Call (.Attribute o name apos) (e::es) [] ce) (Ej X.K T r to t):=by
 intro U s σ H Q I h;refine wpAny_Call_method_late AT F2 lw rfl (ax (ho U s σ H _ I h) λv s1⟨x,H1,I1,r1,ty,q1⟩=>?_);obtain⟨h1,h2⟩:=LV I1 r1 ty;exists T,id,pa,slot,BX,h1,h2;have hA:=ha ce U s1 σ H1 _ I1 q1;rw[hs]at hA ⊢;refine ycq (by show(false||(backTo ce (starEach es X.env)).any (·.1))=false;rw[sN]<;>rfl) (ycG ?_);exact ax hA λus s2⟨vs,H2,I2,r2,q2⟩=>hm U s2 σ H2 x vs v us Q I2 r1 r2 q2
end
def F4(X:Cx)(id:String)(r:V->List V->Hp->VK->Prop):Prop:=
 ∀(U:List (Addr × Obj))(s:Shared)(σ:St)(H:Hp)(x:V)(xs:List V)(v:Value)(us:List Value)(Q:VK),Inv X U σ H s->RelV x v->Vals xs us->r x xs H Q->
  wpAny (model X.prog X.w) X.A (call (.builtin id) (v::us)) (EP X U σ Q) X.xe s
theorem Vals.one:∀{x:V}{us:List Value},Vals [x] us->∃u,us=[u]/\RelV x u
 |_,_,.cons r .nil=>⟨_,Z,r⟩
theorem Vals.zero:∀{us:List Value},Vals [] us->us=[]
 |_,.nil=>rfl
theorem Vals.dropLast{xs:List V}{us:List Value}(h:Vals xs us):Vals xs.dropLast us.dropLast:=by
 induction h with
 |nil=>exact .nil
 |cons r t ih=>
  cases t with
  |nil=>exact .nil
  |cons q t'=>exact .cons r ih
theorem Vals.rep{xs:List V}{us:List Value}(h:Vals xs us):∀k:Nat,Vals (replicate k xs).flatten (replicate k us).flatten
 |0=>.nil
 |k+1=>by
  rw[yar,yar,yaI,yaI];exact Vals.append h (Vals.rep h k)
def xJ{α:Type}(l:List α):l.eraseIdx (l.length-1)=l.dropLast:=by
 induction l with
 |nil=>rfl
 |cons a r ih=>
  cases r with
  |nil=>rfl
  |cons b r=>
   have e:(a::b::r).length-1=((b::r).length-1)+1:=by
    have h1:(a::b::r).length=r.length+2:=rfl;have h2:(b::r).length=r.length+1:=rfl;lia
   rw[e,List.eraseIdx_cons_succ,ih]
   all_goals rfl
theorem foldl_rep(its:List Value):∀(k:Nat)(acc:List Value),
  List.foldl (λx1 x2=>x1++x2) acc.toArray (replicate k its.toArray)=(acc++(replicate k its).flatten).toArray
 |0,acc=>by simp
 |k+1,acc=>by
  have e:acc.toArray++its.toArray=(acc++its).toArray:=by simp
  have e2:(acc++its)++(replicate k its).flatten=acc++(replicate (k+1) its).flatten:=by
   rw[yar,yaI,lu]
  rw[<-e2, <-foldl_rep its k (acc++its), <-e,yar,ydb]
section
variable {X:Cx}{U:List (Addr × Obj)}{σ:St}{H:Hp}{s:Shared}{l:Addr}{xs ys zs:List V}
def Inv.F9{its its':List Value}{n:Nat}{t':Nat}(I:Inv X U σ H s)(hH:H l=some (.lst xs))(e:s.heap.get? l=some {cls:=.type "list",data:=.seq its.toArray n})(hf:f its.toArray=its'.toArray)(hv:Vals ys its')(hz:ys.length<=sizeLine):Inv X U σ (upd H l (.lst ys)) {s with heap:=s.heap.update l (Obj.mapSeq f),toks:=t'}:=by
 have q:=PySem.IsL.update e f;rw[hf]at q;refine I.write (x:=l) (e:=l) (by rw[hH];exact trivial) (.inl Z) (λb' u hb hu=>(ybK s.heap (Obj.mapSeq f) (Ne.symm hb)).trans hu) ⟨_,q⟩ ?_;exact⟨hz,its',_,hv,q⟩
def Inv.Ro(I:Inv X U σ H s)(hv:Vals ys its)(hz:ys.length<=sizeLine):Inv X U σ (upd H s.heap.objs.size (.lst ys)) {s with heap:=s.heap.push {cls:=.type "list",data:=.seq its.toArray},toks:=t'}:=
 I.laid (λ_ _ q=>yab _ q) (tO _) ⟨hz,its,0,hv,yag _ rfl⟩
theorem Inv.fresh(I:Inv X U σ H s):H s.heap.objs.size=none:=I.ao.fresh (tO _)
def Inv.AU(I:Inv X U σ H s)(hH:H l=some (.lst xs)):xs.length<=sizeLine/\∃(its:List Value)(n:Nat),Vals xs its/\xs.length=its.length/\s.heap.get? l=some {cls:=.type "list",data:=.seq its.toArray n}:=by
 obtain⟨z,its,n,r,e⟩:=I.ao l _ hH;exact⟨z,its,n,r,r.length,e⟩
def zE(h:n<=sizeLine):Builtin.List.listTooLong n=false:=by
 unfold Builtin.List.listTooLong;exact tM (by lia)
end
section
inductive eO (x:V) (vs:List V) (H:Hp) (Q:VK):Prop
 |mk (l xs y):x=.ref l->vs=[y]->H l=some (.lst xs)->xs.length<sizeLine->Q .aq (upd H l (.lst (xs++[y])))->eO x vs H Q
def JO:F4 X "list.append" eO:=by
 intro U s σ H x vs v us Q I rx rv h;obtain⟨l,xs,y,rfl,rfl,hH,hz,q⟩:=h;cases rx;obtain⟨u,rfl,ru⟩:=rv.one;obtain⟨z,its,n,r,hl,e⟩:=I.AU hH;refine yet F.slot_list_append ⟨_,e,Z⟩ F.entry_list_append (F.args_list_append_2 _ _) (PySem.list_append l its.toArray n u (by rw[lF];lia)) ⟨e,?_⟩;refine⟨.aq,_,I.F9 (its':=its++[u]) hH e (by simp) (r.append (.cons ru .nil)) ?_,Z,q⟩;rw[tK,tQ];lia
inductive eP (x:V) (vs:List V) (H:Hp) (Q:VK):Prop
 |mk (l b xs zs):x=.ref l->vs=[.ref b]->H l=some (.lst xs)->H b=some (.lst zs)->xs.length+zs.length<=sizeLine->Q .aq (upd H l (.lst (xs++zs)))->eP x vs H Q
def Wc:F4 X "list.extend" eP:=by
 intro U s σ H x vs v us Q I rx rv h;obtain⟨l,b,xs,zs,rfl,rfl,hH,hB,hz,q⟩:=h;cases rx;obtain⟨u,rfl,ru⟩:=rv.one;cases ru;obtain⟨z,its,n,r,hl,e⟩:=I.AU hH;obtain⟨z2,ci,n2,r2,AV,e2⟩:=I.AU hB;have hsz:its.toArray.size+ci.toArray.size<=sizeLine:=by rw[lF,lF];lia
 have fS:¬ (!its.toArray.isEmpty&&Builtin.List.listTooLong (its.toArray.size+ci.toArray.size))=true:=by
  rw[zE hsz,yen];exact yal
 refine yet F.slot_list_extend ⟨_,e,Z⟩ F.entry_list_extend (F.args_list_extend_2 _ _)
  (AutoSeq1.list_extend_list_list_0 l its.toArray n b ci.toArray n2 fS (by rw[lF];lia) (by lia)) ⟨e,e2,?_⟩
 refine⟨.aq,_,I.F9 (its':=its++ci) hH e (by simp) (r.append r2) ?_,Z,q⟩;rw[tK];lia
inductive BY (x:V) (vs:List V) (H:Hp) (Q:VK):Prop
 |mk (l xs y):x=.ref l->vs=[]->H l=some (.lst xs)->xs[xs.length-1]? =some y->Q y (upd H l (.lst xs.dropLast))->BY x vs H Q
def zF:F4 X "list.pop" BY:=by
 intro U s σ H x vs v us Q I rx rv h;obtain⟨l,xs,y,rfl,rfl,hH,hy,q⟩:=h;cases rx;have Rp:=rv.zero;subst Rp;obtain⟨z,its,n,r,hl,e⟩:=I.AU hH;obtain⟨u,hu,ru⟩:=r.get hy;have Rq:its.toArray[its.toArray.size-1]? =some u:=by
  show its.toArray[its.length-1]? =some u;rw[<-yeP, <-hl];exact hu
 refine yet F.slot_list_pop ⟨_,e,Z⟩ F.entry_list_pop (F.args_list_pop_1 _) (MeetsSeq.list_pop_last l its.toArray n u Rq (by rw[lF];lia)) ⟨e,?_⟩;refine⟨y,_,I.F9 (its':=its.dropLast) hH e ?_ r.dropLast ?_,ru,q⟩
 .show its.toArray.eraseIdxIfInBounds (its.toArray.size-1)=its.dropLast.toArray;rw[lF,List.eraseIdxIfInBounds_toArray,xJ]
 .rw[ybX];lia
inductive BZ (x:V) (y:V) (H:Hp) (Q:VK):Prop
 |mk (l k xs):x=.ref l->y=.int k->H l=some (.lst xs)-> -(2^63)<=k->k<2^63->xs.length*k.toNat<=sizeLine->(∀p,H p=none->Q (.ref p) (upd H p (.lst (replicate k.toNat xs).flatten)))->BZ x y H Q
def len_rep{α:Type}(xs:List α)(k:Nat):(replicate k xs).flatten.length=k*xs.length:=by
 induction k with
 |zero=>simp
 |succ k ih=>rw[yar,yaI,tK,ih,Nat.succ_mul,Nat.add_comm]
def Rr:aW X (binaryOp .Mult) BZ:=by
 intro U s σ H x y v u Q I rx ry h;obtain⟨l,k,xs,rfl,rfl,hH,h1,h2,hz,q⟩:=h;cases rx;obtain⟨t,rfl⟩:=ry;obtain⟨z,its,n,r,hl,e⟩:=I.AU hH;have hlen:its.toArray.size*k.toNat<=sizeLine:=by rw[lF, <-hl];exact hz
 have F':¬ its.toArray.size*k.toNat>(2^63-1)/8:=by
  have:(sizeLine:Nat)<=(2^63-1)/8:=by lia
  lia
 have sO:¬ (!Builtin.List.listFitsIndex k)=true:=by
  rw[fitsIndex_both h1 h2];exact yal
 have fS:¬ Builtin.List.listTooLong (its.toArray.size*k.toNat)=true:=by
  rw[zE hlen];exact yal
 have Ga:List.foldl (λx1 x2=>x1++x2) #[] (replicate (if its.toArray.isEmpty=true then 0 else k.toNat) its.toArray)=(replicate k.toNat its).flatten.toArray:=by
  have f0:∀m:Nat,List.foldl (λx1 x2=>x1++x2) #[] (replicate m its.toArray)=(replicate m its).flatten.toArray:=λm=>by
   have:=foldl_rep its m [];rw[lA]at this;exact this
  rw[f0];cases its with
  |nil=>simp
  |cons a r'=>rw[yah (by simp)]
 refine wpAny_binaryOp_repeat_ref (T:="list") (U:="int") (by lia) ⟨_,e,Z⟩ (λs'=>typeIs_int s' k t) noFill_list_mul F.fills_int_mul F.slot_int_rmul repeat_list F.slot_int_index.lookup
  (yet F.slot_int_rmul (typeIs_int s k t) F.entry_int_rmul (F.args_int_rmul_2 _ _) (int___rmul___int_list k t l its.toArray n)
   ⟨e,Z,⟨_,e,Z⟩,yet F.slot_list_mul ⟨_,e,Z⟩ F.entry_list_mul (F.args_list_mul_2 _ _) (AutoListH.list___mul___list_int_3 l its.toArray n k t sO F' fS) ⟨e,?_⟩⟩)
 rw[Ga];exact⟨.ref _,_,I.Ro (t':=s.toks) (r.rep k.toNat) (by rw[len_rep,ybP];exact hz),Z,q _ I.fresh⟩
end
section
variable {κ:Type}[DecidableEq κ]
noncomputable def Vf(al:List (κ × V))(k:κ):Option V:=(al.find? λkv=>decide (kv.1=k)).map (·.2)
noncomputable def putK(al:List (κ × V))(k:κ)(v:V):List (κ × V):=
 if(al.any λkv=>decide (kv.1=k))=true then al.map (λkv=>if kv.1=k then(kv.1,v)else kv)else al++[(k,v)]
def Wd{r:List (κ × V)}(e:p.1=k):Vf (p::r) k=some p.2:=by simp[Vf,ycd,e]
def Vj{r:List (κ × V)}(e:¬ p.1=k):Vf (p::r) k=Vf r k:=by simp[Vf,ycd,e]
theorem zG(k:κ):∀al:List (κ × V),(al.any λkv=>decide (kv.1=k))=(Vf al k).isSome
 |[]=>rfl
 |p::r=>by
  rw[yda]
  by_cases e:p.1=k
  .simp only[Wd e,tN e,Bool.true_or,Option.isSome_some]
  .rw[Vj e,tM e,yfb];exact zG k r
def Ky(al:List (κ × V))(k:κ)(v:V):(putK al k v).length<=al.length+1:=by
 unfold putK
 split
 .rw[tL];lia
 .rw[tK,tR,yaS];lia
def Y8.VC(r:Y8 o u):o.isSome=u.isSome:=by
 cases o with
 |none=>cases u with
  |none=>rfl
  |some _=>exact(show False from r).elim
 |some _=>cases u with
  |none=>exact(show False from r).elim
  |some _=>rfl
theorem Y8.getD(r:Y8 o u)(rd:RelV d d'):RelV (o.getD d) (u.getD d'):=by
 cases o with
 |none=>cases u with
  |none=>exact rd
  |some _=>exact(show False from r).elim
 |some _=>cases u with
  |none=>exact(show False from r).elim
  |some _=>exact r
def KV.val{al:List (κ × V)}(r:KV al vs)(k:κ):Y8 (Vf al k) (valueAt vs k):=by
 unfold KV at r
 induction r with
 |nil=>exact True.intro
 |@cons p q ps qs h t ih=>
  obtain⟨h1,h2⟩:=h
  by_cases e:p.1=k
  .have e':q.1=k:=h1.symm.trans e;have b:valueAt (q::qs) k=some q.2:=by simp[valueAt,ycd,e']
   rw[Wd e,b];exact h2
  .have e':¬ q.1=k:=λz=>e (h1.trans z);have b:valueAt (q::qs) k=valueAt qs k:=by simp[valueAt,ycd,e']
   rw[Vj e,b];exact ih
theorem KV.any{al:List (κ × V)}(r:KV al vs)(k:κ):(al.any λkv=>decide (kv.1=k))=vs.any λkv=>decide (kv.1=k):=by
 unfold KV at r
 induction r with
 |nil=>rfl
 |cons h t ih=>rw[yda,yda,ih,h.1]
def KV.Gb{al:List (κ × V)}(r:KV al vs)(k:κ)(ry:RelV y u):KV (al.map λkv=>if kv.1=k then(kv.1,y)else kv) (vs.map λkv=>if kv.1=k then(kv.1,u)else kv):=by
 unfold KV at r ⊢
 induction r with
 |nil=>exact .nil
 |@cons p q ps qs h t ih=>
  rw[lD,lD];refine .cons ?_ ih;obtain⟨h1,h2⟩:=h
  by_cases e:p.1=k
  .rw[yai e,yai (h1.symm.trans e)];exact⟨h1,ry⟩
  .rw[yah e,yah (λz=>e (h1.trans z))];exact⟨h1,h2⟩
def KV.put{al:List (κ × V)}(r:KV al vs)(k:κ)(ry:RelV y u):KV (putK al k y) (stored vs k u):=by
 unfold putK stored;rw[r.any k]
 by_cases e:(vs.any λkv=>decide (kv.1=k))=true
 .rw[yai e,yai e];exact r.Gb k ry
 .rw[yah e,yah e];exact Paired.snoc r ⟨Z,ry⟩
theorem KV.length{al:List (κ × V)}(r:KV al vs):al.length=vs.length:=yeu r
end
def qL(r:RelV (kV k) u):(QY P w).is k u=true:=by
 cases k with
 |inl i=>obtain⟨t,e⟩:=(show ∃t,u=Value.int i t from r);subst e;exact jL P w i t
 |inr x=>obtain⟨t,e⟩:=(show ∃t,u=Value.str x t from r);subst e;exact Ju P w x t
theorem qM:∀{ks:List Key}{us:List Value},Vals (ks.map kV) us->ItemsAre (QY P w) ks us
 |[],_,r=>by rw[ydt]at r;cases r;exact .nil
 |k::ks,_,r=>by
  rw[lD]at r;cases r with
  |cons h t=>exact .cons (qL h) (qM t)
abbrev KT(H:Hp):List (List Key × V)->List (List Key × Addr × Value)->Prop:=Paired λp q=>p.1=q.1/\H q.2.1=some (.tup (p.1.map kV))/\RelV p.2 q.2.2
def KT.val{al:List (List Key × V)}{xs:List (List Key × Addr × Value)}(r:KT H al xs)(k:List Key):Y8 (Vf al k) ((atKey xs k).map (·.2)):=by
 induction r with
 |nil=>exact True.intro
 |@cons p q ps qs h t ih=>
  obtain⟨h1,_,h2⟩:=h
  by_cases e:p.1=k
  .have e':q.1=k:=h1.symm.trans e;have b:atKey (q::qs) k=some q.2:=by simp[atKey,ycd,e']
   rw[Wd e,b];exact h2
  .have e':¬ q.1=k:=λz=>e (h1.trans z);have b:atKey (q::qs) k=atKey qs k:=by simp[atKey,ycd,e']
   rw[Vj e,b];exact ih
def KT.Gb{al:List (List Key × V)}{xs:List (List Key × Addr × Value)}(r:KT H al xs)(k:List Key)(ry:RelV y u):KT H (al.map λkv=>if kv.1=k then(kv.1,y)else kv) (xs.map (putAt k u)):=by
 induction r with
 |nil=>exact .nil
 |@cons p q ps qs h t ih=>
  rw[lD,lD];refine .cons ?_ ih;obtain⟨h1,h2,h3⟩:=h;unfold putAt
  by_cases e:p.1=k
  .rw[yai e,yai (h1.symm.trans e)];exact⟨h1,h2,ry⟩
  .rw[yah e,yah (λz=>e (h1.trans z))];exact⟨h1,h2,h3⟩
def KT.put{al:List (List Key × V)}{xs:List (List Key × Addr × Value)}(r:KT H al xs)(k:List Key)(hb:H b=some (.tup (k.map kV)))(ry:RelV y u):KT H (putK al k y) (storedH xs k b u):=by
 have e:(al.any λkv=>decide (kv.1=k))=(atKey xs k).isSome:=by
  rw[zG,(r.val k).VC,Option.isSome_map]
 unfold putK storedH;rw[e]
 by_cases q:(atKey xs k).isSome=true
 .rw[yai q,yai q];exact r.Gb k ry
 .rw[yah q,yah q];exact Paired.snoc r ⟨Z,hb,ry⟩
def KT.keeps{al:List (List Key × V)}{xs:List (List Key × Addr × Value)}(r:KT H al xs)(ht:∀b ys,H b=some (.tup ys)->H' b=some (.tup ys)):KT H' al xs:=
 Paired.Fv r λ_ _ z=>⟨z.1,ht _ _ z.2.1,z.2.2⟩
section
def LW(ok:bG P w H h)(e:Rd H a u):JJ P w H h a u:=e.ok ok
def wj{al:List (Key × V)}(ok:bG P w H h)(e:Rd H a (.dK al)):al.length<=sizeLine/\(a==sysModules)=false/\∃vs,KV al vs/\h.DictOf (QY P w) a vs:=
 show JJ P w H h a (.dK al)from LW ok e
def LX{al:List (Key × V)}(ok:bG P w H h)(e:H a=some (.dK al)):al.length<=sizeLine/\(a==sysModules)=false/\∃vs,KV al vs/\h.DictOf (QY P w) a vs:=wj ok (.inl e)
def zH(ok:bG P w H h)(e:H a=some (.tup (ks.map kV))):(tupleKind (QY P w)).is h ks a:=by
 obtain⟨_,its,r,o,h1,h2,n,h3,_⟩:=(show JJ P w H h a (.tup (ks.map kV))from ok a _ e);exact⟨o,its.toArray,n,h1,h2,h3,by simpa using qM r⟩
def wl{al:List (List Key × V)}(ok:bG P w H h)(e:Rd H a (.dT al)):al.length<=sizeLine/\(a==sysModules)=false/\
  ∃xs,KT H al xs/\h.DictOfH (tupleKind (QY P w)) a xs:=by
 obtain⟨z,y,xs,r,o,es,ep,h1,h2,h3,h4,h5⟩:=(show JJ P w H h a (.dT al)from LW ok e);refine⟨z,y,xs,r,o,es,ep,h1,h2,h3,h4,λx hx=>?_,h5⟩;have all:∀{l:List (List Key × V)}{m:List (List Key × Addr × Value)},KT H l m->∀x∈m,(tupleKind (QY P w)).is h x.1 x.2.1:=by
  intro l m q
  induction q with
  |nil=>intro x hx;exact nomatch hx
  |@cons p q ps qs hq t ih=>
   intro x hx;rcases yak.mp hx with e|hx
   .subst e;exact zH ok (by rw[<-hq.1];exact hq.2.1)
   .exact ih x hx
 exact all r x hx
def Rt{al:List (List Key × V)}(ok:bG P w H h)(e:H a=some (.dT al)):al.length<=sizeLine/\(a==sysModules)=false/\
  ∃xs,KT H al xs/\h.DictOfH (tupleKind (QY P w)) a xs:=wl ok (.inl e)
end
def xK(H:Hp)(a:Addr)(y:V)(r:Option V):Prop:=
 (∃al k,Rd H a (.dK al)/\y=kV k/\r=Vf al k)\/∃al k b,Rd H a (.dT al)/\y=.ref b/\H b=some (.tup (k.map kV))/\r=Vf al k
def oG(H:Hp)(a:Addr)(y v:V)(H':Hp):Prop:=
 (∃al k,H a=some (.dK al)/\y=kV k/\al.length<sizeLine/\H'=upd H a (.dK (putK al k v)))\/
 ∃al k b,H a=some (.dT al)/\y=.ref b/\H b=some (.tup (k.map kV))/\al.length<sizeLine/\H'=upd H a (.dT (putK al k v))
theorem xK.k{H:Hp}{a:Addr}{al:List (Key × V)}{k:Key}(e:H a=some (.dK al)):xK H a (kV k) (Vf al k):=.inl ⟨al,k,.inl e,Z,Z⟩
theorem oG.k{H:Hp}{al:List (Key × V)}{k:Key}{v:V}(e:H a=some (.dK al))(hl:al.length<sizeLine):oG H a (kV k) v (upd H a (.dK (putK al k v))):=.inl ⟨al,k,e,Z,hl,Z⟩
section
variable {X:Cx}{U:List (Addr × Obj)}{σ:St}{H:Hp}{s:Shared}{a:Addr}{y v:V}{u r:Value}{A:Around}{E:Value->Shared->Prop}
def Inv.big(I:Inv X U σ H s):sysModules<s.heap.objs.size:=by
 have h:mainGlobals<s.heap.objs.size:=(I.mod.glob.keeps I.bk).lt;exact ybh (by lia) h
def wm(hu:A.units+1<cLine)(I:Inv X U σ H s)(g:xK H a y (some v))(ry:RelV y u)(h:∀w' s',Inv X U σ H s'->RelV v w'->Q w' s'):wpAny (model X.prog X.w) A (getItem (.ref a) u) Q E s:=by
 rcases g with⟨al,k,e,ey,l⟩|⟨al,k,b,e,ey,eb,l⟩
 .subst ey;obtain⟨z,hd,vs,rel,dd⟩:=wj I.ao e;obtain⟨w',hw,Os⟩:=Y8.some_of (v:=v) (o:=valueAt vs k) (by rw[l];exact rel.val k);exact wpAny_getItem_of (qL ry) dd.mapOf hw (h w' _ (I.tok _) Os)
 .subst ey;cases(show u=Value.ref b from ry);obtain⟨z,hd,xs,rel,dd⟩:=wl I.ao e;obtain⟨w',hw,Os⟩:=Y8.some_of (v:=v) (o:=(atKey xs k).map (·.2)) (by rw[l];exact rel.val k);obtain⟨p,hp,ut⟩:=ybo.mp hw;refine wpAny_getItem_heap (yeh hu) (zH I.ao eb) dd hp ?_;rw[ut];exact h w' _ (I.tok _) Os
def jS(I:Inv X U σ H s)(mu:BC (H a))(hs:Heap.SameBut a s.heap h')(he:∃q,h'.get? a=some q)(new:JJ X.prog X.w (upd H a ob) h' a ob):Inv X U σ (upd H a ob) {s with heap:=h',toks:=t'}:=
 I.write (x:=a) (e:=a) mu (.inl Z) (λb q hb z=>(hs.2 b hb).trans z) he new
def LY{al:List (Key × V)}(z:al.length<=sizeLine)(hd:(a==sysModules)=false)(rel:KV al vs)(dd:h'.DictOf (QY P w) a vs):JJ P w H' h' a (.dK al):=⟨z,hd,vs,rel,dd⟩
def wn(hu:A.units+1<cLine)(I:Inv X U σ H s)(g:oG H a y v H')(ry:RelV y u)(rv:RelV v r)(h:∀s',Inv X U σ H' s'->Q () s'):wpAny (model X.prog X.w) A (setItem (.ref a) u r) Q E s:=by
 rcases g with⟨al,k,e,ey,l,eH⟩|⟨al,k,b,e,ey,eb,l,eH⟩
 .subst ey eH;obtain⟨z,hd,vs,rel,dd⟩:=LX I.ao e;have hz:vs.length<=sizeLine:=by rw[<-rel.length];exact z
  have hl:(putK al k v).length<=sizeLine:=by have:=Ky al k v;lia
  refine wpAny_setItem_pairs (hsz:=hz) (qL ry) dd λh' sP hs=>h _ ?_;have he:∃q,h'.get? a=some q:=let ⟨q,_,_,hq,_⟩:=sP;⟨q,hq⟩;exact jS I (by rw[e];exact True.intro) hs he (LY hl hd (rel.put k rv) sP)
 .subst ey eH;cases(show u=Value.ref b from ry);obtain⟨z,hd,xs,rel,dd⟩:=Rt I.ao e;have hz:xs.length<=sizeLine:=by rw[<-yeu rel];exact z
  have hl:(putK al k v).length<=sizeLine:=by have:=Ky al k v;lia
  refine wpAny_setItem_heap (hsz:=hz) (yeh hu) (zH I.ao eb) dd λh' sP hs=>h _ ?_;obtain⟨q,es,ep,hq,h2,h3,h4,_,h5⟩:=sP;refine jS I (by rw[e];exact True.intro) hs ⟨q,hq⟩ ⟨hl,hd,_,(rel.put k eb rv).keeps λc ys ec=>?_,q,es,ep,hq,h2,h3,h4,h5⟩;rw[Qo (Fu ec e (λz=>nomatch z))];exact ec
end
def Gd(i:Expr):Prop:=∀ov iv,subscripted i false ov iv=operate [ov,iv] (getItem ov iv)
def wo{prog:Program}{env:Env}{value slice:Expr}{pos:Pos}{T id:String}(hl:typeLookup (.type T) "__getitem__"=pure (some (.builtin id)))(hs:Gd slice)(h:wpAny (model prog w) A (eval value env) (λo s₁=>wpAny (model prog w) A (eval slice env) (λi s₂=>s₂.TypeIs o T/\wpAny (model prog w) A (getItem o i) Q E s₂) E s₁) E s):wpAny (model prog w) A (eval (.Subscript value slice pos) env) Q E s:=by
 refine Subscript_ (yaV h (λo s₁ h₁=>yaV h₁ (λi s₂ h₂=>?_) λ_ _ x=>x) λ_ _ x=>x);obtain⟨hT,h₂⟩:=h₂;unfold subscriptTail;refine yaa ?_;rw[getitemInPython_of_ne hT.not_modules];refine yaa (yaN hT hl ?_);have fin:wpAny (model prog w) A (subscripted slice false o i) (λr s₃=>wpAny (model prog w) A (letTemporaryGo value o r>>=λ_=>pure r) Q E s₃) E s₂:=by
  rw[hs o i];exact wpAny_operating (yaV h₂ (λr s₃ h₃=>yaa (wpAny_letTemporaryGo (yac h₃))) λ_ _ x=>x)
 first
  |exact yac (yaa fin)
  |exact yaa (yac (yaa fin))
  |exact yaa fin
def jT{X:Cx}{U:List (Addr × Obj)}{σ:St}{y:V}(I:Inv X U σ H s)(g:xK H a y o):s.TypeIs (.ref a) "dict":=by
 rcases g with⟨al,k,e,_,_⟩|⟨al,k,b,e,_,_,_⟩
 .obtain⟨_,_,vs,_,dd⟩:=wj I.ao e;exact dd.typeIs
 .obtain⟨_,_,xs,_,dd⟩:=wl I.ao e;exact dd.typeIs
def Ru(td ty:TE):TE:=λσ H Q=>td σ H λx H1=>ty σ H1 λy H2=>∃a v,x=.ref a/\xK H2 a y (some v)/\Q v H2
def Rv(td ty tv:TE):TS:=λD σ H=>tv σ H λv H1=>td σ H1 λx H2=>ty σ H2 λy H3=>∃a H4,x=.ref a/\oG H3 a y v H4/\D.nx σ H4
section
variable {value:Expr}{pos pos':Pos}{ty:TE}
def VD(hu:X.A.units+1<cLine)(ho:PE X o td)(hi:PE X i ty)(hs:Gd i):PE X (.Subscript o i pos) (Ru td ty):=by
 intro U s σ H Q I h;refine wo PySem.F.slot_dict_getitem.lookup hs (ax (ho U s σ H _ I h) λu s1⟨x,H1,I1,rx,q1⟩=>ax (hi U s1 σ H1 _ I1 q1) λiv s2⟨y,H2,I2,ry,a,v,ex,g,q2⟩=>?_);subst ex;obtain rfl:u=Value.ref a:=rx;exact⟨jT I2 g,wm hu I2 g ry λw' s3 I3 Os=>⟨v,H2,I3,Os,q2⟩⟩
def wq(hu:X.A.units+1<cLine)(ho:PE X o td)(hi:PE X i ty)(hv:PE X value tv)(hs:swapsWith value (some (.Subscript o i pos')) pos.line X.env=pure false):PS X (.Assign [.Subscript o i pos'] value pos) (Rv td ty tv):=by
 intro U s σ H D I h;refine wpAny_Assign_Subscript (ax (hv U s σ H _ I h) λr s1⟨v,H1,I1,rv,q1⟩=>ax (ho U s1 σ H1 _ I1 q1) λu s2⟨x,H2,I2,rx,q2⟩=>ax (hi U s2 σ H2 _ I2 q2) λiv s3⟨y,H3,I3,ry,a,H4,ex,g,q3⟩=>?_) hs;subst ex;obtain rfl:u=Value.ref a:=rx;exact wn hu I3 g ry rv λs4 I4=>⟨σ,H4,I4,q3⟩
end
def zI(h:Heap)(hb:sysModules<h.objs.size):JJ P w H (h.push {cls:=.type "dict",data:=.dict #[]}) h.objs.size (.dK []):=
 ⟨lG _,yas.mpr (Ne.symm (yaq hb)),[],.nil,Heap.DictOf.new h⟩
def LZ:TE:=λ_ H Q=>∀p,H p=none->Q (.ref p) (upd H p (.dK []))
section
variable {pos:Pos}
def yR:PE X (.Dict [] [] pos) LZ:=λU s σ H Q I h=>
 wpAny_Dict_empty ⟨.ref s.heap.objs.size,_,I.laid (a:=s.heap.objs.size) (o:=.dK []) (t':=s.toks) (λ_ _ q=>yab _ q) (tO _) (zI s.heap I.big),Z,h _ (I.ao.fresh (tO _))⟩
end
def wu:List (TE × TE)->St->Hp->(List (V × V)->Hp->Prop)->Prop
 |[],_,H,Q=>Q [] H
 |(tk,tv)::r,σ,H,Q=>tk σ H λx H1=>tv σ H1 λy H2=>wu r σ H2 λps H3=>Q ((x,y)::ps) H3
abbrev VV:List (V × V)->List (Value × Value)->Prop:=Paired λp q=>RelV p.1 q.1/\RelV p.2 q.2
def Ek(X:Cx)(pos:Pos)(keys:List (Option Expr))(values:List Expr)(i6:List (TE × TE)):Prop:=
 ∀(U:List (Addr × Obj))(s:Shared)(σ:St)(H:Hp)(Q:List (V × V)->Hp->Prop),Inv X U σ H s->wu i6 σ H Q->
  wpAny (model X.prog X.w) X.A (evalPairs (pairTrees keys values X.env pos)) (λvs s'=>∃ps H',Inv X U σ H' s'/\VV ps vs/\Q ps H') X.xe s
def Rx{pos:Pos}:Ek X pos [] [] []:=λU s σ H Q I h=>pairTrees_nil_walk ⟨[],H,I,.nil,h⟩
def zJ{pos:Pos}(hk:PE X k tk)(hv:PE X v tv)(hr:Ek X pos ks vs i6):Ek X pos (some k::ks) (v::vs) ((tk,tv)::i6):=λU s σ H Q I h=>
 pairTrees_cons_walk (ax (hk U s σ H _ I h) λu s1⟨x,H1,I1,rx,q1⟩=>ax (hv U s1 σ H1 _ I1 q1) λw2 s2⟨y,H2,I2,ry,q2⟩=>
  ax (hr U s2 σ H2 _ I2 q2) λws s3⟨ps,H3,I3,rel,q3⟩=>⟨(x,y)::ps,H3,I3,.cons ⟨rx,ry⟩ rel,q3⟩)
noncomputable def VE(al more:List (Key × V)):List (Key × V):=more.foldl (λacc kv=>putK acc kv.1 kv.2) al
def KV.merge:∀{more:List (Key × V)}{rs:List (Key × Value)}{al:List (Key × V)}{vs:List (Key × Value)},KV more rs->KV al vs->KV (VE al more) (merged vs rs):=by
 intro more rs al vs r;unfold KV at r
 induction r generalizing al vs with
 |nil=>intro q;exact q
 |@cons p q ps qs h t ih=>
  intro r0;have e:KV (putK al p.1 p.2) (stored vs q.1 q.2):=by
   have:=r0.put p.1 h.2;rw[<-h.1];exact this
  exact ih e
theorem We:∀(more al:List (Key × V)),(VE al more).length<=al.length+more.length
 |[],al=>by show al.length<=al.length+0;lia
 |p::r,al=>by
  have h1:=We r (putK al p.1 p.2);have h2:=Ky al p.1 p.2;show(VE (putK al p.1 p.2) r).length<=_;rw[tR];lia
theorem YT:∀{al:List (Key × V)}{ws:List (Value × Value)},VV (al.map λkv=>(kV kv.1,kv.2)) ws->∃rs,Carries (QY P w) ws rs/\KV al rs
 |[],_,r=>by rw[ydt]at r;cases r;exact⟨[],True.intro,.nil⟩
 |p::al,_,r=>by
  rw[lD]at r;cases r with
  |@cons a b as bs h t=>
   obtain⟨rs,c,q⟩:=YT (P:=P) (w:=w) t;obtain⟨b1,b2⟩:=b;exact⟨(p.1,b2)::rs,⟨qL h.1,Z,c⟩,.cons ⟨Z,h.2⟩ q⟩
def Ge(i6:List (TE × TE)):TE:=λσ H Q=>∀p,H p=none->wu i6 σ (upd H p (.dK [])) λps H2=>H2 p=some (.dK [])/\∃al:List (Key × V),ps=al.map (λkv=>(kV kv.1,kv.2))/\al.length<=15/\Q (.ref p) (upd H2 p (.dK (VE [] al)))
def Ry{pos:Pos}{keys:List (Option Expr)}{values:List Expr}(h:Ek X pos keys values i6)(mt:keys.all (·.isSome)=true)(hl:keys.length=values.length)(h0:keys≠[])(Rz:keys.length<=15):PE X (.Dict keys values pos) (Ge i6):=by
 intro U s σ H Q I q;have hn:=I.ao.fresh (tO s.heap.objs.size);have I1:=I.laid (a:=s.heap.objs.size) (o:=.dK []) (h':=s.heap.push {cls:=.type "dict",data:=.dict #[]}) (t':=s.toks) (λ_ _ q=>yab _ q) (tO _) (zI s.heap I.big);refine wpAny_Dict_walk (knd:=QY X.prog X.w) mt hl h0 Rz (ax (h U _ σ _ _ I1 (q _ hn)) λws s2⟨ps,H2,I2,rel,e,al,ep,lk,q2⟩=>?_);subst ep;obtain⟨rs,c,rk⟩:=YT (P:=X.prog) (w:=X.w) rel;obtain⟨z,hd,vs0,r0,dd⟩:=LX I2.ao e;cases r0;refine⟨rs,c,dd,λh' sP hs=>⟨.ref s.heap.objs.size,_,?_,Z,q2⟩⟩;have hz:(VE [] al).length<=sizeLine:=by
  have h1:=We al [];rw[yaS]at h1;rw[yaF];lia
 have he:∃q,h'.get? s.heap.objs.size=some q:=let ⟨q,_,_,hq,_⟩:=sP;⟨q,hq⟩;exact jS I2 (by rw[e];exact True.intro) hs he (LY hz hd (rk.merge .nil) sP)
structure M2(X:Cx)(o:Expr)(m:Str)(apos:Pos)(e f:Expr)(ce:Pos):Prop where
 Y:attributeBase o m X.env (eval o X.env)=eval o X.env
 RC:((backTo ce (starEach [e,f] X.env)).all (λx=> !x.1)&&(backToKw ce (keywordEach [] X.env)).all (λx=>x.1.isSome)
  &&decide (([e,f]:List Expr).length+([]:List Keyword).length+(if([]:List Keyword).isEmpty then 0 else 1)<30))=true
 line:(apos.endLine==ce.line)=true
 trees:backTo ce (starEach [e,f] X.env)=[(false,eval e X.env),(false,eval f X.env)]
def L0(H:Hp)(a:Addr):Prop:=(∃al,Rd H a (.dK al))\/∃al,Rd H a (.dT al)
def RD{X:Cx}{U:List (Addr × Obj)}{σ:St}(I:Inv X U σ H s)(d:L0 H a):s.TypeIs (.ref a) "dict"/\(∀b,Value.ref a=.ref b->∃ob,s.heap.get? b=some ob/\ob.dict=none)/\(a==sysModules)=false:=by
 rcases d with⟨al,e⟩|⟨al,e⟩
 .obtain⟨_,hd,vs,_,dd⟩:=wj I.ao e;refine⟨dd.typeIs,λb q=>?_,hd⟩;cases q;obtain⟨ob,_,_,h1,h2,_⟩:=dd;exact⟨ob,h1,h2.2.1⟩
 .obtain⟨_,hd,xs,_,dd⟩:=wl I.ao e;refine⟨dd.typeIs,λb q=>?_,hd⟩;cases q;obtain⟨ob,_,_,h1,h2,_⟩:=dd;exact⟨ob,h1,h2.2.1⟩
section
variable {X:Cx}{U:List (Addr × Obj)}{σ:St}{H:Hp}{s:Shared}{a:Addr}{y d:V}{u r:Value}{o:Option V}{A:Around}{E:Value->Shared->Prop}
def RE(hu:A.units+1<cLine)(I:Inv X U σ H s)(g:xK H a y o)(ry:RelV y u)(rd:RelV d r)(h:∀w' s',Inv X U σ H s'->RelV (o.getD d) w'->Q w' s'):wpAny (model X.prog X.w) A (call (.builtin "dict.get") [.ref a,u,r]) Q E s:=by
 rcases g with⟨al,k,e,ey,l⟩|⟨al,k,b,e,ey,eb,l⟩
 .subst ey;obtain⟨z,hd,vs,rel,dd⟩:=wj I.ao e;refine call_meetsIn slot_dict_get dd.typeIs entry_dict_get (args_dict_get_3 _ _ _) (meets_dict_get_default (QY X.prog X.w) a (qL ry) hd r) ⟨_,dd.mapOf,h _ _ (I.tok _) ?_⟩;rw[l];exact(rel.val k).getD rd
 .subst ey;cases(show u=Value.ref b from ry);obtain⟨z,hd,xs,rel,dd⟩:=wl I.ao e;refine call_meetsIn slot_dict_get dd.typeIs entry_dict_get (args_dict_get_3 _ _ _) (meetsH_dict_get_default (tupleKind (QY X.prog X.w)) a b hd r) ⟨yeh hu,k,xs,zH I.ao eb,dd,h _ _ (I.tok _) ?_⟩;rw[l];exact(rel.val k).getD rd
end
def RF(td ty tx:TE):TE:=λσ H Q=>td σ H λx H1=>∃a,x=.ref a/\L0 H1 a/\ty σ H1 λy H2=>tx σ H2 λz H3=>∃o,xK H3 a y o/\Q (o.getD z) H3
section
variable {apos ce:Pos}{ty tx:TE}
def yS(hu:X.A.units+1<cLine)(ho:PE X o td)(he:PE X e ty)(hf:PE X f tx)(m:M2 X o "get" apos e f ce):PE X (.Call (.Attribute o "get" apos) [e,f] [] ce) (RF td ty tx):=by
 intro U s σ H Q I h;refine wpAny_Call_method m.Y m.RC m.line plainAttrs_dict slot_dict_get type_dict_get (ax (ho U s σ H _ I h) λu s1⟨x,H1,I1,rx,a,ex,d,q1⟩=>?_);subst ex;obtain rfl:u=Value.ref a:=rx;obtain⟨t1,t2,_⟩:=RD I1 d;exists t1,t2;rw[m.trees];refine ycq rfl (ycG (ybv (ax (he U s1 σ H1 _ I1 q1) λiv s2⟨y,H2,I2,ry,q2⟩=>
  ybv (ax (hf U s2 σ H2 _ I2 q2) λfv s3⟨z,H3,I3,rz,ov,g,q3⟩=>ycc ?_))))
 exact RE hu I3 g ry rz λw' s4 I4 Os=>⟨_,H3,I4,Os,q3⟩
end
end L2
namespace L9
open PySem PySem.W PySem.Calls PyProof.Rows
def VF:∀(ns:List Int)(vs:List Value),WellAll P h vs (ns.map WData.int)->IntsAre vs ns:=by
 intro ns
 induction ns with
 |nil=>
  intro vs w;rw[ydt]at w;cases w;exact .nil
 |cons n ns ih=>
  intro vs w;rw[lD]at w;cases w with
  |cons a b=>
   cases a;exact .cons _ _ (ih _ b)
def ww{l:OpenLaw}{n:Nat}(hn:l.most=some n){P:Params}{h:Heap}{args:List WData}{vals:List Value}(Id:l.row.toRowW.claim.pre args=true)(Gf:WellAll P h vals args):∃a vs ns,vals=[Value.ref a]/\args=[WData.list (ns.map WData.int)]/\h.get? a=some {cls:=.type "list",data:=.seq vs.toArray}/\IntsAre vs ns/\ns.length<=n:=by
 have RG:WShape.hasAll [] args [.list .int]=true:=(pre_splitW Id).1;have hc:l.pre.holds [] {args:=args}=true:=(pre_splitW Id).2;obtain⟨d,r,rfl,h1,h2⟩:=hasAllW_cons RG;obtain rfl:=hasAllW_nil h2;obtain⟨xs,rfl,h3⟩:=hasW_list h1;obtain⟨ns,rfl⟩:=items_int h3;have hlen:ns.length<=n:=by
  unfold OpenLaw.pre at hc;have h4:(WTm.not (.lt (.lit (.int (n:Int))) (.len (.arg 0)))).holds [] {args:=[.list (ns.map .int)]}=true:=by
   have h4:=(holds_andW hc).1;rw[hn]at h4;exact h4
  have h5:=condW_of h4 (w_not (w_lt w_lit (w_len_list (w_arg Z))));rw[tL]at h5;refine Nat.le_of_not_lt λq=>?_;have q':(n:Int)<((ns.length:Nat):Int):=by lia
  first
   |(rw[tN q']at h5;exact absurd h5 (by lia))
   |(simp at h5;lia)
 cases Gf with
 |cons w1 w2=>
  cases w2;cases w1 with
  |list ho mt=>exact⟨_,_,ns,Z,Z,ho,VF ns _ mt,hlen⟩
def wz(l:OpenLaw)(args:List WData):l.row.toRowW.claim.post args (.bool true) args=true:=
 postW_of (r:=l.row.toRowW) (X:=(true==true))
  (show WShape.has [] (.bool true) .bool=true by first|rfl|decide|simp[WShape.has,WShape.arms,WShape.armsAll])
  (show(WTm.eq .res (.lit (.bool true))).value [] {args:=args,res:=some (.bool true),after:=args}=some (.bool (true==true))from w_eq_bool (w_res Z) w_lit) rfl
def jU{l:OpenLaw}{n:Nat}{loose:List Str}{d:DefRec}(hn:l.most=some n)(B0:d.params.defaults=[])(call:∀(w:World)(s₀ s₁:Shared)(mg mb:Str->Option Value)(fa:Addr)(o:Obj)(pm cd doc:Value)(a:Addr)(vs:List Value)(ns:List Int),
   Ground q loose [] XP w s₀ mg mb s₁.heap->YP w s₁.heap->
   s₁.heap.get? fa=some o->o.data=.func (docDef d.name d.params d.body d.scope pm cd doc)->s₁.heap.CodeRec cd d.name->mg d.name=some (.ref fa)->
   s₁.heap.get? a=some {cls:=.type "list",data:=.seq vs.toArray}->IntsAre vs ns->ns.length<=n->s₁.gens= #[]->
   codeAny (model l.prog w) callerA (.call (.ref fa) ⟨[.ref a],[]⟩) (λr s'=>r=.ok (.ret (.bool true))/\OldK s₁.heap s'.heap/\s'.os=s₁.os/\AllBare s'.gens) s₁):
  WalkO q loose XP YP l.row.toRowW d [] (λf vs=>PySem.call f vs):=by
 intro w s₀ s₁ mg mb G qYa fa o pm cd doc dV kV ho hd e6 hD B6 hg args vals as Id RH sQ Gf Tk;obtain rfl:dV=.none:=Dflts.none hD B0;obtain rfl:kV=.none:=Dflts.noKw hD;obtain⟨a,vs,ns,rfl,rfl,sR,hints,hlen⟩:=ww hn Id Gf;refine enter_call (ycW (call w s₀ s₁ mg mb fa o pm cd doc a vs ns G qYa ho (fd_plain hd) e6 B6 sR hints hlen hg) λr s' hq=>?_);obtain⟨rfl,h2,h3,h4⟩:=hq;exact⟨.inl ⟨.bool true,.bool true,[],Z,λ_=>rfl,.bool true,wz l _,λ_=>⟨List.Pairwise.nil,λ_ hm=>(nomatch hm)⟩⟩,h2,h3,h4⟩
end L9
namespace L2
open PySem PySem.Spec PyProof.Rows
theorem qN:∀{vs:List Value}{ns:List Int},IntsAre vs ns->Vals (ns.map V.int) vs
 |_,_,.nil=>.nil
 |_,_,.cons n t h=>.cons ⟨t,Z⟩ (qN h)
def El(H:Hp):Prop:=∀b,H b=none\/∃o xs,H b=some (.dA o (.lst xs))
def yT{K:Frag}{CX:fE}{k:Nat}{fd:FuncData}{x:Str}{sp:Sp}{vs:List Value}{ns:List Int}(KX:K.In s₁.heap)(L':s₁.heap.Ns mainGlobals mg)(hb:s₁.heap.Ns builtinsNs mb)(RI:∀x:Str,x≠"__name__"->mb x=bootBuiltins x)(Gg:s₁.heap.NoLimit)(hg:s₁.gens= #[])(ha:s₁.heap.get? a=some {cls:=.type "list",data:=.seq vs.toArray})(hi:IntsAre vs ns)(hl:ns.length<=sizeLine)(hr:Zc k callerA)(F:∀Y:Heap,K.In Y->Y.Ns mainGlobals mg->ak P w K mg Y CX k fa fd [x] sp)(B7:∀(s:Shared)(u:Value),BindsTo s fd ⟨[u],[]⟩ [(x,u)])(Go:∀H:Hp,El H->aE K H a (ns.map V.int)->sp [.ref a] H (λv _=>v=.bl true) λ_ _ _=>False)(B8:∀H e s',CX [] H s₁ (λ_ _ _=>False) e s'->False):codeAny (model P w) callerA (.call (.ref fa) ⟨[.ref a],[]⟩) (λr s'=>r=.ok (.ret (.bool true))/\OldK s₁.heap s'.heap/\s'.os=s₁.os/\AllBare s'.gens) s₁:=by
 have rv:=qN hi;have Gh:=hi.length;have core:∀H:Hp,El H->aE K H a (ns.map V.int)->bG P w H s₁.heap->(∀b,H b≠none->b=a)->(H a≠none->K.lookup a=none)->
   codeAny (model P w) callerA (.call (.ref fa) ⟨[.ref a],[]⟩) (λr s'=>r=.ok (.ret (.bool true))/\OldK s₁.heap s'.heap/\s'.os=s₁.os/\AllBare s'.gens) s₁:=by
  intro H hO hS ao hA hK;have Tl:∀{b:Addr}{o:Obj},s₁.heap.get? b=some o->H b=none->(yF s₁.heap H).get? b=some o:=λe n=>yG e n;have BQ:∀{b:Addr}{o:Obj}{es:Array DictEntry}{ep:Nat},s₁.heap.get? b=some o->o.data=.dict es ep->H b=none:=λ{b o es ep} e d=>by
   cases q:H b with
   |none=>rfl
   |some u=>
    have e':b=a:=hA b (by rw[q];simp);subst e';rw[ha]at e;cases e;have d':Data.seq vs.toArray _=Data.dict es ep:=d;cases d'
  have Em:∀{b:Addr}{m:Str->Option Value},s₁.heap.Ns b m->(yF s₁.heap H).Ns b m:=λ{b m}⟨o,es,ep,e,d,r⟩=>⟨o,es,ep,Tl e (BQ e d),d,r⟩;have Ma:K.In (yF s₁.heap H):=λb o e=>Tl (KX b o e) (by
   cases q:H b with
   |none=>rfl
   |some u=>
    have e':b=a:=hA b (by rw[q];simp);subst e';rw[hK (by rw[q];simp)]at e;cases e)
  have hM:Mod K mg (yF s₁.heap H):=⟨Ma,Em L',⟨mb,Em hb,RI⟩,let ⟨mc,h1,h2⟩:=Gg;⟨mc,Em h1,h2⟩⟩;have e0:eF P w K mg (yF s₁.heap H) callerA [] s₁ H:=⟨Z,hM,λb o e=>Pk e,ych (kL _ _),trivial,λb hb=>absurd (show b∈([]:List Addr)from hb) (by simp),ao,.of_eq hg⟩;refine ycW ((F _ Ma (Em L')).run callerA [] s₁ H ⟨[.ref a],[]⟩ [.ref a] [.ref a] _ _ hr e0 (B7 s₁ (.ref a)) (.cons Z .nil) (Go H hO hS)) λr s' h=>?_;cases r with
  |error e=>exact(B8 H e s' h).elim
  |ok fl=>
   cases fl with
   |next=>exact False.elim h
   |brk=>exact False.elim h
   |cont=>exact False.elim h
   |ret u=>
    obtain⟨v,H',os,bare,un,Gi,r',q⟩:=h;have q':v=.bl true:=q;subst q';obtain rfl:u=Value.bool true:=r';refine⟨Z,OldK.of_keep λb o e=>?_,os,bare⟩;cases q:H b with
    |none=>exact un.keep b o e q (by intro z;exact absurd (show b∈([]:List Addr)from z) (by simp)) (by simp)
    |some u=>
     rcases hO b with z|⟨ob,xs,z⟩
     .rw[q]at z;cases z
     .have z2:=un.cQ b ob _ z;obtain⟨e1,_⟩:=ao b _ z;obtain⟨e2,_⟩:=Gi b _ z2;rw[e]at e1;cases e1;exact e2
 cases hk:K.lookup a with
 |some o=>
  have e:=KX a o hk;rw[ha]at e;cases e;refine core (λ_=>none) (λ_=>.inl Z) (.inr ⟨_,vs.toArray,_,hk,Z,Z,Z,by rw[lF,Gh];exact hl,by simpa using rv⟩) (λb u z=>by have z':(none:Option HO)=some u:=z;cases z') (λb z=>absurd Z z) λz=>absurd rfl z
 |none=>
  refine core (λb=>if b=a then some (.dA {cls:=.type "list",data:=.seq vs.toArray} (.lst (ns.map V.int)))else none) (λb=>?_) (.inl (.inr ⟨{cls:=.type "list",data:=.seq vs.toArray},yai rfl⟩)) (λb u z=>?_) (λb z=>?_) λ_=>hk
  .by_cases hb:b=a
   .exact .inr ⟨_,_,yai hb⟩
   .exact .inl (yah hb)
  .by_cases hb:b=a
   .have z':=(yai hb).symm.trans z;cases z';subst hb;exact⟨ha,by rw[tL];exact hl,vs,_,rv,ha⟩
   .have z':=(yah hb).symm.trans z;cases z'
  .by_cases hb:b=a
   .exact hb
   .exact absurd (yah hb) z
def RJ{l:PySem.W.OpenLaw}{n k:Nat}{q:Program}{loose:List Str}{d:DefRec}{K:Params->Frag}{CX:World->fE}{sp:World->Sp}{x:Str}(hn:l.most=some n)(oE:n<=sizeLine)(B0:d.params.defaults=[])(hr:Zc k callerA)(hY:∀(w:World)(h:Heap),YP w h->(K w.params).In h)(F:∀(w:World)(mg:Str->Option Value)(fa:Addr)(h:Heap),(K w.params).In h->h.Ns mainGlobals mg->mg d.name=some (.ref fa)->
   ∃fd:FuncData,(∀(s:Shared)(u:Value),BindsTo s fd ⟨[u],[]⟩ [(x,u)])/\
    ∀Y:Heap,(K w.params).In Y->Y.Ns mainGlobals mg->ak l.prog w (K w.params) mg Y (CX w) k fa fd [x] (sp w))(Go:∀(w:World)(H:Hp)(a:Addr)(ns:List Int),ns.length<=n->El H->aE (K w.params) H a (ns.map V.int)->sp w [.ref a] H (λv _=>v=.bl true) λ_ _ _=>False)(B8:∀(w:World)(H:Hp)(s:Shared)(e:Value)(s':Shared),CX w [] H s (λ_ _ _=>False) e s'->False):
  PySem.W.WalkO q loose XP YP l.row.toRowW d [] (λf vs=>PySem.call f vs):=by
 refine L9.jU hn B0 λw s₀ s₁ mg mb fa o pm cd doc a vs ns G qYa ho hd e6 B6 sR hints hlen hg=>?_;have KX:=hY w _ qYa;obtain⟨fd,hb,hF⟩:=F w mg fa _ KX G.T.g B6;exact yT KX G.T.g G.T.b G.T.builtins G.T.nolimit hg sR hints (yao hlen oE) hr hF hb (λH hO hS=>Go w H a ns hlen hO hS) λH e s'=>B8 w H s₁ e s'
noncomputable def inClass(s:Stmt)(j:Nat):Stmt:=match s with
 | .ClassDef _ _ _ body _ _ _ _ _ _ _=>body.getD j (.Pass ⟨0,0,0,0⟩)
 |_=>.Pass ⟨0,0,0,0⟩
noncomputable def Q7(s:Stmt):Arguments:=match s with
 | .FunctionDef _ a _ _ _ _ _ _ _ _=>a
 |_=>{posonlyargs:=[],args:=[],vararg:=none,kwonlyargs:=[],kw_defaults:=[],kwarg:=none,defaults:=[]}
noncomputable def QS(s:Stmt):List Stmt:=match s with
 | .FunctionDef _ _ b _ _ _ _ _ _ _=>b
 |_=>[]
noncomputable def Qe(s:Stmt):Scope:=match s with
 | .FunctionDef _ _ _ _ _ _ sc _ _ _=>sc
 |_=>{kind:=.function,names:=[],isGenerator:=false,isCoroutine:=false}
abbrev E0:XK:=λ_ _ _=>False
structure az(K:Frag)(x qual:Str)(st:Stmt)(f:Addr)(fd:FuncData):Prop where
 ex:∃(oc:Value)(od:Option Addr)(kV doc pm:Value)(an:Option Addr)(am ct:Value)(ge:Array (Option Value)),
  fd=fnOf x qual (Q7 st) (QS st) (Qe st) .none kV doc pm an am ct/\K.lookup f=some ⟨oc,od,.func fd,ge⟩/\codeIn K am qual=true
 kp:keepIn K (.ref f)=true
section
variable {K:Frag}
def az.binds{x qual:Str}{st:Stmt}{fd:FuncData}(F:az K x qual st f fd)(h:∀(kV doc pm:Value)(an:Option Addr)(am ct:Value)(us:List Value),us.length=ps.length->bindArgs (fnOf x qual (Q7 st) (QS st) (Qe st) .none kV doc pm an am ct) ⟨us,[]⟩=pure (ps.zip us)):Binds K fd ps []:=by
 obtain⟨oc,od,kV,doc,pm,an,am,ct,ge,rfl,lk,e6⟩:=F.ex;exact .all (h kV doc pm an am ct)
end
def RK(hr:Zc k A):A.units+1<cLine:=Nat.lt_of_le_of_lt (Nat.add_le_add_left (by decide:1<=64) _) hr.units
section
variable {X:Cx}
def pv(i:Nat){pos:Pos}(hN:X.N[i]? =some x:=by rfl)(hv:Ea X.env.scope x:=by first|exact Or.inl rfl|exact Or.inr (Or.inl rfl)|exact Or.inr (Or.inr rfl))(hd:(x==("__debug__":Str))=false:=by lia)(e6:(x==("__classdict__":Str))=false:=by lia):PE X (.Name x pos) (aF i):=Pq hN hv hd e6
end
def QO{A B:Prop}(h:B):if false=true then A else B:=by
 rw[yah yal];exact h
def Q0{A B:Prop}(h:A):if true=true then A else B:=by
 rw[yai rfl];exact h
def Qn(H H':Hp):Prop:=∀b o,H b=some o->H' b=some o
def Qn.refl(H:Hp):Qn H H:=λ_ _ h=>h
def Qn.trans{H H1 H2:Hp}(a:Qn H H1)(b:Qn H1 H2):Qn H H2:=λc o h=>b c o (a c o h)
def Qn.free(e:Qn H H')(h:H' l=Option.none):H l=Option.none:=by
 cases q:H l with
 |none=>rfl
 |some o=>
  rw[e l o q]at h;cases h
def JJ.ex(x:JJ P w H h a o):∃ob,h.get? a=some ob:=by
 cases o with
 |lst xs=>obtain⟨_,_,_,_,e⟩:=x;exact⟨_,e⟩
 |tup xs=>obtain⟨_,_,_,ob,e,_⟩:=x;exact⟨_,e⟩
 |dK al=>obtain⟨_,_,_,_,o,_,_,e,_⟩:=x;exact⟨_,e⟩
 |dT al=>obtain⟨_,_,_,_,o,_,_,e,_⟩:=x;exact⟨_,e⟩
 |set S n=>obtain⟨o,_,_,_,e,_⟩:=x;exact⟨_,e⟩
 |ins C dx fs=>obtain⟨_,_,_,e,_⟩:=x;exact⟨_,e⟩
 |own y=>exact x
 |xd fs=>obtain⟨_,⟨_,_,_,e,_⟩,_⟩:=x;exact⟨_,e⟩
 |D9 lo hi=>obtain⟨_,_,_,e⟩:=x;exact⟨_,e⟩
 |dA ob u=>obtain⟨e,_⟩:=x;exact⟨_,e⟩
 |ox ps=>exact⟨_,(show h.get? a=some _ from x)⟩
 |met f y=>exact⟨_,(show h.get? a=some _ from x)⟩
 |ext φ=>obtain⟨_,e,_⟩:=x;exact e
def RL(h:Heap)(e T:Addr)(cls:Value):Prop:=
 ∃oe vs oT ts a0,h.get? e=some oe/\oe.cls=cls/\oe.data=.fields vs/\vs[0]? =some a0/\vs[1]? =some (.ref T)/\T≠e/\h.get? T=some oT/\oT.data=.fields ts/\ts[3]? =some .none
def av(P:Program)(w:World):fE:=λL H s E e s'=>
 ∃a T cls H',e=.ref a/\RL s'.heap a T cls/\s.heap.get? a=none/\s.heap.get? T=none/\H' a=none/\H' T=none/\s'.os=s.os/\AllBare s'.gens/\
  Un (bM L) [] H H' s.heap s'.heap/\bG P w H' s'.heap/\E cls none H'
def Qr:Passes (av P w) X E0:=by
 rintro _ _ _ _ _ _ _ ⟨_,_,_,_,_,_,_,_,_,_,_,_,_,_,h⟩;exact h.elim
section
variable {X:Cx}{U:List (Addr × Obj)}{σ:St}{H:Hp}{s:Shared}
def qO{cls a0:Value}(I:Inv X U σ H s)(hex:X.ex=[])(Gj:X.stack=X.env::X.L)(Gk:∀y∈ys,H y=none/\X.s₀.heap.get? y=none)(ha:H a=none)(RM:X.s₀.heap.get? a=none)(fl:Heap.FlyingW (hideAll s.heap (bM X.stack++ys)) X.L a cls a0 AW)(up:∀b∈bM X.stack,∀o,s.heap.get? b=some o->(∀vs,o.data≠ .fields vs)->∃sl,AW.get? b=some {o with slots:=sl})(hE:E cls none H):av X.prog X.w X.L X.H₀ X.s₀ E (.ref a) {s with heap:=AW}:=by
 obtain⟨f1,f2,f3,oe,vs,T,oT,ts,t1,⟨t2,t3⟩,t4,t5,t6,t7,t8,t9,Gm⟩:=fl;have i7:∀b:Addr,b∉X.ex:=λb hb=>by rw[hex]at hb;cases hb
 have Gn:∀b o,s.heap.get? b=some o->b∉bM X.stack->b∉ys->AW.get? b=some o:=λb o e n1 n2=>
  f1 b o (hideAll_get _ e λhm=>(yat.mp hm).elim n1 n2)
 have fr:∀b∈bM X.stack,∃o,s.heap.get? b=some o/\∀vs,o.data≠ .fields vs:=λb hb=>(I.stack.mem hb).2;have old:∀b o,X.s₀.heap.get? b=some o->b∉ys:=λb o e hb=>by rw[(Gk b hb).2]at e;cases e
 have Gp:∀b,b∈bM X.stack->b∈X.env.locals::X.fs:=I.zu;have Eb:∀b o,X.s₀.heap.get? b=some o->b≠X.env.locals:=λb o e=>yaq (yan (yaj e) I.ok.above);have Mb:∀o,s.heap.get? T=some o->T∉ys->False:=λo e n2=>by
  by_cases hf:T∈bM X.stack
  .obtain⟨o2,e2,d2⟩:=fr T hf;obtain⟨sl,e3⟩:=up T hf o2 e2 d2;rw[t8]at e3;cases e3;exact d2 _ t9
  .have:=hideAll_get (bM X.stack++ys) e λhm=>(yat.mp hm).elim hf n2;rw[t6]at this;cases this
 refine⟨a,T,cls,H,Z,⟨oe,vs,oT,ts,a0,t1,t2,t4,t3,t5,t7,t8,t9,Gm⟩,RM,?_,ha,?_,I.os,I.bare,⟨λb o e n hb hx=>?_,λb o e n hb hx=>?_,λb o e n hx=>I.Y.free b o e n (i7 b),λb o e hx=>?_,I.Y.qe,I.Y.cQ,I.Y.dm⟩,λb o e=>?_,hE⟩
 .cases q:X.s₀.heap.get? T with
  |none=>rfl
  |some o=>
   obtain⟨o',e'⟩:=I.Y.there T o q (i7 T);exact(Mb o' e' (old T o q)).elim
 .cases q:H T with
  |none=>rfl
  |some u=>
   obtain⟨ob,e⟩:=(I.ao T u q).ex;exact(Mb ob e λhm=>by rw[(Gk T hm).1]at q;cases q).elim
 .refine Gn b o (I.Y.keep b o e n hb (i7 b)) (λhm=>?_) (old b o e);rcases yak.mp (Gp b hm)with z|z
  .exact Eb b o e z
  .exact hb z
 .obtain⟨sl,e1⟩:=I.Y.slot b o e n hb (i7 b);have hm:b∈bM X.stack:=by rw[Gj];unfold bM;rw[ycR];split<;>first|exact hb|exact tW _ hb
  obtain⟨o2,e2,d2⟩:=fr b hm;rw[e1]at e2;cases e2;obtain⟨BG,e3⟩:=up b hm _ e1 d2;exact⟨BG,e3⟩
 .obtain⟨o',e1⟩:=I.Y.there b o e (i7 b)
  by_cases hm:b∈bM X.stack
  .obtain⟨o2,e2,d2⟩:=fr b hm;obtain⟨BG,e3⟩:=up b hm _ e2 d2;exact⟨_,e3⟩
  .exact⟨o',Gn b o' e1 hm (old b o e)⟩
 .refine(I.ao b o e).yz (λc u hc q=>Gn c u q (λhm=>?_) λhm=>?_) (λ_ q=>q) λ_ _ q=>q
  .have z:=I.jM c hm;rcases hc with rfl|hc
   .rw[e]at z;cases z
   .rw[hc]at z;cases z
  .have z:=(Gk c hm).1;rcases hc with rfl|hc
   .rw[e]at z;cases z
   .rw[hc]at z;cases z
def VG(I:Inv X U σ H s)(ys:List Addr):s.heap.FunFrames (hideAll s.heap (bM X.stack++ys)) X.stack:=
 funFrames_hide I.stack λenv he a hf=>tU _ (yeg.mpr ⟨env,he,hf⟩)
end
def Mc(X:Cx)(E:XK):Prop:=∀(U:List (Addr × Obj))(σ:St)(H:Hp)(s:Shared)(h':Heap)(a:Addr)(cls:Value)(args:List Value),
 Inv X U σ H s->Heap.MadeExcOf s.heap h' a cls args->E cls none H->X.xe (.ref a) {s with heap:=h'}
structure sS(X:Cx)(E:XK):Prop where
 ex:X.ex=[]
 fL:X.stack=X.env::X.L
 fr:X.env.frame=some X.env.locals
 xe:∀e s',wpAny (model X.prog X.w) X.A (leaving X.env e) (λ_ iX=>av X.prog X.w X.L X.H₀ X.s₀ E e iX) (λe' iX=>av X.prog X.w X.L X.H₀ X.s₀ E e' iX) s'->X.xe e s'
def Jf{K:Frag}{Y:Heap}{N:List Str}{qual:Str}{scope:Scope}{cd:Value}{L:List Env}{H:Hp}{E:XK}:sS (qJ (av P w) P w K mg Y N qual scope f cd A L s H E) E:=⟨Z,Z,Z,λ_ _ h=>h⟩
section
def Jo(F:sS X E):Mc X E:=by
 intro U σ H1 s1 h' a cls args I hx hE;have i7:∀b:Addr,b∉X.ex:=λb hb=>by rw[F.ex]at hb;cases hb
 refine F.xe _ _ ?_;have ff:s1.heap.FunFrames (hideAll s1.heap (bM X.stack++[])) (X.env::X.L):=by
  have z:=VG I [];rw[F.fL]at z ⊢;exact z
 refine wpAny_leaves_madeW (s:={s1 with heap:=h'}) (h:=s1.heap) (base:=hideAll s1.heap (bM X.stack++[])) (by rw[<-F.fL];exact I.ok.frames) F.fr
  (λb o q=>of_hideAll _ q) ff hx λAW t fl _ _ up=>?_
 refine qO (s:=s1) (ys:=[]) I F.ex F.fL (λy hy=>nomatch hy) ?_ ?_ fl (λb _ o e d=>?_) hE
 .cases q:H1 a with
  |none=>rfl
  |some u=>
   obtain⟨ob,e⟩:=(I.ao a u q).ex;have:=hx.new;rw[e]at this;cases this
 .cases q:X.s₀.heap.get? a with
  |none=>rfl
  |some o=>
   obtain⟨o',e'⟩:=I.Y.there a o q (i7 a);have:=hx.new;rw[e']at this;cases this
 .exact up b o (hx.keeps b o e) d
def QG(F:sS X E):Passes (av X.prog X.w) X E:=by
 intro U σ H1 s1 e s' I h;obtain⟨a,T,cls,H',rfl,⟨oe,vs,oT,ts,a0,t1,t2,t3,t4,t5,t6,t7,t8,t9⟩,n1,n2,ha,hT,os,bare,un,ao,hE⟩:=h;have i7:∀b:Addr,b∉X.ex:=λb hb=>by rw[F.ex]at hb;cases hb
 have I':Inv X U σ H' s':=I.Lm os un ao bare λb hb=>nomatch hb;have old:∀b,s1.heap.get? b=none->X.s₀.heap.get? b=none:=λb hb=>by
  cases q:X.s₀.heap.get? b with
  |none=>rfl
  |some o=>
   obtain⟨o',e'⟩:=I.Y.there b o q (i7 b);rw[hb]at e';cases e'
 refine F.xe _ _ ?_;have ff:s'.heap.FunFrames (hideAll s'.heap (bM X.stack++[a,T])) (X.env::X.L):=by
  have z:=VG I' [a,T];rw[F.fL]at z ⊢;exact z
 refine wpAny_leaves_onW (base:=hideAll s'.heap (bM X.stack++[a,T])) (cls:=cls) (a0:=a0) (by rw[<-F.fL];exact I.ok.frames) F.fr
  ⟨λb o q=>of_hideAll _ q,hideAll_none _ (tT _ (by simp)),ff,oe,vs,T,oT,ts,t1,⟨t2,t4⟩,t3,t5,hideAll_none _ (tT _ (by simp)),t6,t7,t8,t9⟩
  λAW fl up=>?_
 refine qO I' F.ex F.fL (λy hy=>?_) ha (old a n1) fl (λb _ o e d=>up b o e d) hE;rcases yak.mp hy with rfl|hy
 .exact⟨ha,old _ n1⟩
 .obtain rfl:=yap.mp hy;exact⟨hT,old _ n2⟩
end
section
structure fG(K:Frag)(C:Addr):Prop where
 ex:excIn K C [.type "ValueError",.type "Exception",.type "BaseException",.type "object"] "ValueError.__new__"=true
def RN(C:Addr)(E:XK)(t:TA):TS:=λ_ σ H=>t σ H λvs H1=>vs.length<=sizeLine/\E (.ref C) none H1
def JD{np ce pos:Pos}{rest:List Expr}(T:Mc X E)(hc:X.calm=true)(hg:Gl X x)(hm:X.mg x=some (.ref C))(hC:fG X.K C)(ha:PA X (e₀::rest) t)(he:starEach (e₀::rest) X.env=(false,eval e₀ X.env)::starEach rest X.env:=by rfl)(dL:(backTo ce (starEach rest X.env)).any (·.1)=false:=by rfl)(mo:(x==("__debug__":Str))=false:=by lia):PS X (.Raise (some (.Call (.Name x np) (e₀::rest) [] ce)) none pos) (RN C E t):=by
 intro U s σ H D I h;have q:=hC.ex;have O:∃bm N nm q bs hdct sn sub ab col dd k0 k1 k2 k3 k5 mN,X.Y.get? C=some (excClassObj nm q C N bs bm hdct sn sub ab col dd k0 k1 k2 k3 k5 "ValueError.__new__")/\X.Y.Ns N mN/\mN "__init__"=none/\
   OwnTail X.Y [.type "ValueError",.type "Exception",.type "BaseException",.type "object"] bm:=by
  have KX:=I.mod.sE;unfold excIn at q
  split at q
  .rename_i dd cd sl ho
   split at q
   .rename_i C' bm k0 k1 k2 k3 n k5 hm hs;simp only[yay,ybl,yce]at q;obtain⟨⟨⟨⟨⟨rfl,rfl⟩,fT⟩,ht⟩,ao⟩,En⟩:=q;obtain⟨nm,bs,mro,ns,qn,hd,sn,sub,ab,col,del⟩:=cd;dsimp only at hm fT ao En;subst hm fT;have iD:sl= #[k0,k1,k2,k3,some (.builtin "ValueError.__new__"),k5]:=by
     obtain⟨l⟩:=sl;simp only at hs;rw[hs]
    subst iD;exact⟨bm,ns,nm,qn,bs,hd,sn,sub,ab,col,dd,k0,k1,k2,k3,k5,_,KX _ _ ho,.of_isNs (isNs_of_in KX ao),nsMap_none_of_in KX ao En,tail_of_in KX ht⟩
   .cases q
  .cases q
 obtain⟨tl,Nn,nm,qq,bs,hdct,sn,sub,ab,col,dd,k0,k1,k2,k3,k5,mN,h1,h2,h3,h4⟩:=O;refine wpAny_Raise_call_subT (C:=C) (nm:=nm) (q:=qq) (N:=Nn) (bs:=bs) (bm:=tl) (hdct:=hdct) (sn:=sn) (sub:=sub) (ab:=ab) (col:=col) (dd:=dd) (k0:=k0) (k1:=k1) (k2:=k2) (k3:=k3) (k5:=k5)
  excBase_ValueError (mN:=mN) (h4.hasType excBase_ValueError.hasBase) (I.ok.hd hc) (by rw[he];show(false||(backTo ce (starEach rest X.env)).any (·.1))=false;rw[dL];rfl) h3 ?_
 refine Wv I hg hm ⟨Z,?_⟩ (hd:=mo);have w1:=ha ce U s σ H _ I h;rw[he]at w1 ⊢;refine ycG (yaV w1 (λus s2 q2=>?_) λ_ _ y=>y);obtain⟨vs,H',I2,rv,hl,hE⟩:=q2;refine⟨Z,?_,I2.bk _ _ h1,h2.keeps I2.bk,h4.keeps I2.bk,λh' e hm=>T U σ H' s2 h' e (.ref C) _ I2 hm hE⟩;show us.length<=sizeLine;rw[<-rv.length];exact hl
end
section
variable {X:Cx}{U:List (Addr × Obj)}{σ:St}{H:Hp}{s:Shared}
noncomputable def Gq(a:Addr)(cls:Value):HO:=.ext λh=>∃o vs,h.get? a=some o/\o.cls=cls/\o.data=.fields vs
def Inv.RO(I:Inv X U σ H s)(hn:H a=none)(h0:X.s₀.heap.get? a=none)(hL:a≠X.env.locals)(hc:∀x c,X.env.cells.lookup x=some c->c≠a)(hp:∀p∈X.pn++U,p.1≠a)(new:JJ X.prog X.w (upd H a o) s.heap a o):Inv X U σ (upd H a o) s:=by
 refine⟨I.ok,I.os,I.bare,⟨I.Y.keep,I.Y.slot,λb u e n hx=>?_,I.Y.there,λb xs e=>?_,λb u xs e=>?_,λb ps e=>?_⟩,I.loc,I.cell,?_,λx c e=>?_,λp q=>?_,λb u e=>?_,I.len⟩
 .rw[Qo λz=>by rw[z,h0]at e;cases e];exact I.Y.free b u e n hx
 .have q:=I.Y.qe b xs e;rw[Qo (QA q hn)];exact q
 .have q:=I.Y.cQ b u xs e;rw[Qo (QA q hn)];exact q
 .obtain⟨m,q⟩:=I.Y.dm b ps e;exact⟨m,by rw[Qo (QA q hn)];exact q⟩
 .rw[Qo hL.symm];exact I.free
 .rw[Qo (hc x c e)];exact I.aV x c e
 .obtain⟨e,n,r⟩:=I.pin p q;exact⟨e,by rw[Qo (hp p q)];exact n,r⟩
 .by_cases hb:b=a
  .subst hb;rw[Qf]at e;cases e;exact new
  .rw[Qo hb]at e;exact(I.ao b u e).yz (λc v _ q=>q) (λc q=>by rw[Qo (QA q hn)];exact q) λc xs q=>by rw[Qo (QA q hn)];exact q
end
section
def zK(h:i.natAbs<2^2000):Builtin.Int.intBits i<=2^20:=yao (intBits_le h) (by lia)
def RQ(i j:Int):Prop:=i.natAbs<2^2000/\j.natAbs<2^2000
def wA:aW X (binaryOp .Mult) (rI RQ λi j=>.int (i*j)):=AO λ_ _ _ _ _ _ _ hc q=>mul_int q (IntMulOk.of_bits (zK hc.1) (zK hc.2))
def RT(i j:Int):Prop:=0<j/\j.natAbs<2^2000
def yU:aW X (binaryOp .FloorDiv) (rI RT λi j=>.int (i/j)):=AO λi j _ _ _ _ _ hc q=>by
 have hp:Builtin.divisionGoesByPylong i j=false:=PyProof.noPylong_of_log2 (by
  by_cases h0:j.natAbs=0
  .rw[h0];lia
  .have:=(Nat.log2_lt h0).mpr hc.2;lia)
 refine floordiv_int (ybQ hc.1) ?_ (.inl hp);rw[ycE _ (ycX hc.1)];exact q
noncomputable def qy(x:Str)(n:Nat):Str:=⟨(replicate n x.cps).foldl (· ++ ·) #[]⟩
def xL:aW X (binaryOp .Mult) (λx y H Q=>∃z n,x=.str z/\y=.int n/\0<=n/\z.length*n.toNat<=sizeLine/\n<2^40/\Q (.str (qy z n.toNat)) H):=by
 intro U s σ H x y v u Q I rx ry h;obtain⟨z,n,rfl,rfl,h0,hl,hn,q⟩:=h;obtain⟨t,rfl⟩:=rx;obtain⟨t',rfl⟩:=ry;have hlen:∀k:Nat,(qy z k).cps.toList=(replicate k z.cps.toList).flatten:=λk=>by
  unfold qy;have:∀(l:List (Array Nat))(acc:Array Nat),(l.foldl (· ++ ·) acc).toList=acc.toList++(l.map (·.toList)).flatten:=by
   intro l
   induction l with
   |nil=>intro acc;simp
   |cons a r ih=>intro acc;rw[ydb,ih];simp
  rw[this];simp
 refine PySem.P.mul_str ?_ ?_ ?_ ?_
 .rw[tM (by lia),tM (by lia)];rfl
 .intro h1 h2 h3;have:(z.length:Int)*n<=2^63-1:=by
   have e:((z.length*n.toNat:Nat):Int)=(z.length:Int)*n:=by push_cast;rw[Int.toNat_of_nonneg h0]
   have:=Xf;lia
  have:=(Int.le_ediv_iff_mul_le (by lia:0<n)).mpr this;lia
 .intro h1 h2;have:=hl;exact tM (Nat.not_lt.mpr hl)
 .by_cases h1:n<1
  .rw[yai h1];have e:qy z n.toNat=Str.empty:=by rw[show n=0 by lia];rfl
   exact⟨by lia,.str (qy z n.toNat),H,I.tok _,⟨_,by rw[e]⟩,q⟩
  .rw[yah h1]
   by_cases h2:(n==1||z.length==0)=true
   .rw[yai h2];have e:qy z n.toNat=z:=by
     have:(qy z n.toNat).cps.toList=z.cps.toList:=by
      rw[hlen];simp only[Bool.or_eq_true,ybl]at h2;rcases h2 with h2|h2
      .rw[h2];simp
      .have:z.cps.toList=[]:=by
        have h3:z.cps.size=0:=h2;rw[Array.eq_empty_of_size_eq_zero h3]
       rw[this];simp
     have:(qy z n.toNat).cps=z.cps:=by rw[<-Array.toList_inj];exact this
     cases z;cases hh:qy _ n.toNat;rw[hh]at this;simp only at this;rw[this]
    exact⟨.str (qy z n.toNat),H,I,⟨t,by rw[e]⟩,q⟩
   .rw[yah h2];refine⟨?_,.str (qy z n.toNat),H,I.tok _,⟨_,Z⟩,q⟩;show(qy z n.toNat).cps.size<=sizeLine;rw[<-lE,hlen,List.length_flatten,ydc,List.sum_replicate_nat];have e:z.cps.toList.length=z.length:=by rw[lE];rfl
    rw[e,ybP];exact hl
def Wf:Ww X (.type "int") (λxs H Q=>∃x n,xs=[.str x]/\PySem.intText? x=some n/\x.length<=640/\Q (.int n) H):=by
 intro U s σ H xs us Q I r h;obtain⟨x,n,rfl,hn,hl,q⟩:=h;obtain⟨u,rfl,t,rfl⟩:=vals1 r;exact PySem.W.KIN.call_text hn hl ⟨.int n,H,I.tok _,⟨_,Z⟩,q⟩
def VH{U:List (Addr × Obj)}{σ:St}{H:Hp}{s:Shared}{A:Around}{xs ys:List V}{its ci:List Value}{e:Nat->Bool}{n:Nat}(r1:Vals xs its)(r2:Vals ys ci)(he:∀j x y u v,xs[j]? =some x->ys[j]? =some y->RelV x u->RelV y v->SeqAt.EqAt A s u v (e j)):∀j(h1:j<its.toArray.size)(h2:j<ci.toArray.size),SeqAt.EqAt A s its.toArray[j] ci.toArray[j] (e j):=by
 intro j h1 h2;have l1:=r1.length;have l2:=r2.length;rw[lF]at h1 h2;have k1:xs[j]? =some xs[j]:=yad (by lia);have k2:ys[j]? =some ys[j]:=yad (by lia);obtain⟨u,e1,q1⟩:=r1.get k1;obtain⟨v,e2,q2⟩:=r2.get k2;have z1:its.toArray[j]=u:=by
  rw[yad h1]at e1;simpa using tP e1
 have z2:ci.toArray[j]=v:=by
  rw[yad h2]at e2;simpa using tP e2
 rw[z1,z2];exact he j _ _ u v k1 k2 q1 q2
end
structure cR(K:Frag)(C:Addr):Prop where
 ex:excIn K C [.type "ValueError",.type "Exception",.type "BaseException",.type "object"] "ValueError.__new__"=true
 ga:findIn K (.ref C) "__getattribute__"=some (some (.builtin "BaseException.__getattribute__"))
 gn:findIn K (.ref C) "__getattr__"=some none
 cl:findIn K (.ref C) "__class__"=some (some (.builtin "object.__class__"))
def cR.err{K:Frag}(e:cR K C):fG K C:=⟨e.ex⟩
def Ui{K:Frag}(KX:K.In h)(e:fG K C):∃bm N nm q bs hdct sn sub ab col dd k0 k1 k2 k3 k5,h.get? C=some (excClassObj nm q C N bs bm hdct sn sub ab col dd k0 k1 k2 k3 k5 "ValueError.__new__")/\
  OwnTail h [.type "ValueError",.type "Exception",.type "BaseException",.type "object"] bm:=by
 have q:=e.ex;unfold excIn at q
 split at q
 .rename_i dd cd sl ho
  split at q
  .rename_i C' bm k0 k1 k2 k3 n k5 hm hs;simp only[yay,ybl,yce]at q;obtain⟨⟨⟨⟨⟨rfl,rfl⟩,fT⟩,ht⟩,ao⟩,En⟩:=q;obtain⟨nm,bs,mro,ns,qn,hd,sn,sub,ab,col,del⟩:=cd;dsimp only at hm fT ao En;subst hm fT;have iD:sl= #[k0,k1,k2,k3,some (.builtin "ValueError.__new__"),k5]:=by
    obtain⟨l⟩:=sl;simp only at hs;rw[hs]
   subst iD;exact⟨bm,ns,nm,qn,bs,hd,sn,sub,ab,col,dd,k0,k1,k2,k3,k5,KX _ _ ho,tail_of_in KX ht⟩
  .cases q
 .cases q
section
variable {prog:Program}{w:World}{A:Around}{E:Value->Shared->Prop}{h:Heap}{g:Array GenState}{d:Drawn}{t:Nat}{os:OsState}{K:Frag}{a C:Addr}{o:Obj}
def Uj(KX:K.In h)(e:cR K C)(hx:h.get? a=some o)(hc:o.cls=.ref C)(hq:R (.ok (.ret (.ref C))) ⟨h,g,d,t,os⟩):codeAny (model prog w) A (.call (.builtin "getset_descriptor.__get__") ⟨[.builtin "object.__class__",.ref a,.ref C],[]⟩) R ⟨h,g,d,t,os⟩:=by
 obtain⟨bm,N,nm,q,bs,hdct,sn,sub,ab,col,dd,k0,k1,k2,k3,k5,hC,T⟩:=Ui KX e.err;have Md:(⟨h,g,d,t,os⟩:Shared).TypeIs (.builtin "object.__class__") "getset_descriptor":=ydu;have AX:(Value.ref C::bm).contains (.type (".".intercalate ("object.__class__".cutAt '.').dropLast))=true:=by
  rw[F.owner_object_class,yei,T.hasType (X:="object") (b:=true) (by lia)];rfl
 refine ybY F.slot_gs_get.plain F.entry_gs_get (F.slot_gs_get.check _ _ _ _ _ _ _ _ Md (F.args_gs_get _ _ _) ?_)
 repeat (any_goals (first|assumption|(with_reducible refine ycy hx ?_;rw[hc])|(with_reducible refine wpAny_isSubtype_exc hC ?_;rw[AX])|wp_step))
 refine⟨Code.quiet_builtin _ (by rfl'),ybJ F.entry_object_class ?_⟩
 repeat (any_goals (first|assumption|(with_reducible refine ycy hx ?_;rw[hc])|wp_step))
def VI(KX:K.In h)(e:cR K C)(hx:h.get? a=some o)(hc:o.cls=.ref C)(hq:Q (.done (.ret (.ref C))) ⟨h,g,d,t,os⟩):wpAny (model prog w) A (Builtin.«object.__getattribute__» ⟨[.ref a,.str "__class__" tk],[]⟩) Q E ⟨h,g,d,t,os⟩:=by
 have qLa:=yeN (M:=model prog w) KX e.cl;have Md:(⟨h,g,d,t,os⟩:Shared).TypeIs (.builtin "object.__class__") "getset_descriptor":=ydu;have f5:=ydu;have f6:=F.slot_gs_get.lookup;have f7:=F.slot_gs_set.lookup
 repeat (any_goals (first|assumption|(with_reducible refine ycy hx ?_;rw[hc])|with_reducible refine yeG qLa ?_|wp_step))
 refine Uj KX e hx hc ?_
 repeat (any_goals (first|assumption|wp_step))
def VJ(KX:K.In h)(e:cR K C)(hx:h.get? a=some o)(hc:o.cls=.ref C)(hq:Q () ⟨h,g,d,t,os⟩):wpAny qMa A (checkBuiltinCall "BaseException.__getattribute__" ⟨[.ref a,oH],[]⟩) Q E ⟨h,g,d,t,os⟩:=by
 obtain⟨bm,N,nm,q,bs,hdct,sn,sub,ab,col,dd,k0,k1,k2,k3,k5,hC,T⟩:=Ui KX e.err;have hk:builtinKind "BaseException.__getattribute__"=some .slot:=by rfl'
 have sT:splitId "BaseException.__getattribute__"=some ("BaseException","__getattribute__"):=by rfl'
 have AX:(Value.ref C::bm).contains (.type "BaseException")=true:=by rw[yei,T.hasType (X:="BaseException") (b:=true) (by lia)];rfl
 have ha:=F.args_bexc_ga (.ref a) oH;simp only[checkBuiltinCall,hk,sT];refine yaa ?_
 .unfold isInstance
  repeat (first|(with_reducible refine ycy hx ?_;rw[hc])|(with_reducible refine wpAny_isSubtype_exc hC ?_;rw[AX])|wp_step)
  exact hq
def Yv(KX:K.In h)(e:cR K C)(hx:h.get? a=some o)(hc:o.cls=.ref C)(hq:R (.ok (.ret (.ref C))) ⟨h,g,d,t,os⟩):codeAny (model prog w) A (.call (.builtin "BaseException.__getattribute__") ⟨[.ref a,.str "__class__" tk],[]⟩) R ⟨h,g,d,t,os⟩:=
 ybY F.excAttr_ValueError.ga.plain F.entry_bexc_ga (VJ KX e hx hc (VI KX e hx hc hq))
def qP(KX:K.In h)(e:cR K C)(hx:h.get? a=some o)(hc:o.cls=.ref C)(hq:Q (.ref C) ⟨h,g,d,t,os⟩):wpAny (model prog w) A (getAttrBy (.ref a) (.str "__class__" tk) false) Q E ⟨h,g,d,t,os⟩:=by
 have L1:=yeN (M:=model prog w) KX e.ga;have L2:=yeN (M:=model prog w) KX e.gn;have f3:=F.excAttr_ValueError.ga.bind (.ref a);have BT:(Value.builtin "BaseException.__getattribute__"==Value.builtin "object.__getattribute__")=false:=by rfl'
 have u8:(onTheHeap (Value.ref C)&&Value.builtin "BaseException.__getattribute__"==Value.builtin "object.__getattribute__")=false:=by rw[BT];rfl
 repeat (any_goals (first|assumption|(with_reducible refine ycy hx ?_;rw[hc])|with_reducible refine yeG L1 ?_|with_reducible refine yeG L2 ?_|wp_step))
 refine Yv KX e hx hc ?_
 repeat (any_goals (first|assumption|wp_step))
def Yw(KX:K.In h)(e:cR K C)(hx:h.get? a=some o)(hc:o.cls=.ref C)(hq:Q (some (.ref C)) ⟨h,g,d,t+1,os⟩):wpAny (model prog w) A (getAttr? (.ref a) "__class__") Q E ⟨h,g,d,t,os⟩:=by
 unfold getAttr? getAttrBy?
 repeat (any_goals (first|assumption|with_reducible apply qP KX e hx hc|wp_step))
end
def yV{K:Frag}{a C:Addr}(e:cR K C):KitX K (.ref a) (.ref C) (λh=>∃o,h.get? a=some o/\o.cls=.ref C) where
 ty:=λqMa h X⟨o,e1,e2⟩=>by
  rw[<-e2];exact(PySem.W.Looks.ld e1).andThen .now
 it:=λqMa h X _=>by
  obtain⟨bm,N,nm,q,bs,hdct,sn,sub,ab,col,dd,k0,k1,k2,k3,k5,hC,T⟩:=Ui X e.err;intro A' Q' E' s' k q;unfold isType loadHead;exact yaa (wpAny_loadPart (k _ _ hC) (yac q))
 ne:=λh tp dd its n sl X Me=>by
  obtain⟨bm,N,nm,q,bs,hdct,sn,sub,ab,col,dd,k0,k1,k2,k3,k5,hC,T⟩:=Ui X e.err;refine Bool.eq_false_iff.mpr λq=>?_;have e:C=tp:=Value.ref.inj (ybl.mp q);subst e;rw[hC]at Me;exact absurd (Value.type.inj (yaE Obj.cls (tP Me))) (by lia)
 ca:=λ{prog w A E Q s} X⟨o,e1,e2⟩ k=>by
  obtain⟨h,g,d,t,os⟩:=s;exact Yw X e e1 e2 k
section
noncomputable def Gr:V->Bool
 | .ref _=>true
 | .ty _=>true
 |_=>false
noncomputable def B9:V->Value
 | .ref C=>.ref C
 | .ty n=>.type n
 |_=>.none
def RU(h:Gr c=true)(r:RelV c u):u=B9 c:=by
 cases c<;>first|exact r|cases h
inductive B' (K:Frag) (xs:List V) (H:Hp) (Q:VK):Prop
 |mk (x c b):xs=[x,c]->Gr c=true->((∃t,bI K H x t/\kitOne K t (B9 c)=some b)\/∃a C,x=.ref a/\H a=some (Gq a (.ref C))/\cR K C/\kitOne K (.ref C) (B9 c)=some b)->Q (.bl b) H->B' K xs H Q
def Wg:Ww X (.builtin "isinstance") (B' X.K):=by
 intro U s σ H xs us Q I r h;obtain⟨x,c,b,rfl,hc,hx,q⟩:=h;obtain⟨u,u2,rfl,ru,RV⟩:=vals2 r;obtain rfl:=RU hc RV;rcases hx with⟨t,ty,k⟩|⟨a,C,rfl,hH,e,k⟩
 .exact kZ I ru ty k λtk=>⟨.bl b,H,I.tok tk,Z,q⟩
 .obtain rfl:u=Value.ref a:=ru;obtain⟨⟨o,vs,e1,e2,_⟩,_⟩:=(show JJ X.prog X.w H s.heap a (Gq a (.ref C))from I.ao a _ hH);exact ydO (yV e) I.bH ⟨o,e1,e2⟩ k (λz=>nomatch z) λtk=>⟨.bl b,H,I.tok tk,Z,q⟩
end
noncomputable def jV(K:Frag):Bool:=K.all λp=>match p.2.cls with
 | .type n=> !(n=="list")
 |_=>true
def xM{K:Frag}{o:Obj}(h:jV K=true)(e:K.lookup a=some o):o.cls≠ .type "list":=λz=>by
 have q:=List.all_eq_true.mp h (a,o) (mem_of_lookupK e);dsimp only at q;rw[z]at q;exact absurd q (by lia)
noncomputable def ZV(cells:List (Str × Addr)):List (Str × NameKind)->List (Str × Addr)->List (Str × Addr)
 |[],acc=>acc
 |(n,k)::r,acc=>ZV cells r (if k==.free then(n,(cells.lookup n).getD 0)::acc else acc)
theorem wB{env:Env}:∀(names:List (Str × NameKind))(acc:List (Str × Addr)),(∀y∈names,y.2=.free->∃c,env.cells.lookup y.1=some c)->
  (forIn names acc λx(cs:List (Str × Addr))=>(do
   let (name,kind):=x
   if kind==.free then
    let c<-cellOf env name
    pure (ForInStep.yield ((name,c)::cs))
   else pure (ForInStep.yield cs):Sem (ForInStep (List (Str × Addr)))))=pure (ZV env.cells names acc)
 |[],acc,_=>rfl
 |(n,k)::r,acc,h=>by
  rw[yeQ];have ih:=λCh=>wB (env:=env) r Ch λy hy=>h y (tW _ hy)
  by_cases hk:k=.free
  .subst hk;obtain⟨c,hc⟩:=h (n,.free) tX rfl;have iC:env.cells.lookup n=some c:=hc;show _=pure (ZV env.cells r (if NameKind.free==NameKind.free then _ else _));have e:cellOf env n=pure c:=by unfold cellOf;rw[iC]
   simp only[ybf,ybM,e,pure_bind,iC,Option.getD_some];exact ih _
  .have hb:(k==NameKind.free)=false:=yas.mpr hk;show _=pure (ZV env.cells r (if k==NameKind.free then _ else _));simp only[hb,yam,yaL,pure_bind];exact ih _
def Uk{scope:Scope}{env:Env}(h:∀y∈scope.names,y.2=.free->∃c,env.cells.lookup y.1=some c):closureFor scope env=pure (ZV env.cells scope.names []):=by
 unfold closureFor;have:=wB (env:=env) scope.names [] h;simp only[bind_pure]at this ⊢;exact this
theorem qQ{cells:List (Str × Addr)}:∀(names:List (Str × NameKind))(acc:List (Str × Addr)),(∀y∈names,y.2=.free->∃c,cells.lookup y.1=some c)->(acc.lookup x=some c->cells.lookup x=some c)->
  (ZV cells names acc).lookup x=some c->cells.lookup x=some c
 |[],_,_,h,e=>h e
 |(n,k)::r,acc,h0,h,e=>by
  unfold ZV at e;refine qQ r _ (λy hy=>h0 y (tW _ hy)) (λe'=>?_) e
  split at e'
  .rename_i hk;rw[yby]at e'
   split at e'
   .rename_i hx;have FM:x=n:=yeO hx;subst FM;obtain⟨d,hd⟩:=h0 (x,k) tX (yeO hk);have Sc:cells.lookup x=some d:=hd;rw[Sc]at e' ⊢;exact e'
   .exact h e'
  .exact h e'
theorem Ul{cells:List (Str × Addr)}:∀(names:List (Str × NameKind))(acc:List (Str × Addr)),((∃c,acc.lookup x=some c)\/(x,NameKind.free)∈names)->∃c,(ZV cells names acc).lookup x=some c
 |[],acc,h=>by
  rcases h with h|h
  .exact h
  .cases h
 |(n,k)::r,acc,h=>by
  unfold ZV;refine Ul r _ ?_;rcases h with⟨c,h⟩|h
  .refine .inl ?_
   split
   .rw[yby]
    split
    .exact⟨_,Z⟩
    .exact⟨c,h⟩
   .exact⟨c,h⟩
  .rcases yak.mp h with e|h
   .cases e;refine .inl ?_;rw[yai (by rfl),yby,ybf];exact⟨_,Z⟩
   .exact .inr h
section
variable {P:Program}{w:World}{K:Frag}{mg:Str->Option Value}{Y:Heap}
abbrev Zz1(P:Program)(w:World)(K:Frag)(mg:Str->Option Value)(Y:Heap):=ak P w K mg Y (av P w)
def cT{x qual:Str}{st:Stmt}{fd:FuncData}{sp:Sp}(F:az K x qual st f fd)(S:af N ps (Qe st))(len:∀vs H Q E,sp vs H Q E->vs.length=ps.length)(f8:∀(am:Value)(A:Around)(L:List Env)(s:Shared)(H:Hp)(vs:List V)(Q:VK)(E:XK),Zc k (A.deeper (envOfC qual (Qe st) s.heap.objs.size f am))->sp vs H Q E->
   ∃t,d9 (qJ (av P w) P w K mg Y N qual (Qe st) f am A L s H E) (QS st) t/\t {nx:=λ_ H'=>Q .aq H',rt:=Q} (start N vs) H):Zz1 P w K mg Y (k+1) f fd ps sp:=by
 obtain⟨oc,od,kV,doc,pm,an,am,ct,ge,rfl,lk,e6⟩:=F.ex;exact LO lk e6 S len λA L s H vs Q E hr Go=>f8 am A L s H vs Q E hr Go
def okN{x qual:Str}{st:Stmt}{fd:FuncData}{sp:Sp}(F:az K x qual st f fd)(S:af N ps (Qe st))(len:∀vs H Q E,sp vs H Q E->vs.length=ps.length)(f8:∀(am:Value)(A:Around)(L:List Env)(s:Shared)(H:Hp)(vs:List V)(Q:VK)(E:XK),Zc k (A.deeper (envOfC qual (Qe st) s.heap.objs.size f am))->sp vs H Q E->
   ∃t,d9 (qJ (av P w) P w K mg Y N qual (Qe st) f am A L s H E).oB (QS st) t/\t {nx:=λ_ H'=>Q .aq H',rt:=Q} (start N vs) H):Zz1 P w K mg Y (k+1) f fd ps sp:=
 cT F S len λam A L s H vs Q E hr Go=>by
  obtain⟨t,h,q⟩:=f8 am A L s H vs Q E hr Go;exact⟨t,h.oB,q⟩
end
structure aA(X:Cx)(e:Expr)(t:TE):Prop where
 pe:PE X e t
structure fb(X:Cx)(e:List Stmt)(t:TS):Prop where
 ps:d9 X e t
def RW{k1 k2 v1 v2:Expr}{pos pos':Pos}{t1 t2 u1 u2:TE}(h1:aA X k1 t1)(h2:aA X v1 u1)(h3:aA X k2 t2)(h4:aA X v2 u2):fb X [.Return (some (.Dict [some k1,some k2] [v1,v2] pos)) pos'] (sH (Ge [(t1,u1),(t2,u2)])):=
 ⟨Qg (Qp (Ry (zJ h1.pe h2.pe (zJ h3.pe h4.pe Rx)) Z Z (List.cons_ne_nil _ _) (yae Z)))⟩
def xN:fb X [.Return (some (.Dict [some (.Constant (.str x) j1 p1),some (.Constant (.str y) j2 p2)] [.Constant (.int i) j3 p3,.Dict [] [] p4] p5)) p6] (sH (Ge [(tC (.str x),tC (.int i)),(tC (.str y),LZ)])):=
 RW ⟨Qk⟩ ⟨Qj⟩ ⟨Qk⟩ ⟨yR⟩
def yC{K:Frag}{Y:Heap}{x qual:Str}{st:Stmt}{fd:FuncData}{N ps:List Str}{k:Nat}{sp:Sp}(F:az K x qual st f fd)(S:af N ps (Qe st))(len:∀vs H Q E,sp vs H Q E->vs.length=ps.length)(f8:∀(am:Value)(A:Around)(L:List Env)(s:Shared)(H:Hp)(vs:List V)(Q:VK)(E:XK),Zc k (A.deeper (envOfC qual (Qe st) s.heap.objs.size f am))->sp vs H Q E->
   ∃t,fb (qJ (av P w) P w K mg Y N qual (Qe st) f am A L s H E).oB (QS st) t/\t {nx:=λ_ H'=>Q .aq H',rt:=Q} (start N vs) H):Zz1 P w K mg Y (k+1) f fd ps sp:=
 okN F S len λam A L s H vs Q E hr Go=>by
  obtain⟨t,h,q⟩:=f8 am A L s H vs Q E hr Go;exact⟨t,h.ps,q⟩
structure Def(P:Program)(w:World)(K:Frag)(mg:Str->Option Value)(Y:Heap)(k:Nat)(x:Str)(ps:List Str)(sp:Sp):Prop where
 ex:∃f fd,mg x=some (.ref f)/\keepIn K (.ref f)=true/\Binds K fd ps []/\Zz1 P w K mg Y k f fd ps sp
section
variable {X:Cx}{k k':Nat}{x:Str}{ps:List Str}{sp:Sp}{E:XK}{p pos:Pos}{e:Expr}{es:List Expr}{t:TA}
def Def.pe(D:Def X.prog X.w X.K X.mg X.Y k x ps sp)(hr:Zc k' X.A)(hk:k<=k')(hg:Gl X x)(hx:Passes (av X.prog X.w) X E)(ha:PA X (e::es) t)(mo:(x==("__debug__":Str))=false:=by lia)(he:starEach (e::es) X.env=(false,eval e X.env)::starEach es X.env:=by rfl)(dL:(backTo pos (starEach es X.env)).any (·.1)=false:=by rfl):PE X (.Call (.Name x p) (e::es) [] pos) (XS sp [] E t):=by
 obtain⟨f,fd,h1,h2,h3,h4⟩:=D.ex;exact k7 h4 (hr.mono hk) hg h1 h2 h3 .nil hx ha mo he dL
def Def.pq(D:Def X.prog X.w X.K X.mg X.Y k x ps sp)(hr:Zc k' X.A)(hx:Passes (av X.prog X.w) X E)(ha:PA X (e::es) t)(hk:k<=k':=by lia)(hg:Gl X x:=by exact rfl)(mo:(x==("__debug__":Str))=false:=by lia)(he:starEach (e::es) X.env=(false,eval e X.env)::starEach es X.env:=by rfl)(dL:(backTo pos (starEach es X.env)).any (·.1)=false:=by rfl):PE X (.Call (.Name x p) (e::es) [] pos) (XS sp [] E t):=D.pe hr hk hg hx ha mo he dL
def Def.RX(D:Def X.prog X.w X.K X.mg X.Y k x ps sp)(hr:Zc k' X.A)(hk:k<=k')(hg:Gl X x)(hx:Passes (av X.prog X.w) X E)(mo:(x==("__debug__":Str))=false:=by lia):PE X (.Call (.Name x p) [] [] pos) (XS sp [] E Wy):=by
 obtain⟨f,fd,h1,h2,h3,h4⟩:=D.ex;exact yO h4 (hr.mono hk) hg h1 h2 h3 .nil hx mo
end
def cf{c:Bool}{A B:Prop}(hT:c=true->A)(hF:c=false->B):if c=true then A else B:=by
 cases c with
 |true=>rw[yai rfl];exact hT rfl
 |false=>rw[yah (by lia)];exact hF rfl
def Mf(x y:Bool):(!decide (V.bl x=V.bl y))=(x !=y):=by cases x<;>cases y<;>rfl
def wC(x y:Int):(!decide (V.int x=V.int y))=decide (x≠y):=by
 by_cases h:x=y
 .subst h;simp
 .rw[tM (λe=>h (V.int.inj e)),tN h];rfl
def Kz(x y:Int):decide (V.int x=V.int y)=decide (x=y):=by
 by_cases h:x=y
 .subst h;simp
 .rw[tM (λe=>h (V.int.inj e)),tM h]
theorem aE.upd{K:Frag}{H:Hp}{o:HO}{xs:List V}(h:aE K H a xs)(n:a≠b):aE K (upd H b o) a xs:=by
 rcases h with(h|⟨o',h⟩)|h
 .exact .inl (.inl (by rw[Qo n];exact h))
 .exact .inl (.inr ⟨o',by rw[Qo n];exact h⟩)
 .exact .inr h
def aw.same{K:Frag}{xs:List V}(e:Qn H H')(h:aw K H a xs):aw K H' a xs:=by
 rcases h with(h|⟨o,h⟩)|h
 .exact .inl (.inl (e _ _ h))
 .exact .inl (.inr ⟨o,e _ _ h⟩)
 .exact .inr h
def Qn.new(h:H p=none):Qn H (upd H p o):=λb u e=>by rw[Qo (QA e h)];exact e
structure aK(H:Hp)(t r:Addr)(c:Int)(rs:List (Key × V)):Prop where
 tw:H t=some (.dK [(Sum.inr "count",.int c),(Sum.inr "rests",.ref r)])
 rt:H r=some (.dK rs)
 vs:∀kv∈rs,∃k z,kv=(Sum.inl k,V.int z)
 c0:0<=c
 ln:(rs.length:Int)<=c
 ne:t≠r
def aK.same{c:Int}{rs:List (Key × V)}(T:aK H t r c rs)(e:Qn H H'):aK H' t r c rs:=⟨e _ _ T.tw,e _ _ T.rt,T.vs,T.c0,T.ln,T.ne⟩
def Apart(t r:Addr)(H H':Hp):Prop:=∀b o,H b=some o->b≠t->b≠r->H' b=some o
def Apart.trans{H H1 H2:Hp}(a:Apart t r H H1)(b:Apart t r H1 H2):Apart t r H H2:=λc o e n1 n2=>b c o (a c o e n1 n2) n1 n2
def Apart.of{t r:Addr}{H H1:Hp}(a:Qn H H1):Apart t r H H1:=λc o e _ _=>a c o e
def Apart.seq{K:Frag}{xs:List V}(e:Apart t r H H')(h:aE K H a xs)(n1:a≠t)(n2:a≠r):aE K H' a xs:=by
 rcases h with(h|⟨o,h⟩)|h
 .exact .inl (.inl (e _ _ h n1 n2))
 .exact .inl (.inr ⟨o,e _ _ h n1 n2⟩)
 .exact .inr h
def qR{rs:List (Key × V)}(h:∀kv∈rs,∃k z,kv=(Sum.inl k,V.int z))(k:Int)(d:Int):∃z,(Vf rs (Sum.inl k:Key)).getD (.int d)=.int z:=by
 cases e:rs.find? λkv=>decide (kv.1=(Sum.inl k:Key))with
 |none=>exact⟨d,by unfold Vf;rw[e];rfl⟩
 |some p=>
  obtain⟨k',z,rfl⟩:=h p (List.mem_of_find?_eq_some e);exact⟨z,by unfold Vf;rw[e];rfl⟩
def qS{rs:List (Key × V)}(h:∀kv∈rs,∃k z,kv=(Sum.inl k,V.int z))(k z:Int):(∀kv∈putK rs (Sum.inl k:Key) (.int z),∃k z,kv=(Sum.inl k,V.int z))/\(putK rs (Sum.inl k:Key) (.int z)).length<=rs.length+1:=by
 unfold putK
 split
 .refine⟨λkv hm=>?_,by rw[tL];lia⟩;obtain⟨p,hp,rfl⟩:=yaZ.mp hm;obtain⟨k',z',rfl⟩:=h p hp
  split
  .exact⟨k',z,Z⟩
  .exact⟨k',z',Z⟩
 .refine⟨λkv hm=>?_,by rw[tK];exact tO _⟩;rcases yat.mp hm with hm|hm
  .exact h kv hm
  .exact⟨k,z,yap.mp hm⟩
def wD:¬ ((Sum.inr "count":Key)=(Sum.inr "rests":Key)):=by
 have h:¬ ("count":Str)="rests":=by rfl'
 exact λe=>h (ydM e)
def yW(c d:Int)(r:Addr):putK [((Sum.inr "count":Key),V.int c),(Sum.inr "rests",V.ref r)] (Sum.inr "count") (.int d)=[((Sum.inr "count":Key),V.int d),((Sum.inr "rests":Key),V.ref r)]:=by
 have h:¬ ((Sum.inr "rests":Key)=(Sum.inr "count":Key)):=λe=>wD e.symm;unfold putK;rw[yai (by simp)];simp only[lD,ydt,ybM,yah h]
def Ki(h:H t=some (.dK [(Sum.inr "count",.int c),(Sum.inr "rests",.ref r)])):xK H t (.str "count") (some (.int c)):=by
 have e:=xK.k (k:=(Sum.inr "count":Key)) h;rw[Wd rfl]at e;exact e
def Kj(h:H t=some (.dK [(Sum.inr "count",.int c),(Sum.inr "rests",.ref r)])):xK H t (.str "rests") (some (.ref r)):=by
 have e:=xK.k (k:=(Sum.inr "rests":Key)) h;rw[Vj wD,Wd rfl]at e;exact e
def xO(d:Int)(h:H t=some (.dK [(Sum.inr "count",.int c),(Sum.inr "rests",.ref r)])):oG H t (.str "count") (.int d) (upd H t (.dK [(Sum.inr "count",.int d),(Sum.inr "rests",.ref r)])):=by
 have e:=oG.k (k:=(Sum.inr "count":Key)) (v:=.int d) h (by show 2<sizeLine;lia);rw[yW]at e;exact e
inductive cg (K:Frag) (vs:List V) (H:Hp) (Q:VK) (ap:XK):Prop
 |mk (a t r:Addr) (ns:List Int) (c many:Int) (rs:List (Key × V)):vs=[.ref a,.ref t,.int many]->aE K H a (ns.map V.int)->aK H t r c rs->a≠t->a≠r->ns.length<=63->c<100000->0<many->many<1000000->(∀(v:Int)(Ix:List (Key × V))(H':Hp),0<=v->v<many->aK H' t r (c+1) Ix->Apart t r H H'->Q (.int v) H')->cg K vs H Q ap
inductive cw (vs:List V) (H:Hp) (Q:VK) (ap:XK):Prop
 |mk:vs=[]->(∀(t r:Addr)(H':Hp),H t=none->H r=none->aK H' t r 0 []->Qn H H'->Q (.ref t) H')->cw vs H Q ap
structure Own(mg:Str->Option Value):Prop where
 len:mg "len"=none
 range:mg "range"=none
 abs:mg "abs"=none
 max:mg "max"=none
 int:mg "int"=none
 sU:mg "isinstance"=none
 bool:mg "bool"=none
 val:mg "ValueError"=none
 reversed:mg "reversed"=none
 divmod:mg "divmod"=none
 str:mg "str"=none
 sum:mg "sum"=none
noncomputable def wE(sc L:Scope):Bool:=sc.names.all λy=> !(y.2==.free)||L.names.lookup y.1==some .cell
def qT{sc L:Scope}(h:wE sc L=true):∀y∈sc.names,y.2=.free->L.names.lookup y.1=some .cell:=λy hy e=>by
 have q:=List.all_eq_true.mp h y hy;rw[e]at q;simpa using q
structure sV(K:Frag)(x qual:Str)(st:Stmt)(f:Addr)(fd:FuncData)(am:Value):Prop where
 ex:∃(oc:Value)(od:Option Addr)(kV doc pm:Value)(an:Option Addr)(ct:Value)(ge:Array (Option Value)),
  fd=fnOf x qual (Q7 st) (QS st) (Qe st) .none kV doc pm an am ct/\K.lookup f=some ⟨oc,od,.func fd,ge⟩/\codeIn K am qual=true
def RY{K:Frag}{Y:Heap}{x qual:Str}{st:Stmt}{fd:FuncData}{am:Value}{N ps:List Str}{k:Nat}{sp:Sp}(F:sV K x qual st f fd am)(S:af N ps (Qe st))(len:∀vs H Q E,sp vs H Q E->vs.length=ps.length)(f8:∀(A:Around)(L:List Env)(s:Shared)(H:Hp)(vs:List V)(Q:VK)(E:XK),Zc k (A.deeper (envOfC qual (Qe st) s.heap.objs.size f am))->sp vs H Q E->
   ∃t,d9 (qJ (av P w) P w K mg Y N qual (Qe st) f am A L s H E).oB (QS st) t/\t {nx:=λ_ H'=>Q .aq H',rt:=Q} (start N vs) H):Zz1 P w K mg Y (k+1) f fd ps sp:=by
 obtain⟨oc,od,kV,doc,pm,an,ct,ge,rfl,lk,e6⟩:=F.ex;exact LO lk e6 S len λA L s H vs Q E hr Go=>by
  obtain⟨t,h,q⟩:=f8 A L s H vs Q E hr Go;exact⟨t,h.oB,q⟩
structure ai(K:Frag)(x:Str)(st:Stmt):Prop where
 ex:∃f fd,nsIn K mainGlobals x=some (some (.ref f))/\az K x x st f fd
def yX{K:Frag}{x:Str}{st:Stmt}{od an:Option Addr}{ge:Array (Option Value)}{kV doc pm am ct:Value}(a:nsIn K mainGlobals x=some (some (.ref f)))(l:K.lookup f=some ⟨oc,od,.func (fnOf x x (Q7 st) (QS st) (Qe st) .none kV doc pm an am ct),ge⟩)(c:codeIn K am x=true)(k:keepIn K (.ref f)=true):ai K x st:=
 ⟨f,_,a,⟨⟨oc,od,kV,doc,pm,an,am,ct,ge,Z,l,c⟩,k⟩⟩
section
variable {P:Program}{w:World}{K:Frag}{mg:Str->Option Value}{Y h:Heap}{x:Str}{st:Stmt}{k:Nat}{ps:List Str}{sp:Sp}
def ai.def(D:ai K x st)(X:K.In h)(G:h.Ns mainGlobals mg)(ao:∀f fd,az K x x st f fd->Zz1 P w K mg Y k f fd ps sp)(hb:∀(kV doc pm:Value)(an:Option Addr)(am ct:Value)(us:List Value),us.length=ps.length->bindArgs (fnOf x x (Q7 st) (QS st) (Qe st) .none kV doc pm an am ct) ⟨us,[]⟩=pure (ps.zip us)):Def P w K mg Y k x ps sp:=by
 obtain⟨f,fd,a,F⟩:=D.ex;exact⟨f,fd,mg_of X G a,F.kp,F.binds hb,ao f fd F⟩
end
def Um{k:Bool}{ta tb:TE}{σ:St}{H:Hp}{Q:VK}(Good:V->Hp->Prop)(hT:k=true->(∀v H',Good v H'->Q v H')->ta σ H Q)(hF:k=false->(∀v H',Good v H'->Q v H')->tb σ H Q)(rest:∀v H',Good v H'->Q v H'):if k=true then ta σ H Q else tb σ H Q:=by
 cases k with
 |true=>rw[yai rfl];exact hT rfl rest
 |false=>rw[yah (by lia)];exact hF rfl rest
section
variable {prog:Program}
def wF{elt target iter:Expr}{ifs:List Expr}{scope:Scope}{pos:Pos}{it acc:Value}{env:Env}(I:Nat->Shared->Prop)(turn:∀n s,I n s->wpAny (model prog w) A (pyNext it) (λr s₁=>match r with
   |none=>R (.ok .next) s₁
   |some v=>wpAny (model prog w) A (letOwnedTupleGo target it v) (λ_ Mg=>wpAny (model prog w) A (assign target env v) (λ_ s₂=>
     wpAny (model prog w) A (forIn ifs true λc r=>if r=true then do let ok<-isTrue c env (eval c env);pure (ForInStep.yield ok)else pure (ForInStep.yield r)) (λok s₃=>
      if ok=true then wpAny (model prog w) A (eval elt env) (λx s₄=>
       wpAny (model prog w) A (call (.builtin "list.append") [acc,x]) (λ_ s₅=>∃m,m<n/\I m s₅) (notedBy (model prog w) A env λe s'=>R (.error e) s') s₄) (notedBy (model prog w) A env λe s'=>R (.error e) s') s₃
      else ∃m,m<n/\I m s₃) (notedBy (model prog w) A env λe s'=>R (.error e) s') s₂) (notedBy (model prog w) A env λe s'=>R (.error e) s') Mg) (notedBy (model prog w) A env λe s'=>R (.error e) s') s₁) (notedBy (model prog w) A env λe s'=>R (.error e) s') s)(n:Nat)(h:I n s):
  codeAny (model prog w) A (.compLoop (.ListComp elt [⟨target,iter,ifs,0⟩] scope pos) 0 it acc env) R s:=by
 refine codeAny_loop rfl I (λn s hI=>?_) n h;show wpAny _ A ((compTurn (.ListComp elt [⟨target,iter,ifs,0⟩] scope pos) 0 it acc env).onRaise (λx=>do noteFrame x env;theTreesLotGoes x)) _ _ s;refine wpAny_noted ?_;rw[compTurn_list];refine yaa (ydG (yaa (yaV (turn n s hI) (λr s₁ h₁=>?_) λ_ _ h'=>h')));cases r with
 |none=>exact yac h₁
 |some v=>
  refine yaa (yaV h₁ (λ_ Mg RZ=>?_) λ_ _ h'=>h');refine yaa (yaV RZ (λ_ s₂ h₂=>yaa (yaV h₂ (λok s₃ h₃=>?_) λ_ _ h'=>h')) λ_ _ h'=>h');cases ok with
  |false=>exact yac ⟨Z,h₃⟩
  |true=>
   exact yaa (yaa (yaV h₃ (λx s₄ h₄=>yaa (yaV h₄ (λ_ s₅ h₅=>yac (yac ⟨Z,h₅⟩)) λ_ _ h'=>h')) λ_ _ h'=>h'))
end
def sW(X:Cx)(ifs:List Expr)(t:TT):Prop:=
 ∀(U:List (Addr × Obj))(s:Shared)(σ:St)(H:Hp)(Q:Bool->Hp->Prop),Inv X U σ H s->t σ H Q->
  wpAny (model X.prog X.w) X.A (forIn ifs true λc r=>if r=true then do let ok<-isTrue c X.env (eval c X.env);pure (ForInStep.yield ok)else pure (ForInStep.yield r)) (TP X U σ Q) X.xe s
def oJ:TT:=λ_ H Q=>Q true H
def Xo:sW X [] oJ:=λU s σ H Q I h=>wpAny_tests_nil ⟨H,I,h⟩
def VL(h:PT X c t):sW X [c] t:=λU s σ H Q I q=>wpAny_tests_one (h U s σ H Q I q)
def Uo(NB:List Str)(wi:TI)(g:TG)(tt:TT)(te:TE):TE:=λσ H Q=>wi σ H λJ H1=>∃W:Nat->Nat->List V->Hp->Prop,(∃m,W 0 m [] H1)/\∀i m vs H,W i m vs H->
 (J.stop i H/\∀p,H p=none->Q (.ref p) (upd H p (.lst vs)))\/(J.go i H/\vs.length<sizeLine/\∃N:List V->Hp->Prop,(∀pi H',N pi H'->∃m',m'<m/\W (i+1) m' pi H')/\
  ∀x H',J.dj i H x H'->g x (replicate NB.length none) H' λσ2 H2=>tt σ2 H2 λb H3=>if b=true then te σ2 H3 λv H4=>N (vs++[v]) H4 else N vs H3)
noncomputable abbrev yD(ys:List Value):Obj:={cls:=.type "list",data:=.seq ys.toArray ys.length}
open Builtin Builtin.Str
section
variable {prog:Program}
def ydm{name:Str}{id:String}{rest:List Value}(slot:Slot "str" name id)(entry:entryFor table id=some B)(args:argsOk id ⟨.str x t::rest,[]⟩)(g:Gives (B ⟨.str x t::rest,[]⟩) m)(h:m.post Q s):wpAny (model prog w) A (call (.builtin id) (.str x t::rest)) Q E s:=
 yeq (ybY slot.plain entry (slot.check _ _ _ _ _ _ _ _ (ydK _ _ _) args (g prog w A (wants Q E) s h)))
end
section
inductive i8 (C:Str->Str->Prop) (f:Str->Str->V) (x:V) (vs:List V) (H:Hp) (Q:VK):Prop
 |mk (z y):x=.str z->vs=[.str y]->C z y->Q (f z y) H->i8 C f x vs H Q
def Sa(z _:Str):Prop:=z.length<=sizeLine
def Up:fQ X "str.strip" (i8 Sa λz y=>.str (Txt.stripChars z y)):=by
 intro U s σ H x vs v us Q I rx rv h;obtain⟨z,y,rfl,rfl,hl,q⟩:=h;obtain⟨t,rfl⟩:=rx;obtain⟨u,rfl,t',rfl⟩:=vals1 rv;exact ydm F.slot_str_strip F.entry_str_strip (F.args_str_strip_2 _ _) (gives_str_strip_chars z y t t') (ycM (λ_=>fits_stripped _ _ _ hl) λt2 k=>⟨.str _,H,I.tok k,⟨t2,Z⟩,q⟩)
def Uq:fQ X "str.startswith" (i8 (λ_ _=>True) λz y=>.bl (Txt.startswith z y)):=by
 intro U s σ H x vs v us Q I rx rv h;obtain⟨z,y,rfl,rfl,_,q⟩:=h;obtain⟨t,rfl⟩:=rx;obtain⟨u,rfl,t',rfl⟩:=vals1 rv;exact ydm F.slot_str_startswith F.entry_str_startswith (F.args_str_startswith_2 _ _) (gives_str_startswith z y t t') ⟨.bl _,H,I,Z,q⟩
def Sb:fQ X "str.find" (i8 (λ_ _=>True) λz y=>.int (Txt.find z y)):=by
 intro U s σ H x vs v us Q I rx rv h;obtain⟨z,y,rfl,rfl,_,q⟩:=h;obtain⟨t,rfl⟩:=rx;obtain⟨u,rfl,t',rfl⟩:=vals1 rv;exact ydm F.slot_str_find F.entry_str_find (F.args_str_find_2 _ _) (gives_str_find z y t t') ⟨.int _,H,I.tok _,⟨_,Z⟩,q⟩
def Ur:fQ X "str.zfill" (λx vs H Q=>∃z i,x=.str z/\vs=[.int i]/\PadOk i=true/\Q (.str (Txt.zfill z i)) H):=by
 intro U s σ H x vs v us Q I rx rv h;obtain⟨z,i,rfl,rfl,hp,q⟩:=h;obtain⟨t,rfl⟩:=rx;obtain⟨u,rfl,t',rfl⟩:=vals1 rv;exact ydm F.slot_str_zfill F.entry_str_zfill (F.args_str_zfill_2 _ _) (gives_str_zfill z i t t' (ycu hp).1 (ycu hp).2) (ycM (fits_zfilled (ycu hp).2) λt2 k=>⟨.str _,H,I.tok k,⟨t2,Z⟩,q⟩)
def Zb:BS X (λx lo hi H Q=>∃z,x=.str z/\z.length<=sizeLine/\Q (.str (StrLaws.sliceText z lo hi)) H):=by
 intro U s σ H x v vl vu lo hi sl Q I rx hs pl pu h;obtain⟨z,rfl,hl,q⟩:=h;obtain⟨t,rfl⟩:=rx;have part:∀{v:Value}{o:Option Int},IsPart v o->∃p:Option (Int × Tok),v=partValue p/\p.map (·.1)=o:=λp=>by
  cases p with
  |none=>exact⟨none,Z,Z⟩
  |int i t=>exact⟨some (i,t),Z,Z⟩
 obtain⟨p,rfl,rfl⟩:=part pl;obtain⟨p2,rfl,rfl⟩:=part pu;exists "str",_,F.slot_str_getitem.lookup,ydK _ _ _;refine wpAny_getItem_str_slice (l:=p) (u:=p2) (st:=none) hs rfl ?_;unfold sliceMade slicePicked;refine ycM (λ_=>?_) λt2 k=>⟨.str (StrLaws.sliceText z (p.map (·.1)) (p2.map (·.1))),H,I.tok k,⟨t2,Z⟩,q⟩;show(List.filterMap _ _).toArray.size<=sizeLine;rw[lF];exact yao (List.length_filterMap_le _ _) (yao (sliceIndices_le _ _ _) hl)
end
def wG:typeLookup (.type "list_reverseiterator") "__len__"=pure none:=by rw[ybt,yaO];kernel_rfl
def yY:typeLookup (.type "list_reverseiterator") "__length_hint__"=pure (some (.builtin "list_reverseiterator.__length_hint__")):=by rw[ybt,yaO];kernel_rfl
section
variable {prog:Program}
def wH(hh:A.handled=none)(I l:Addr)(sw:l≠I)(items:Array Value):WalksS prog w A I [I,l] [I] (λa b=>a=b) items.size (λi v=>items[items.size-1-i]? =some v) (λi s=>i<=items.size/\s.heap.IsRevIter I l ((items.size:Int)-1-(i:Int))/\s.heap.IsList l items) where
 sub:=λb hb=>by simp at hb;simp[hb]
 grefl:=λ_=>rfl
 gtrans:=λ_ _ _ a b=>a.trans b
 frame:=λi s h' tk x _ hk=>⟨x.1,x.2.1.at λo e=>hk I (by simp) o e,x.2.2.at λo e=>hk l (by simp) o e⟩
 item:=λi s Q E hi x hQ=>by
  have e:(items.size:Int)-1-(i:Int)=((items.size-1-i:Nat):Int):=by lia
  have hit:=x.2.1;rw[e]at hit;have hx:items[items.size-1-i]? =some (items[items.size-1-i]'(by lia)):=yaR (by lia);refine wpAny_pyNext_rev_item hit x.2.2 hx λh' Ca Eo=>?_;have e2:((items.size-1-i:Nat):Int)-1=(items.size:Int)-1-((i+1:Nat):Int):=by lia
  rw[e2]at Ca;exact hQ _ _ hx ⟨hi,Ca,x.2.2.at λo eo=>(Eo.2 l sw).trans eo⟩ ⟨λb o hb eo=>Eo.extBut b o (λh=>hb (by simp[h])) eo,Z,Z,Z,tO _⟩
 done:=λs Q E x hQ=>by
  have e:(items.size:Int)-1-(items.size:Int)= -1:=by lia
  have hit:=x.2.1;rw[e]at hit;exact wpAny_pyNext_rev_end hh hit λh' oK=>hQ _ ⟨λb o hb eo=>oK b o (λh=>hb (by simp[h])) eo,Z,Z,Z,tO _⟩
 self:=λ_ _ _ _ x hQ=>wpAny_pyIter_revIter x.2.1 hQ
variable {wr:List Addr}{St:Nat->Shared->Prop}
def jW(W:WalksS prog w A.in1 I fp wr G n P St)(hT:∀i s,St i s->s.TypeIs (.ref I) "list_reverseiterator")(lm:St 0 s)(Gs:∀b∈fp,b<s.heap.objs.size)(hI:I∈fp)(hQ:∀s' acc,Moved wr G s s'->ItemsOf P acc n->Q acc.toList s')(hn:n<=sizeLine):wpAny (model prog w) A (collect (.ref I)) Q E s:=by
 have Mh:s.heap.objs.size∉fp:=λhm=>lH _ (Gs _ hm);have sX:s.heap.objs.size≠I:=λe=>Mh (e▸hI);unfold collect;refine yaa (wpAny_runValue (ybJ F.entry_proto_collect ?_));rw[ybB F.plain_proto_collect _];show wpAny _ A.in1 (newList []>>=λl=>again (.builtin "list.__iadd__" ⟨[l,.ref I],[]⟩)) _ _ s;refine yaa (yaX ?_);refine yac ⟨ycz F.plain_list_iadd _,ybJ F.entry_list_iadd ?_⟩;rw[ybB F.plain_list_iadd _];have fc:=W.frame 0 s (s.heap.push {cls:=.type "list",data:=.seq ([]:List Value).toArray}) s.toks lm (tO _) λb _ o e=>yab _ e;have Gu:(s.heap.push {cls:=.type "list",data:=.seq ([]:List Value).toArray}).get? s.heap.objs.size=some {cls:=.type "list",data:=.seq ([]:List Value).toArray}:=yag _ rfl;have h1:Builtin.List.listSameRef (.ref s.heap.objs.size) (.ref I)=false:=by simp[Builtin.List.listSameRef,sX]
 show wpAny _ A.in1 (Builtin.List.listExtendWith (.ref s.heap.objs.size) (.ref I) (.ref s.heap.objs.size)) _ _ _;unfold Builtin.List.listExtendWith;refine yaa (yds (hT 0 _ fc) ?_);rw[yah (by rw[h1];lia)];refine yaa (W.self 0 _ _ _ fc ?_);refine yaa (ybe ?_);unfold Builtin.List.listLengthHint;refine yaa (yaN (hT 0 _ fc) wG ?_);show wpAny _ A.in1 (specialOf (Value.ref I) (Str.ofString "__length_hint__")>>=_) _ _ _;refine yaa (yaN (hT 0 _ fc) yY ?_);generalize bB:("list_reverseiterator.__length_hint__":String)=Ep
 (fail_if_success (clear bB Ep))
 wp_delta
 rw[show splitId Ep=some ("list_reverseiterator","__length_hint__")from by subst bB;rfl'];subst bB;refine yaa (ycN (b:=true) (hT 0 _ fc) (by rw[ydq];kernel_rfl) ?_);refine yac ?_;rw[yah (by lia)];refine yac ⟨ycz ydQ _,codeAny_extend_loopS W hn _ Mh _ n 0 _ _ _ rfl (lG _) fc Gu (ItemsOf.nil P) λs' Ch c' hm iE IN=>?_⟩;show wpAny _ A (load s.heap.objs.size>>=_) _ _ s';refine yaa (wpAny_load iE ?_);exact yac (hQ s' Ch (Moved.drop_new (o:={cls:=.type "list",data:=.seq ([]:List Value).toArray}) (tk:=s.toks) hm (tO _)) IN)
def yZ(W:WalksS prog w A.in1.in1 I fp wr G n P St)(hT:∀i s,St i s->s.TypeIs (.ref I) "list_reverseiterator")(lm:St 0 s)(Gs:∀b∈fp,b<s.heap.objs.size)(hI:I∈fp)(Gv:∀i v,P i v->∃y u,v=Value.str y u)(hq:∀s'(l:List (Str × Tok)),Moved wr G s s'->ItemsOf P (strValues l).toArray n->JoinOk x (l.map (·.1))=true/\∀t' k,Q (.str (Txt.join x (l.map (·.1))) t') {s' with toks:=k})(hsz:n<=sizeLine):wpAny (model prog w) A (call (.builtin "str.join") [.str x t,.ref I]) Q E s:=by
 refine yeq (ybY F.slot_str_join.plain F.entry_str_join (F.slot_str_join.check _ _ _ _ _ _ _ _ (ydK _ _ _) (F.args_str_join_2 _ _) ?_));rw[join_tree_other];refine yaa (yds (hT 0 s lm) ?_);show wpAny _ A.in1 ((pyIter (.ref I)).tryCatch _>>=λit=>collect it>>=λitems=>joinTail x items) _ _ s;refine yaa (wpAny_tryCatch (W.of_in1.self 0 s _ _ lm ?_));refine yaa (jW W hT lm Gs hI (λs' acc hm IN=>?_) hsz);obtain⟨l,hl⟩:=exists_strValues acc.toList λv hv=>by
  obtain⟨j,hj,rfl⟩:=Array.mem_iff_getElem.mp (ycF.mp hv);exact Gv j _ (IN.2 j _ (yaR hj))
 rw[<-hl];have Cb:ItemsOf P (strValues l).toArray n:=by rw[hl];simpa using IN
 obtain⟨ao,Cc⟩:=hq s' l hm Cb;unfold JoinOk at ao;rw[yce]at ao;have g:Gives (joinTail x (strValues l)) (joinMade x l):=by
  have g0:=gives_joinTail x l ao;cases l with
  |nil=>exact g0
  |cons p r=>cases r with
   |nil=>exact g0
   |cons q r'=>exact g0
 exact g prog w A (wants Q E) s' (post_join l ⟨joinFit_length ao,Cc⟩)
end
def ydH:bootBuiltins "reversed"=some (.type "reversed"):=by boot_by_name
section
def Sd(to te:TE):TE:=λσ H Q=>to σ H λx H1=>∃z,x=.str z/\te σ H1 λy H2=>∃(l:Addr)(ys:List Str),y=.ref l/\H2 l=some (.lst (ys.map V.str))/\JoinOk z ys.reverse=true/\Q (.str (Txt.join z ys.reverse)) H2
def xP{to te:TE}{apos fe ce p:Pos}(hc:X.calm=true)(hg:Gl X "reversed")(hm:X.mg "reversed"=none)(ho:PE X o to)(he:PE X e te)(AT:attributeBase o "join" X.env (eval o X.env)=eval o X.env:=by rfl)(lw:(apos.endLine==ce.line)=true:=by rfl)(hs:starEach [e] X.env=[(false,eval e X.env)]:=by rfl):PE X (.Call (.Attribute o "join" apos) [.Call (.Name "reversed" p) [e] [] fe] [] ce) (Sd to te):=by
 intro U s σ H Q I h;refine wpAny_Call_method_late AT rfl lw rfl (ax (ho U s σ H _ I h) λv s1⟨x,H1,I1,r1,q1⟩=>?_);obtain⟨z,rfl,q1⟩:=q1;obtain⟨t,rfl⟩:=r1;refine⟨"str","str.join",yaD,yck,ycl,ydK _ _ _,(λ_ e=>nomatch e),?_⟩;refine ycq rfl (ycG ?_);show wpAny _ _ (spliced ((false,eval (.Call (.Name "reversed" p) [e] [] fe) X.env)::[])) _ _ s1;refine ybv ?_;refine yaY (ZQ I1 hg hm ydH ?_ (by lia) (by lia));refine yau ?_ hs rfl;rw[hs];show wpAny _ _ (spliced ((false,eval e X.env)::[])) _ _ s1;refine ybv (ax (he U s1 σ H1 _ I1 q1) λy s2⟨yv,H2,I2,r2,l,ys,e2,hl,hj,q2⟩=>ycc ?_);subst e2;obtain rfl:y=Value.ref l:=r2;obtain⟨zz,its,n,rv,hlen,eo⟩:=I2.AU hl;have FS:s2.heap.IsList l its.toArray:=⟨_,eo,Z,n,Z⟩;have Cd:its.length=ys.length:=by rw[<-rv.length,tL]
 refine call_reversed_list FS ?_;refine ycc ?_;have up:∀b o,s2.heap.get? b=some o->(s2.heap.push (revObj l ((its.toArray.size:Int)-1))).get? b=some o:=λb o e=>yab _ e;have I3:Inv X U σ H2 {s2 with heap:=s2.heap.push (revObj l ((its.toArray.size:Int)-1))}:=I2.kept (t':=s2.toks) up;have sw:l≠s2.heap.objs.size:=yaq (yaj eo);have hh:X.A.in1.in1.handled=none:=I2.ok.hd hc;have Cf:∀(i:Nat)(u:Value),its.toArray[its.toArray.size-1-i]? =some u->∃y t,u=Value.str y t:=λi u hu=>by
  have h1:its[its.toArray.size-1-i]? =some u:=by simpa using hu
  have bi:=(yaf.mp h1).1;have h2:(ys.map V.str)[its.toArray.size-1-i]? =some ((ys.map V.str)[its.toArray.size-1-i]'(by rw[tL];lia)):=yad _;obtain⟨u',e',r'⟩:=rv.get h2;rw[h1]at e';cases e';rw[List.getElem_map]at r';obtain⟨t',rfl⟩:=r';exact⟨_,_,Z⟩
 show wpAny _ _ (call (.builtin "str.join") [.str z t,.ref s2.heap.objs.size]) _ _ _;refine yZ (wH hh s2.heap.objs.size l sw its.toArray) (λi s x=>x.2.1.typeIs) ⟨lG _,⟨_,yag _ rfl,Z,by simp[revObj]⟩,FS.push _⟩ (λb hb=>?_) (by simp) Cf (λs' ls hm hi=>?_) ?_
 .show b<(s2.heap.push _).objs.size;rw[yaQ];rcases yak.mp hb with rfl|hb
  .exact yco _
  .rw[yap.mp hb];exact ycA (yaj eo)
 .have Se:ls.map (·.1)=ys.reverse:=by
   have hsz:ls.length=its.length:=by
    have:=hi.1;unfold strValues at this;simpa using this
   refine ybG λj=>?_
   by_cases hj:j<ls.length
   .have e1:(strValues ls).toArray[j]? =some (Value.str ls[j].1 ls[j].2):=by
     unfold strValues;simp[hj]
    have e2:=hi.2 j _ e1;have e3:its[its.toArray.size-1-j]? =some (Value.str ls[j].1 ls[j].2):=by simpa using e2
    have h2:(ys.map V.str)[its.toArray.size-1-j]? =some ((ys.map V.str)[its.toArray.size-1-j]'(by rw[tL,lF];lia)):=yad _;obtain⟨u',e',r'⟩:=rv.get h2;rw[e3]at e';cases e';rw[List.getElem_map]at r';obtain⟨t',r'⟩:=r';have hq:=(Value.str.inj r').1;rw[lh,yad hj,ydv (by lia)];simp only[Option.map_some];have Sf:its.toArray.size-1-j=ys.length-1-j:=by rw[lF,Cd]
    simp only[Sf]at hq;rw[yad (by lia),hq]
   .rw[ybR (by rw[tL];lia),ybR (by rw[lg];lia)]
  rw[Se];refine⟨hj,λt' k=>?_⟩;obtain⟨h',g',d',IO,iW⟩:=s';obtain rfl:g'=s2.gens:=hm.gens.symm;obtain rfl:d'=s2.drawn:=hm.drawn;obtain rfl:iW=s2.os:=hm.os;have fr:H2 s2.heap.objs.size=none:=I2.ao.fresh (tO _);have F3:=I2.xv (tO _) fr;obtain⟨f0,f1,f2,f3,f4,f5⟩:=F3;refine⟨.str _,H2,?_,⟨t',Z⟩,q2⟩;exact(I3.turned (h':=h') (t':=k) (it:=s2.heap.objs.size) (λb o hb e=>hm.heap b o (by simpa using hb) e) f0 f1 f3 f4 f5:)
 .rw[lF,Cd, <-tL (f:=V.str)];exact zz
def Xp:aW X (binaryOp .Mult) (λx y H Q=>∃z n,x=.str z/\y=.int n/\ -(2^40)<n/\z.length*n.toNat<=sizeLine/\n<2^40/\Q (.str (qy z n.toNat)) H):=by
 intro U s σ H x y v u Q I rx ry h;obtain⟨z,n,ex,ey,h0,hl,hn,q⟩:=h
 by_cases hz:0<=n
 .exact xL U s σ H x y v u Q I rx ry ⟨z,n,ex,ey,hz,hl,hn,q⟩
 .subst ex ey;obtain⟨t,rfl⟩:=rx;obtain⟨t',rfl⟩:=ry;refine PySem.P.mul_str ?_ ?_ ?_ ?_
  .rw[tM (by lia),tM (by lia)];rfl
  .intro h1 h2 h3;lia
  .intro h1 h2;lia
  .rw[yai (by lia)];have e:qy z n.toNat=Str.empty:=by rw[show n.toNat=0 by lia];rfl
   exact⟨by lia,.str (qy z n.toNat),H,I.tok _,⟨_,by rw[e]⟩,q⟩
end
noncomputable def AY(lo c:Int)(n:Nat):It:=⟨λi _=>i<n,λi H x H'=>H'=H/\x=.int (lo+i*c),λi _=>n<=i⟩
def VM{P:Program}{w:World}{K:Frag}{tg:Expr}(it:Addr)(lo c:Int)(n:Nat):Turn P w K tg (AY lo c n) [it] it (λi h=>IsRangeIter h it (lo+(i:Nat)*c) ((n:Int)-(i:Nat)) c) where
 mem:=by simp
 obj:=λi h st b hb=>by
  have e:b=it:=by simpa using hb
  subst e;exact⟨_,st,λv z=>by
   have z':Data.fields _=Data.cell v:=z;cases z'⟩
 keep:=λi h h' st k=>k it (by simp) _ st
 item:=by
  intro X hP hw hK hc i U s σ H E I hf st hg;subst hP hw hK;obtain⟨f0,f1,f2,f3,f4,f5⟩:=hf it (by simp);have W:=Walks.range (prog:=X.prog) (w:=X.w) (I.ok.hd hc) it lo c n;refine W.item i s _ _ hg st λv h' tk hv Db kk=>?_;obtain⟨t,rfl⟩:=hv;have I1:Inv X U σ H {s with heap:=h',toks:=tk}:=I.turned (λb o hb e=>kk b o (by simpa using hb) e) f0 f1 f3 f4 f5;exact⟨_,Z,xw (s:={s with heap:=h',toks:=tk}) (n:="range_iterator") Db rfl rfl (by lia) ⟨.int (lo+i*c),H,I1,⟨t,Z⟩,⟨Z,Z⟩,Db,λb hb=>(hf b hb).1⟩⟩
 done:=by
  intro X hP hw hK hc i U s σ H E I hf st hg;subst hP hw hK;obtain⟨f0,f1,f2,f3,f4,f5⟩:=hf it (by simp);exact wpAny_pyNext_range_end (I.ok.hd hc) st (by have:n<=i:=hg;lia) λh' eb=>⟨Z,I.turned (t':=s.toks) (λb o hb e=>eb b o hb e) f0 f1 f3 f4 f5⟩
 self:=λ_ _ _ _ _ st h=>ydj st h
section
variable {X:Cx}{tg:Expr}
def Sg(ta:TA):TI:=λσ H R=>ta σ H λvs H1=>∃(i j c:Int)(n:Nat),vs=[.int i,.int j,.int c]/\(-(2^40)<=i/\i<2^40/\ -(2^40)<=j/\j<2^40/\0<c/\c<2^20)/\Builtin.Range.rangeSize i j c=(n:Int)/\R (AY i c n) H1
def wI{p pos:Pos}(hg:Gl X "range")(hm:X.mg "range"=none)(ha:PA X [a,b,d] ta)(hs:starEach [a,b,d] X.env=(false,eval a X.env)::starEach [b,d] X.env:=by rfl)(hp:(backTo pos (starEach [b,d] X.env)).any (·.1)=false:=by rfl):PI X tg (.Call (.Name "range" p) [a,b,d] [] pos) (Sg ta):=by
 intro U s σ H R I h;refine Call_ (ZQ I hg hm boot_range (yau (ax (ha pos U s σ H _ I h) λus s1⟨vs,H1,I1,r1,q1⟩=>?_) hs hp));obtain⟨i,j,c,n,e,⟨b1,b2,b3,b4,b5,b6⟩,hn,q⟩:=q1;subst e;obtain⟨u1,u2,u3,rfl,⟨t1,rfl⟩,⟨t2,rfl⟩,⟨t3,rfl⟩⟩:∃u1 u2 u3,us=[u1,u2,u3]/\RelV (.int i) u1/\RelV (.int j) u2/\RelV (.int c) u3:=by
  cases r1 with
  |cons p q=>
   cases q with
   |cons p' q'=>
    cases q' with
    |cons Si Sj=>
     cases Sj;exact⟨_,_,_,Z,p,p',Si⟩
 refine call_range_3 (by lia) ?_ (.inl (ydk (by lia)));refine wpAny_pyIter_range (IsRange.new ..) ?_ ?_
 .have AZ:0<=(n:Int):=Int.natCast_nonneg n;have iF:(n:Int)<=2^41:=by
   rw[<-hn];unfold Builtin.Range.rangeSize;rw[yai b5]
   split
   .have:(j-i-1)/c<=(j-i-1)/1:=by
     rw[ydr];exact Int.ediv_le_self _ (by lia)
    rw[ydr]at this;lia
   .lia
  unfold Builtin.Range.small;simp only[hn];unfold Builtin.Range.rangeFitsLong;rw[yai b5];rw[tN (show-(2^63)<=i by lia),tN (show i<2^63 by lia),tN (show-(2^63)<=j by lia),tN (show j<2^63 by lia),tN (show-(2^63)<=c by lia),tN (show c<2^63 by lia),tN (show-(2^63)<=(n:Int) by lia),tN (show(n:Int)<2^63 by lia),
   tN (show-(2^63)<=j+(c-1) by lia),tN (show j+(c-1)<2^63 by lia)]
  simp
 have I2:Inv X U σ H1 {s1 with heap:=s1.heap.push {cls:=.type "range",data:=.fields #[.int i t1,.int j t2,.int c t3]},toks:=s1.toks}:=I1.kept λb o e=>yab _ e;refine⟨(s1.heap.push {cls:=.type "range",data:=.fields #[.int i t1,.int j t2,.int c t3]}).objs.size,[(s1.heap.push {cls:=.type "range",data:=.fields #[.int i t1,.int j t2,.int c t3]}).objs.size],_,_,H1,Z,
  I2.kept (t':=s1.toks) λb o e=>yab _ e,VM _ i c n,?_,λb hb=>?_,q⟩
 .have e1:i+((0:Nat):Int)*c=i:=by simp
  have e2:((n:Nat):Int)-((0:Nat):Int)=Builtin.Range.rangeSize i j c:=by rw[hn];simp
  show IsRangeIter _ _ (i+((0:Nat):Int)*c) (((n:Nat):Int)-((0:Nat):Int)) c;rw[e1,e2];exact yag _ rfl
 .have e:b=(s1.heap.push {cls:=.type "range",data:=.fields #[.int i t1,.int j t2,.int c t3]}).objs.size:=by simpa using hb
  subst e;exact I2.xv (tO _) (I2.ao.fresh (tO _))
def xQ{lo c:Int}{n:Nat}{g:TG}{tb:TS}{D:Ends}{σ:St}{H:Hp}(Pv:Nat->St->Hp->Prop)(h0:Pv 0 σ H)(hs:∀i σ H,i<n->Pv i σ H->g (.int (lo+i*c)) σ H λσ2 H2=>tb {D with nx:=Pv (i+1),ct:=Pv (i+1),bk:=D.nx} σ2 H2)(hd:∀σ H,Pv n σ H->D.nx σ H):∃W:Nat->Nat->St->Hp->Prop,(∃m,W 0 m σ H)/\∀i m σ H,W i m σ H->
   ((AY lo c n).stop i H/\D.nx σ H)\/((AY lo c n).go i H/\∃N:St->Hp->Prop,(∀σ' H',N σ' H'->∃m',m'<m/\W (i+1) m' σ' H')/\∀x H',(AY lo c n).dj i H x H'->g x σ H' λσ2 H2=>tb {D with nx:=N,ct:=N,bk:=D.nx} σ2 H2):=by
 refine⟨λi m σ H=>m=n-i/\i<=n/\Pv i σ H,⟨n,by simp,lG _,h0⟩,?_⟩;rintro i m σ H ⟨rfl,hi,p⟩
 by_cases bi:i<n
 .refine .inr ⟨bi,Pv (i+1),λσ' H' p'=>⟨n-(i+1),by lia,Z,bi,p'⟩,λx H' y=>?_⟩;obtain⟨e,y⟩:=y;subst e y;exact hs i σ _ bi p
 .have e:i=n:=by lia
  subst e;exact .inl ⟨tO _,hd σ H p⟩
end
structure oM(X:Cx)(es:List Expr)(t:TA):Prop where
 pa:PA X es t
structure dP(X:Cx)(st:Stmt)(t:TS):Prop where
 ps:PS X st t
section
def JB:oM X [] Wy:=⟨Qb⟩
def jX{pos:Pos}(h:oM X es t):aA X (.List es pos) (LJ t):=⟨K9 h.pa⟩
def QC{st:Stmt}{rest:List Stmt}{t1 t2:TS}(h:dP X st t1)(hr:fb X rest t2):fb X (st::rest) (Za t1 t2):=⟨Qd h.ps hr.ps⟩
def Jb{st:Stmt}(h:dP X st t):fb X [st] t:=⟨Qg h.ps⟩
end
def Sl{K:Frag}{Y:Heap}{x qual:Str}{st:Stmt}{fd:FuncData}{am:Value}{N ps:List Str}{k:Nat}{sp:Sp}(F:sV K x qual st f fd am)(S:af N ps (Qe st))(len:∀vs H Q E,sp vs H Q E->vs.length=ps.length)(f8:∀(A:Around)(L:List Env)(s:Shared)(H:Hp)(vs:List V)(Q:VK)(E:XK),Zc k (A.deeper (envOfC qual (Qe st) s.heap.objs.size f am))->sp vs H Q E->
   ∃t,fb (qJ (av P w) P w K mg Y N qual (Qe st) f am A L s H E).oB (QS st) t/\t {nx:=λ_ H'=>Q .aq H',rt:=Q} (start N vs) H):Zz1 P w K mg Y (k+1) f fd ps sp:=
 RY F S len λA L s H vs Q E hr Go=>by
  obtain⟨t,h,q⟩:=f8 A L s H vs Q E hr Go;exact⟨t,h.ps,q⟩
noncomputable def wJ(z y:Str)(i:Int):Int:=match occurrences z y (fromIndex z.length i) z.length 1 with|k::_=>(k:Int)|[]=> -1
theorem qU:∀{ys:List Str}{us:List Value},Vals (ys.map V.str) us->∃l:List (Str × Tok),us=strValues l/\l.map (·.1)=ys
 |[],_,.nil=>⟨[],Z,Z⟩
 |y::ys,_,.cons r t=>by
  obtain⟨l,e1,e2⟩:=qU t;obtain⟨tk,rfl⟩:=r;exact⟨(y,tk)::l,by rw[e1];rfl,by rw[lD,e2]⟩
section
def KA:fQ X "str.join" (λx vs H Q=>∃(z:Str)(p:Addr)(ys:List Str),x=.str z/\vs=[.ref p]/\aE X.K H p (ys.map V.str)/\JoinOk z ys=true/\Q (.str (Txt.join z ys)) H):=by
 intro U s σ H x vs v us Q I rx rv h;obtain⟨z,p,ys,rfl,rfl,hq,hj,q⟩:=h;obtain⟨t,rfl⟩:=rx;obtain⟨u,rfl,ru⟩:=vals1 rv;obtain rfl:u=Value.ref p:=ru;obtain⟨its,rv,pl,hl⟩:=I.list hq;obtain⟨l,e1,e2⟩:=qU rv;subst e1;have ao:=hj;unfold JoinOk at ao;rw[yce, <-e2]at ao;refine yet F.slot_str_join (ydK _ _ _) F.entry_str_join (F.args_str_join_2 _ _) (meets_str_join_list z t p l ao) ⟨pl.isList,?_⟩;refine post_join l ⟨joinFit_length ao,λt' k=>⟨.str (Txt.join z (l.map (·.1))),H,I.tok k,⟨t',Z⟩,?_⟩⟩;rw[e2];exact q
def Sm:fQ X "str.find" (λx vs H Q=>∃(z y:Str)(i:Int),x=.str z/\vs=[.str y,.int i]/\Q (.int (wJ z y i)) H):=by
 intro U s σ H x vs v us Q I rx rv h;obtain⟨z,y,i,rfl,rfl,q⟩:=h;obtain⟨t,rfl⟩:=rx;obtain⟨u1,u2,rfl,⟨t1,rfl⟩,⟨t2,rfl⟩⟩:=vals2 rv;exact ydm F.slot_str_find F.entry_str_find (F.args_str_find_3 _ _ _) (gives_str_find_from z y i t t1 t2) ⟨.int _,H,I.tok _,⟨_,Z⟩,q⟩
end
def WA{prog:Program}{w:World}{A:Around}(hh:A.handled=none)(I l:Addr)(sw:l≠I)(items:Array Value):WalksS prog w A I [I,l] [I] (λa b=>a=b) items.size (λi v=>items[i]? =some v) (λi s=>s.heap.IsListIter I l i/\s.heap.IsList l items) where
 sub:=λb hb=>by simp at hb;simp[hb]
 grefl:=λ_=>rfl
 gtrans:=λ_ _ _ a b=>a.trans b
 frame:=λi s h' tk x _ hk=>⟨x.1.at λo e=>hk I (by simp) o e,x.2.at λo e=>hk l (by simp) o e⟩
 item:=λi s Q E hi x hQ=>by
  have hx:items[i]? =some (items[i]'hi):=yaR hi;refine wpAny_pyNext_list_item x.1 x.2 hx λh' Db sb=>?_;exact hQ _ _ hx ⟨Db,x.2.at λo eo=>(sb.2 l sw).trans eo⟩ ⟨λb o hb eo=>(sb.2 b (λh=>hb (by simp[h]))).trans eo,Z,Z,Z,tO _⟩
 done:=λs Q E x hQ=>wpAny_pyNext_list_end hh x.1 x.2 (Array.getElem?_eq_none (tO _)) λh' eb=>hQ _ ⟨λb o hb eo=>eb b o (λh=>hb (by simp[h])) eo,Z,Z,Z,tO _⟩
 self:=λ_ _ _ _ x hQ=>wpAny_pyIter_listiter x.1 hQ
def jY{ns:List Int}{us:List Value}(r:Vals (ns.map V.int) us):∀i v,us.toArray[i]? =some v->∃t,v=Value.int (ns.getD i 0) t:=λi v hv=>by
 have h1:us[i]? =some v:=by simpa using hv
 have bi:=(yaf.mp h1).1;have hl:=r.length;rw[tL]at hl;have h2:(ns.map V.int)[i]? =some (V.int (ns.getD i 0)):=by
  rw[lh,yad (by lia)];simp[List.getD,yad (show i<ns.length by lia)]
 obtain⟨u,e,q⟩:=r.get h2;rw[h1]at e;cases e;exact q
def jZ(ns:List Int):∀k,k<=ns.length->preSum (λi=>ns.getD i 0) k=(ns.take k).sum:=by
 intro k
 induction k with
 |zero=>intro _;rfl
 |succ k ih=>
  intro hk;have e:ns.take (k+1)=ns.take k++[ns.getD k 0]:=by
   rw[yaJ,yad (by lia)];simp[List.getD,yad (show k<ns.length by lia)]
  show preSum _ k+ns.getD k 0=_;rw[ih (by lia),e,List.sum_append];simp
def Sn(val:Nat->Int):∀k,argBest (λi j=>decide (val i>val j)) k<=k/\∀i,i<=k->val i<=val (argBest (λi j=>decide (val i>val j)) k):=by
 intro k
 induction k with
 |zero=>exact⟨tO _,λi hi=>by rw[Nat.le_zero.mp hi];exact Int.le_refl _⟩
 |succ k ih=>
  unfold argBest
  by_cases h:val (k+1)>val (argBest (λi j=>decide (val i>val j)) k)
  .rw[yai (tN h)];refine⟨tO _,λi hi=>?_⟩;rcases yba i (k+1)with h1|h1
   .have:=ih.2 i (by lia);lia
   .rw[show i=k+1 by lia];exact Int.le_refl _
  .rw[yah (by rw[ybH];exact h)];refine⟨by lia,λi hi=>?_⟩;rcases yba i (k+1)with h1|h1
   .exact ih.2 i (by lia)
   .rw[show i=k+1 by lia];lia
section
def zL(hc:X.calm=true):Ww X (.builtin "sum") (λxs H Q=>∃(p:Addr)(ns:List Int),xs=[.ref p]/\aE X.K H p (ns.map V.int)/\Q (.int ns.sum) H):=by
 intro U s σ H xs us Q I r h;obtain⟨p,ns,rfl,hq,q⟩:=h;obtain⟨u,rfl,ru⟩:=vals1 r;obtain rfl:u=Value.ref p:=ru;obtain⟨its,rv,pl,hl⟩:=I.list hq;have FS:=pl.isList;have bi:p<s.heap.objs.size:=by obtain⟨o,e,_⟩:=FS;exact yaj e
 have hlen:=rv.length;rw[tL]at hlen;refine call_sum_walkAnyS (ydl FS ?_);have I2:Inv X U σ H {s with heap:=s.heap.push {cls:=.type "list_iterator",data:=.fields #[.ref p,.int 0 0]}}:=I.kept (t':=s.toks) λb o e=>yab _ e;refine⟨s.heap.objs.size,_,_,_,_,_,_,λi=>ns.getD i 0,Z,WA (A:=X.A.in1) (I.ok.hd hc) _ p (yaq bi) its.toArray,⟨⟨_,yag _ rfl,Z,Z⟩,FS.push _⟩,λb hb=>?_,jY rv,λs' t' hm=>?_⟩
 .show b<(s.heap.push _).objs.size;rw[yaQ];rcases yak.mp hb with rfl|hb
  .exact yco _
  .rw[yap.mp hb];exact ycA bi
 .obtain⟨f0,f1,f2,f3,f4,f5⟩:=I.xv (tO _) (I.ao.fresh (tO _));obtain⟨h',g',d',IO,iW⟩:=s';obtain rfl:g'=s.gens:=hm.gens.symm;obtain rfl:d'=s.drawn:=hm.drawn;obtain rfl:iW=s.os:=hm.os;have e:preSum (λi=>ns.getD i 0) its.toArray.size=ns.sum:=by
   rw[lF, <-hlen,jZ ns _ (tO _),ycp]
  rw[e];refine⟨.int ns.sum,H,?_,⟨t',Z⟩,q⟩;exact(I2.turned (h':=h') (t':=IO) (it:=s.heap.objs.size) (λb o hb eo=>hm.heap b o (by simpa using hb) eo) f0 f1 f3 f4 f5:)
def wK(hc:X.calm=true):Ww X (.builtin "max") (λxs H Q=>∃(p:Addr)(ns:List Int),xs=[.ref p]/\aE X.K H p (ns.map V.int)/\ns≠[]/\∀m,m∈ns->(∀n∈ns,n<=m)->Q (.int m) H):=by
 intro U s σ H xs us Q I r h;obtain⟨p,ns,rfl,hq,sw,q⟩:=h;obtain⟨u,rfl,ru⟩:=vals1 r;obtain rfl:u=Value.ref p:=ru;obtain⟨its,rv,pl,hl⟩:=I.list hq;have FS:=pl.isList;have bi:p<s.heap.objs.size:=by obtain⟨o,e,_⟩:=FS;exact yaj e
 have hlen:=rv.length;rw[tL]at hlen;have fg:0<ns.length:=by cases ns with|nil=>exact absurd rfl sw|cons a r=>exact yff _
 refine call_max_walkS (ydl FS ?_);have I2:Inv X U σ H {s with heap:=s.heap.push {cls:=.type "list_iterator",data:=.fields #[.ref p,.int 0 0]}}:=I.kept (t':=s.toks) λb o e=>yab _ e;refine⟨s.heap.objs.size,_,_,_,_,_,_,_,Z,WA (A:=X.A.in1) (I.ok.hd hc) _ p (yaq bi) its.toArray,⟨⟨_,yag _ rfl,Z,Z⟩,FS.push _⟩,λb hb=>?_,by rw[lF];lia,CmpOf.ints_gt (λi=>ns.getD i 0) (jY rv),λv s' hv hm=>?_⟩
 .show b<(s.heap.push _).objs.size;rw[yaQ];rcases yak.mp hb with rfl|hb
  .exact yco _
  .rw[yap.mp hb];exact ycA bi
 .obtain⟨f0,f1,f2,f3,f4,f5⟩:=I.xv (tO _) (I.ao.fresh (tO _));obtain⟨h',g',d',IO,iW⟩:=s';obtain rfl:g'=s.gens:=hm.gens.symm;obtain rfl:d'=s.drawn:=hm.drawn;obtain rfl:iW=s.os:=hm.os;obtain⟨t,rfl⟩:=jY rv _ _ hv;obtain⟨b1,b2⟩:=Sn (λi=>ns.getD i 0) (its.toArray.size-1);generalize argBest (λi j=>decide (ns.getD i 0>ns.getD j 0)) (its.toArray.size-1)=j at b1 b2;rw[lF]at b1 b2;have getD_eq:∀i,i<ns.length->ns.getD i 0=ns[i]! :=λi hi=>by simp[List.getD,yad hi]
  have hj:j<ns.length:=by lia
  refine⟨.int (ns.getD j 0),H,?_,⟨t,Z⟩,q _ ?_ λn hn=>?_⟩
  .exact(I2.turned (h':=h') (t':=IO) (it:=s.heap.objs.size) (λb o hb eo=>hm.heap b o (by simpa using hb) eo) f0 f1 f3 f4 f5:)
  .have:ns.getD j 0=ns[j]:=by simp[List.getD,yad hj]
   rw[this];exact yeH hj
  .obtain⟨i,hi,rfl⟩:=ybC.mp hn;have e:ns.getD i 0=ns[i]:=by simp[List.getD,yad hi]
   rw[<-e];exact b2 i (by lia)
end
structure aG(P:Program)(w:World)(K:Frag)(a:Addr)(al:List (Key × V)):Prop where
 ne:(a==sysModules)=false
 ok:∀h:Heap,K.In h->∃vs,KV al vs/\h.DictOf (QY P w) a vs
section
variable {ty:TE}{pos:Pos}{al:List (Key × V)}
def So(a:Addr)(al:List (Key × V))(td ty:TE):TE:=λσ H Q=>td σ H λx H1=>ty σ H1 λy H2=>∃k v,x=.ref a/\y=kV k/\Vf al k=some v/\Q v H2
def Wh(D:aG X.prog X.w X.K a al)(ho:PE X o td)(hi:PE X i ty)(hs:Gd i):PE X (.Subscript o i pos) (So a al td ty):=by
 intro U s σ H Q I h;refine wo PySem.F.slot_dict_getitem.lookup hs (ax (ho U s σ H _ I h) λu s1⟨x,H1,I1,rx,q1⟩=>ax (hi U s1 σ H1 _ I1 q1) λiv s2⟨y,H2,I2,ry,k,v,ex,ey,l,q2⟩=>?_);subst ex ey;obtain rfl:u=Value.ref a:=rx;obtain⟨vs,rel,dd⟩:=D.ok s2.heap I2.bH;obtain⟨w',hw,Os⟩:=Y8.some_of (v:=v) (o:=valueAt vs k) (by rw[<-l];exact rel.val k);exact⟨dd.typeIs,wpAny_getItem_of (qL ry) dd.mapOf hw ⟨v,H2,I2.tok _,Os,q2⟩⟩
def Sq(a:Addr)(al:List (Key × V))(ty td:TE):TE:=λσ H Q=>ty σ H λy H1=>td σ H1 λx H2=>∃k,x=.ref a/\y=kV k/\Q (.bl (!(Vf al k).isSome)) H2
def WB(D:aG X.prog X.w X.K a al)(hi:PE X i ty)(ho:PE X o td):PC X .NotIn i o (Sq a al ty td):=by
 intro U s σ H Q I h;refine ax (hi U s σ H _ I h) λiv s1⟨y,H1,I1,ry,q1⟩=>ax (ho U s1 σ H1 _ I1 q1) λu s2⟨x,H2,I2,rx,k,ex,ey,q2⟩=>?_;subst ex ey;obtain rfl:u=Value.ref a:=rx;obtain⟨vs,rel,dd⟩:=D.ok s2.heap I2.bH;refine wpAny_notIn_of (qL ry) D.ne dd.mapOf ?_;rw[<-(rel.val k).VC];exact⟨.bl _,H2,I2.tok _,Z,q2⟩
end
def boot_sum:bootBuiltins "sum"=some (.builtin "sum"):=by boot_by_name
section
def Sr:FF X .Add (λx y H Q=>∃i j,x=.str i/\y=.str j/\i.length+j.length<=sizeLine/\Q (.str (i++j)) H):=by
 intro U s σ H x y v u Q I r1 r2 h;obtain⟨i,j,e1,e2,hl,q⟩:=h;subst e1;subst e2;obtain⟨t,rfl⟩:=r1;obtain⟨t',rfl⟩:=r2;exact SB.iadd (λt2 k=>⟨.str _,H,I.tok k,⟨t2,Z⟩,q⟩) hl
def xR(hK:X.K=K0):aW X (compareOp .In) (AS K0 false):=by
 subst hK;exact wg
end
structure oN(K:Frag)(H:Hp)(a t r:Addr)(ns:List Int)(c:Int):Prop where
 sq:aE K H a (ns.map V.int)
 tw:∃rs,aK H t r c rs
 nat:a≠t
 eQ:a≠r
 ln:ns.length<=63
section
variable {K:Frag}{H H':Hp}{a t r:Addr}{ns:List Int}{c c':Int}
def oN.drawn(B:oN K H a t r ns c)(A:Apart t r H H'){rs:List (Key × V)}(T:aK H' t r c' rs):oN K H' a t r ns c':=
 ⟨A.seq B.sq B.nat B.eQ,⟨rs,T⟩,B.nat,B.eQ,B.ln⟩
def oN.draw(B:oN K H a t r ns c)(hi:σ[i]? =some (some (.ref a)))(hj:σ[j]? =some (some (.ref t)))(hn:∀R:VK,R (.int n) H->tn σ H R)(h0:0<n)(h1:n<1000000)(hc:c<100000)(k:∀(d:Nat)(H':Hp),(d:Int)<n->oN K H' a t r ns (c+1)->Apart t r H H'->Q (.int d) H'):XS (cg K) [] E (Je (aF i) (Je (aF j) (Je tn Wy))) σ H Q:=by
 obtain⟨rs,T⟩:=B.tw;refine⟨_,hi,_,hj,hn _ ⟨a,t,r,ns,c,n,rs,Z,B.sq,T,B.nat,B.eQ,B.ln,hc,h0,h1,λv Ix H' v0 v1 T' A'=>?_⟩⟩;obtain⟨d,rfl⟩:=ydd v0;exact k d H' v1 (B.drawn A' T') A'
end
noncomputable def Cg(z:Str):It:=⟨λi _=>i<z.cps.size,λi H x H'=>H'=H/\∃c,z.cps[i]? =some c/\x=.str ⟨#[c]⟩,λi _=>z.cps.size<=i⟩
def Ss{P:Program}{w:World}{K:Frag}{tg:Expr}(it:Addr)(z:Str)(t:Tok):Turn P w K tg (Cg z) [it] it (λi h=>h.IsStrIter it "str_ascii_iterator" z t i) where
 mem:=by simp
 obj:=λi h st b hb=>by
  have e:b=it:=by simpa using hb
  subst e;obtain⟨o,e,c,d⟩:=st;exact⟨o,e,λv z=>by rw[d]at z;cases z⟩
 keep:=λi h h' st k=>by
  obtain⟨o,e,c,d⟩:=st;exact⟨o,k it (by simp) o e,c,d⟩
 item:=by
  intro X hP hw hK hc i U s σ H E I hf st hg;subst hP hw hK;obtain⟨f0,f1,f2,f3,f4,f5⟩:=hf it (by simp);have fU:i<z.cps.size:=hg;obtain⟨c,SL⟩:∃c,z.cps[i]? =some c:=⟨z.cps[i],by simp[fU]⟩;refine wpAny_pyNext_ascii_item st SL λh' Db sb=>?_;have I1:Inv X U σ H {s with heap:=h',toks:=s.toks+1}:=I.turned (λb o hb e=>(sb.2 b hb).trans e) f0 f1 f3 f4 f5;obtain⟨o,e,cc,d⟩:=id Db;exact⟨_,Z,xw (s:={s with heap:=h',toks:=s.toks+1}) e cc d (by lia) ⟨.str ⟨#[c]⟩,H,I1,⟨_,Z⟩,⟨Z,c,SL,Z⟩,Db,λb hb=>(hf b hb).1⟩⟩
 done:=by
  intro X hP hw hK hc i U s σ H E I hf st hg;subst hP hw hK;obtain⟨f0,f1,f2,f3,f4,f5⟩:=hf it (by simp);have fU:z.cps.size<=i:=hg;exact wpAny_pyNext_ascii_end (I.ok.hd hc) st (by simp[fU]) λh' eb=>⟨Z,I.turned (t':=s.toks) (λb o hb e=>eb b o hb e) f0 f1 f3 f4 f5⟩
 self:=λ_ _ _ _ _ st h=>wpAny_pyIter_striter_ascii st h
section
def Er(tl:TE):TI:=λσ H R=>tl σ H λx H1=>∃z:Str,x=.str z/\z.cps.all (· <128)=true/\R (Cg z) H1
def wL{tl:TE}(hl:PE X l tl):PI X tg l (Er tl):=by
 intro U s σ H R I h;refine ax (hl U s σ H _ I h) λv s1⟨x,H1,I1,r1,q1⟩=>?_;obtain⟨z,e,ha,q⟩:=q1;subst e;obtain⟨t,rfl⟩:=r1;refine yej ha ?_;refine⟨s1.heap.objs.size,[s1.heap.objs.size],_,_,H1,Z,I1.kept (t':=s1.toks) λb o e=>yab _ e,Ss _ z t,⟨_,yag _ rfl,Z,Z⟩,λb hb=>?_,q⟩;have e:b=s1.heap.objs.size:=by simpa using hb
 subst e;exact I1.xv (tO _) (I1.ao.fresh (tO _))
end
def Su{tt:TT}{tl:TE}(Pv:Nat->List V->Hp->Prop)(h:∀R:VK,R (.str z) H->tl σ H R)(ha:z.cps.all (· <128)=true)(h0:Pv 0 [] H)(hl:∀i vs H,i<=z.cps.size->Pv i vs H->vs.length<=i)(hs:∀i c vs H,z.cps[i]? =some c->Pv i vs H->g (.str ⟨#[c]⟩) (replicate NB.length none) H λσ2 H2=>tt σ2 H2 λb H3=>if b=true then te σ2 H3 λv H4=>Pv (i+1) (vs++[v]) H4 else Pv (i+1) vs H3)(hd:∀vs H,Pv z.cps.size vs H->∀p,H p=none->Q (.ref p) (upd H p (.lst vs)))(hz:z.cps.size<sizeLine):Uo NB (Er tl) g tt te σ H Q:=by
 refine h _ ⟨z,Z,ha,?_⟩;refine⟨λi m vs H=>m=z.cps.size-i/\i<=z.cps.size/\Pv i vs H,⟨z.cps.size,by simp,lG _,h0⟩,?_⟩;rintro i m vs H ⟨rfl,hi,p⟩;have hv:=hl i vs H hi p
 by_cases bi:i<z.cps.size
 .refine .inr ⟨bi,by lia,Pv (i+1),λpi H' p'=>⟨z.cps.size-(i+1),by lia,Z,bi,p'⟩,λx H' y=>?_⟩;obtain⟨e,c,hc,e2⟩:=y;subst e e2;exact hs i c vs _ hc p
 .have e:i=z.cps.size:=by lia
  subst e;exact .inl ⟨tO _,hd vs H p⟩
noncomputable def wM(scope:Scope)(env:Env)(C:Addr):Env:=
 {scope:=relabel scope env,locals:=C,globals:=env.globals,cells:=ZV env.cells scope.names [],qual:=env.qual,func:=none,code:=env.code,frame:=env.frame,builtins:=env.builtins}
noncomputable abbrev Jp(X:Cx)(NB:List Str)(scope:Scope)(s:Shared)(H:Hp)(ex:List Addr):Cx:=
 {X with N:=NB,s₀:=s,H₀:=H,env:=wM scope X.env s.heap.objs.size,L:=X.stack,ex:=ex,fn:=λ_=>false,pn:=[],xe:=λ_ _=>False}
structure bu(NB FR:List Str)(scope:Scope):Prop where
 kind:scope.kind=.function
 dc:(∀y∈scope.names,y.2≠ .cell)/\(∀y∈scope.names,y.2=.local->scope.names.lookup y.1=some .local)/\(scope.names.map (·.1)).Nodup/\∀y∈FR,(y,NameKind.free)∈scope.names
structure bN(scope:Scope):Prop where
 kind:scope.kind=.function
 dc:(∀y∈scope.names,y.2≠ .cell/\y.2≠ .free)/\(∀y∈scope.names,y.2=.local->scope.names.lookup y.1=some .local)/\(scope.names.map (·.1)).Nodup
def VN(n:Nat)(fi:List Nat)(wi:TI)(g:TG)(tt:TT)(te:TE):TE:=λσ H Q=>wi σ H λJ H1=>∃fv:List V,fi.map (λi=>σ[i]?)=fv.map (λv=>some (some v))/\∃W:Nat->Nat->List V->Hp->Prop,(∃m,W 0 m [] H1)/\∀i m vs H,W i m vs H->
 (J.stop i H/\∀p,H p=none->Q (.ref p) (upd H p (.lst vs)))\/(J.go i H/\vs.length<sizeLine/\∃N:List V->Hp->Prop,(∀pi H',N pi H'->∃m',m'<m/\W (i+1) m' pi H')/\
  ∀x H',J.dj i H x H'->g x (replicate n none++fv.map some) H' λσ2 H2=>σ2.drop n=fv.map some/\tt σ2 H2 λb H3=>if b=true then te σ2 H3 λv H4=>N (vs++[v]) H4 else N vs H3)
noncomputable def i9(env:Env)(x:Str × NameKind):Str × NameKind:=if(x.2==NameKind.free&&env.scope.kind==.function&&env.kindOf x.1==some .cell)then(x.1,NameKind.cell)else(x.1,x.2)
def zM(env:Env)(h:y≠x.1)(l:List (Str × NameKind)):(i9 env x::l).lookup y=l.lookup y:=by
 have hb:(y==x.1)=false:=yas.mpr h;unfold i9
 split<;>rw[yby,hb]
def qV{env:Env}{scope:Scope}(nd:(scope.names.map (·.1)).Nodup)(h:(y,NameKind.free)∈scope.names)(hk:(env.scope.kind==.function)=true)(hc:env.scope.names.lookup y=some .cell):(relabel scope env).names.lookup y=some .cell:=by
 have key:∀l:List (Str × NameKind),(l.map (·.1)).Nodup->(y,NameKind.free)∈l->(l.map (i9 env)).lookup y=some .cell:=by
  intro l
  induction l with
  |nil=>intro _ h;cases h
  |cons z r ih=>
   intro nd h;rw[lD,ycZ]at nd;rw[lD];rcases yak.mp h with h|h
   .subst h;have e:(env.kindOf y==some NameKind.cell)=true:=by rw[show env.kindOf y=env.scope.names.lookup y from rfl,hc];rfl
    have e2:i9 env (y,NameKind.free)=(y,NameKind.cell):=by unfold i9;rw[yai (by rw[hk,e];rfl)]
    rw[e2,yby,ybf]
   .have sw:y≠z.1:=λq=>nd.1 (by rw[<-q];exact yaZ.mpr ⟨_,h,Z⟩);rw[zM env sw];exact ih nd.2 h
 exact key scope.names nd h
def qW{env:Env}{scope:Scope}(nc:∀y∈scope.names,y.2≠ .cell)(h:(relabel scope env).names.lookup y=some .cell\/(relabel scope env).names.lookup y=some .free):(y,NameKind.free)∈scope.names:=by
 have key:∀l:List (Str × NameKind),(∀y∈l,y.2≠ .cell)->((l.map (i9 env)).lookup y=some .cell\/(l.map (i9 env)).lookup y=some .free)->(y,NameKind.free)∈l:=by
  intro l
  induction l with
  |nil=>intro _ h;rcases h with h|h<;>simp at h
  |cons z r ih=>
   intro nc h;have hk:z.2≠ .cell:=nc z tX;rw[lD]at h
   by_cases hn:y=z.1
   .obtain⟨n,k⟩:=z;have hn:y=n:=hn;subst hn;have hf:k=.free:=by
     cases k with
     |cell=>exact absurd rfl hk
     |free=>rfl
     |_=>
      have e2:∀q:NameKind,(q==NameKind.free)=false->i9 env (y,q)=(y,q):=λq hq=>by unfold i9;rw[yah (by rw[show((y,q).2==NameKind.free)=false from hq];simp)]
      rw[e2 _ rfl,yby,ybf]at h;rcases h with h|h<;>cases h
    rw[hf];exact tX
   .rw[zM env hn]at h;exact tW _ (ih (λy hy=>nc y (tW _ hy)) h)
 exact key scope.names nc h
theorem Ks:∀(l:List (Str × NameKind))(n:Nat)(acc:List (Str × Addr)),(∀y∈l,y.2≠ .cell)->cellsFrom n l acc=acc
 |[],_,_,_=>rfl
 |(x,k)::r,n,acc,h=>by
  have hk:(k==NameKind.cell)=false:=yas.mpr (h (x,k) tX);unfold cellsFrom;rw[hk];exact Ks r n acc λy hy=>h y (tW _ hy)
theorem Kt:∀(l:List (Str × NameKind))(h:Heap),(∀y∈l,y.2≠ .cell)->pushCells h l=h
 |[],_,_=>rfl
 |(x,k)::r,h,hn=>by
  have hk:(k==NameKind.cell)=false:=yas.mpr (hn (x,k) tX);unfold pushCells;rw[hk];exact Kt r h λy hy=>hn y (tW _ hy)
def VO{scope:Scope}{globals:Addr}{qual:Str}{env:Env}{cl:List (Str × Addr)}(hk:scope.kind=.function)(hn:∀y∈scope.names,y.2≠ .cell)(hQ:∀sY s',sY={scope:=scope,locals:=s.heap.objs.size,globals:=globals,cells:=cl,qual:=qual,func:=none,code:=env.code,frame:=env.frame,builtins:=env.builtins}->
   InCall s s.heap.objs.size (λ_=>none) s'->Q sY s'):
  wpAny qMa A (newFunctionEnv scope globals cl [] qual none .none (some env)) Q E s:=by
 simp only[newFunctionEnv,Option.isSome_some,ybM];refine yaa (wpAny_alloc ?_);refine yaa (wpAny_layCells _ (λname kind cells=>by cases Sv:kind==NameKind.cell<;>simp[Sv]) _ _ _ _ ?_);rw[Ks _ _ _ hn,Kt _ _ hn];refine yaa (yac (yac (hQ _ _ Z ?_)));exact⟨⟨_,_,Z⟩,Heap.Ns.new s.heap (.type "dict"),λb o e=>yab _ e,tO _⟩
section
variable {X:Cx}
def Kk{elt tg iter:Expr}{ifs:List Expr}{scope:Scope}{pos P3:Pos}{NB FR:List Str}{fi:List Nat}{g:TG}{tt:TT}{use:Option (Value->Sem Unit)}{Q:VK}{U:List (Addr × Obj)}{σ:St}(Kn:List V->St->Prop->Prop)(hc:X.calm=true)(S:bu NB FR scope)(Es:∀y∈scope.names,y.2=.free->X.env.scope.names.lookup y.1=some .cell)(iG:fi.map (λi=>X.N[i]?)=FR.map some)(hi:PI X tg iter wi)(hg:∀s H ex,PG (Jp X (NB++FR) scope s H ex) tg g)(ht:∀s H ex,sW (Jp X (NB++FR) scope s H ex) ifs tt)(he:∀s H ex,PE (Jp X (NB++FR) scope s H ex) elt te)(hs:∀x,foldedSetIterable iter X.env x=pure x)(hK:∀fv σ2 p,fv.length=FR.length->Kn fv σ2 p->p/\(fv=[]\/σ2.drop NB.length=fv.map some))(I:Inv X U σ H s)(h:wi σ H R)(hR:∀J H1,R J H1->∃fv:List V,fi.map (λi=>σ[i]?)=fv.map (λv=>some (some v))/\∃W:Nat->Nat->List V->Hp->Prop,(∃m,W 0 m [] H1)/\∀i m vs H,W i m vs H->
   (J.stop i H/\∀p,H p=none->Q (.ref p) (upd H p (.lst vs)))\/(J.go i H/\vs.length<sizeLine/\∃N:List V->Hp->Prop,(∀pi H',N pi H'->∃m',m'<m/\W (i+1) m' pi H')/\
    ∀x H',J.dj i H x H'->g x (replicate NB.length none++fv.map some) H' λσ2 H2=>Kn fv σ2 (tt σ2 H2 λb H3=>if b=true then te σ2 H3 λv H4=>N (vs++[v]) H4 else N vs H3)))(fin:∀(D C:Addr)(H':Hp)(s':Shared) m,s'.heap.Ns C m->Inv X U σ H' s'->H' C=none->C≠X.env.locals->X.s₀.heap.objs.size<=C->(∀x c,X.env.cells.lookup x=some c->c≠C)->(∀p∈X.pn++U,p.1≠C)->Q (.ref D) H'->compPost (model X.prog X.w) X.A X.xe use Qc (.ref D) C (.ok .next) s'):
  wpAny (model X.prog X.w) X.A (comprehension (.ListComp elt [⟨tg,iter,ifs,0⟩] scope pos) scope X.env P3 (newList []) false (eval iter X.env) use) Qc X.xe s:=by
 have Ci:∀y∈scope.names,y.2=.free->∃c,X.env.cells.lookup y.1=some c:=λy hy e=>I.ok.has y.1 (.inl (Es y hy e));have Tm:∀y c,(ZV X.env.cells scope.names []).lookup y=some c->X.env.cells.lookup y=some c:=λy c e=>qQ scope.names [] Ci (λz=>nomatch z) e;refine wpAny_comprehension_free (use:=use) (cl:=ZV X.env.cells scope.names []) rfl hs (Uk Ci) S.kind S.dc.2.1 (ax (hi U s σ H _ I h) λv s1 h1=>ax h1 λFI s2 h2=>?_);obtain⟨it,fp,tn,J,H2,e,I2,T,Do,f2,h3⟩:=h2;obtain⟨fv,j',W,⟨m0,w0⟩,turn⟩:=hR _ _ h3;subst e;refine yaX ?_;have Et:∀b o,s2.heap.get? b=some o->(s2.heap.push {cls:=.type "list",data:=.seq ([]:List Value).toArray}).get? b=some o:=λb o e=>yab _ e;have I3:Inv X U σ H2 {s2 with heap:=s2.heap.push {cls:=.type "list",data:=.seq ([]:List Value).toArray}}:=I2.kept (t':=s2.toks) Et;have BL:tn 0 (s2.heap.push {cls:=.type "list",data:=.seq ([]:List Value).toArray}):=T.keep _ _ _ Do λb _ o e=>Et b o e;have Eu:(s2.heap.push {cls:=.type "list",data:=.seq ([]:List Value).toArray}).get? s2.heap.objs.size=some (yD []):=yag _ rfl;have Mi:H2 s2.heap.objs.size=none:=I2.ao.fresh (tO _);have Cj:∀b o,s2.heap.get? b=some o->b≠s2.heap.objs.size:=λb o e=>yaq (yaj e);have Mj:∀b∈fp,∃o,s2.heap.get? b=some o:=λb hb=>let ⟨o,e,_⟩:=T.obj _ _ Do b hb;⟨o,e⟩;have lJ:X.s₀.heap.objs.size<=s2.heap.objs.size:=I2.sz;have Gw:s2.heap.objs.size≠X.env.locals:=yct I2.lt;have Ew:∀x c,X.env.cells.lookup x=some c->c≠s2.heap.objs.size:=λx c e=>let ⟨v,o,e1,_⟩:=I2.cell x c e;Cj c o e1;have Gx:∀p∈X.pn++U,p.1≠s2.heap.objs.size:=λp hp=>Cj p.1 _ (I2.pin p hp).1;have Gy:s2.heap.objs.size∉bM X.stack:=λz=>let ⟨o,e,_⟩:=(I2.stack.mem z).2;Cj _ o e rfl;generalize Sw:({s2 with heap:=s2.heap.push {cls:=.type "list",data:=.seq ([]:List Value).toArray}}:Shared)=s3 at I3 ⊢;have Gz:s3.heap=s2.heap.push {cls:=.type "list",data:=.seq ([]:List Value).toArray}:=by rw[<-Sw]
 rw[<-Gz]at BL Eu Et;generalize s2.heap.objs.size=D at Eu Mi Cj lJ Gw Ew Gx Gy ⊢;refine VO S.kind S.dc.1 λsY s4 sZ x4=>?_;subst sZ;have Ck:∀b o,s3.heap.get? b=some o->b<s3.heap.objs.size:=λb o e=>yaj e;have Ml:∀b∈fp,b<s3.heap.objs.size:=λb hb=>let ⟨o,e⟩:=Mj b hb;Ck b o (Et b o e);have Cm:D<s3.heap.objs.size:=Ck D _ Eu;have Cn:∀b∈fp,b≠D:=λb hb=>let ⟨o,e⟩:=Mj b hb;Cj b o e;obtain⟨h4,GA,rfl,A0⟩:=x4.done;have Sx:∀b o,X.Y.get? b=some o->b∉D::fp:=λb o e hb=>by
  rcases yak.mp hb with rfl|hb
  .exact absurd (yan (yaj (I2.ok.bs b o e).1) lJ) (lH _)
  .obtain⟨_,_,_,f3,_⟩:=f2 b hb;rcases f3 with z|z
   .exact I2.ok.fM b o e z
   .exact absurd (yan (yaj (I2.ok.bs b o e).1) z) (lH _)
 have Mm:∀b∈D::fp,b∉bM X.stack:=λb hb hf=>by
  rcases yak.mp hb with rfl|hb
  .exact Gy hf
  .obtain⟨_,f1,Sy,_⟩:=f2 b hb;rcases yak.mp (I2.zu b hf)with z|z
   .exact f1 z
   .exact Sy z
 have A6:∀y c,(ZV X.env.cells scope.names []).lookup y=some c->(∃v,s3.heap.IsCell c v)/\H2 c=none/\c≠D/\∀b∈fp,c≠b:=λy c e=>by
  have e':=Tm y c e;exact⟨I3.cell y c e',I3.aV y c e',Ew y c e',λb hb=>(f2 b hb).2.2.2.2.1 y c e'⟩
 have clt:∀y c,(ZV X.env.cells scope.names []).lookup y=some c->c<s3.heap.objs.size:=λy c e=>let ⟨⟨v,o,ho,_⟩,_⟩:=A6 y c e;Ck c o ho;have GB:∀b∈D::fp,b<s3.heap.objs.size:=λb hb=>by
  rcases yak.mp hb with rfl|hb
  .exact Cm
  .exact Ml b hb
 have Sz:(Jp X (NB++FR) scope s3 H2 (D::fp)).Ok:=by
  refine⟨I3.ok.mod,S.kind,I3.ok.glob,I3.ok.blt,tO _,λy z c h1 h2=>?_,λy hy=>?_,(λy c z _=>nomatch z),I3.ok.hd,I3.ok.frames,.inl rfl,λb hb=>⟨yaq (GB b hb),λy c e z=>?_⟩,I3.bs,yao I3.ok.oz I3.sz,Sx,Mm,I3.stack,I3.jM⟩
  .exact I3.ok.inj y z c (Tm y c h1) (Tm z c h2)
  .exact Ul scope.names [] (.inr (qW S.dc.1 hy))
  .obtain⟨_,_,n1,n2⟩:=A6 y c e;rcases yak.mp hb with q|q
   .exact n1 (z.trans q)
   .exact n2 b q z
 have Cl:fv.length=FR.length:=by
  have h1:=yaE List.length j';have h2:=yaE List.length iG;simp only[tL]at h1 h2;lia
 have oO:(replicate NB.length (none:Option V)++fv.map some).length=(NB++FR).length:=by
  have h1:=yaE List.length j';have h2:=yaE List.length iG;simp only[tL]at h1 h2;rw[tK,tK,lq,tL];lia
 have rep:∀(j:Nat)(v:V),(replicate NB.length (none:Option V)++fv.map some)[j]? =some (some v)->∃k,j=NB.length+k/\fv[k]? =some v:=λj v z=>by
  rw[List.getElem?_append]at z
  split at z
  .rw[yev]at z
   split at z<;>cases z
  .rename_i hj;rw[lq]at hj z;refine⟨j-NB.length,by lia,?_⟩;rw[lh]at z;cases e:fv[j-NB.length]? with
   |none=>rw[e]at z;cases z
   |some y=>rw[e]at z;exact yaE some (tP (tP z))
 have GC:∀(k:Nat)(v:V)(y:Str),fv[k]? =some v->FR[k]? =some y->∃i,X.N[i]? =some y/\σ[i]? =some (some v):=λk v y h1 h2=>by
  have a1:=yaE (λl=>l[k]?) j';have a2:=yaE (λl=>l[k]?) iG;simp only[lh,h1,h2]at a1 a2;cases e:fi[k]? with
  |none=>rw[e]at a1;cases a1
  |some i=>
   rw[e]at a1 a2;exact⟨i,tP a2,tP a1⟩
 have IB:Inv (Jp X (NB++FR) scope s3 H2 (D::fp)) [(D,yD [])] (replicate NB.length none++fv.map some) H2 {s3 with heap:=h4,toks:=GA}:=by
  refine⟨Sz,Z,I3.bare,Un.kept A0,⟨_,x4.ns,λi y v h1 h2 h3=>?_⟩,λy c h=>let ⟨⟨v,o,ho,hd⟩,_⟩:=A6 y c h;⟨v,o,A0 _ _ ho,hd⟩,I3.ao.fresh (tO _),λy c h=>(A6 y c h).2.1,λp hp=>?_,I3.ao.kept A0,oO⟩
  .obtain⟨k,rfl,hk⟩:=rep i v h2;have hy:FR[k]? =some y:=by
    have h1:(NB++FR)[NB.length+k]? =some y:=h1;rw[ybL (ycO _ _),Nat.add_sub_cancel_left]at h1;exact h1
   obtain⟨io,hN,hσ⟩:=GC k v y hk hy;have GE:(y,NameKind.free)∈scope.names:=S.dc.2.2.2 y (lj hy);obtain⟨m,_,hl⟩:=I3.loc;obtain⟨u,r,l⟩:=hl io y v hN hσ (.inr (.inl (Es _ GE Z)));refine⟨u,r,.inr ⟨.inl ?_,?_⟩⟩
   .exact qV S.dc.2.2.1 GE (by show(X.env.scope.kind==.function)=true;rw[I3.ok.kind];rfl) (Es _ GE Z)
   .obtain⟨c,Mn⟩:=Ul (cells:=X.env.cells) (x:=y) scope.names [] (.inr GE);exists c,Mn;have fF:=Tm y c Mn;rcases l with⟨hk,_⟩|⟨_,c',iC,o,ho,hd⟩
    .have e1:=Es _ GE rfl;rw[show X.env.kindOf y=X.env.scope.names.lookup y from rfl]at hk;rw[hk]at e1;cases e1
    .rw[fF]at iC;cases iC;exact⟨o,A0 _ _ ho,hd⟩
  obtain rfl:p=(D,yD []):=by simpa using hp
  exact⟨A0 _ _ Eu,Mi,yaq Cm,Gy,λv z=>nomatch z⟩
 have Pi:∀{H':Hp}{ys:List Value},(∀b∈fp,H' b=none)->∀b∈fp,yB (Jp X (NB++FR) scope s3 H2 (D::fp)) [(D,yD ys)] H' b:=λhn b hb=>
  ⟨hn b hb,yaq (Ml b hb),Mm b (tW _ hb),.inl (tW _ hb),λy c e z=>(A6 y c e).2.2.2 b hb z,λp hp=>by
    obtain rfl:p=(D,_):=by simpa using hp
    exact(Cn b hb).symm⟩
 have Mo:tn 0 h4:=T.keep _ _ _ BL λb _ o e=>A0 b o e;have SA:∀b∈fp,H2 b=none:=λb hb=>(f2 b hb).1;have AX:(Jp X (NB++FR) scope s3 H2 (D::fp)).calm=true:=hc;have loop:codeAny (model X.prog X.w) X.A (.compLoop (.ListComp elt [⟨tg,iter,ifs,0⟩] scope pos) 0 (.ref it) (.ref D) (wM scope X.env s3.heap.objs.size))
   (compPost (model X.prog X.w) X.A X.xe use Qc (.ref D) s3.heap.objs.size) {s3 with heap:=h4,toks:=GA}:=by
  refine wF (λn s'=>∃i vs ys H',Inv (Jp X (NB++FR) scope s3 H2 (D::fp)) [(D,yD ys)] (replicate NB.length none++fv.map some) H' s'/\Vals vs ys/\vs.length<=sizeLine/\tn i s'.heap/\(∀b∈fp,H' b=none)/\W i n vs H') ?_ m0 ⟨0,[],[],H2,IB,.nil,lG _,Mo,SA,w0⟩;rintro n s5 ⟨i,vs,ys,H5,I5,rv,GD,AN,Eg,w5⟩;rcases turn i n vs H5 w5 with⟨stop,qn⟩|⟨go,bi,N,hN,step⟩
  .refine yaV (T.done (Jp X (NB++FR) scope s3 H2 (D::fp)) Z Z Z AX i _ s5 _ H5 (λ_ _=>False) I5 (Pi Eg) AN stop) (λr s6⟨hr,I6⟩=>?_) (λ_ _ z=>z.elim);subst hr;obtain⟨m6,SD,_⟩:=id I6.loc;have I7:Inv X U σ H5 s6:=I3.Lm (s':=s6) I6.os I6.Y I6.ao I6.bare λb hb=>by
    rcases yak.mp hb with rfl|hb
    .exact⟨.inr lJ,Gw,Ew,Gx⟩
    .obtain⟨_,f1,_,f3,f4,f5⟩:=f2 b hb;exact⟨f3,f1,f4,f5⟩
   obtain⟨eD,nD,_⟩:=I6.pin (D,yD ys) (by simp);have SE:X.s₀.heap.get? D=none:=by
    cases q:X.s₀.heap.get? D with
    |none=>rfl
    |some o=>exact absurd (yan (yaj q) lJ) (lH _)
   have SF:H5 s3.heap.objs.size=none:=I6.free;have Mp:H5 D=none:=nD;exact fin D s3.heap.objs.size (upd H5 D (.lst vs)) s6 m6 SD (I7.RO Mp SE Gw Ew Gx ⟨GD,ys,ys.length,rv,eD⟩) (by rw[Qo (yct Cm)];exact SF) (yct I3.lt) I3.sz (λx c e=>let ⟨v,o,e1,_⟩:=I3.cell x c e;yaq (Ck c o e1)) (λp hp=>yaq (Ck p.1 _ (I3.pin p hp).1)) (qn D Mp)
  .refine yaV (T.item (Jp X (NB++FR) scope s3 H2 (D::fp)) Z Z Z AX i _ s5 _ H5 (λ_ _=>False) I5 (Pi Eg) AN go) (λr s6⟨u,hr,h6⟩=>?_) (λ_ _ z=>z.elim);subst hr;refine yaV h6 (λ_ s7⟨x,H7,I7,r7,y7,GF,SG⟩=>?_) (λ_ _ z=>z.elim);have SH:=I7.pinned (Pi SG) (T.obj _ _ GF);refine yaV (hg s3 H2 (D::fp) _ s7 _ H7 x u _ SH r7 (step x H7 y7)) (λ_ s8⟨σ8,H8,I8,SI⟩=>?_) (λ_ _ z=>z.elim);obtain⟨q8,GG⟩:=hK fv _ _ Cl SI;refine yaV (ht s3 H2 (D::fp) _ s8 σ8 H8 _ I8 q8) (λok s9⟨H9,I9,q9⟩=>?_) (λ_ _ z=>z.elim);have Mq:∀{σ':St}{H':Hp}{s':Shared},Inv (Jp X (NB++FR) scope s3 H2 (D::fp)) ([(D,yD ys)]++qD fp s7.heap) σ' H' s'->tn (i+1) s'.heap/\∀b∈fp,H' b=none:=λJ=>
    ⟨T.keep _ _ _ GF λb hb o e=>(J.pin (b,o) (tT _ (tT _ (Kh hb e)))).1,λb hb=>by
     obtain⟨o,e,d⟩:=T.obj _ _ GF b hb;exact(J.pin (b,o) (tT _ (tT _ (Kh hb e)))).2.1⟩
   have wk:∀{H':Hp}{s':Shared}{pl:List (Addr × Obj)},Inv (Jp X (NB++FR) scope s3 H2 (D::fp)) pl σ8 H' s'->Inv (Jp X (NB++FR) scope s3 H2 (D::fp)) pl (replicate NB.length none++fv.map some) H' s':=λJ=>
    J.weak (oO.trans J.len.symm) λj v z=>by
     obtain⟨k,rfl,hk⟩:=rep j v z;rcases GG with rfl|GG
     .cases hk
     have:=yaE (λl=>l[k]?) GG;simp only[ycs,lh,hk]at this;exact this
   cases ok with
   |false=>
    rw[yah (by lia)]at q9;rw[yah (by lia)];obtain⟨m',hm,w9⟩:=hN vs H9 q9;obtain⟨t9,f9⟩:=Mq I9;exact⟨m',hm,i+1,vs,ys,H9,wk I9.KY,rv,GD,t9,f9,w9⟩
   |true=>
    rw[yai rfl]at q9;rw[yai rfl];refine yaV (he s3 H2 (D::fp) _ s9 σ8 H9 _ I9 q9) (λy Ex⟨v,Co,GH,GI,GJ⟩=>?_) (λ_ _ z=>z.elim);obtain⟨eD,nD,_,nf,_⟩:=GH.pin (D,yD ys) (by simp);have SJ:=rv.length;refine append_at (hsz:=by show ys.toArray.size<=sizeLine;rw[lF, <-SJ];exact GD) eD λGK GL GN=>?_;obtain⟨m',hm,SK⟩:=hN (vs++[v]) Co GJ;obtain⟨Gm,SM⟩:=Mq GH;have GO:=GH.KY;have Mr:∀b o,b≠D->Ex.heap.get? b=some o->GK.get? b=some o:=λb o hb e=>(GL.2 b hb).trans e;have IE:Inv (Jp X (NB++FR) scope s3 H2 (D::fp)) [] σ8 Co Ex:=GO.Y9 λp hp=>nomatch hp;have SN:Inv (Jp X (NB++FR) scope s3 H2 (D::fp)) [] σ8 Co {Ex with heap:=GK}:=IE.turned (t':=Ex.toks) Mr nD (yaq Cm) (.inl tX) (λy' c e z=>(A6 y' c e).2.2.1 z) (λp hp=>absurd (show p∈([]:List (Addr × Obj))from hp) (by simp));have eL:({cls:=.type "list",data:=.seq (ys.toArray.push y) (ys.length+1)}:Obj)=yD (ys++[y]):=by
     show({cls:=.type "list",data:=.seq (ys.toArray.push y) (ys.length+1)}:Obj)={cls:=.type "list",data:=.seq (ys++[y]).toArray (ys++[y]).length};rw[tK,tQ,List.push_toArray]
    refine⟨m',hm,i+1,vs++[v],ys++[y],Co,wk (SN.Y9 λp hp=>?_),rv.append (.cons GI .nil),by rw[tK,tQ];exact bi,T.keep _ _ _ Gm λb hb o e=>Mr b o (Cn b hb) e,SM,SK⟩;obtain rfl:p=(D,yD (ys++[y])):=by simpa using hp
    exact⟨by rw[<-eL];exact GN,nD,yaq Cm,nf,λv z=>nomatch z⟩
 exact codeAny_compStart_list loop (T.self _ 0 _ _ _ Mo loop)
def Ms{U:List (Addr × Obj)}{σ:St}(D C:Addr)(H':Hp)(s':Shared)(m:Str->Option Value)(hn:s'.heap.Ns C m)(J:Inv X U σ H' s')(hC:H' C=none)(cL:C≠X.env.locals)(GP:X.s₀.heap.objs.size<=C)(cC:∀x c,X.env.cells.lookup x=some c->c≠C)(cP:∀p∈X.pn++U,p.1≠C)(q:Q (.ref D) H'):compPost (model X.prog X.w) X.A X.xe none (EP X U σ Q) (.ref D) C (.ok .next) s':=
 ⟨m,hn,λh7 SO=>⟨.ref D,H',J.turned (h':=h7) (t':=s'.toks) (it:=C) (λb o hb e=>(SO.2 b hb).trans e) hC cL (.inr GP) cC cP,Z,q⟩⟩
def Mt{y:Str}{py:Pos}{iy:Nat}{U:List (Addr × Obj)}{σ:St}(hN:X.N.Nodup)(Cp:X.N[iy]? =some y)(hy:Loc X.env.scope y)(hf:X.fn y=true\/X.env.scope.names.lookup y=some .local)(D C:Addr)(H':Hp)(s':Shared)(m:Str->Option Value)(hn:s'.heap.Ns C m)(J:Inv X U σ H' s')(hC:H' C=none)(cL:C≠X.env.locals)(GP:X.s₀.heap.objs.size<=C)(cC:∀x c,X.env.cells.lookup x=some c->c≠C)(cP:∀p∈X.pn++U,p.1≠C)(q:Dn.nx (σ.set iy (some (.ref D))) H'):compPost (model X.prog X.w) X.A X.xe (some (assign (.Name y py) X.env)) (λ_ s'=>SP X U Dn .next s') (.ref D) C (.ok .next) s':=by
 show wpAny (model X.prog X.w) X.A (assign (.Name y py) X.env (.ref D)) _ X.xe s';refine wpAny_assign_Name (qB (v:=.ref D) J hN Cp hy Z (λs9 I9⟨a9,SQ,SR⟩=>?_) hf);have na:C≠a9:=by
  rcases SR with rfl|z
  .exact cL
  .exact(cC y a9 z).symm
 exact⟨m,hn.sameBut SQ na,λSS GQ=>⟨_,_,(I9.turned (h':=SS) (t':=s9.toks) (it:=C) (λb o hb e=>(GQ.2 b hb).trans e) hC cL (.inr GP) cC cP:),q⟩⟩
def Mu{NB:List Str}{g:TG}{tt:TT}{te:TE}{Q:VK}{σ:St}(J:It)(H1:Hp)(h:∃W:Nat->Nat->List V->Hp->Prop,(∃m,W 0 m [] H1)/\∀i m vs H,W i m vs H->
  (J.stop i H/\∀p,H p=none->Q (.ref p) (upd H p (.lst vs)))\/(J.go i H/\vs.length<sizeLine/\∃N:List V->Hp->Prop,(∀pi H',N pi H'->∃m',m'<m/\W (i+1) m' pi H')/\
   ∀x H',J.dj i H x H'->g x (replicate NB.length none) H' λσ2 H2=>tt σ2 H2 λb H3=>if b=true then te σ2 H3 λv H4=>N (vs++[v]) H4 else N vs H3)):
  ∃fv:List V,([]:List Nat).map (λi=>σ[i]?)=fv.map (λv=>some (some v))/\∃W:Nat->Nat->List V->Hp->Prop,(∃m,W 0 m [] H1)/\∀i m vs H,W i m vs H->
   (J.stop i H/\∀p,H p=none->Q (.ref p) (upd H p (.lst vs)))\/(J.go i H/\vs.length<sizeLine/\∃N:List V->Hp->Prop,(∀pi H',N pi H'->∃m',m'<m/\W (i+1) m' pi H')/\
    ∀x H',J.dj i H x H'->g x (replicate NB.length none++fv.map some) H' λσ2 H2=>(λ_ _ p=>p:List V->St->Prop->Prop) fv σ2 (tt σ2 H2 λb H3=>if b=true then te σ2 H3 λv H4=>N (vs++[v]) H4 else N vs H3)):=
 ⟨[],Z,by rw[ydt,lB];exact h⟩
def Mw(fv:List V)(σ2:St)(p:Prop)(e:fv.length=([]:List Str).length)(h:p):p/\(fv=[]\/σ2.drop n=fv.map some):=⟨h,.inl (ybk.mp e)⟩
def bN.f{scope:Scope}(S:bN scope):bu NB [] scope:=⟨S.kind,λy h=>(S.dc.1 y h).1,S.dc.2.1,S.dc.2.2,λ_ h=>nomatch h⟩
def Wi{elt tg iter:Expr}{ifs:List Expr}{scope:Scope}{pos:Pos}{tt:TT}(hc:X.calm=true)(S:bu NB FR scope)(Fk:wE scope X.env.scope=true)(iG:fi.map (λi=>X.N[i]?)=FR.map some)(hi:PI X tg iter wi)(hg:∀s H ex,PG (Jp X (NB++FR) scope s H ex) tg g)(ht:∀s H ex,sW (Jp X (NB++FR) scope s H ex) ifs tt)(he:∀s H ex,PE (Jp X (NB++FR) scope s H ex) elt te)(hs:∀x,foldedSetIterable iter X.env x=pure x:=by intro _;rfl):PE X (.ListComp elt [⟨tg,iter,ifs,0⟩] scope pos) (VN NB.length fi wi g tt te):=by
 intro U s σ H Q I h;rw[eval_ListComp];exact Kk (use:=none) (λfv σ2 p=>σ2.drop NB.length=fv.map some/\p) hc S (qT Fk) iG hi hg ht he hs (λ_ _ _ _ z=>⟨z.2,.inr z.1⟩) I h (λ_ _ z=>z) Ms
def Xq{elt tg iter:Expr}{ifs:List Expr}{scope:Scope}{pos:Pos}{tt:TT}(hc:X.calm=true)(S:bN scope)(hi:PI X tg iter wi)(hg:∀s H ex,PG (Jp X (NB++[]) scope s H ex) tg g)(ht:∀s H ex,sW (Jp X (NB++[]) scope s H ex) ifs tt)(he:∀s H ex,PE (Jp X (NB++[]) scope s H ex) elt te)(hs:∀x,foldedSetIterable iter X.env x=pure x:=by intro _;rfl):PE X (.ListComp elt [⟨tg,iter,ifs,0⟩] scope pos) (Uo NB wi g tt te):=by
 intro U s σ H Q I h;rw[eval_ListComp];exact Kk (use:=none) (fi:=[]) (λ_ _ p=>p) hc S.f (λy hy e=>absurd e (S.dc.1 y hy).2) rfl hi hg ht he hs Mw I h Mu Ms
section
variable {elt tg iter:Expr}{ifs:List Expr}{scope:Scope}{pos fh py:Pos}{NB FR:List Str}{fi:List Nat}{wi:TI}{g:TG}{tt:TT}{te:TE}{iy:Nat}{y:Str}
def wN{U:List (Addr × Obj)}(Cq:swapsWith (.ListComp elt [⟨tg,iter,ifs,0⟩] scope pos) (some (.Name y py)) fh.line X.env=pure true)(h:∀p2,wpAny (model X.prog X.w) X.A (comprehension (.ListComp elt [⟨tg,iter,ifs,0⟩] scope pos) scope X.env p2 (newList []) false (eval iter X.env) (some (assign (.Name y py) X.env))) (λ_ s'=>SP X U Dn .next s') X.xe s):wpAny (model X.prog X.w) X.A (exec (.Assign [.Name y py] (.ListComp elt [⟨tg,iter,ifs,0⟩] scope pos) fh) X.env) (SP X U Dn) X.xe s:=by
 rw[exec_Assign_Name_used _ _ _ _ Cq];refine yaa (ydG (yaa ?_));show wpAny _ X.A (do let _<-comprehension (.ListComp elt [⟨tg,iter,ifs,0⟩] scope pos) scope X.env _ (newList []) false (eval iter X.env) (some (assign (.Name y py) X.env))) _ _ s;exact yaa (yaV (h _) (λ_ s' hq=>yac (yac hq)) λ_ _ e=>e)
def wO(hc:X.calm=true)(S:bu NB FR scope)(Fk:wE scope X.env.scope=true)(iG:fi.map (λi=>X.N[i]?)=FR.map some)(hi:PI X tg iter wi)(hg:∀s H ex,PG (Jp X (NB++FR) scope s H ex) tg g)(ht:∀s H ex,sW (Jp X (NB++FR) scope s H ex) ifs tt)(he:∀s H ex,PE (Jp X (NB++FR) scope s H ex) elt te)(hN:X.N.Nodup)(Cp:X.N[iy]? =some y)(hy:Loc X.env.scope y)(Cq:swapsWith (.ListComp elt [⟨tg,iter,ifs,0⟩] scope pos) (some (.Name y py)) fh.line X.env=pure true)(hs:∀x,foldedSetIterable iter X.env x=pure x:=by intro _;rfl)(hf:X.fn y=true\/X.env.scope.names.lookup y=some .local:=by first|exact .inl rfl|exact .inr rfl|assumption):PS X (.Assign [.Name y py] (.ListComp elt [⟨tg,iter,ifs,0⟩] scope pos) fh) (J9 (VN NB.length fi wi g tt te) (QL iy)):=λU s σ H Dn I h=>
 wN Cq λ_=>Kk (Q:=λv H'=>QL iy v σ H' Dn.nx) (use:=some (assign (.Name y py) X.env)) (λfv σ2 p=>σ2.drop NB.length=fv.map some/\p) hc S (qT Fk) iG hi hg ht he hs (λ_ _ _ _ z=>⟨z.2,.inr z.1⟩) I h (λ_ _ z=>z) (λD C H' s' m a b c d e f g q=>Mt hN Cp hy hf D C H' s' m a b c d e f g q)
def zN(hc:X.calm=true)(S:bN scope)(hi:PI X tg iter wi)(hg:∀s H ex,PG (Jp X (NB++[]) scope s H ex) tg g)(ht:∀s H ex,sW (Jp X (NB++[]) scope s H ex) ifs tt)(he:∀s H ex,PE (Jp X (NB++[]) scope s H ex) elt te)(hN:X.N.Nodup)(Cp:X.N[iy]? =some y)(hy:Loc X.env.scope y)(Cq:swapsWith (.ListComp elt [⟨tg,iter,ifs,0⟩] scope pos) (some (.Name y py)) fh.line X.env=pure true)(hs:∀x,foldedSetIterable iter X.env x=pure x:=by intro _;rfl)(hf:X.fn y=true\/X.env.scope.names.lookup y=some .local:=by first|exact .inl rfl|exact .inr rfl|assumption):PS X (.Assign [.Name y py] (.ListComp elt [⟨tg,iter,ifs,0⟩] scope pos) fh) (J9 (Uo NB wi g tt te) (QL iy)):=λU s σ H Dn I h=>
 wN Cq λ_=>Kk (Q:=λv H'=>QL iy v σ H' Dn.nx) (use:=some (assign (.Name y py) X.env)) (fi:=[]) (λ_ _ p=>p) hc S.f (λy hy e=>absurd e (S.dc.1 y hy).2) rfl hi hg ht he hs Mw I h (Mu (Q:=λv H'=>QL iy v σ H' Dn.nx)) (λD C H' s' m a b c d e f g q=>Mt hN Cp hy hf D C H' s' m a b c d e f g q)
end
end
end L2
namespace ay
noncomputable def aM(m:Int):Int:=10^m.toNat
noncomputable def XW(i:Int):Int:=if i<0 then-i else i
noncomputable def oP(a b:Int):Int:=if decide (a<0) !=decide (b<0)then-(XW a/XW b)else XW a/XW b
noncomputable def short(a b:Int):Int:=if a*b<0 then 0-XW a/XW b else XW a/XW b
noncomputable def Xj(u o p:Int):Int:=oP (u*aM (p-o)) (aM (o-p))
def JC(m:Int):0<aM m:=Int.pow_pos (by lia)
def Us(h:m<=0):aM m=1:=by
 unfold aM;rw[Int.toNat_of_nonpos h];rfl
def Ut(ha:0<=a)(hb:0<=b):aM (a+b)=aM a*aM b:=by
 unfold aM;rw[Int.toNat_add ha hb,Int.pow_add]
def zO(ht:0<t):XW (i*t)=XW i*t:=by
 unfold XW
 by_cases h:i<0
 .rw[yai h,yai (ybW h ht),Int.neg_mul]
 .rw[yah h,yah (ydL.mpr (yeo (ydL.mp h) (ycX ht)))]
def VP(ht:0<t):XW t=t:=by unfold XW;rw[yah (by lia)]
def lt_mul{i t:Int}(ht:0<t):decide (i*t<0)=decide (i<0):=by
 by_cases h:i<0
 .rw[tN h,tN (ybW h ht)]
 .rw[tM h,tM (ydL.mpr (yeo (ydL.mp h) (ycX ht)))]
def zP(ht:0<t)(hb:0<b):oP (u*t) b=if u<0 then-(XW u*t/b)else XW u*t/b:=by
 unfold oP;rw[lt_mul ht,zO ht,VP hb,tM (ydL.mpr (ycX hb))]
 by_cases h:u<0
 .rw[tN h,yai h];rfl
 .rw[tM h,yah h];rfl
def qX(ht:0<t)(hb:0<b):short (u*t) b=if u<0 then-(XW u*t/b)else XW u*t/b:=by
 unfold short;rw[zO ht,VP hb]
 by_cases h:u<0
 .rw[yai h,yai (ybW (ybW h ht) hb)];lia
 .rw[yah h,yah (ydL.mpr (yeo (yeo (ydL.mp h) (ycX ht)) (ycX hb)))]
def SU(h1:0<=o)(h2:o<=18)(h3:0<=p)(h4:p<=18):Xj u o p=short (u*aM (18-o)) (aM (18-p)):=by
 unfold Xj;rw[zP (JC _) (JC _),qX (JC _) (JC _)];have e:XW u*aM (p-o)/aM (o-p)=XW u*aM (18-o)/aM (18-p):=by
  by_cases h:o<=p
  .rw[Us (show o-p<=0 by lia),ydr,show(18:Int)-o=(p-o)+(18-p) by lia,Ut (by lia) (by lia), <-Int.mul_assoc,Int.mul_ediv_cancel _ (ybQ (JC _))]
  .rw[Us (show p-o<=0 by lia),Int.mul_one,show(18:Int)-p=(o-p)+(18-o) by lia,Ut (by lia) (by lia),Int.mul_ediv_mul_of_pos_left _ _ (JC _)]
 rw[e]
def Mx(h:o<=p):Xj u o p=u*aM (p-o):=by
 unfold Xj;rw[Us (show o-p<=0 by lia),zP (JC _) (by lia),ydr];unfold XW
 split
 .rw[Int.neg_mul];lia
 .rfl
def zQ(h1:o<=p)(h2:p<=18):u*aM (p-o)*aM (18-p)=u*aM (18-o):=by
 rw[Int.mul_assoc, <-Ut (by lia) (by lia),show p-o+(18-p)=18-o by lia]
def SV{a b t:Int}(ht:0<t):(a*t=b*t)↔a=b:=⟨λh=>Int.eq_of_mul_eq_mul_right (ybQ ht) h,λh=>by rw[h]⟩
def SW(h:a<=b)(hb:0<=b):aM a<=aM b:=by
 by_cases ha:0<=a
 .rw[show b=a+(b-a) by lia,Ut ha (by lia)];have:=JC (b-a);have h2:=JC a
  calc aM a=aM a*1:=(Int.mul_one _).symm
   _<=aM a*aM (b-a):=Int.mul_le_mul_of_nonneg_left (by lia) (ycX h2)
 .rw[Us (by lia)];have:=JC b;lia
end ay
namespace dB
open PySem PySem.NumText Builtin Builtin.Str StrLaws
noncomputable abbrev tx(l:List Nat):Str:=⟨l.toArray⟩
def WC(l:List Nat):(tx l).cps.toList=l:=rfl
def Qx(l:List Nat):(tx l).length=l.length:=by show l.toArray.size=_;rw[lF]
def qY(z:Str):z=tx z.cps.toList:=by cases z;rfl
def len_list(z:Str):z.length=z.cps.toList.length:=by show z.cps.size=_;rw[lE]
def qZ(h:tx a=tx b):a=b:=by
 have:=yaE (λz:Str=>z.cps.toList) h;exact this
def XX(a b:List Nat):tx a++tx b=tx (a++b):=by
 show(⟨a.toArray++b.toArray⟩:Str)=_;rw[List.append_toArray]
noncomputable def dec(n:Nat):List Nat:=(Nat.toDigits 10 n).map Char.toNat
def Ub(n:Nat):PySem.Str.ofString (toString ((n:Nat):Int))=tx (dec n):=by
 rw[qY (PySem.Str.ofString _),PySem.W.KIN.signs_num n];rfl
def SX(n:Nat):digitsVal (dec n)=n:=PySem.W.KIN.val_back n
def wP(n:Nat):AllDigits (dec n):=by
 intro c hc;obtain⟨ch,h1,rfl⟩:=yaZ.mp hc;have h:=Nat.isDigit_of_mem_toDigits (b:=10) (by lia) (by lia) h1;unfold Char.isDigit at h;simp only[yay,ybH]at h;exact⟨yeK.mp h.1,yeK.mp h.2⟩
def My(n:Nat):1<=(dec n).length:=by
 unfold dec;rw[tL];exact toDigits_len_ge 10 n
def SY(h:n<2^100):(dec n).length<=100:=by
 have:=nat_repr_length_le (n:=n) (k:=100) (by lia) h;unfold dec;rw[tL];have e:(Nat.repr n).length=(Nat.toDigits 10 n).length:=by rw[<-String.length_toList,Nat.toList_repr]
 lia
def S0(ha:AllDigits a)(hb:AllDigits b):AllDigits (a++b):=λc hc=>(yat.mp hc).elim (ha c) (hb c)
def Ta(k:Nat):AllDigits (replicate k 48):=λc hc=>by rw[yax hc];lia
def Tb(b:List Nat):∀acc:Nat,b.foldl (λacc c=>acc*10+(c-48)) acc=acc*10^b.length+b.foldl (λacc c=>acc*10+(c-48)) 0:=by
 induction b with
 |nil=>intro acc;simp
 |cons c r ih=>
  intro acc;rw[ydb,ydb,ih (acc*10+(c-48)),ih (0*10+(c-48)),tR,Nat.pow_succ];rw[Nat.add_mul,Nat.zero_mul,yci,yex,ybP 10,yfc]
def Uu(a b:List Nat):digitsVal (a++b)=digitsVal a*10^b.length+digitsVal b:=by
 unfold digitsVal;rw[List.foldl_append,Tb]
def wQ(k:Nat):digitsVal (replicate k 48)=0:=by
 induction k with
 |zero=>rfl
 |succ k ih=>rw[show replicate (k+1) 48=[48]++replicate k 48 from rfl,Uu,ih];simp[digitsVal]
def Mz(h:AllDigits l):digitsVal l<10^l.length:=by
 induction l with
 |nil=>decide
 |cons c r ih=>
  have h1:=ih h.tail;have h2:=h.head;rw[show c::r=[c]++r from rfl,Uu,tK,tQ];have e:digitsVal [c]=c-48:=by simp[digitsVal]
  rw[e,Nat.pow_add];have h3:(c-48)*10^r.length<=9*10^r.length:=ycH _ (by lia);lia
noncomputable def MA(n o:Nat):List Nat:=replicate (o+1-(dec n).length) 48++dec n
def wR(n o:Nat):Txt.zfill (tx (dec n)) ((o:Int)+1)=tx (MA n o):=by
 have hl:=Qx (dec n);unfold Txt.zfill MA
 split
 .rename_i h;rw[hl]at h;rw[show o+1-(dec n).length=0 by lia];rfl
 .rename_i h;rw[hl]at h ⊢;have e:((o:Int)+1).toNat-(dec n).length=o+1-(dec n).length:=by lia
  rw[e];unfold zfilled;have hd:=wP n;have hn:=My n;cases hc:dec n with
  |nil=>rw[hc]at hn;exact absurd hn (by lia)
  |cons c r=>
   rw[hc]at hd;have hr:=hd.head;have e0:(tx (c::r)).cps[0]? =some c:=rfl;rw[e0];have key:padded (tx (c::r)) (o+1-(c::r).length) 0 48=tx (replicate (o+1-(c::r).length) 48++(c::r)):=by
    unfold padded;rw[qY ⟨_⟩]
    congr 1
    simp
   split
   .rename_i h1;cases h1;lia
   .rename_i h1;cases h1;lia
   .exact key
def WD(l:List Nat)(h:k<=l.length):sliceText (tx l) none (some (k:Int))=tx (l.take k):=by
 have e:=sliceText_nat (tx l) (a:=0) (b:=k) (lG _) (by rw[Qx];exact h);have e2:sliceText (tx l) none (some (k:Int))=sliceText (tx l) (some ((0:Nat):Int)) (some (k:Int)):=by
  unfold sliceText;rw[sliceIdx_none_lo];rfl
 rw[e2,e];simp
def J1(l:List Nat)(h:a<=l.length)(IR:a<=b):sliceText (tx l) (some (a:Int)) (some (b:Int))=tx ((l.drop a).take (b-a)):=by
 by_cases hb:b<=l.length
 .exact sliceText_nat (tx l) IR (by rw[Qx];exact hb)
 .have e2:sliceText (tx l) (some (a:Int)) (some (b:Int))=sliceText (tx l) (some (a:Int)) (some ((l.length:Nat):Int)):=by
   have e3:strSliceIndices (some (a:Int)) (some (b:Int)) 1 (tx l).length=strSliceIndices (some (a:Int)) (some ((l.length:Nat):Int)) 1 (tx l).length:=by
    rw[Qx];unfold strSliceIndices;have h1:¬ ((b:Int)<0):=by lia
    have h2:¬ (((l.length:Nat):Int)<0):=by lia
    have h3:min (b:Int) (l.length:Int)=l.length:=by lia
    have h4:min ((l.length:Nat):Int) (l.length:Int)=l.length:=by lia
    simp only[h1,h2,yaL,h3,h4,show((1:Int)>0)=True from by simp,ybM]
   unfold sliceText;rw[e3]
  rw[e2,sliceText_nat (tx l) h (by rw[Qx];exact tO _)];have e4:(l.drop a).take (l.length-a)=(l.drop a).take (b-a):=by
   rw[yav (by rw[tZ];lia),yav (by rw[tZ];lia)]
  show tx ((l.drop a).take (l.length-a))=_;rw[e4]
def WE(l:List Nat)(k:Nat):sliceText (tx l) (some (k:Int)) none=tx (l.drop k):=by
 by_cases h:k<=l.length
 .have e2:sliceText (tx l) (some (k:Int)) none=sliceText (tx l) (some (k:Int)) (some ((l.length:Nat):Int)):=by
   unfold sliceText;rw[sliceIdx_none_hi,Qx]
  rw[e2,J1 l h h];rw[yav (by rw[tZ];lia)]
 .rw[yaw (by lia)];have e3:strSliceIndices (some (k:Int)) none 1 (tx l).length=[]:=by
   rw[sliceIdx_none_hi,Qx];unfold strSliceIndices;have h1:¬ ((k:Int)<0):=by lia
   have h2:¬ (((l.length:Nat):Int)<0):=by lia
   have h3:max (0:Int) (min (k:Int) (l.length:Int))=l.length:=by lia
   have h4:max (0:Int) (min ((l.length:Nat):Int) (l.length:Int))=l.length:=by lia
   simp only[h1,h2,yaL,show((1:Int)>0)=True from by simp,ybM,h3,h4];unfold sliceRange;simp
  unfold sliceText;rw[e3]
  split
  .rename_i h1;have:l.length=0:=by
    have h2:(0==(tx l).length)=true:=by simpa using h1
    rw[Qx]at h2;have:=ybl.mp h2;lia
   rw[ybk.mp this]
  .rfl
def sub_one(l:List Nat)(c:Nat):subAt (tx l) ⟨#[c]⟩ 0=(l.head?==some c):=by
 rw[subAt_eq];show((l.drop 0).take 1==[c])=_;cases l with
 |nil=>rfl
 |cons a r=>
  simp only[ybF,ycm,ycI,ydR]
  by_cases h:a=c
  .subst h;simp
  .rw[yas.mpr (by simpa using h),yas.mpr (by simpa using h)]
def Tc(c:Nat):("0123456789":Str).cps.contains c=decide (48<=c/\c<=57):=by
 have e:("0123456789":Str).cps= #[48,49,50,51,52,53,54,55,56,57]:=by rfl'
 rw[e]
 by_cases h:c<58
 .exact (by rfl':∀c:Nat,c<58->(#[48,49,50,51,52,53,54,55,56,57]:Array Nat).contains c=decide (48<=c/\c<=57)) c h
 .rw[decide_eq_false (λz=>h (Nat.lt_succ_of_le z.2))];exact Bool.eq_false_iff.mpr λz=>h ((by decide:∀x∈([48,49,50,51,52,53,54,55,56,57]:List Nat),x<58) c (yaT.mp (by rw[List.contains_toArray]at z;exact z)))
noncomputable instance (l:List Nat):Decidable (AllDigits l):=inferInstanceAs (Decidable (∀c∈l,48<=c/\c<=57))
def wT{l:List Nat}{c:Nat}(h:c∈l.takeWhile p):p c=true:=by
 induction l with
 |nil=>cases h
 |cons a r ih=>
  rw[ycS]at h;cases hp:p a with
  |false=>rw[hp]at h;cases h
  |true=>
   rw[hp,yai rfl]at h;rcases yak.mp h with rfl|h
   .exact hp
   .exact ih h
def wU(l:List Nat):decide (Txt.stripChars (tx l) "0123456789"=(Str.empty:Str))=decide (AllDigits l):=by
 have g:∀c,("0123456789":Str).cps.contains c=true↔(48<=c/\c<=57):=λc=>by rw[Tc];simp
 unfold Txt.stripChars Txt.stripBy stripSame stripped stripLo stripHi;simp only[ybM,Qx];generalize hp:(("0123456789":Str).cps.contains:Nat->Bool)=p;have g':∀c,p c=true↔(48<=c/\c<=57):=λc=>by rw[<-hp];exact g c
 by_cases h:AllDigits l
 .rw[tN h,tN];have e1:(tx l).cps.toList.takeWhile p=l:=takeWhile_all λc hc=>(g' c).mpr (h c hc);rw[e1];have e2:(tx l).cps.toList.drop l.length=[]:=yaw (tO _);rw[e2];show(if(l.length==0&&l.length==l.length)=true then tx l else strSub (tx l) l.length l.length)=Str.empty
  by_cases hz:(l.length==0&&l.length==l.length)=true
  .rw[yai hz];have:l.length=0:=by
    simp only[yay,ybl]at hz;exact hz.1
   rw[ybk.mp this];rfl
  .rw[yah hz,qY (strSub _ _ _),strSub_toList,Nat.sub_self,ycI];rfl
 .rw[tM h,tM];have bi:((tx l).cps.toList.takeWhile p).length<l.length:=by
   have hle:((tx l).cps.toList.takeWhile p).length<=l.length:=yey (ycv p);rcases yba ((tx l).cps.toList.takeWhile p).length l.length with z|z
   .exact z
   .refine absurd (λc hc=>?_) h;have e:(tx l).cps.toList.takeWhile p=l:=ydx (ycv p) z;rw[<-e]at hc;exact(g' c).mp (wT hc)
  generalize Tk:((tx l).cps.toList.takeWhile p).length=lo at bi;have Cr:∃a r,l.drop lo=a::r/\p a=false:=by
   have hd:l.dropWhile p=l.drop lo:=by
    have:=ydn (p:=p) (l:=l);have e3:l.drop lo=((l.takeWhile p)++l.dropWhile p).drop lo:=by rw[this]
    rw[e3,ydy (by rw[<-Tk];exact tO _),yaw (by rw[<-Tk];exact tO _),lA]
   cases hx:l.drop lo with
   |nil=>
    have:=yaE List.length hx;rw[tZ,yaS]at this;lia
   |cons a r=>
    exists a,r,Z;rw[hx]at hd;have:=List.head?_dropWhile_not (p:=p) (l:=l);rw[hd]at this;simpa using this
  obtain⟨a,r,hx,fH⟩:=Cr;have FM:(tx l).cps.toList.drop lo=a::r:=hx;rw[FM];have Cs:r.length+1=l.length-lo:=by
   have:=yaE List.length hx;rw[tZ,tR]at this;lia
  have hk:((a::r).reverse.takeWhile p).length<=r.length:=by
   rw[ybI];have hle:((r.reverse++[a]).takeWhile p).length<=r.length:=by
    by_cases mt:∀c∈r.reverse,p c=true
    .rw[List.takeWhile_append_of_pos mt,ycS,fH];simp
    .have:((r.reverse++[a]).takeWhile p).length<(r.reverse++[a]).length:=by
      have hle:((r.reverse++[a]).takeWhile p).length<=(r.reverse++[a]).length:=yey (ycv p);rcases yba ((r.reverse++[a]).takeWhile p).length (r.reverse++[a]).length with z|z
      .exact z
      .have e:(r.reverse++[a]).takeWhile p=r.reverse++[a]:=ydx (ycv p) z;have:p a=true:=wT (l:=r.reverse++[a]) (by rw[e];simp);rw[fH]at this;cases this
     rw[tK,lg,tQ]at this;lia
   exact hle
  split
  .intro z;have:=yaE (λz:Str=>z.cps.toList.length) z;have e0:l.length=0:=this;lia
  .intro z;have:=yaE (λz:Str=>z.cps.toList.length) z;have e0:(strSub (tx l) lo (l.length-((a::r).reverse.takeWhile p).length)).cps.toList.length=0:=this;rw[strSub_toList,tY,WC,hx,tR]at e0;lia
end dB
namespace bL
open PySem.NumText
noncomputable abbrev Rw:=Nat × Nat
noncomputable def Q1(t:List Nat):Nat × List Nat:=match t with
 |40::r=>if 41∈r/\r.takeWhile (· !=41)≠[]/\AllDigits (r.takeWhile (· !=41))/\(r.takeWhile (· !=41)).head?≠some 48 then(digitsVal (r.takeWhile (· !=41)),r.drop ((r.takeWhile (· !=41)).length+1))else(1,t)
 |_=>(1,t)
noncomputable def Jr(rows:List Rw)(c n:Nat):List Rw:=match rows.getLast? with
 |some (c',m)=>if c'=c then rows.dropLast++[(c,n+m)]else rows++[(c,n)]
 |none=>rows++[(c,n)]
noncomputable def W9:Nat->List Nat->List Rw->List Rw
 |0,_,rows=>rows
 |_,[],rows=>rows
 |k+1,c::t,rows=>W9 k (Q1 t).2 (Jr rows c (Q1 t).1)
noncomputable def rowsOf(l:List Nat):List Rw:=W9 l.length l []
noncomputable def ins(c:Nat):Bool:=[44,66,48,47].contains c
noncomputable def Ey:List (List Nat):=[[57],[83,57],[86,57],[83,86,57],[57,86,57],[83,57,86,57]]
structure Facts where
 kind:Nat
 signed:Bool
 before:Nat
 behind:Nat
deriving DecidableEq,Repr
noncomputable def WF:List Rw->Bool->Bool->Nat->Nat->Option (Bool × Nat × Nat)
 |[],s,_,a,b=>some (s,a,b)
 |(c,n)::r,s,p,a,b=>if c=57 then(if p then WF r s p a n else WF r s p n b)else if n>1 then none else if c=83 then WF r true p a b else WF r s true a b
noncomputable def Jc(rows:List Rw):Option Facts:=if Ey.contains (rows.map (·.1))then(match WF rows false false 0 0 with
 |some (s,a,b)=>if a+b>18 then none else some ⟨2,s,a,b⟩
 |none=>none)else none
noncomputable def JW(rows:List Rw):Option Facts:=match rows with
 |[(c,n)]=>if(c≠88/\c≠65)\/n>60 then none else some ⟨if c=88 then 0 else 1,false,0,0⟩
 |_=>none
noncomputable def Kl(rows:List Rw):Bool:=match rows with
 |(c,n)::r=>decide (n>1)||(match r.dropWhile (λx=>ins x.1)with|(c',_)::_=>c'==c|[]=>false)
 |[]=>false
noncomputable def Va:List (List Nat)->List Rw->List Nat->List Nat × List Rw
 |[],rows,M=>(M,rows)
 |ch::more,rows,M=>match rows with
  |(c,n)::r=>if ch.contains c&& !Kl rows then Va more r (M++[c])else Va more rows M
  |[]=>Va more rows M
noncomputable def ZG(rows:List Rw):List Nat × List Rw:=Va [[43,45],[36]] rows []
noncomputable def JF(place:Nat):List Rw->Nat->Nat × List Rw
 |[],many=>(many,[])
 |(c,n)::r,many=>if c=place then JF place r (many+n)else if ins c then JF place r many else(many,(c,n)::r)
noncomputable def QX(rows:List Rw):List Nat × Nat × Nat × List Rw:=match rows with
 |(c,n)::r=>if[57,90,42,43,45,36].contains c then(let x:=JF c rows 0;let y:=JF 57 x.2 0;([c],x.1,y.1,y.2))else([],0,0,rows)
 |[]=>([],0,0,rows)
noncomputable def JA(rows:List Rw)(place:List Nat):Option Nat × List Rw:=match rows with
 |(46,n)::r=>if n>1\/r=[]then(none,rows)else(match r with
  |(c,m)::r'=>if c≠57/\([c]≠place\/[43,45,36].contains c)then(none,rows)else(some m,r')
  |[]=>(none,rows))
 |_=>(some 0,rows)
noncomputable def J2:List (List Nat):=[[43],[45],[67,82],[68,66]]
noncomputable def Vb(rows:List Rw):Option (List Nat):=if rows=[]then some []else if !J2.contains (rows.map (·.1))||rows.any (λx=>decide (x.2>1))then none else some (rows.map (·.1))
noncomputable def Jw(rows:List Rw):Option Facts:=
 let ld:=ZG rows
 let wp:=QX ld.2
 let bp:=JA wp.2.2.2 (if wp.2.2.1=0 then wp.1 else[57])
 let tl:=Vb bp.2
 match wp.1,bp.1,tl with
 |[place],some behind,some tail=>
  let fl:Bool:=[43,45,36].contains place
  if fl&&decide (wp.2.1<2)then none
  else
   let shown:=[ld.1.take 1,[place],tail].filter (J2.contains ·)
   if shown.length>1 then none
   else
    let before:=wp.2.1+wp.2.2.1-(if fl then 1 else 0)
    if before+behind>18 then none else some ⟨3,shown.length==1,before,behind⟩
 |_,_,_=>none
noncomputable def JT(rows:List Rw):Option Facts:=match Jc rows with
 |some f=>some f
 |none=>match JW rows with
  |some f=>some f
  |none=>Jw rows
noncomputable def QZ(l:List Nat):Option Facts:=JT (rowsOf l)
end bL
namespace Lw
open PySem PySem.Spec PyProof.Rows L2 dB bL
open Builtin Builtin.Str StrLaws
def XQ(l:List Nat)(c:Nat):(!(occurrences (tx l) (tx [c]) 0 (tx l).length 1).isEmpty)=l.contains c:=by
 rcases occ_head (tx l) (tx [c]) 1 (tO _)with⟨h1,h2⟩|⟨i,t,h1,h2,h3⟩
 .have hn:c∉l:=λhm=>by
   obtain⟨j,hj⟩:=ybS.mp hm;exact h2 j ((subAt_one (tx l) c j).mpr hj)
  rw[h1];simp[hn]
 .have hi:l[i]? =some c:=(subAt_one (tx l) c i).mp h2;have hm:c∈l:=ybS.mpr ⟨i,hi⟩;rw[h1];simp[hm]
def Td(l:List Nat)(c:Nat):Txt.startswith (tx l) (tx [c])=(l.head?==some c):=by
 unfold Txt.startswith;have e:(tx [c])=(⟨#[c]⟩:Str):=rfl;rw[e,sub_one];cases l with
 |nil=>rfl
 |cons a r=>
  rw[tN (by show 0+1<=(tx (a::r)).length;rw[Qx,tR];lia)];rfl
def VQ(a b:List Nat):decide (V.str (tx a)=V.str (tx b))=decide (a=b):=by
 by_cases h:a=b
 .rw[tN h,tN (by rw[h])]
 .rw[tM h,tM λq=>h (qZ (V.str.inj q))]
def Zd(a b:Nat):decide (V.str (tx [a])=V.str (tx [b]))=decide (a=b):=by
 rw[VQ]
 by_cases h:a=b
 .rw[tN h,tN (by rw[h])]
 .rw[tM h,tM λq=>h (ycB q).1]
def Te(n a:Nat):fromIndex n (a:Int)=a:=by
 unfold fromIndex;rw[yah (by lia)];lia
def Tf{l:List Nat}{c i:Nat}(hi:l[i]? =some c)(hn:∀k,k<i->l[k]? ≠some c):l.takeWhile (· !=c)=l.take i:=by
 induction l generalizing i with
 |nil=>cases hi
 |cons a r ih=>
  cases i with
  |zero=>
   have:a=c:=by simpa using hi
   subst this;simp
  |succ i=>
   have hb:(a !=c)=true:=by
    have:=hn 0 (yff _);simpa using this
   rw[ycS,hb];simp only[ybM,ycm];rw[ih (i:=i) (by simpa using hi) λk hk=>by
    have:=hn (k+1) (by lia);simpa using this]
def Tg{a c:Nat}(h:l.drop a=40::r)(hc:c≠40):(c∉r/\wJ (tx l) (tx [c]) (a:Int)= -1)\/(c∈r/\wJ (tx l) (tx [c]) (a:Int)=((a+1+(r.takeWhile (· !=c)).length:Nat):Int)):=by
 have hd:∀i,l[a+i]? =(40::r)[i]? :=λi=>by rw[<-h,ycs]
 unfold wJ;rw[Te];rcases occ_head_from (tx l) (tx [c]) a 1 (tO _)with⟨h1,h2⟩|⟨i,t,h1,h2,h3,h4⟩
 .refine .inl ⟨λhm=>?_,by rw[h1]⟩;obtain⟨j,hj⟩:=ybS.mp hm;refine h2 (a+(j+1)) (by lia) ((subAt_one (tx l) c _).mpr ?_);show l[a+(j+1)]? =some c;rw[hd];exact hj
 .have hi:l[i]? =some c:=(subAt_one (tx l) c i).mp h3;obtain⟨k,rfl⟩:∃k,i=a+k:=⟨i-a,by lia⟩;rw[hd]at hi;cases k with
  |zero=>exact absurd (by simpa using hi) (Ne.symm hc)
  |succ k=>
   have hk:r[k]? =some c:=by simpa using hi
   have e:=Tf (l:=r) (c:=c) (i:=k) hk λm hm z=>h4 (a+(m+1)) (by lia) (by lia) ((subAt_one (tx l) c _).mpr (by show l[a+(m+1)]? =some c;rw[hd];exact z));refine .inr ⟨ybS.mpr ⟨k,hk⟩,?_⟩;have hkl:=(yaf.mp hk).1;rw[h1,e,tY,ybc (by lia)];show((a+(k+1):Nat):Int)=_
   congr 1
   lia
def xT(l:List Nat){a b:Nat}(h:b<a)(hl:1<=l.length):sliceText (tx l) (some (a:Int)) (some (b:Int))=tx []:=by
 have e3:strSliceIndices (some (a:Int)) (some (b:Int)) 1 (tx l).length=[]:=by
  rw[Qx];unfold strSliceIndices;have h1:¬ ((a:Int)<0):=by lia
  have h2:¬ ((b:Int)<0):=by lia
  have h3:max (0:Int) (min (a:Int) (l.length:Int))≥max (0:Int) (min (b:Int) (l.length:Int)):=by lia
  simp only[h1,h2,yaL,show((1:Int)>0)=True from by simp,ybM];unfold sliceRange;simp;lia
 unfold sliceText;rw[e3]
 split
 .rename_i h1;have:l.length=0:=by
   have h2:(0==(tx l).length)=true:=by simpa using h1
   rw[Qx]at h2;have:=ybl.mp h2;lia
  lia
 .rfl
noncomputable def oQ(x:Rw):HO:=.tup [.str (tx [x.1]),.int (x.2:Nat)]
inductive cq (H:Hp):List Addr->List Rw->Prop where
 |nil:cq H [] []
 |cons {r:Addr} {rs:List Addr} {x:Rw} {xs:List Rw}:H r=some (oQ x)->cq H rs xs->cq H (r::rs) (x::xs)
section
variable {H:Hp}{rs:List Addr}{rows:List Rw}
def cq.len(h:cq H rs rows):rs.length=rows.length:=by
 induction h with
 |nil=>rfl
 |cons _ _ ih=>rw[tR,tR,ih]
def cq.keep(h:cq H rs rows)(e:∀b xs,H b=some (.tup xs)->H' b=some (.tup xs)):cq H' rs rows:=by
 induction h with
 |nil=>exact .nil
 |cons a _ ih=>exact .cons (e _ _ a) ih
def cq.at(h:cq H rs rows):∀{i:Nat}{x:Rw},rows[i]? =some x->∃r,rs[i]? =some r/\H r=some (oQ x):=by
 induction h with
 |nil=>intro i x e;cases e
 |cons a _ ih=>
  intro i x e;cases i with
  |zero=>exact⟨_,Z,by have:_=x:=tP e;rw[<-this];exact a⟩
  |succ i=>exact ih (i:=i) (x:=x) e
def cq.app(h:cq H rs rows)(e:H r=some (oQ x)):cq H (rs++[r]) (rows++[x]):=by
 induction h with
 |nil=>exact .cons e .nil
 |cons a _ ih=>exact .cons a ih
def cq.dr(h:cq H rs rows):∀k,cq H (rs.drop k) (rows.drop k):=by
 induction h with
 |nil=>intro k;rw[List.drop_nil,List.drop_nil];exact .nil
 |cons a t ih=>
  intro k;cases k with
  |zero=>exact .cons a t
  |succ k=>exact ih k
end
structure au(K:Frag)(H:Hp)(p:Addr)(rs:List Addr)(rows:List Rw):Prop where
 sq:aE K H p (rs.map V.ref)
 rw:cq H rs rows
 le:rows.length<=600
section
variable {K:Frag}{H H':Hp}{p:Addr}{rs:List Addr}{rows:List Rw}{σ:L2.St}{i k:Nat}{Q:VK}
def aE.same{K:Frag}{xs:List V}(e:Qn H H')(h:aE K H a xs):aE K H' a xs:=by
 rcases h with(h|⟨o,h⟩)|h
 .exact .inl (.inl (e _ _ h))
 .exact .inl (.inr ⟨o,e _ _ h⟩)
 .exact .inr h
theorem au.same(R:au K H p rs rows)(e:Qn H H'):au K H' p rs rows:=⟨aE.same e R.sq,R.rw.keep λb xs h=>e _ _ h,R.le⟩
theorem au.len(R:au K H p rs rows):(rs.map V.ref).length=rows.length:=by rw[tL,R.rw.len]
theorem au.at(R:au K H p rs rows)(e:rows[k]? =some x):∃r,eG (rs.map V.ref) (k:Int)=some (.ref r)/\H r=some (oQ x):=by
 obtain⟨r,h1,h2⟩:=R.rw.at e;exact⟨r,Zo (by rw[lh,h1];rfl),h2⟩
def ja(h1:σ[i]? =some (some (.ref p)))(h2:∀Q:VK,Q (.int (k:Nat)) H->te σ H Q)(R:au K H p rs rows)(e:rows[k]? =some x)(q:∀r,H r=some (oQ x)->Q (.ref r) H):dS (fR K) (aF i) te σ H Q:=by
 obtain⟨r,a,b⟩:=R.at e;exact⟨_,h1,h2 _ ⟨p,_,_,_,Z,Z,R.sq,a,q r b⟩⟩
def XY(h1:σ[i]? =some (some (.ref p)))(h2:∀Q:VK,Q (.int (k:Nat)) H->te σ H Q)(R:au K H p rs rows)(e:rows[k]? =some x)(q:Q (.str (tx [x.1])) H):dS (i0 K) (dS (fR K) (aF i) te) (tC (.int 0)) σ H Q:=
 ja h1 h2 R e λr b=>⟨r,_,_,_,Z,Z,aw.of b,Z,q⟩
def MB(h1:σ[i]? =some (some (.ref p)))(h2:∀Q:VK,Q (.int (k:Nat)) H->te σ H Q)(R:au K H p rs rows)(e:rows[k]? =some x)(q:Q (.int (x.2:Nat)) H):dS (i0 K) (dS (fR K) (aF i) te) (tC (.int 1)) σ H Q:=
 ja h1 h2 R e λr b=>⟨r,_,_,_,Z,Z,aw.of b,Z,q⟩
def Zy(h1:σ[i]? =some (some (.ref p)))(R:au K H p rs rows)(q:Q (.int (rows.length:Nat)) H):sL (λxs H Q=>∃p ys,xs=[.ref p]/\(aE K H p ys\/aw K H p ys)/\Q (.int ys.length) H) (Je (aF i) Wy) σ H Q:=
 ⟨_,h1,p,_,Z,.inl R.sq,by rw[R.len];exact q⟩
def J3(h:σ[i]? =some (some (.int (k:Nat)))):∀Q:VK,Q (.int (k:Nat)) H->aF i σ H Q:=λQ q=>⟨_,h,q⟩
end
def XZ(l:List Nat):Txt.join "" (l.map λc=>tx [c])=tx l:=by
 show Builtin.Str.glued _ _=_;rw[ydw];have e:("":Str)=⟨#[]⟩:=by rfl'
 rw[e];exact join_ones l
def Th:∀(l:List Nat)(n:Nat),(l.map λc=>tx [c]).foldl (λ(m:Nat)(s:Str)=>m+s.length+("":Str).length) n=n+l.length:=by
 have e:("":Str).length=0:=by rfl'
 intro l
 induction l with
 |nil=>intro n;rfl
 |cons a r ih=>
  intro n;show(r.map λc=>tx [c]).foldl _ (n+(tx [a]).length+("":Str).length)=_;rw[ih,e,Qx,tR,tR,yaS];lia
def VR{l:List Nat}(h:l.length<=1000):JoinOk "" (l.map λc=>tx [c])=true:=by
 unfold JoinOk;rw[<-yek,ydS,Th];unfold tooLong;have hz:=zza
 rw[tM (by lia)];rfl
end Lw
namespace bL
open PySem PySem.NumText dB
def MC(t:List Nat):(Q1 t).2.length<=t.length:=by
 unfold Q1
 split
 .split
  .show(List.drop _ _).length<=_;rw[tZ,tR];lia
  .exact tO _
 .exact tO _
def Ti(h:t.head?≠some 40):Q1 t=(1,t):=by
 unfold Q1
 split
 .exact absurd rfl h
 .rfl
def Tj:∀(k k':Nat)(l:List Nat)(rows:List Rw),l.length<=k->l.length<=k'->W9 k l rows=W9 k' l rows:=by
 intro k
 induction k with
 |zero=>
  intro k' l rows h h';cases l with
  |nil=>cases k'<;>rfl
  |cons a r=>simp at h
 |succ k ih=>
  intro k' l rows h h';cases l with
  |nil=>cases k'<;>rfl
  |cons c t=>
   cases k' with
   |zero=>simp at h'
   |succ k'=>
    have:=MC t;rw[tR]at h h';exact ih k' _ _ (by lia) (by lia)
noncomputable def run(l:List Nat)(rows:List Rw):List Rw:=W9 l.length l rows
def Tn(rows:List Rw):run [] rows=rows:=rfl
def zR(c:Nat)(t:List Nat)(rows:List Rw):run (c::t) rows=run (Q1 t).2 (Jr rows c (Q1 t).1):=by
 show W9 t.length (Q1 t).2 (Jr rows c (Q1 t).1)=_;exact Tj _ _ _ _ (MC t) (tO _)
def run_plain(rows:List Rw)(h:t.head?≠some 40):run (c::t) rows=run t (Jr rows c 1):=by
 rw[zR,Ti h]
noncomputable def eR(rows:List Rw)(l:List Nat):List Rw:=l.foldl (λr c=>Jr r c 1) rows
def wV(rows:List Rw)(a b:List Nat):eR rows (a++b)=eR (eR rows a) b:=List.foldl_append
def To(hc:c≠40)(h:t.head?≠some 40):∀(m:Nat)(rows:List Rw),run (replicate m c++t) rows=run t (eR rows (replicate m c)):=by
 intro m
 induction m with
 |zero=>intro rows;rfl
 |succ m ih=>
  intro rows;rw[yar,lz,run_plain,ih]
  .rfl
  .cases m with
   |zero=>exact h
   |succ m=>rw[yar,lz,ydR];exact λz=>hc (tP z)
def YU(rows:List Rw):rows=[]\/∃r c m,rows=r++[(c,m)]:=by
 rcases ybi rows with h|⟨r,x,h⟩
 .exact .inl h
 .exact .inr ⟨r,x.1,x.2,by rw[h,yaU]⟩
def wW(c n:Nat):Jr [] c n=[(c,n)]:=rfl
def WG(rows:List Rw)(c n m:Nat):Jr (rows++[(c,m)]) c n=rows++[(c,n+m)]:=by
 unfold Jr;rw[ybD];simp
def Uv{rows:List Rw}(h:c'≠c):Jr (rows++[(c',m)]) c n=(rows++[(c',m)])++[(c,n)]:=by
 unfold Jr;rw[ybD];simp[h]
def Tp(rows:List Rw)(c a b:Nat):Jr (Jr rows c a) c b=Jr rows c (b+a):=by
 rcases YU rows with rfl|⟨r,c',m,rfl⟩
 .rw[wW,wW];exact WG [] c b a
 .by_cases h:c'=c
  .subst h;rw[WG,WG,WG,yfc]
  .rw[Uv h,Uv h,WG]
def Tq(c:Nat):∀(m:Nat)(rows:List Rw),eR rows (replicate (m+1) c)=Jr rows c (m+1):=by
 intro m
 induction m with
 |zero=>intro rows;rfl
 |succ m ih=>
  intro rows;rw[yar];show eR (Jr rows c 1) (replicate (m+1) c)=_;rw[ih,Tp]
def Tr{c:Nat}(h:∀x∈a,p x=true)(hc:p c=false):(a++c::t).takeWhile p=a:=by
 induction a with
 |nil=>simp[hc]
 |cons x r ih=>
  rw[lz,ycS,h x tX,yai rfl,ih λy hy=>h y (tW _ hy)]
def Num(d:List Nat)(n:Nat):Prop:=d≠[]/\AllDigits d/\d.head?≠some 48/\digitsVal d=n
def Ts(h:Num d n)(t:List Nat):Q1 (40::(d++41::t))=(n,t):=by
 have e:(d++41::t).takeWhile (· !=41)=d:=Tr (λx hx=>by have:=h.2.1 x hx;simp;lia) (by simp);show(if 41∈(d++41::t)/\_/\_/\_ then _ else _)=_;rw[e,yai ⟨by simp,h.1,h.2.1,h.2.2.1⟩,h.2.2.2]
 congr 1
 rw[<-ycJ,List.drop_left];rfl
def Tt(rows:List Rw)(h:Num d n):run (c::40::(d++41::t)) rows=run t (Jr rows c n):=by
 rw[zR,Ts h]
inductive Sh:List Nat->List Nat->Prop
 |nil:Sh [] []
 |out {a b:List Nat} {c:Nat} (m:Nat):Sh a b->c≠40->Sh (a++replicate (m+1) c) (b++replicate (m+1) c)
 |brk {a b d:List Nat} {c:Nat} (m:Nat):Sh a b->c≠40->Num d (m+1)->Sh (a++replicate (m+1) c) (b++(c::40::(d++[41])))
theorem Sh.rows(h:Sh a b):∀(t:List Nat)(rows:List Rw),t.head?≠some 40->run (b++t) rows=run t (eR rows a):=by
 induction h with
 |nil=>intro t rows _;rfl
 |@out a b c m _ hc ih=>
  intro t rows ht;rw[lu,ih _ _ (by rw[yar,lz,ydR];exact λz=>hc (tP z)),To hc ht,wV]
 |@brk a b d c m _ hc hd ih=>
  intro t rows ht;have e:(c::40::(d++[41]))++t=c::40::(d++41::t):=by simp
  rw[lu,ih _ _ (by rw[lz,ydR];exact λz=>hc (tP z)),e,Tt _ hd,wV,Tq]
def jb(h:Sh a b):rowsOf b=eR [] a:=by
 have:=h.rows [] [] (by simp);rw[lB,Tn]at this;exact this
def wX:∀(a:List Nat),40∉a->Sh a a:=by
 have key:∀(l a:List Nat),40∉l->Sh a a->Sh (a++l) (a++l):=by
  intro l
  induction l with
  |nil=>intro a _ h;rw[lB];exact h
  |cons c t ih=>
   intro a hl h;have e:a++c::t=(a++replicate (0+1) c)++t:=by simp
   rw[e];exact ih _ (λz=>hl (tW _ z)) (Sh.out 0 h λz=>hl (by rw[z];exact tX))
 intro a h;exact key a [] h .nil
def YV(h:40∉a):rowsOf a=eR [] a:=jb (wX a h)
inductive Ed:List Nat->Nat->List Nat->List Nat->List Nat->List Nat->Prop
 |mk:Ed [] 45 [45,44,45,45,45,44,45,45] [57] [57,57] []
noncomputable def QJ(ac:List Nat):List Nat:=if ac=[]then[]else 46::ac
noncomputable def XR(M W N ac tail:List Nat):List Nat:=M++(W++(N++(QJ ac++tail)))
noncomputable def sgn(M:List Nat)(first:Nat)(tail:List Nat):Bool:=(M.head?==some 43||M.head?==some 45)||(first==43||first==45)|| !tail.isEmpty
section
variable {ac tail:List Nat}{first:Nat}
def Ed.f(E:Ed M first W N ac tail):first∈([57,90,42,43,45,36]:List Nat):=by cases E;lia
def Ed.ld(E:Ed M first W N ac tail):M∈([[],[43],[45],[36],[43,36],[45,36]]:List (List Nat)):=by cases E;lia
def Ed.tl(E:Ed M first W N ac tail):tail∈([[],[43],[45],[67,82],[68,66]]:List (List Nat)):=by cases E;lia
noncomputable def fI(first:Nat):Bool:=([43,45,36]:List Nat).contains first
noncomputable def MD:List Nat:=[43,45,36,57,90,42,44,66,48,47,46,67,82,68]
def Ed.sym(E:Ed M first W N ac tail):∀x∈XR M W N ac tail,x∈MD:=by cases E;lia
def Ed.ME(E:Ed M first W N ac tail):40∉XR M W N ac tail:=by cases E;lia
def Ed.Ez(E:Ed M first W N ac tail):QZ (XR M W N ac tail)=some ⟨3,sgn M first tail,W.count first+N.count 57-(if fI first=true then 1 else 0),ac.length⟩:=by cases E;rfl'
end
open dB PySem.NumText
noncomputable def un(rows:List Rw):List Nat:=rows.flatMap λx=>replicate x.2 x.1
noncomputable def Yx(c:Nat):Bool:= !([83,86]:List Nat).contains c
noncomputable def eK(rows:List Rw):Nat:=((rows.filter λx=>Yx x.1).map (·.2)).sum
def j0(a b:List Rw):eK (a++b)=eK a+eK b:=by simp[eK]
def Uw(c n:Nat):eK [(c,n)]=if Yx c=true then n else 0:=by
 unfold eK;rw[ybn]
 split<;>simp
def Tu(rows:List Rw)(c n:Nat):eK (Jr rows c n)=eK rows+if Yx c=true then n else 0:=by
 rcases YU rows with rfl|⟨r,c',m,rfl⟩
 .rw[wW,Uw];simp[eK]
 .by_cases h:c'=c
  .subst h;rw[WG,j0,j0,Uw,Uw]
   split<;>lia
  .rw[Uv h,j0 (r++[(c',m)]),Uw]
def Tv(l:List Nat):∀rows,eK (eR rows l)=eK rows+(l.filter Yx).length:=by
 induction l with
 |nil=>intro rows;rfl
 |cons c t ih=>
  intro rows;show eK (eR (Jr rows c 1) t)=_;rw[ih,Tu,ybn]
  split<;>simp<;>lia
def Tw(l:List Nat):eK (eR [] l)=(l.filter Yx).length:=by rw[Tv];simp[eK]
def Pos(n:Nat)(rows:List Rw):Prop:=∀x∈rows,1<=x.2/\x.2<=n/\x.1≠40
end bL
namespace L2
open PySem PySem.Spec PyProof.Rows
open Builtin Builtin.Str
section
def Inv.j4{ch:List Addr}(I:Inv X U σ H s)(hf:∀b∈ch,yB X U H b)(k:∀b o,b∉ch->s.heap.get? b=some o->h'.get? b=some o):Inv X U σ H {s with heap:=h',toks:=t'}:=by
 have fN:∀b u,H b=some u->b∉ch:=λb u e z=>by rw[(hf b z).1]at e;cases e
 refine I.step (g':=s.gens) (d':=s.drawn) (ch:=ch) (λb hb=>?_) (λb o _ _ hc e _=>k b o hc e) (λb o _ _ hc e _=>⟨o.slots,k b o hc e⟩) (λ_ _ _ _ n=>n) (λb o hc e=>⟨o,k b o hc e⟩) (λ_ _ e=>e) (λ_ _ _ e=>e) (λb ps e=>⟨#[],by rw[e];simp⟩) (λm hm=>?_) (λb u e=>?_) I.bare
 .obtain⟨_,f1,_,f3,f4,f5⟩:=hf b hb;exact⟨f3,f1,f4,f5⟩
 .obtain⟨o,es,ep,ho,r⟩:=hm;exact⟨o,es,ep,k _ o (λz=>(hf _ z).2.1 Z) ho,r⟩
 .refine(I.ao b u e).yz (λc v hc q=>k c v ?_ q) (λ_ q=>q) λ_ _ q=>q;rcases hc with z|z
  .rw[z];exact fN b u e
  .exact fN c _ z
def Inv.j5{t':Nat}{ch:List Addr}{T:Addr}{xs:List V}(I:Inv X U σ H s)(hf:∀b∈ch,yB X U H b)(k:∀b o,b∉ch->s.heap.get? b=some o->h'.get? b=some o)(hT:s.heap.objs.size<=T)(new:JJ X.prog X.w (upd H T (.tup xs)) h' T (.tup xs)):Inv X U σ (upd H T (.tup xs)) {s with heap:=h',toks:=t'}:=by
 have hn:=I.ao.fresh hT;have fN:∀b u,H b=some u->b∉ch:=λb u e z=>by rw[(hf b z).1]at e;cases e
 have nT:∀b o,H b=some o->upd H T (.tup xs) b=some o:=λb o e=>by rw[Qo (QA e hn)];exact e
 refine I.step (g':=s.gens) (d':=s.drawn) (ch:=ch) (λb hb=>?_) (λb o _ _ hc e _=>k b o hc e) (λb o _ _ hc e _=>⟨o.slots,k b o hc e⟩) (λb o _ e n=>?_) (λb o hc e=>⟨o,k b o hc e⟩) (λb ys e=>nT b _ e) (λb o u e=>nT b _ e) (λb ps e=>⟨#[],by rw[nT b _ e];simp⟩) (λm hm=>?_) (λb u e=>?_) I.bare
 .obtain⟨_,f1,_,f3,f4,f5⟩:=hf b hb;exact⟨f3,f1,f4,f5⟩
 .rw[Qo (λz=>absurd (yaj e) (by rw[z];exact Nat.not_lt.mpr hT))];exact n
 .obtain⟨o,es,ep,ho,r⟩:=hm;exact⟨o,es,ep,k _ o (λz=>(hf _ z).2.1 Z) ho,r⟩
 .by_cases hb:b=T
  .subst hb;rw[Qf]at e;cases e;exact new
  .rw[Qo hb]at e;refine(I.ao b u e).yz (λc v hc q=>k c v ?_ q) (λc q=>nT c _ q) λc ys q=>nT c _ q;rcases hc with z|z
   .rw[z];exact fN b u e
   .exact fN c _ z
end
noncomputable def Ct(z:Str):It:=⟨λi _=>i<z.cps.size,λi H x H'=>∃p c,H p=none/\z.cps[i]? =some c/\x=.ref p/\H'=upd H p (.tup [.int (i:Nat),.str ⟨#[c]⟩]),λi _=>z.cps.size<=i⟩
def xU{P:Program}{w:World}{K:Frag}{es:List Expr}{k:Nat}{pos:Pos}(e it:Addr)(iH:e≠it)(z:Str)(t:Tok):Turn P w K (.Tuple es k pos) (Ct z) [e,it] e (λi h=>(∃old,IsEnum h e it (i:Nat) old)/\h.IsStrIter it "str_ascii_iterator" z t (min i z.cps.size)) where
 mem:=by simp
 obj:=λi h st b hb=>by
  obtain⟨⟨old,he⟩,o,ho,hc,hd⟩:=st;rcases yak.mp hb with rfl|hb
  .exact⟨_,he,λv q=>nomatch (show Data.fields _=Data.cell v from q)⟩
  .obtain rfl:b=it:=by simpa using hb
   exact⟨o,ho,λv q=>by rw[hd]at q;cases q⟩
 keep:=λi h h' st kk=>by
  obtain⟨⟨old,he⟩,o,ho,r⟩:=st;exact⟨⟨old,kk e (by simp) _ he⟩,o,kk it (by simp) o ho,r⟩
 item:=by
  intro X hP hw hK hc i U s σ H E I hf st hg;subst hP hw hK;obtain⟨⟨old,he⟩,lm⟩:=st;have fU:i<z.cps.size:=hg;rw[ybc (ycU fU)]at lm;have D:=ycK (prog:=X.prog) (w:=X.w) (A:=X.A.in1) (I.ok.hd hc) it z t;refine wpAny_pyNext_enum_itemD D he lm fU iH (by simpa using iH) λx h1 tk hx ho GR hT hsz hk=>⟨_,Z,?_⟩;obtain⟨c,u,SL,rfl⟩:=hx;refine yea ho λh2 Cu GT=>?_;have GS:s.heap.objs.size≠e:=λq=>absurd (yaj he) (by rw[<-q];exact lH _);refine⟨.ref s.heap.objs.size,upd H s.heap.objs.size (.tup [.int (i:Nat),.str ⟨#[c]⟩]),I.j5 (ch:=[e,it]) hf (λb o hb q=>?_) (tO _) ?_,Z,⟨_,c,I.ao.fresh (tO _),SL,Z,Z⟩,⟨⟨_,Cu⟩,?_⟩,λb hb=>?_⟩
  .simp only[yak,yaK,ycC,not_or]at hb;exact(GT.2 b hb.1).trans (hk b o hb.1 hb.2 q)
  .exact⟨by show 2<=sizeLine;lia,[.int (i:Nat) tk,.str ⟨#[c]⟩ u],.cons ⟨_,Z⟩ (.cons ⟨_,Z⟩ .nil),⟨_,(GT.2 _ GS).trans hT,Z,_,Z,Z⟩⟩
  .rw[ybc (show i+1<=z.cps.size from fU)];obtain⟨o,Cv,r1⟩:=GR;exact⟨o,(GT.2 it iH.symm).trans Cv,r1⟩
  .have bi:b<s.heap.objs.size:=by
    rcases yak.mp hb with q|q
    .rw[q];exact yaj he
    .obtain⟨o,Cv,_⟩:=lm;rw[show b=it by simpa using q];exact yaj Cv
   rw[Qo (yaq bi)];exact(hf b hb).1
 done:=by
  intro X hP hw hK hc i U s σ H E I hf st hg;subst hP hw hK;obtain⟨⟨old,he⟩,lm⟩:=st;have fU:z.cps.size<=i:=hg;rw[yeI fU]at lm;have D:=ycK (prog:=X.prog) (w:=X.w) (A:=X.A.in1) (I.ok.hd hc) it z t;exact wpAny_pyNext_enum_endD D he lm λh1 eb=>⟨Z,I.j4 (t':=s.toks) (ch:=[e,it]) hf λb o hb q=>eb b o (λr=>hb (by simp[r])) q⟩
 self:=λ_ _ _ _ _ st h=>let ⟨⟨_,he⟩,_⟩:=st;ydo he h
section
def Tx(ta:TA):TI:=λσ H R=>ta σ H λvs H1=>∃z:Str,vs=[.str z]/\z.cps.all (· <128)=true/\R (Ct z) H1
def Tz{p pos:Pos}(hg:Gl X "enumerate")(hm:X.mg "enumerate"=none)(ha:PA X [a] ta)(hs:starEach [a] X.env=[(false,eval a X.env)]:=by rfl):PI X (.Tuple es k tp) (.Call (.Name "enumerate" p) [a] [] pos) (Tx ta):=by
 intro U s σ H R I h;refine Call_ (ZQ I hg hm boot_enumerate (yau (ax (ha pos U s σ H _ I h) λus s1⟨vs,H1,I1,r1,z,e,hz,q⟩=>?_) hs Z));subst e;obtain⟨u,rfl,t,rfl⟩:=vals1 r1;refine call_enumerate_str λh1 he lm hsz hk=>?_;rw[show strIterType z="str_ascii_iterator" by unfold strIterType;rw[hz];rfl]at lm;refine ydo (s:={s1 with heap:=h1}) he ?_;refine⟨_,[s1.heap.objs.size+1,s1.heap.objs.size],_,_,H1,Z,I1.kept (t':=s1.toks) hk,xU _ _ (Nat.succ_ne_self _) z t,⟨⟨_,he⟩,by simpa using lm⟩,λb hb=>?_,q⟩;have Fr:s1.heap.objs.size<=b:=by
  simp only[yak,yaK,ycC]at hb;rcases hb with rfl|rfl
  .exact Nat.le_succ _
  .exact tO _
 exact I1.xv Fr (I1.ao.fresh Fr)
end
inductive dC (w:World):List DictEntry->List (Key × V)->Prop where
 |nil:dC w [] []
 |cons {h:Int} {x y:Str} {t u:Tok} {es:List DictEntry} {al:List (Key × V)} (e:h=yE w (.inr x)) (r:dC w es al):dC w (⟨h,.str x t,.str y u⟩::es) ((Sum.inr x,.str y)::al)
def dC.pairs{al:List (Key × V)}(h:dC w es al):∃vs,KV al vs/\Pairs (QY P w) es vs/\vs.map (·.1)=al.map (·.1)/\∀e∈es,∃k,(QY P w).is k e.key=true/\e.hash=yE w k:=by
 induction h with
 |nil=>exact⟨[],.nil,.nil,Z,λe he=>by cases he⟩
 |@cons hh x y t u es al e r ih=>
  obtain⟨vs,h1,h2,h3,h4⟩:=ih;refine⟨(Sum.inr x,.str y u)::vs,.cons ⟨Z,_,Z⟩ h1,.cons (Ju P w x t) rfl h2,by rw[lD,lD,h3],λq hq=>?_⟩;rcases yak.mp hq with rfl|hq
  .exact⟨_,Ju P w x t,e⟩
  .exact h4 q hq
def wY{K:Frag}{n:Nat}{al:List (Key × V)}(ne:(a==sysModules)=false)(l:K.lookup a=some ⟨.type "dict",none,.dict es n, #[]⟩)(h:dC w es.toList al)(nd:(al.map (·.1)).Nodup):aG P w K a al:=by
 obtain⟨vs,h1,h2,h3,h4⟩:=h.pairs (P:=P);exact⟨ne,λhp KX=>⟨vs,h1,_,_,_,KX a _ l,⟨Z,Z,Z⟩,Z,λe he=>h4 e (by simpa using he),h2,by rw[h3];exact nd⟩⟩
section
variable {ty:TE}{al:List (Key × V)}
def TB(a:Addr)(al:List (Key × V))(ty td:TE):TE:=λσ H Q=>ty σ H λy H1=>td σ H1 λx H2=>∃k,x=.ref a/\y=kV k/\Q (.bl (Vf al k).isSome) H2
def TC(D:aG X.prog X.w X.K a al)(hi:PE X i ty)(ho:PE X o td):PC X .In i o (TB a al ty td):=by
 intro U s σ H Q I h;refine ax (hi U s σ H _ I h) λiv s1⟨y,H1,I1,ry,q1⟩=>ax (ho U s1 σ H1 _ I1 q1) λu s2⟨x,H2,I2,rx,k,ex,ey,q2⟩=>?_;subst ex ey;obtain rfl:u=Value.ref a:=rx;obtain⟨vs,rel,dd⟩:=D.ok s2.heap I2.bH;refine wpAny_in_of (qL ry) D.ne dd.mapOf ?_;rw[<-(rel.val k).VC];exact⟨.bl _,H2,I2.tok _,Z,q2⟩
end
end L2
namespace dB
open PySem PySem.NumText Builtin Builtin.Str StrLaws
def TF(lo:Option Int)(k n:Nat)(hk:1<=k):strSliceIndices lo (some (-(k:Int))) 1 n=strSliceIndices lo (some ((n-k:Nat):Int)) 1 n:=by
 unfold strSliceIndices;have h1:(-(k:Int)<0):=by lia
 have h2:¬ (((n-k:Nat):Int)<0):=by lia
 have h3:max (0:Int) (min (-(k:Int)+n) n)=max (0:Int) (min ((n-k:Nat):Int) n):=by lia
 simp only[h1,h2,ybM,yaL,h3,show((1:Int)>0)=True from by simp]
def jc(l:List Nat){k:Nat}(hk:1<=k):sliceText (tx l) none (some (-(k:Int)))=tx (l.take (l.length-k)):=by
 have e:sliceText (tx l) none (some (-(k:Int)))=sliceText (tx l) none (some ((l.length-k:Nat):Int)):=by
  unfold sliceText;rw[TF none k _ hk,Qx]
 rw[e,WD l (by lia)]
def YW(l:List Nat):sliceText (tx l) none (some (-1))=tx l.dropLast:=by
 have:=jc l (k:=1) (tO _);rw[List.dropLast_eq_take];exact this
def WH{l:List Nat}(h:l≠[]):∃d,l=l.dropLast++[d]/\l.getLast?=some d:=⟨l.getLast h,(List.dropLast_concat_getLast h).symm,List.getLast?_eq_some_getLast h⟩
noncomputable def pad(n k:Nat):List Nat:=replicate (k-(dec n).length) 48++dec n
def Ux(n k:Nat):AllDigits (pad n k):=S0 (Ta _) (wP n)
def wZ(n k:Nat):digitsVal (pad n k)=n:=by unfold pad;rw[Uu,wQ,SX,Nat.zero_mul,yci]
def MF(n k:Nat):pad n k≠[]:=λz=>by
 have h:=yaE List.length z;unfold pad at h;have h2:=My n;rw[tK,yaS]at h;lia
def dec_lt(h:n<10^k)(hk:1<=k):(dec n).length<=k:=by
 rcases yba k (dec n).length with q|q
 .exfalso
  by_cases h0:n=0
  .subst h0;have:(dec 0).length=1:=by lia
   lia
  .have h1:(Nat.toDigits 10 n).length<=k:=(Nat.length_toDigits_le_iff (by lia) hk).mpr h;unfold dec at q;rw[tL]at q;lia
 .exact q
def Uy(h:n<10^k)(hk:1<=k):(pad n k).length=k:=by
 have:=dec_lt h hk;unfold pad;rw[tK,lq];lia
def jd(n:Nat){k:Nat}(hk:1<=k):Txt.zfill (tx (dec n)) (k:Int)=tx (pad n k):=by
 obtain⟨o,rfl⟩:∃o,k=o+1:=⟨k-1,by lia⟩;have:=wR n o;push_cast;rw[this];rfl
def TH:∀d:Nat,48<=d->d<=57->("pqrstuvwxy":Str).cps.toList[d-48]? =some (d+64):=by
 intro d h1 h2;have key:∀k:Nat,k<10->("pqrstuvwxy":Str).cps.toList[k]? =some (k+112):=by rfl'
 have:=key (d-48) (by lia);rw[this]
 congr 1
 lia
def TJ:("pqrstuvwxy":Str)=tx [112,113,114,115,116,117,118,119,120,121]:=by rfl'
def TK(h:AllDigits [d]):digitsVal [d]=d-48:=by simp[digitsVal]
end dB
namespace fV
open dB bL PySem.NumText
noncomputable def cu(c:Nat):Option Nat:=if c=44 then some 44 else if c=66 then some 32 else if c=48 then some 48 else if c=47 then some 47 else if c=46 then some 46 else none
noncomputable def cx(b:Bool)(c:Nat):Nat:=if c=36 then 36 else if c=43 then(if b then 45 else 43)else if c=45 then(if b then 45 else 32)else if b then c else 32
noncomputable def bO:List Nat->List Nat->List Nat
 |[],_=>[]
 |c::r,fs=>match cu c with
  |some d=>d::bO r fs
  |none=>fs.headD 48::bO r fs.tail
noncomputable def bB:List Nat->List Nat->Nat
 |[],_=>0
 |c::r,s=>if c=57\/(ins c=false/\s.headD 0≠48)then 0 else bB r s.tail+1
noncomputable def place(c:Nat):Bool:=(cu c).isNone
noncomputable def many(l:List Nat):Nat:=(l.filter place).length
noncomputable def Uz(body:List Nat)(u:Nat)(b:Bool):List Nat:=
 if fI (body.headD 0)=true then replicate (bB body (bO body (pad u (many body)))-1) 32++[cx b (body.headD 0)]++(bO body (pad u (many body))).drop (bB body (bO body (pad u (many body))))
 else replicate (bB body (bO body (pad u (many body)))) (if body.headD 0=42 then 42 else 32)++(bO body (pad u (many body))).drop (bB body (bO body (pad u (many body))))
noncomputable def zS(l:List Nat):List Nat:=if 42∈l then l.map (λc=>if c=46 then 46 else 42)else replicate l.length 32
noncomputable def cv(M body tail:List Nat)(f:Int):List Nat:=
 if f=0/\57∉body/\fI (body.headD 0)=false then zS (M++body++tail)
 else M.map (cx (decide (f<0)))++Uz body f.natAbs (decide (f<0))++tail.map (cx (decide (f<0)))
noncomputable def MG(c:Nat):Nat:=if c=66 then 32 else c
def TL(c:Nat):Prop:=c∈([57,90,42,43,45,36]:List Nat)
def TM(h:TL c):cu c=none/\ins c=false/\c≠46:=by
 have:∀c∈([57,90,42,43,45,36]:List Nat),cu c=none/\ins c=false/\c≠46:=by lia
 exact this c h
def TN(h:ins c=true):cu c=some (MG c)/\c≠57:=by
 have:∀c∈([44,66,48,47]:List Nat),cu c=some (MG c)/\c≠57:=by lia
 exact this c (yaT.mp h)
def Vk(a b:List Nat):many (a++b)=many a+many b:=by simp[many]
def VS(c:Nat)(r:List Nat):many (c::r)=(if cu c=none then 1 else 0)+many r:=by
 unfold many place;rw[ybn];cases cu c<;>simp<;>lia
def Km{r fs:List Nat}(h:cu c=none):bO (c::r) fs=fs.headD 48::bO r fs.tail:=by rw[bO,h]
def Wj{r fs:List Nat}(h:cu c=some d):bO (c::r) fs=d::bO r fs:=by rw[bO,h]
def TQ(h:u<10^k)(hk:1<=k):pad u (k+1)=48::pad u k:=by
 have:=dec_lt h hk;unfold pad;rw[show k+1-(dec u).length=(k-(dec u).length)+1 by lia,yar,lz]
section
variable {first:Nat}{ac tail:List Nat}
theorem _root_.bL.Ed.many(E:Ed M first W N ac tail):many (W++N)=W.count first+N.count 57:=by cases E;lia
def _root_.bL.Ed.MH(E:Ed M first W N ac tail):many (QJ ac)=ac.length:=by cases E;lia
noncomputable def bC(first:Nat)(W N:List Nat):Nat:=W.count first+N.count 57-(if fI first=true then 1 else 0)
end
noncomputable def dg(c:Nat):Nat:=if 48<=c/\c<=57 then c else 48
noncomputable def cy(body t:List Nat):List Nat:=((body.zip t).filter (λx=>place x.1)).map (λx=>dg x.2)
noncomputable def lK(M body t:List Nat):Nat:=digitsVal (cy body (t.drop M.length))
def Xr(c d:Nat)(r t:List Nat):cy (c::r) (d::t)=if place c=true then dg d::cy r t else cy r t:=by
 unfold cy;rw[List.zip_cons_cons,ybn]
 split<;>rfl
def TR:∀(l t x:List Nat),t.length=l.length->cy l (t++x)=cy l t:=by
 intro l
 induction l with
 |nil=>intro t x _;rfl
 |cons c r ih=>
  intro t x h;cases t with
  |nil=>cases h
  |cons d t=>rw[lz,Xr,Xr,ih t x (by simpa using h)]
def TU:∀(l fs:List Nat),AllDigits fs->many l<=fs.length->cy l (bO l fs)=fs.take (many l):=by
 intro l
 induction l with
 |nil=>intro fs _ _;rfl
 |cons c r ih=>
  intro fs hd hl;rw[VS]at hl ⊢;cases h:cu c with
  |some d=>
   rw[Wj h,Xr,yah (by unfold place;rw[h];simp),yah (by simp),yci];rw[h,yah (by simp),yci]at hl;exact ih fs hd hl
  |none=>
   rw[h,yai rfl]at hl;rw[yai rfl];cases fs with
   |nil=>rw[yaS]at hl;lia
   |cons a fs=>
    rw[Km h,Xr,yai (by unfold place;rw[h];rfl),show 1+many r=many r+1 by lia,ycm];have ha:=hd a tX;rw[show(a::fs).headD 48=a from rfl,show(a::fs).tail=fs from rfl,show dg a=a by unfold dg;rw[yai (by lia)],ih fs (λx hx=>hd x (tW _ hx)) (by rw[tR]at hl;lia)]
def TV:∀(l s pre:List Nat),s.length=l.length->pre.length=bB l s->(∀x∈pre,dg x=48)->cy l (pre++s.drop (bB l s))=cy l s:=by
 intro l
 induction l with
 |nil=>intro s pre _ _ _;rfl
 |cons c r ih=>
  intro s pre hs hp hx;rw[bB]at hp ⊢
  split at hp
  .rename_i hc;rw[yai hc,ybF];rw[ybk.mp hp];rfl
  .rename_i hc;rw[yah hc];cases s with
   |nil=>cases hs
   |cons d s=>
    cases pre with
    |nil=>cases hp
    |cons a pre=>
     rw[List.drop_succ_cons,lz,Xr,Xr];rw[show(d::s).tail=s from rfl]at hp ⊢;rw[ih s pre (by simpa using hs) (by simpa using hp) λx h=>hx x (tW _ h)]
     split
     .rename_i dL;have hb:cu c=none:=by unfold place at dL;cases e:cu c with
       |none=>rfl
       |some x=>rw[e]at dL;cases dL
      have hi:ins c=false:=by
       cases e:ins c with
       |false=>rfl
       |true=>rw[(TN e).1]at hb;cases hb
      have hd:d=48:=by
       by_cases q:d=48
       .exact q
       .exact absurd (Or.inr ⟨hi,q⟩) hc
      rw[hx a tX,hd];rfl
     .rfl
def TX(h:∀x∈t,dg x=48):digitsVal (cy l t)=0:=by
 have e:cy l t=replicate (cy l t).length 48:=by
  refine List.eq_replicate_iff.mpr ⟨Z,λy hy=>?_⟩;unfold cy at hy;obtain⟨x,hx,rfl⟩:=yaZ.mp hy;exact h _ (ydP ((yeM.mp hx).1)).2
 rw[e,wQ]
def TY(h:c≠57)(hs:s.headD 0=48):1<=bB (c::r) s:=by
 rw[bB,yah]
 .lia
 .rintro(q|⟨_,q⟩)
  .exact h q
  .exact q hs
def TZ:∀(l fs:List Nat),(bO l fs).length=l.length:=by
 intro l
 induction l with
 |nil=>intro fs;rfl
 |cons c r ih=>
  intro fs;cases h:cu c with
  |none=>rw[Km h,tR,tR,ih]
  |some d=>rw[Wj h,tR,tR,ih]
def T6:∀(l s:List Nat),bB l s<=l.length:=by
 intro l
 induction l with
 |nil=>intro s;exact tO _
 |cons c r ih=>
  intro s;rw[bB,tR]
  split
  .exact lG _
  .exact Nat.succ_le_succ (ih _)
def U':∀c∈([43,45,36]:List Nat),∀b,dg (cx b c)=48:=by lia
section
variable {first:Nat}{ac tail:List Nat}
def _root_.bL.Ed.cnt(E:Ed M first W N ac tail):W.count first+N.count 57=bC first W N+(if fI first=true then 1 else 0):=by cases E;lia
def _root_.bL.Ed.fW(E:Ed M first W N ac tail):∃rr,W++N++QJ ac=first::rr:=by cases E;exact⟨_,Z⟩
def _root_.bL.Ed.shape(E:Ed M first W N ac tail)(b:Bool)(h1:1<=bC first W N)(hu:u<10^(bC first W N+ac.length)):∃s pre:List Nat,s=bO (W++N++QJ ac) (pad u (many (W++N++QJ ac)))/\Uz (W++N++QJ ac) u b=pre++s.drop (bB (W++N++QJ ac) s)/\pre.length=bB (W++N++QJ ac) s/\(∀x∈pre,dg x=48)/\s.length=(W++N++QJ ac).length/\(pad u (many (W++N++QJ ac))).length=many (W++N++QJ ac)/\
   pre=if fI first=true then replicate (bB (W++N++QJ ac) s-1) 32++[cx b first]else replicate (bB (W++N++QJ ac) s) (if first=42 then 42 else 32):=by
 have hm:many (W++N++QJ ac)=bC first W N+(if fI first=true then 1 else 0)+ac.length:=by rw[Vk,E.many,E.MH,E.cnt]
 have Cw:u<10^many (W++N++QJ ac):=yan hu (ybZ (by lia) (by lia));have dL:=Uy Cw (by lia);obtain⟨rr,MI⟩:=E.fW;refine⟨_,if fI first=true then replicate (bB (W++N++QJ ac) (bO (W++N++QJ ac) (pad u (many (W++N++QJ ac))))-1) 32++[cx b first]else replicate (bB (W++N++QJ ac) (bO (W++N++QJ ac) (pad u (many (W++N++QJ ac))))) (if first=42 then 42 else 32),Z,?_,?_,?_,TZ _ _,dL,Z⟩
 .unfold Uz;rw[show(W++N++QJ ac).headD 0=first by rw[MI];rfl]
  split<;>rfl
 .split
  .rename_i hf;rw[hf,yai rfl]at hm;have hh:1<=bB (W++N++QJ ac) (bO (W++N++QJ ac) (pad u (many (W++N++QJ ac)))):=by
    have Cy:=yaT.mp hf;have e:pad u (many (W++N++QJ ac))=48::pad u (bC first W N+ac.length):=by
     rw[hm,show bC first W N+1+ac.length=bC first W N+ac.length+1 by lia,TQ hu (by lia)]
    rw[e,MI];refine TY (λq=>by rw[q]at Cy;exact absurd Cy (by lia)) ?_;rw[Km (TM E.f).1];rfl
   rw[tK,lq,tQ];lia
  .rw[lq]
 .split
  .rename_i hf;intro x hx;rcases yat.mp hx with h|h
   .rw[yax h];rfl
   .rw[yap.mp h];exact U' first (yaT.mp hf) b
  .intro x hx;rw[yax hx]
   split<;>rfl
def _root_.bL.Ed.VT(E:Ed M first W N ac tail)(b:Bool)(h1:1<=bC first W N)(hu:u<10^(bC first W N+ac.length)):(Uz (W++N++QJ ac) u b).length=(W++N++QJ ac).length:=by
 obtain⟨s,pre,_,e,hp,_,hs,_⟩:=E.shape b h1 hu;have:=T6 (W++N++QJ ac) s;rw[e,tK,hp,tZ];lia
def _root_.bL.Ed.read(E:Ed M first W N ac tail)(h1:1<=bC first W N)(hf:f.natAbs<10^(bC first W N+ac.length)):lK M (W++N++QJ ac) (cv M (W++N++QJ ac) tail f)=f.natAbs:=by
 unfold lK cv
 split
 .rename_i h;rw[TX,h.1]
  .rfl
  .intro x hx;have hx:=ybE hx;unfold zS at hx
   split at hx
   .obtain⟨c,_,rfl⟩:=yaZ.mp hx
    split<;>rfl
   .rw[yax hx];rfl
 .rw[lu (M.map (cx (decide (f<0)))),show M.length=(M.map (cx (decide (f<0)))).length by rw[tL],List.drop_left,TR _ _ _ (E.VT _ h1 hf)];obtain⟨s,pre,V',e,hp,hx,hs,dL,_⟩:=E.shape (decide (f<0)) h1 hf;rw[e,TV _ _ _ hs hp hx,V',TU _ _ (Ux _ _) (by lia),yav (by lia),wZ]
def _root_.bL.Ed.Wx(E:Ed M first W N ac tail){u:Nat}(h:sgn M first tail=false):cv M (W++N++QJ ac) tail (-(u:Int))=cv M (W++N++QJ ac) tail (u:Int):=by cases E;exact absurd h (by lia)
def _root_.bL.Ed.W'(E:Ed M first W N ac tail){u:Nat}(h1:1<=bC first W N)(hu:u<10^(bC first W N+ac.length))(h0:u≠0)(h:sgn M first tail=true):cv M (W++N++QJ ac) tail (u:Int)≠cv M (W++N++QJ ac) tail (-(u:Int)):=by
 intro e;unfold cv at e;rw[yah (λq=>h0 (by have:=q.1;lia)),yah (λq=>h0 (by have:=q.1;lia)),Int.natAbs_neg,yel,tM (show ¬ (u:Int)<0 by lia),tN (show-(u:Int)<0 by lia),lu (M.map (cx false)),lu (M.map (cx true))]at e;obtain⟨e1,e2⟩:=List.append_inj e (by rw[tL,tL]);obtain⟨e2,e3⟩:=List.append_inj e2 ((E.VT _ h1 hu).trans (E.VT _ h1 hu).symm);obtain⟨s,pre,hs,es,_,_,_,_,Id⟩:=E.shape false h1 hu;obtain⟨s',Xs,Eo,sK,_,_,_,_,Cz⟩:=E.shape true h1 hu;subst Eo;subst hs;have Cl:fI first=true/\cx false first≠cx true first:=by cases E;lia
 rw[es,sK,Id,Cz,yai Cl.1,yai Cl.1,lu (replicate _ 32),lu (replicate _ 32)]at e2;have e4:=List.append_cancel_left e2;rw[yeR,yeR]at e4;exact Cl.2 (ycB e4).1
end
end fV
namespace L2
open PySem PySem.Spec PyProof.Rows
def X'{z:Str}{g:TG}{tb:TS}{D:Ends}{σ:St}{H:Hp}(Pv:Nat->St->Hp->Prop)(h0:Pv 0 σ H)(hs:∀i c σ H,z.cps[i]? =some c->Pv i σ H->g (.str ⟨#[c]⟩) σ H λσ2 H2=>tb {D with nx:=Pv (i+1),ct:=Pv (i+1),bk:=D.nx} σ2 H2)(hd:∀σ H,Pv z.cps.size σ H->D.nx σ H):∃W:Nat->Nat->St->Hp->Prop,(∃m,W 0 m σ H)/\∀i m σ H,W i m σ H->
   ((Cg z).stop i H/\D.nx σ H)\/((Cg z).go i H/\∃N:St->Hp->Prop,(∀σ' H',N σ' H'->∃m',m'<m/\W (i+1) m' σ' H')/\∀x H',(Cg z).dj i H x H'->g x σ H' λσ2 H2=>tb {D with nx:=N,ct:=N,bk:=D.nx} σ2 H2):=by
 refine⟨λi m σ H=>m=z.cps.size-i/\i<=z.cps.size/\Pv i σ H,⟨z.cps.size,by simp,lG _,h0⟩,?_⟩;rintro i m σ H ⟨rfl,hi,p⟩
 by_cases bi:i<z.cps.size
 .refine .inr ⟨bi,Pv (i+1),λσ' H' p'=>⟨z.cps.size-(i+1),by lia,Z,bi,p'⟩,λx H' y=>?_⟩;obtain⟨e,c,hc,e2⟩:=y;subst e e2;exact hs i c σ _ hc p
 .have e:i=z.cps.size:=by lia
  subst e;exact .inl ⟨tO _,hd σ H p⟩
def w4{z:Str}{g:TG}{tb:TS}{D:Ends}{σ:St}{H:Hp}(Pv:Nat->St->Hp->Prop)(h0:Pv 0 σ H)(hs:∀i c σ H p,z.cps[i]? =some c->Pv i σ H->H p=none->g (.ref p) σ (upd H p (.tup [.int (i:Nat),.str ⟨#[c]⟩])) λσ2 H2=>tb {D with nx:=Pv (i+1),ct:=Pv (i+1),bk:=D.nx} σ2 H2)(hd:∀σ H,Pv z.cps.size σ H->D.nx σ H):∃W:Nat->Nat->St->Hp->Prop,(∃m,W 0 m σ H)/\∀i m σ H,W i m σ H->
   ((Ct z).stop i H/\D.nx σ H)\/((Ct z).go i H/\∃N:St->Hp->Prop,(∀σ' H',N σ' H'->∃m',m'<m/\W (i+1) m' σ' H')/\∀x H',(Ct z).dj i H x H'->g x σ H' λσ2 H2=>tb {D with nx:=N,ct:=N,bk:=D.nx} σ2 H2):=by
 refine⟨λi m σ H=>m=z.cps.size-i/\i<=z.cps.size/\Pv i σ H,⟨z.cps.size,by simp,lG _,h0⟩,?_⟩;rintro i m σ H ⟨rfl,hi,p⟩
 by_cases bi:i<z.cps.size
 .refine .inr ⟨bi,Pv (i+1),λσ' H' p'=>⟨z.cps.size-(i+1),by lia,Z,bi,p'⟩,λx H' y=>?_⟩;obtain⟨q,c,hq,hc,e,e2⟩:=y;subst e e2;exact hs i c σ _ q hc p hq
 .have e:i=z.cps.size:=by lia
  subst e;exact .inl ⟨tO _,hd σ H p⟩
def w6{z:Str}{n:Nat}{fi:List Nat}{fv:List V}{tt:TT}{tl:TE}(Pv:Nat->List V->Hp->Prop)(h:∀R:VK,R (.str z) H->tl σ H R)(ha:z.cps.all (· <128)=true)(j':fi.map (λi=>σ[i]?)=fv.map (λv=>some (some v)))(h0:Pv 0 [] H)(hl:∀i vs H,i<=z.cps.size->Pv i vs H->vs.length<=i)(hs:∀i c vs H,z.cps[i]? =some c->Pv i vs H->g (.str ⟨#[c]⟩) (replicate n none++fv.map some) H λσ2 H2=>σ2.drop n=fv.map some/\tt σ2 H2 λb H3=>if b=true then te σ2 H3 λv H4=>Pv (i+1) (vs++[v]) H4 else Pv (i+1) vs H3)(hd:∀vs H,Pv z.cps.size vs H->∀p,H p=none->Q (.ref p) (upd H p (.lst vs)))(hz:z.cps.size<sizeLine):VN n fi (Er tl) g tt te σ H Q:=by
 refine h _ ⟨z,Z,ha,fv,j',?_⟩;refine⟨λi m vs H=>m=z.cps.size-i/\i<=z.cps.size/\Pv i vs H,⟨z.cps.size,by simp,lG _,h0⟩,?_⟩;rintro i m vs H ⟨rfl,hi,p⟩;have hv:=hl i vs H hi p
 by_cases bi:i<z.cps.size
 .refine .inr ⟨bi,by lia,Pv (i+1),λpi H' p'=>⟨z.cps.size-(i+1),by lia,Z,bi,p'⟩,λx H' y=>?_⟩;obtain⟨e,c,hc,e2⟩:=y;subst e e2;exact hs i c vs _ hc p
 .have e:i=z.cps.size:=by lia
  subst e;exact .inl ⟨tO _,hd vs H p⟩
def vb(hK:X.K=K0)(ha:PE X a ta)(he:∀whole,isTrue a X.env whole=(do let v<-whole;standAt a.pos;holding [v] (truthy v))):PT X a (λσ H Q=>ta σ H λx H'=>∃k,Ei K0 x H' k/\Q k H'):=by
 subst hK;exact Jd ha he
open Builtin Builtin.Str
abbrev Aa(z TI TO i1 i2:Addr):Prop:=ZipApart z TI TO i1 i2 TI TI
section
variable {prog:Program}{TI TO:Addr}
def WI(D:Draws prog w A i [i] n P S)(st:S k h)(e:Heap.ExtBut c h h')(ne:i≠c):S k h':=
 D.frame _ _ _ st λb hb o q=>by
  obtain rfl:b=i:=by simpa using hb
  exact e _ _ ne q
def vc{Q:Value->Shared->Prop}(D:Aa z TI TO i1 i2)(D1:Draws prog w A i1 [i1] n1 P1 S1)(D2:Draws prog w A i2 [i2] n2 P2 S2)(hz:IsZip s.heap z TI TO .none)(Ab:IsPair s.heap TI (.ref i1) (.ref i2))(Ac:IsPair s.heap TO a b)(h1:S1 k s.heap)(h2:S2 k s.heap)(hx:k<n1)(hy:k<n2)(hQ:∀x y h' tk,P1 k x->P2 k y->IsZip h' z TI TO (rawInt s.heap.objs.size)->IsPair h' TO x y->S1 (k+1) h'->S2 (k+1) h'->IsPair h' s.heap.objs.size x y->(∀c o,c≠z->c≠TO->c≠i1->c≠i2->s.heap.get? c=some o->h'.get? c=some o)->Q (.ref s.heap.objs.size) {s with heap:=h',toks:=tk}):wpAny (model prog w) A (Builtin.«zip.__next__» ⟨[.ref z],[]⟩) (λfin s'=>∃v,fin=.done (.ret v)/\Q v s') E s:=by
 show wpAny _ _ (field (.ref z) 2>>=_) _ _ _;refine yaa (yaG hz Z (x:=.bool false) Z ?_);show wpAny _ _ (field (.ref z) 3>>=_) _ _ _;refine yaa (yaG hz Z (x:=.ref TI) Z (yaa (ybd Ab Z ?_)));show wpAny _ _ (Builtin.SmallTypes.ownedTupleIsFree (.ref z)>>=_) _ _ _;refine yaa ?_;unfold Builtin.SmallTypes.ownedTupleIsFree;refine yaa (yaG hz Z (x:=.none) Z (yac ?_));simp only[ybM];refine yaa (ycV (yaa (yaG hz Z (x:=.ref TO) Z (yaa (ybw hz (by simp) λh₁ iI Ty=>?_)))))
 replace iI:IsZip h₁ z TI TO .ellipsis:=iI;refine yaa ?_
 simp only[List.zipIdx_cons,List.zipIdx_nil,yeQ,List.forIn_nil];refine yaa (yaa (yez ?_));show wpAny _ _ (Builtin.SmallTypes.nextOf (.ref i1)>>=_) _ _ _;refine yaa (D1.item k _ _ _ hx (WI D1 h1 Ty.extBut D.i1z) λx h₂ Y' px MJ fj=>yac ?_);have fX:IsPair h₂ TO a b:=fj.extBut _ _ D.TOi1 (Ty.extBut _ _ D.TOz Ac);refine yaa (ybd fX Z (yaa (ydC fX λh₃ lL fJ=>?_)))
 replace lL:IsPair h₃ TO x b:=lL;refine yaa (yfa (yac (yaa (yaa (yez ?_)))))
 show wpAny _ _ (Builtin.SmallTypes.nextOf (.ref i2)>>=_) _ _ _;have e2:S2 k h₃:=WI D2 (WI D2 (WI D2 h2 Ty.extBut D.i2z) fj.extBut D.i12.symm) fJ.extBut D.TOi2.symm;refine yaa (D2.item k _ _ _ hy e2 λy h₄ GA py Z' oR=>yac ?_);have CA:IsPair h₄ TO x b:=oR.extBut _ _ D.TOi2 lL;refine yaa (ybd CA Z (yaa (ydC CA λh₅ lM oU=>?_)))
 replace lM:IsPair h₅ TO x y:=lM;refine yaa (yfa (yac (yac (yaa (ybd lM Z (yaa (wpAny_newTuple ?_)))))))
 have hs1:=Ty.1;have GT:=fj.1;have EA:=fJ.1;have hs4:=oR.1;have hs5:=oU.1;have hsz:h₅.objs.size=s.heap.objs.size:=hs5.trans (hs4.trans (EA.trans (GT.trans hs1)));have MK:IsZip h₅ z TI TO .ellipsis:=oU.extBut _ _ D.TOz.symm (oR.extBut _ _ D.i2z.symm (fJ.extBut _ _ D.TOz.symm (fj.extBut _ _ D.i1z.symm iI)));have hk5:∀c o,c≠z->c≠TO->c≠i1->c≠i2->s.heap.get? c=some o->h₅.get? c=some o:=λc o c1 c2 c3 c4 e=>oU.extBut _ _ c2 (oR.extBut _ _ c4 (fJ.extBut _ _ c2 (fj.extBut _ _ c3 (Ty.extBut _ _ c1 e))));have g1:S1 (k+1) h₅:=WI D1 (WI D1 (WI D1 MJ fJ.extBut D.TOi1.symm) oR.extBut D.i12) oU.extBut D.TOi1.symm;have g2:S2 (k+1) h₅:=WI D2 Z' oU.extBut D.TOi2.symm;have CB:z<h₅.objs.size:=yaj MK;show wpAny _ _ (Builtin.SmallTypes.ownedTupleHandOut (.ref z) (.ref h₅.objs.size)>>=_) _ _ _;refine yaa ?_;unfold Builtin.SmallTypes.ownedTupleHandOut;have hz6:IsZip (h₅.push {cls:=.type "tuple",data:=.seq #[x,y]}) z TI TO .ellipsis:=yab _ MK;refine yaa (ybw hz6 (by simp) λh₇ GU ML=>?_);replace GU:IsZip h₇ z TI TO (rawInt h₅.objs.size):=GU;refine ybw GU (by simp) λh₈ EB MM=>?_;replace EB:IsZip h₈ z TI TO (rawInt h₅.objs.size):=EB;have up:∀c o,c≠z->h₅.get? c=some o->h₈.get? c=some o:=λc o c1 e=>MM.extBut _ _ c1 (ML.extBut _ _ c1 (yab _ e));have MN:IsPair h₈ h₅.objs.size x y:=MM.extBut _ _ (yct CB) (ML.extBut _ _ (yct CB) (yag _ Z));rw[hsz]at EB MN;refine yac ⟨_,Z,?_⟩;show Q (.ref h₅.objs.size) _;rw[hsz];exact hQ x y h₈ _ px py EB (up _ _ D.TOz lM) (D1.frame _ _ _ g1 λb hb o q=>up _ _ (by rw[show b=i1 by simpa using hb];exact D.i1z) q) (D2.frame _ _ _ g2 λb hb o q=>up _ _ (by rw[show b=i2 by simpa using hb];exact D.i2z) q) MN λc o c1 c2 c3 c4 e=>up c o c1 (hk5 c o c1 c2 c3 c4 e)
def Qan(D:Aa z TI TO i1 i2)(D1:Draws prog w A i1 [i1] n1 P1 S1)(D2:Draws prog w A i2 [i2] n2 P2 S2)(hz:IsZip s.heap z TI TO .none)(Ab:IsPair s.heap TI (.ref i1) (.ref i2))(Ac:IsPair s.heap TO a b)(h1:S1 k s.heap)(h2:S2 k s.heap)(hx:k=n1\/(k<n1/\k=n2))(hE:∀h' e tk,(∀c o,c≠z->c≠TO->c≠i1->c≠i2->s.heap.get? c=some o->h'.get? c=some o)->(∃o,h'.get? e=some o/\o.cls=.type "StopIteration")->E (.ref e) {s with heap:=h',toks:=tk}):wpAny (model prog w) A (Builtin.«zip.__next__» ⟨[.ref z],[]⟩) Q E s:=by
 show wpAny _ _ (field (.ref z) 2>>=_) _ _ _;refine yaa (yaG hz Z (x:=.bool false) Z ?_);show wpAny _ _ (field (.ref z) 3>>=_) _ _ _;refine yaa (yaG hz Z (x:=.ref TI) Z (yaa (ybd Ab Z ?_)));show wpAny _ _ (Builtin.SmallTypes.ownedTupleIsFree (.ref z)>>=_) _ _ _;refine yaa ?_;unfold Builtin.SmallTypes.ownedTupleIsFree;refine yaa (yaG hz Z (x:=.none) Z (yac ?_));simp only[ybM];refine yaa (ycV (yaa (yaG hz Z (x:=.ref TO) Z (yaa (ybw hz (by simp) λh₁ iI Ty=>?_)))))
 replace iI:IsZip h₁ z TI TO .ellipsis:=iI;refine yaa ?_
 simp only[List.zipIdx_cons,List.zipIdx_nil,yeQ,List.forIn_nil];refine yaa (yaa (yez ?_));show wpAny _ _ (Builtin.SmallTypes.nextOf (.ref i1)>>=_) _ _ _;rcases hx with e|⟨hx,e⟩
 .refine yaa (D1.done _ _ _ (by rw[<-e];exact WI D1 h1 Ty.extBut D.i1z) λh₂ e fj he=>?_);obtain⟨oe,Ad,sZ⟩:=he;have MO:IsZip h₂ z TI TO .ellipsis:=fj _ _ D.i1z.symm iI;have GV:e≠z:=λx=>by subst x;rw[MO]at Ad;cases Ad;simp at sZ
  exact ybw MO (by simp) λh₃ _ fJ=>hE h₃ e _ (λc o c1 _ c3 _ x=>fJ.extBut _ _ c1 (fj _ _ c3 (Ty.extBut _ _ c1 x))) ⟨oe,fJ.extBut _ _ GV Ad,sZ⟩
 .refine yaa (D1.item k _ _ _ hx (WI D1 h1 Ty.extBut D.i1z) λx h₂ Y' px MJ fj=>yac ?_);have fX:IsPair h₂ TO a b:=fj.extBut _ _ D.TOi1 (Ty.extBut _ _ D.TOz Ac);refine yaa (ybd fX Z (yaa (ydC fX λh₃ lL fJ=>yaa (yfa (yac (yaa (yaa (yez ?_))))))));show wpAny _ _ (Builtin.SmallTypes.nextOf (.ref i2)>>=_) _ _ _;have e2:S2 k h₃:=WI D2 (WI D2 (WI D2 h2 Ty.extBut D.i2z) fj.extBut D.i12.symm) fJ.extBut D.TOi2.symm;refine yaa (D2.done _ _ _ (by rw[<-e];exact e2) λh₄ e oR he=>?_);obtain⟨oe,Ad,sZ⟩:=he;have MP:IsZip h₄ z TI TO .ellipsis:=oR _ _ D.i2z.symm (fJ.extBut _ _ D.TOz.symm (fj.extBut _ _ D.i1z.symm iI));have GV:e≠z:=λx=>by subst x;rw[MP]at Ad;cases Ad;simp at sZ
  exact ybw MP (by simp) λh₅ _ oU=>hE h₅ e _ (λc o c1 c2 c3 c4 x=>oU.extBut _ _ c1 (oR _ _ c4 (fJ.extBut _ _ c2 (fj.extBut _ _ c3 (Ty.extBut _ _ c1 x))))) ⟨oe,oU.extBut _ _ GV Ad,sZ⟩
def vd(D:Aa z TI TO i1 i2)(D1:Draws prog w A.in1 i1 [i1] n1 P1 S1)(D2:Draws prog w A.in1 i2 [i2] n2 P2 S2)(hz:IsZip s.heap z TI TO .none)(Ab:IsPair s.heap TI (.ref i1) (.ref i2))(Ac:IsPair s.heap TO a b)(h1:S1 k s.heap)(h2:S2 k s.heap)(hx:k<n1)(hy:k<n2)(hQ:∀x y h' tk,P1 k x->P2 k y->IsZip h' z TI TO (rawInt s.heap.objs.size)->IsPair h' TO x y->S1 (k+1) h'->S2 (k+1) h'->IsPair h' s.heap.objs.size x y->(∀c o,c≠z->c≠TO->c≠i1->c≠i2->s.heap.get? c=some o->h'.get? c=some o)->Q (some (.ref s.heap.objs.size)) {s with heap:=h',toks:=tk}):wpAny (model prog w) A (pyNext (.ref z)) Q E s:=by
 have hT:s.TypeIs (.ref z) "zip":=⟨_,hz,Z⟩;unfold pyNext;exact yaa (yde (yaP (name:=Str.ofString "__next__") hT ydT (yaM ydT hT F.entry_zip_next (vc D D1 D2 hz Ab Ac h1 h2 hx hy λx y h' tk a1 a2 a3 a4 a5 a6 a7 a8=>yac (hQ x y h' tk a1 a2 a3 a4 a5 a6 a7 a8)) (F.args_zip_next_1 _))))
def Qao(D:Aa z TI TO i1 i2)(D1:Draws prog w A.in1 i1 [i1] n1 P1 S1)(D2:Draws prog w A.in1 i2 [i2] n2 P2 S2)(hz:IsZip s.heap z TI TO .none)(Ab:IsPair s.heap TI (.ref i1) (.ref i2))(Ac:IsPair s.heap TO a b)(h1:S1 k s.heap)(h2:S2 k s.heap)(hx:k=n1\/(k<n1/\k=n2))(hQ:∀h' tk,(∀c o,c≠z->c≠TO->c≠i1->c≠i2->s.heap.get? c=some o->h'.get? c=some o)->Q none {s with heap:=h',toks:=tk}):wpAny (model prog w) A (pyNext (.ref z)) Q E s:=by
 have hT:s.TypeIs (.ref z) "zip":=⟨_,hz,Z⟩;unfold pyNext;refine yaa (yde (yaP (name:=Str.ofString "__next__") hT ydT (yaM ydT hT F.entry_zip_next (Qan D D1 D2 hz Ab Ac h1 h2 hx λh' e tk hk he=>?_) (F.args_zip_next_1 _))));obtain⟨o,ho,hc⟩:=he;refine yaa (ycN (T:="StopIteration") (b:=true) ⟨o,ho,hc⟩ isSubtype_stop ?_);exact yac (hQ _ _ hk)
end
noncomputable def MQ(x y:Str):It:=⟨λi _=>i<x.cps.size/\i<y.cps.size,λi H v H'=>∃p c d,H p=none/\x.cps[i]? =some c/\y.cps[i]? =some d/\v=.ref p/\H'=upd H p (.tup [.str ⟨#[c]⟩,.str ⟨#[d]⟩]),λi _=>min x.cps.size y.cps.size<=i⟩
def MR(z TI TO i1 i2:Addr)(x y:Str)(t u:Tok)(i:Nat)(h:Heap):Prop:=
 IsZip h z TI TO .none/\IsPair h TI (.ref i1) (.ref i2)/\(∃a b,IsPair h TO a b)/\h.IsStrIter i1 "str_ascii_iterator" x t (min i (min x.cps.size y.cps.size))/\h.IsStrIter i2 "str_ascii_iterator" y u (min i (min x.cps.size y.cps.size))
def ve{P:Program}{w:World}{K:Frag}{es:List Expr}{k:Nat}{pos:Pos}{z TI TO i1 i2:Addr}(D:Aa z TI TO i1 i2)(x y:Str)(t u:Tok):Turn P w K (.Tuple es k pos) (MQ x y) [z,TI,TO,i1,i2] z (MR z TI TO i1 i2 x y t u) where
 mem:=by simp
 obj:=λi h st b hb=>by
  obtain⟨hz,hI,⟨a,c,hO⟩,⟨o1,g1,c1,d1⟩,o2,g2,c2,d2⟩:=st;simp only[yak,yaK,ycC]at hb;rcases hb with rfl|rfl|rfl|rfl|rfl
  .exact⟨_,hz,λv q=>nomatch (show Data.fields _=Data.cell v from q)⟩
  .exact⟨_,hI,λv q=>nomatch (show Data.seq _ _=Data.cell v from q)⟩
  .exact⟨_,hO,λv q=>nomatch (show Data.seq _ _=Data.cell v from q)⟩
  .exact⟨o1,g1,λv q=>by rw[d1]at q;cases q⟩
  .exact⟨o2,g2,λv q=>by rw[d2]at q;cases q⟩
 keep:=λi h h' st kk=>by
  obtain⟨hz,hI,⟨a,c,hO⟩,⟨o1,g1,r1⟩,o2,g2,r2⟩:=st;exact⟨kk _ (by simp) _ hz,kk _ (by simp) _ hI,⟨a,c,kk _ (by simp) _ hO⟩,⟨o1,kk _ (by simp) _ g1,r1⟩,o2,kk _ (by simp) _ g2,r2⟩
 item:=by
  intro X hP hw hK hc i U s σ H E I hf st hg;subst hP hw hK;obtain⟨hz,hI,⟨a,c,hO⟩,s1,s2⟩:=st;obtain⟨l1,l2⟩:i<x.cps.size/\i<y.cps.size:=hg;rw[ybc (ycU (yfd.mpr ⟨l1,l2⟩))]at s1 s2;have D1:=ycK (prog:=X.prog) (w:=X.w) (A:=X.A.in1) (I.ok.hd hc) i1 x t;have D2:=ycK (prog:=X.prog) (w:=X.w) (A:=X.A.in1) (I.ok.hd hc) i2 y u;refine vd D D1 D2 hz hI hO s1 s2 l1 l2 λv1 v2 h1 tk p1 p2 EC hO1 q1 q2 hT hk=>⟨_,Z,?_⟩;obtain⟨c1,u1,e1,rfl⟩:=p1;obtain⟨c2,u2,e2,rfl⟩:=p2;refine wpAny_letOwnedTupleGo_zip EC λh2 GW GT=>?_;have up:∀b o,b≠z->h1.get? b=some o->h2.get? b=some o:=λb o hb q=>(GT.2 b hb).trans q;have bi:∀b∈[z,TI,TO,i1,i2],b<s.heap.objs.size:=λb hb=>by
   simp only[yak,yaK,ycC]at hb;rcases hb with rfl|rfl|rfl|rfl|rfl
   .exact yaj hz
   .exact yaj hI
   .exact yaj hO
   .obtain⟨o,g,_⟩:=s1;exact yaj g
   .obtain⟨o,g,_⟩:=s2;exact yaj g
  refine⟨.ref s.heap.objs.size,upd H s.heap.objs.size (.tup [.str ⟨#[c1]⟩,.str ⟨#[c2]⟩]),I.j5 (ch:=[z,TI,TO,i1,i2]) hf (λb o hb q=>?_) (tO _) ?_,Z,⟨_,c1,c2,I.ao.fresh (tO _),e1,e2,Z,Z⟩,⟨GW,up _ _ D.TIz (hk _ _ D.TIz D.TITO D.TIi1 D.TIi2 hI),⟨_,_,up _ _ D.TOz hO1⟩,?_,?_⟩,λb hb=>?_⟩
  .simp only[yak,yaK,ycC,not_or]at hb;exact up b o hb.1 (hk b o hb.1 hb.2.2.1 hb.2.2.2.1 hb.2.2.2.2 q)
  .exact⟨by show 2<=sizeLine;lia,[.str ⟨#[c1]⟩ u1,.str ⟨#[c2]⟩ u2],.cons ⟨_,Z⟩ (.cons ⟨_,Z⟩ .nil),⟨_,up _ _ (yct (bi z (by simp))) hT,Z,_,Z,Z⟩⟩
  .rw[ybc (Nat.succ_le_of_lt (yfd.mpr ⟨l1,l2⟩))];obtain⟨o,g,r⟩:=q1;exact⟨o,up _ _ D.i1z g,r⟩
  .rw[ybc (Nat.succ_le_of_lt (yfd.mpr ⟨l1,l2⟩))];obtain⟨o,g,r⟩:=q2;exact⟨o,up _ _ D.i2z g,r⟩
  .rw[Qo (yaq (bi b hb))];exact(hf b hb).1
 done:=by
  intro X hP hw hK hc i U s σ H E I hf st hg;subst hP hw hK;obtain⟨hz,hI,⟨a,c,hO⟩,s1,s2⟩:=st;have fU:min x.cps.size y.cps.size<=i:=hg;rw[yeI fU]at s1 s2;have D1:=ycK (prog:=X.prog) (w:=X.w) (A:=X.A.in1) (I.ok.hd hc) i1 x t;have D2:=ycK (prog:=X.prog) (w:=X.w) (A:=X.A.in1) (I.ok.hd hc) i2 y u;refine Qao D D1 D2 hz hI hO s1 s2 (by lia) λh' tk hk=>⟨Z,I.j4 (ch:=[z,TI,TO,i1,i2]) hf λb o hb q=>?_⟩;simp only[yak,yaK,ycC,not_or]at hb;exact hk b o hb.1 hb.2.2.1 hb.2.2.2.1 hb.2.2.2.2 q
 self:=λ_ _ _ _ _ st h=>wpAny_pyIter_zip st.1 h
noncomputable abbrev dU(h:Heap)(x:Str)(t:Tok):Heap:=h.push {cls:=.type "str_ascii_iterator",data:=.fields #[.str x t,.int 0 0]}
noncomputable abbrev A7(h:Heap)(x y:Str)(t u:Tok):Heap:=(dU (dU h x t) y u).push {cls:=.type "tuple",data:=.seq #[.ref h.objs.size,.ref (dU h x t).objs.size]}
noncomputable abbrev A8(h:Heap)(x y:Str)(t u:Tok):Heap:=(A7 h x y t u).push {cls:=.type "tuple",data:=.seq #[.none,.none]}
noncomputable abbrev A9(h:Heap)(x y:Str)(t u:Tok):Heap:=(A8 h x y t u).push {cls:=.type "zip",data:=.fields #[.none,.bool false,.bool false,.ref (dU (dU h x t) y u).objs.size,.ref (A7 h x y t u).objs.size]}
def xV(x y:Str)(t u:Tok):Meets (Builtin.«zip.__new__» ⟨[.type "zip",.str x t,.str y u],[]⟩) (λ_ R s=>x.cps.all (· <128)=true/\y.cps.all (· <128)=true/\R (.ok (.ret (.ref (A8 s.heap x y t u).objs.size))) {s with heap:=A9 s.heap x y t u}):=
 .of_wp λprog w A R s h=>by
  obtain⟨hp,g,d,tk,os⟩:=s;obtain⟨h1,h2,h⟩:=h;have lN:=sub_zip
  wp_walk using yej h1,yej h2
  exact⟨_,Z,h⟩
def vf{prog:Program}(h1:x.cps.all (· <128)=true)(h2:y.cps.all (· <128)=true)(h:∀h' z TI TO i1 i2,Aa z TI TO i1 i2->MR z TI TO i1 i2 x y t u 0 h'->(∀b∈[z,TI,TO,i1,i2],s.heap.objs.size<=b)->(∀c o,s.heap.get? c=some o->h'.get? c=some o)->Q (.ref z) {s with heap:=h'}):wpAny (model prog w) A (call (.type "zip") [.str x t,.str y u]) Q E s:=by
 refine callType_new F.called_zip (by lia) (F.typeCall_zip_2 _ _) (F.newCall_zip_2 _ _) (λobj=>F.args_object_init_3 obj _ _) F.entry_zip_new (xV x y t u) ⟨h1,h2,?_⟩;have z1:(dU s.heap x t).objs.size=s.heap.objs.size+1:=yaQ ..;have z2:(dU (dU s.heap x t) y u).objs.size=s.heap.objs.size+2:=(yaQ ..).trans (by rw[z1]);have z3:(A7 s.heap x y t u).objs.size=s.heap.objs.size+3:=(yaQ ..).trans (by rw[z2]);have z4:(A8 s.heap x y t u).objs.size=s.heap.objs.size+4:=(yaQ ..).trans (by rw[z3]);have g5:(A9 s.heap x y t u).get? (A8 s.heap x y t u).objs.size=some _:=yag _ rfl;have g4:(A9 s.heap x y t u).get? (A7 s.heap x y t u).objs.size=some _:=yab _ (yag _ Z);have g3:(A9 s.heap x y t u).get? (dU (dU s.heap x t) y u).objs.size=some _:=yab _ (yab _ (yag _ Z));have g2:(A9 s.heap x y t u).get? (dU s.heap x t).objs.size=some _:=yab _ (yab _ (yab _ (yag _ Z)));have g1:(A9 s.heap x y t u).get? s.heap.objs.size=some _:=yab _ (yab _ (yab _ (yab _ (yag _ Z))));have D:Aa (A8 s.heap x y t u).objs.size (dU (dU s.heap x t) y u).objs.size (A7 s.heap x y t u).objs.size s.heap.objs.size (dU s.heap x t).objs.size:=by
  generalize (A8 s.heap x y t u).objs.size=e4 at z4 ⊢;generalize (A7 s.heap x y t u).objs.size=e3 at z3 ⊢;generalize (dU (dU s.heap x t) y u).objs.size=e2 at z2 ⊢;generalize (dU s.heap x t).objs.size=e1 at z1 ⊢;generalize s.heap.objs.size=e0 at*;constructor<;>(intro q;replace q:@Eq Nat _ _:=q;lia)
 refine⟨⟨_,g5,Z⟩,h _ _ _ _ _ _ D ⟨g5,g3,⟨_,_,g4⟩,?_,?_⟩ ?_ λc o q=>yab _ (yab _ (yab _ (yab _ (yab _ q))))⟩
 .rw[yeS];exact⟨_,g1,Z,Z⟩
 .rw[yeS];exact⟨_,g2,Z,Z⟩
 .intro b hb;simp only[yak,yaK,ycC]at hb;rcases hb with q|q|q|q|q
  .exact yao (ycO _ 4) (ych (z4.symm.trans q.symm))
  .exact yao (ycO _ 2) (ych (z2.symm.trans q.symm))
  .exact yao (ycO _ 3) (ych (z3.symm.trans q.symm))
  .exact ych q.symm
  .exact yao (ycO _ 1) (ych (z1.symm.trans q.symm))
section
def MS(ta:TA):TI:=λσ H R=>ta σ H λvs H1=>∃x y:Str,vs=[.str x,.str y]/\x.cps.all (· <128)=true/\y.cps.all (· <128)=true/\R (MQ x y) H1
def QcE{es:List Expr}{k:Nat}{tp:Pos}{ta:TA}{p pos:Pos}(hg:Gl X "zip")(hm:X.mg "zip"=none)(ha:PA X [a,b] ta)(hs:starEach [a,b] X.env=[(false,eval a X.env),(false,eval b X.env)]:=by rfl)(GT:starEach [b] X.env=[(false,eval b X.env)]:=by rfl):PI X (.Tuple es k tp) (.Call (.Name "zip" p) [a,b] [] pos) (MS ta):=by
 intro U s σ H R I h;refine Call_ (ZQ I hg hm boot_zip (yau (ax (ha pos U s σ H _ I h) λus s1⟨vs,H1,I1,r1,x,y,e,hx,hy,q⟩=>?_) (by rw[hs,GT]) (by rw[GT];rfl)));subst e;obtain⟨v,w,rfl,⟨t,rfl⟩,u,rfl⟩:=vals2 r1;refine vf hx hy λh1 z TI TO i1 i2 D st nw hk=>?_;refine wpAny_pyIter_zip (s:={s1 with heap:=h1}) st.1 ?_;exact⟨_,[z,TI,TO,i1,i2],_,_,H1,Z,I1.kept (t':=s1.toks) hk,ve D x y t u,st,λb hb=>I1.xv (nw b hb) (I1.ao.fresh (nw b hb)),q⟩
end
def vg{tt:TT}(Pv:Nat->List V->Hp->Prop)(h:∀R:List V->Hp->Prop,R [.str x,.str y] H->ta σ H R)(hx:x.cps.all (· <128)=true)(hy:y.cps.all (· <128)=true)(h0:Pv 0 [] H)(hl:∀i vs H,i<=min x.cps.size y.cps.size->Pv i vs H->vs.length<=i)(hs:∀i c d vs H p,x.cps[i]? =some c->y.cps[i]? =some d->Pv i vs H->H p=none->g (.ref p) (replicate NB.length none) (upd H p (.tup [.str ⟨#[c]⟩,.str ⟨#[d]⟩])) λσ2 H2=>tt σ2 H2 λb H3=>if b=true then te σ2 H3 λv H4=>Pv (i+1) (vs++[v]) H4 else Pv (i+1) vs H3)(hd:∀vs H,Pv (min x.cps.size y.cps.size) vs H->∀p,H p=none->Q (.ref p) (upd H p (.lst vs)))(hz:min x.cps.size y.cps.size<sizeLine):Uo NB (MS ta) g tt te σ H Q:=by
 refine h _ ⟨x,y,Z,hx,hy,?_⟩;exists λi m vs H=>m=min x.cps.size y.cps.size-i/\i<=min x.cps.size y.cps.size/\Pv i vs H,⟨min x.cps.size y.cps.size-0,Z,lG _,h0⟩;rintro i m vs H ⟨rfl,hi,p⟩;have hv:=hl i vs H hi p
 by_cases bi:i<min x.cps.size y.cps.size
 .refine .inr ⟨yfd.mp bi,by lia,Pv (i+1),λpi H' p'=>⟨min x.cps.size y.cps.size-(i+1),by lia,Z,bi,p'⟩,λv H' z=>?_⟩;obtain⟨q,c,d,hq,hc,hd,e,e2⟩:=z;subst e e2;exact hs i c d vs _ q hc hd p hq
 .have e:i=min x.cps.size y.cps.size:=by lia
  subst e;exact .inl ⟨tO _,hd vs H p⟩
def UA{K:Frag}{Y:Heap}{N:List Str}{qual:Str}{scope:Scope}{cd:Value}{L:List Env}{H:Hp}{E:XK}:PassesOwn (model (qJ (av P w) P w K mg Y N qual scope f cd A L s H E).prog (qJ (av P w) P w K mg Y N qual scope f cd A L s H E).w) (qJ (av P w) P w K mg Y N qual scope f cd A L s H E).A (qJ (av P w) P w K mg Y N qual scope f cd A L s H E).env (qJ (av P w) P w K mg Y N qual scope f cd A L s H E).xe:=by
 dsimp only[qJ]
 passes_own
def Qet{K:Frag}{H:Hp}{xs:List V}(nL:jV K=true)(hO:El H)(h:aE K H a xs):∃o,H a=some (.dA o (.lst xs)):=by
 rcases h with h|⟨o,its,n,hk,hc,_⟩
 .rcases h with h|⟨o,h⟩
  .rcases hO a with z|⟨o,ys,z⟩
   .rw[z]at h;cases h
   .rw[z]at h;cases h
  .exact⟨o,h⟩
 .exact absurd hc (xM nL hk)
def Qap{l:PySem.W.OpenLaw}{n k:Nat}{q:Program}{loose:List Str}{d:DefRec}{K:Params->Frag}{CX:World->fE}{sp:World->Sp}{x:Str}(hn:l.most=some n)(oE:n<=sizeLine)(B0:d.params.defaults=[])(hr:Zc k callerA)(hY:∀(w:World)(h:Heap),YP w h->(K w.params).In h)(nL:∀w:World,jV (K w.params)=true)(F:∀(w:World)(mg:Str->Option Value)(fa:Addr)(h:Heap),(K w.params).In h->h.Ns mainGlobals mg->mg d.name=some (.ref fa)->
   ∃fd:FuncData,(∀(s:Shared)(u:Value),BindsTo s fd ⟨[u],[]⟩ [(x,u)])/\∀Y:Heap,(K w.params).In Y->Y.Ns mainGlobals mg->ak l.prog w (K w.params) mg Y (CX w) k fa fd [x] (sp w))(Go:∀(w:World)(H:Hp)(a:Addr)(ns:List Int),ns.length<=n->(∃o,H a=some (.dA o (.lst (ns.map V.int))))->sp w [.ref a] H (λv _=>v=.bl true) λ_ _ _=>False)(B8:∀(w:World)(H:Hp)(s:Shared)(e:Value)(s':Shared),CX w [] H s (λ_ _ _=>False) e s'->False):PySem.W.WalkO q loose XP YP l.row.toRowW d [] (λf vs=>PySem.call f vs):=
 RJ hn oE B0 hr hY F (λw H a ns h1 h2 h3=>Go w H a ns h1 (Qet (nL w) h2 h3)) B8
section
def Qaq:fQ X "str.ljust" (λx vs H Q=>∃z i,x=.str z/\vs=[.int i]/\PadOk i=true/\Q (.str (Txt.ljust z i)) H):=by
 intro U s σ H x vs v us Q I rx rv h;obtain⟨z,i,rfl,rfl,hp,q⟩:=h;obtain⟨t,rfl⟩:=rx;obtain⟨u,rfl,t',rfl⟩:=vals1 rv;exact ydm F.slot_str_ljust F.entry_str_ljust (F.args_str_ljust_2 _ _) (gives_str_ljust z i t t' (ycu hp).1 (ycu hp).2) (ycM (fits_padR 32 (ycu hp).2) λt2 k=>⟨.str _,H,I.tok k,⟨t2,Z⟩,q⟩)
def Qar:fQ X "str.rjust" (λx vs H Q=>∃z i,x=.str z/\vs=[.int i]/\PadOk i=true/\Q (.str (Txt.rjust z i)) H):=by
 intro U s σ H x vs v us Q I rx rv h;obtain⟨z,i,rfl,rfl,hp,q⟩:=h;obtain⟨t,rfl⟩:=rx;obtain⟨u,rfl,t',rfl⟩:=vals1 rv;exact ydm F.slot_str_rjust F.entry_str_rjust (F.args_str_rjust_2 _ _) (gives_str_rjust z i t t' (ycu hp).1 (ycu hp).2) (ycM (fits_padL 32 (ycu hp).2) λt2 k=>⟨.str _,H,I.tok k,⟨t2,Z⟩,q⟩)
end
inductive cj (w:World):List DictEntry->List (Key × V)->Prop where
 |nil:cj w [] []
 |cons {h:Int} {x:Str} {a:Addr} {t:Tok} {es:List DictEntry} {al:List (Key × V)} (e:h=yE w (.inr x)) (r:cj w es al):cj w (⟨h,.str x t,.ref a⟩::es) ((Sum.inr x,.ref a)::al)
def cj.pairs{al:List (Key × V)}(h:cj w es al):∃vs,KV al vs/\Pairs (QY P w) es vs/\vs.map (·.1)=al.map (·.1)/\∀e∈es,∃k,(QY P w).is k e.key=true/\e.hash=yE w k:=by
 induction h with
 |nil=>exact⟨[],.nil,.nil,Z,λe he=>by cases he⟩
 |@cons hh x a t es al e r ih=>
  obtain⟨vs,h1,h2,h3,h4⟩:=ih;refine⟨(Sum.inr x,.ref a)::vs,.cons ⟨Z,Z⟩ h1,.cons (Ju P w x t) rfl h2,by rw[lD,lD,h3],λq hq=>?_⟩;rcases yak.mp hq with rfl|hq
  .exact⟨_,Ju P w x t,e⟩
  .exact h4 q hq
def vh{K:Frag}{n:Nat}{al:List (Key × V)}(ne:(a==sysModules)=false)(l:K.lookup a=some ⟨.type "dict",none,.dict es n, #[]⟩)(h:cj w es.toList al)(nd:(al.map (·.1)).Nodup):aG P w K a al:=by
 obtain⟨vs,h1,h2,h3,h4⟩:=h.pairs (P:=P);exact⟨ne,λhp KX=>⟨vs,h1,_,_,_,KX a _ l,⟨Z,Z,Z⟩,Z,λe he=>h4 e (by simpa using he),h2,by rw[h3];exact nd⟩⟩
def Qas{fd:FuncData}{args:Args}{binds:List (Str × Value)}{name:Str}(h1:bindArgs fd args=nsGet kd name>>=k)(hn:s.heap.Ns kd m)(hv:m name=some v)(h2:k (some v)=pure binds):BindsTo s fd args binds:=
 λ_ _ _ _ hq=>by
  rw[h1];refine yaa (wpAny_nsGet hn ?_);rw[hv,h2];exact yac hq
structure fY(P:Program)(w:World)(K:Frag)(mg:Str->Option Value)(Y:Heap)(k:Nat)(x:Str)(ps:List Str)(dv:V)(sp:Sp):Prop where
 ex:∃f fd d,mg x=some (.ref f)/\keepIn K (.ref f)=true/\Binds K fd ps [d]/\RelV dv d/\Zz1 P w K mg Y k f fd ps sp
noncomputable def Ba{α:Type}:List α->List α->List α
 |[a,b,c],[d]=>[a,b,c,d]
 |_,_=>[]
def QcF{vs zs:List V}{us ws:List Value}(r:Vals vs us)(r2:Vals zs ws):Vals (Ba vs zs) (Ba us ws):=by
 cases r with
 |nil=>exact .nil
 |cons a r=>
  cases r with
  |nil=>exact .nil
  |cons b r=>
   cases r with
   |nil=>exact .nil
   |cons c r=>
    cases r with
    |cons _ _=>exact .nil
    |nil=>
     cases r2 with
     |nil=>exact .nil
     |cons x r2=>
      cases r2 with
      |cons _ _=>exact .nil
      |nil=>exact .cons a (.cons b (.cons c (.cons x .nil)))
def QcG{us ws:List α}(h:(Ba us ws).length=4):∃a b c d,us=[a,b,c]/\ws=[d]:=by
 match us,ws,h with
 |[a,b,c],[d],_=>exact⟨a,b,c,d,Z,Z⟩
structure cU(P:Program)(w:World)(K:Frag)(mg:Str->Option Value)(Y:Heap)(k:Nat)(x:Str)(ps ks:List Str)(sp:Sp):Prop where
 ex:∃f fd,mg x=some (.ref f)/\keepIn K (.ref f)=true/\dF K fd ps ks Ba Ba/\Zz1 P w K mg Y k f fd ps sp
section
variable {X:Cx}{k k':Nat}{x:Str}{ps ks:List Str}{dv:V}{sp:Sp}{E:XK}{p pos:Pos}{e:Expr}{es:List Expr}{t tk:TA}{Ev:List Keyword}
def fY.pe(D:fY X.prog X.w X.K X.mg X.Y k x ps dv sp)(hr:Zc k' X.A)(hk:k<=k')(hg:Gl X x)(hx:Passes (av X.prog X.w) X E)(ha:PA X (e::es) t)(mo:(x==("__debug__":Str))=false:=by lia)(he:starEach (e::es) X.env=(false,eval e X.env)::starEach es X.env:=by rfl)(dL:(backTo pos (starEach es X.env)).any (·.1)=false:=by rfl):PE X (.Call (.Name x p) (e::es) [] pos) (XS sp [dv] E t):=by
 obtain⟨f,fd,d,h1,h2,h3,h5,h4⟩:=D.ex;exact k7 h4 (hr.mono hk) hg h1 h2 h3 (.cons h5 .nil) hx ha mo he dL
def cU.pe(D:cU X.prog X.w X.K X.mg X.Y k x ps ks sp)(hr:Zc k' X.A)(hk:k<=k')(hg:Gl X x)(hx:Passes (av X.prog X.w) X E)(ha:PA X (e::es) t)(BO:PK X Ev tk)(mt:(backToKw pos (keywordEach Ev X.env)).all (·.1.isSome)=true:=by rfl)(BP:(backToKw pos (keywordEach Ev X.env)).filterMap (·.1)=ks:=by rfl)(mo:(x==("__debug__":Str))=false:=by lia)(he:starEach (e::es) X.env=(false,eval e X.env)::starEach es X.env:=by rfl)(dL:((backTo pos (starEach (e::es) X.env)).any (·.1)||(backToKw pos (keywordEach Ev X.env)).any (·.1.isNone))=false:=by rfl):PE X (.Call (.Name x p) (e::es) Ev pos) (wb sp Ba E t tk):=by
 obtain⟨f,fd,h1,h2,h3,h4⟩:=D.ex;exact zA h4 (hr.mono hk) hg h1 h2 h3 hx ha BO mt BP mo he dL
end
def MT{K:Frag}{x:Str}(X:K.In h)(G:h.Ns N m)(e:nsIn K N x=some (some v)):m x=some v:=by
 obtain⟨o,es,ep,ho,hd,_,hf⟩:=G;unfold nsIn at e
 split at e
 .rename_i c d es2 n2 sl q;have z:=X _ _ q;rw[ho]at z;cases z;cases hd
  split at e
  .rename_i en he;cases e;rw[<-hf];unfold nsFind findBy;rw[<-Array.find?_toList,he];rfl
  .split at e<;>cases e
 .cases e
structure aS(K:Frag)(x:Str)(st:Stmt)(nm:Str)(v:Value):Prop where
 ex:∃(f kd:Addr)(oc:Value)(od:Option Addr)(doc pm:Value)(an:Option Addr)(am ct:Value)(ge:Array (Option Value)),nsIn K mainGlobals x=some (some (.ref f))/\
  K.lookup f=some ⟨oc,od,.func (fnOf x x (Q7 st) (QS st) (Qe st) .none (.ref kd) doc pm an am ct),ge⟩/\codeIn K am x=true/\keepIn K (.ref f)=true/\nsOkIn K kd=true/\nsIn K kd nm=some (some v)
def vi{K:Frag}{x:Str}{st:Stmt}{nm:Str}{od an:Option Addr}{ge:Array (Option Value)}{doc pm am ct:Value}(a:nsIn K mainGlobals x=some (some (.ref f)))(l:K.lookup f=some ⟨oc,od,.func (fnOf x x (Q7 st) (QS st) (Qe st) .none (.ref kd) doc pm an am ct),ge⟩)(c:codeIn K am x=true)(k:keepIn K (.ref f)=true)(n:nsOkIn K kd=true)(d:nsIn K kd nm=some (some v)):aS K x st nm v:=
 ⟨f,kd,oc,od,doc,pm,an,am,ct,ge,a,l,c,k,n,d⟩
section
variable {P:Program}{w:World}{K:Frag}{mg:Str->Option Value}{Y h:Heap}{x:Str}{st:Stmt}{k:Nat}{sp:Sp}
def aS.Qg5{v0:Value}(D:aS K x st p4 v0)(X:K.In h)(G:h.Ns mainGlobals mg)(ao:∀f fd,az K x x st f fd->Zz1 P w K mg Y k f fd [p1,p2,p3,p4] sp)(hb:∀(kV doc pm:Value)(an:Option Addr)(am ct:Value)(u1 u2 u3 v:Value),bindArgs (fnOf x x (Q7 st) (QS st) (Qe st) .none kV doc pm an am ct) ⟨[u1,u2,u3],[(p4,v)]⟩=pure [(p1,u1),(p2,u2),(p3,u3),(p4,v)]):cU P w K mg Y k x [p1,p2,p3,p4] [p4] sp:=by
 obtain⟨f,kd,oc,od,doc,pm,an,am,ct,ge,a,l,c,kp,n,d⟩:=D.ex;refine⟨f,_,mg_of X G a,kp,⟨λs us ws _ hl=>?_,QcF⟩,ao f _ ⟨⟨oc,od,.ref kd,doc,pm,an,am,ct,ge,Z,l,c⟩,kp⟩⟩;obtain⟨u1,u2,u3,v,rfl,rfl⟩:=QcG hl;exact .of_eq (hb (.ref kd) doc pm an am ct u1 u2 u3 v)
end
inductive dW (m:Sem (List (Str × Value))) (n:Sem (Option Value)) (v:Value) (b:List (Str × Value)):Prop where
 |mk {σ τ:Type} (g1:Option Value->Sem σ) (g2:σ->Sem τ) (g3:τ->Sem (List (Str × Value))) (h1:m=Sem.bind (Sem.bind (Sem.bind n g1) g2) g3) (h2:Sem.bind (Sem.bind (g1 (some v)) g2) g3=pure b):dW m n v b
theorem dW.binds{fd:FuncData}{args:Args}{binds:List (Str × Value)}{name:Str}(B:dW (bindArgs fd args) (nsGet kd name) v binds)(hn:s.heap.Ns kd m)(hv:m name=some v):BindsTo s fd args binds:=by
 obtain⟨g1,g2,g3,h1,h2⟩:=B;refine Qas (k:=λo=>(g1 o>>=g2)>>=g3) (h1.trans ?_) hn hv h2;show(nsGet kd name>>=g1>>=g2)>>=g3=nsGet kd name>>=λo=>(g1 o>>=g2)>>=g3;rw[bind_assoc,bind_assoc]
 congr 1
 funext o
 rw[bind_assoc]
def vj{K:Frag}{n:Nat}(l:K.lookup N=some ⟨c,d,.dict es n,sl⟩)(h:(es.toList.all λe=>match e.key with| .str _ _=>true|_=>false)=true):nsOkIn K N=true:=by
 unfold nsOkIn;rw[l];show Array.all es _=true;rw[<-Array.all_toList];exact h
noncomputable def Bb{α:Type}:List α->List α->List α
 |[a,b],[d]=>[a,b,d]
 |_,_=>[]
def QcH{vs zs:List V}{us ws:List Value}(r:Vals vs us)(r2:Vals zs ws):Vals (Bb vs zs) (Bb us ws):=by
 cases r with
 |nil=>exact .nil
 |cons a r=>
  cases r with
  |nil=>exact .nil
  |cons b r=>
   cases r with
   |cons _ _=>exact .nil
   |nil=>
    cases r2 with
    |nil=>exact .nil
    |cons x r2=>
     cases r2 with
     |cons _ _=>exact .nil
     |nil=>exact .cons a (.cons b (.cons x .nil))
def QcI{us ws:List α}(h:(Bb us ws).length=3):∃a b d,us=[a,b]/\ws=[d]:=by
 match us,ws,h with
 |[a,b],[d],_=>exact⟨a,b,d,Z,Z⟩
structure cV(P:Program)(w:World)(K:Frag)(mg:Str->Option Value)(Y:Heap)(k:Nat)(x:Str)(ps ks:List Str)(sp:Sp):Prop where
 ex:∃f fd,mg x=some (.ref f)/\keepIn K (.ref f)=true/\dF K fd ps ks Bb Bb/\Zz1 P w K mg Y k f fd ps sp
section
variable {X:Cx}{k k':Nat}{x:Str}{ps ks:List Str}{dv:V}{sp:Sp}{E:XK}{p pos:Pos}{e:Expr}{es:List Expr}{t tk:TA}{Ev:List Keyword}
def cV.pe(D:cV X.prog X.w X.K X.mg X.Y k x ps ks sp)(hr:Zc k' X.A)(hk:k<=k')(hg:Gl X x)(hx:Passes (av X.prog X.w) X E)(ha:PA X (e::es) t)(BO:PK X Ev tk)(mt:(backToKw pos (keywordEach Ev X.env)).all (·.1.isSome)=true:=by rfl)(BP:(backToKw pos (keywordEach Ev X.env)).filterMap (·.1)=ks:=by rfl)(mo:(x==("__debug__":Str))=false:=by lia)(he:starEach (e::es) X.env=(false,eval e X.env)::starEach es X.env:=by rfl)(dL:((backTo pos (starEach (e::es) X.env)).any (·.1)||(backToKw pos (keywordEach Ev X.env)).any (·.1.isNone))=false:=by rfl):PE X (.Call (.Name x p) (e::es) Ev pos) (wb sp Bb E t tk):=by
 obtain⟨f,fd,h1,h2,h3,h4⟩:=D.ex;exact zA h4 (hr.mono hk) hg h1 h2 h3 hx ha BO mt BP mo he dL
end
section
variable {P:Program}{w:World}{K:Frag}{mg:Str->Option Value}{Y h:Heap}{x:Str}{st:Stmt}{k:Nat}{sp:Sp}{p1 p2 p3:Str}
def aS.Qg6(D:aS K x st p3 (.bool b))(X:K.In h)(G:h.Ns mainGlobals mg)(ao:∀f fd,az K x x st f fd->Zz1 P w K mg Y k f fd [p1,p2,p3] sp)(hb:∀(kd:Addr)(doc pm:Value)(an:Option Addr)(am ct:Value)(u1 u2:Value),dW (bindArgs (fnOf x x (Q7 st) (QS st) (Qe st) .none (.ref kd) doc pm an am ct) ⟨[u1,u2],[]⟩) (nsGet kd p3) (.bool b) [(p1,u1),(p2,u2),(p3,.bool b)]):fY P w K mg Y k x [p1,p2,p3] (.bl b) sp:=by
 obtain⟨f,kd,oc,od,doc,pm,an,am,ct,ge,a,l,c,kp,n,d⟩:=D.ex;refine⟨f,_,.bool b,mg_of X G a,kp,λs us KX hl=>?_,Z,ao f _ ⟨⟨oc,od,.ref kd,doc,pm,an,am,ct,ge,Z,l,c⟩,kp⟩⟩;have Nk:s.heap.Ns kd (s.heap.nsMap kd):=.of_isNs (isNs_of_in KX n);have h3:us.length=2:=by simpa using hl
 match us,h3 with
 |[u1,u2],_=>exact(hb kd doc pm an am ct u1 u2).binds Nk (MT KX Nk d)
def aS.Qev{v0:Value}(D:aS K x st p3 v0)(X:K.In h)(G:h.Ns mainGlobals mg)(ao:∀f fd,az K x x st f fd->Zz1 P w K mg Y k f fd [p1,p2,p3] sp)(hb:∀(kV doc pm:Value)(an:Option Addr)(am ct:Value)(u1 u2 v:Value),bindArgs (fnOf x x (Q7 st) (QS st) (Qe st) .none kV doc pm an am ct) ⟨[u1,u2],[(p3,v)]⟩=pure [(p1,u1),(p2,u2),(p3,v)]):cV P w K mg Y k x [p1,p2,p3] [p3] sp:=by
 obtain⟨f,kd,oc,od,doc,pm,an,am,ct,ge,a,l,c,kp,n,d⟩:=D.ex;refine⟨f,_,mg_of X G a,kp,⟨λs us ws _ hl=>?_,QcH⟩,ao f _ ⟨⟨oc,od,.ref kd,doc,pm,an,am,ct,ge,Z,l,c⟩,kp⟩⟩;obtain⟨u1,u2,v,rfl,rfl⟩:=QcI hl;exact .of_eq (hb (.ref kd) doc pm an am ct u1 u2 v)
end
inductive Dv where
 |aq|bl (b:Bool)|int (i:Int)|str (x:Str)|tup (ds:List Dv)
mutual
noncomputable def Dv.depth:Dv->Nat
 | .tup ds=>Dv.JX ds+1
 |_=>0
noncomputable def Dv.JX:List Dv->Nat
 |[]=>0
 |d::ds=>max (Dv.depth d) (Dv.JX ds)
end
mutual
noncomputable def Dv.ba:Dv->Dv->Bool
 | .aq,.aq=>true
 | .bl a,.bl b=>a==b
 | .bl a,.int b=>(if a then 1 else 0)==b
 | .int a,.bl b=>a==(if b then 1 else 0)
 | .int a,.int b=>a==b
 | .str a,.str b=>a==b
 | .tup xs,.tup ys=>Dv.kJ xs ys
 |_,_=>false
noncomputable def Dv.kJ:List Dv->List Dv->Bool
 |[],[]=>true
 |x::xs,y::ys=>Dv.ba x y&&Dv.kJ xs ys
 |_,_=>false
end
mutual
inductive ag (H:Hp):V->Dv->Prop where
 |aq:ag H .aq .aq
 |bl {b:Bool}:ag H (.bl b) (.bl b)
 |int {i:Int}:ag H (.int i) (.int i)
 |str {x:Str}:ag H (.str x) (.str x)
 |tup {a:Addr} {xs:List V} {ds:List Dv} (h:H a=some (.tup xs)) (t:aj H xs ds):ag H (.ref a) (.tup ds)
inductive aj (H:Hp):List V->List Dv->Prop where
 |nil:aj H [] []
 |cons {x:V} {d:Dv} {xs:List V} {ds:List Dv} (h:ag H x d) (t:aj H xs ds):aj H (x::xs) (d::ds)
end
theorem aj.length:∀{xs:List V}{ds:List Dv},aj H xs ds->xs.length=ds.length
 |_,_,.nil=>rfl
 |_,_,.cons _ t=>yaE (· +1) t.length
theorem aj.j6:∀{xs:List V}{ds:List Dv}{i:Nat}{x:V},aj H xs ds->xs[i]? =some x->∃d,ds[i]? =some d/\ag H x d
 |_,_,_,_,.nil,e=>by simp at e
 |_,_,0,_,.cons h _,e=>by
  simp at e;subst e;exact⟨_,Z,h⟩
 |_,_,i+1,x,.cons _ t,e=>by
  obtain⟨d,h1,h2⟩:=aj.j6 (i:=i) (x:=x) t (by simpa using e);exact⟨d,by simpa using h1,h2⟩
theorem aj.append:∀{xs ys:List V}{ds es:List Dv},aj H xs ds->aj H ys es->aj H (xs++ys) (ds++es)
 |_,_,_,_,.nil,q=>q
 |_,_,_,_,.cons h t,q=>.cons h (aj.append t q)
theorem aj.take:∀{xs:List V}{ds:List Dv}(n:Nat),aj H xs ds->aj H (xs.take n) (ds.take n)
 |_,_,0,_=>.nil
 |_,_,_+1,.nil=>.nil
 |_,_,n+1,.cons h t=>.cons h (aj.take n t)
theorem aj.drop:∀{xs:List V}{ds:List Dv}(n:Nat),aj H xs ds->aj H (xs.drop n) (ds.drop n)
 |_,_,0,t=>t
 |_,_,_+1,.nil=>.nil
 |_,_,n+1,.cons _ t=>aj.drop n t
mutual
theorem ag.keep(k:∀b ys,H b=some (.tup ys)->H' b=some (.tup ys)):∀{x:V}{d:Dv},ag H x d->ag H' x d
 |_,_,.aq=>.aq
 |_,_,.bl=>.bl
 |_,_,.int=>.int
 |_,_,.str=>.str
 |_,_,.tup h t=>.tup (k _ _ h) (aj.keep k t)
theorem aj.keep(k:∀b ys,H b=some (.tup ys)->H' b=some (.tup ys)):∀{xs:List V}{ds:List Dv},aj H xs ds->aj H' xs ds
 |_,_,.nil=>.nil
 |_,_,.cons h t=>.cons (ag.keep k h) (aj.keep k t)
end
def ag.same{x:V}(h:ag H x d)(S:Qn H H'):ag H' x d:=h.keep (λb ys e=>S _ _ e)
def aj.same{H H':Hp}{xs:List V}{ds:List Dv}(h:aj H xs ds)(S:Qn H H'):aj H' xs ds:=h.keep (λb ys e=>S _ _ e)
section
variable {X:Cx}{U:List (Addr × Obj)}{σ:St}{H:Hp}{s:Shared}
mutual
theorem ag.inj(I:Inv X U σ H s):∀{x:V}{d e:Dv},ag H x d->ag H x e->d=e
 |_,_,_,.aq,.aq=>rfl
 |_,_,_,.bl,.bl=>rfl
 |_,_,_,.int,.int=>rfl
 |_,_,_,.str,.str=>rfl
 |_,_,_,.tup h t,.tup h2 t2=>by
  have e:=I.Vv (.inl (.inl h)) (.inl (.inl h2));subst e;rw[aj.inj I t t2]
theorem aj.inj(I:Inv X U σ H s):∀{xs:List V}{ds es:List Dv},aj H xs ds->aj H xs es->ds=es
 |_,_,_,.nil,.nil=>rfl
 |_,_,_,.cons h t,.cons h2 t2=>by rw[ag.inj I h h2,aj.inj I t t2]
end
end
mutual
theorem Dv.Xt:∀d:Dv,d.ba d=true
 | .aq=>rfl
 | .bl b=>by cases b<;>rfl
 | .int i=>by unfold Dv.ba;exact ybf i
 | .str x=>by unfold Dv.ba;exact ybf x
 | .tup ds=>by unfold Dv.ba;exact Dv.VU ds
theorem Dv.VU:∀ds:List Dv,Dv.kJ ds ds=true
 |[]=>rfl
 |d::ds=>by unfold Dv.kJ;rw[Dv.Xt d,Dv.VU ds];rfl
end
theorem Dv.ZE:∀(ds es:List Dv),Dv.kJ ds es=((List.range (min ds.length es.length)).all (λj=>((ds[j]?).getD .aq).ba ((es[j]?).getD .aq))&&ds.length==es.length)
 |[],[]=>rfl
 |[],e::es=>rfl
 |d::ds,[]=>rfl
 |d::ds,e::es=>by
  unfold Dv.kJ;rw[Dv.ZE ds es,tR,tR,show min (ds.length+1) (es.length+1)=min ds.length es.length+1 by lia,List.range_succ_eq_map,yew,List.all_map,Bool.and_assoc]
  congr 1
  congr 1
  exact ycY.mpr (by simp)
theorem Dv.Ko:∀{ds:List Dv}{i:Nat}{d:Dv},ds[i]? =some d->d.depth<=Dv.JX ds
 |[],_,_,e=>by simp at e
 |x::xs,0,d,e=>by
  simp at e;subst e;unfold Dv.JX;lia
 |x::xs,i+1,d,e=>by
  have:=Dv.Ko (ds:=xs) (i:=i) (d:=d) (by simpa using e);unfold Dv.JX;lia
section
variable {X:Cx}{U:List (Addr × Obj)}{σ:St}{H:Hp}{s:Shared}
def ag.MV(I:Inv X U σ H s)(hd:d.depth<=N)(hx:ag H x d)(hy:ag H y e)(hu:A.units+N<cLine)(rx:RelV x u)(ry:RelV y v)(ih:∀n,N=n+1->∀(d e:Dv)(x y:V),d.depth<=n->ag H x d->ag H y e->∀{A:Around}{u v:Value},A.units+n<cLine->RelV x u->RelV y v->SeqAt.EqAt A s u v (d.ba e)):SeqAt.EqAt A s u v (d.ba e):=by
 cases hx with
 |aq=>
  cases rx;cases hy with
  |aq=>
   cases ry;exact .same _
  |@bl b2=>
   cases ry;exact SeqAt.EqAt.none_bool b2
  |@int i2=>
   obtain⟨ty,rfl⟩:=ry;exact SeqAt.EqAt.none_int i2 ty
  |@str z2=>
   obtain⟨ty,rfl⟩:=ry;exact SeqAt.EqAt.none_str z2 ty
  |@tup a2 ys es h2 t2=>
   obtain rfl:v=Value.ref a2:=ry;obtain⟨ci,r2,p2,_⟩:=I.tuple (.inl (.inl h2));exact SeqAt.EqAt.none_tuple p2 (by lia)
 |@bl b=>
  cases rx;cases hy with
  |aq=>
   cases ry;exact SeqAt.EqAt.bool_none b
  |@bl b2=>
   cases ry;exact SeqAt.EqAt.bool_bool b b2
  |@int i2=>
   obtain⟨ty,rfl⟩:=ry;exact SeqAt.EqAt.bool_int b i2 ty
  |@str z2=>
   obtain⟨ty,rfl⟩:=ry;exact SeqAt.EqAt.bool_str b z2 ty
  |@tup a2 ys es h2 t2=>
   obtain rfl:v=Value.ref a2:=ry;obtain⟨ci,r2,p2,_⟩:=I.tuple (.inl (.inl h2));exact SeqAt.EqAt.bool_tuple b p2 (by lia)
 |@int i=>
  obtain⟨tx,rfl⟩:=rx;cases hy with
  |aq=>
   cases ry;exact SeqAt.EqAt.int_none i tx
  |@bl b2=>
   cases ry;exact SeqAt.EqAt.int_bool i tx b2
  |@int i2=>
   obtain⟨ty,rfl⟩:=ry;exact SeqAt.EqAt.int_int i tx i2 ty
  |@str z2=>
   obtain⟨ty,rfl⟩:=ry;exact yec i tx z2 ty
  |@tup a2 ys es h2 t2=>
   obtain rfl:v=Value.ref a2:=ry;obtain⟨ci,r2,p2,_⟩:=I.tuple (.inl (.inl h2));exact SeqAt.EqAt.int_tuple i tx p2 (by lia)
 |@str z=>
  obtain⟨tx,rfl⟩:=rx;cases hy with
  |aq=>
   cases ry;exact SeqAt.EqAt.str_none z tx
  |@bl b2=>
   cases ry;exact SeqAt.EqAt.str_bool z tx b2
  |@int i2=>
   obtain⟨ty,rfl⟩:=ry;exact yed z tx i2 ty
  |@str z2=>
   obtain⟨ty,rfl⟩:=ry;exact SeqAt.EqAt.str_str z tx z2 ty
  |@tup a2 ys es h2 t2=>
   obtain rfl:v=Value.ref a2:=ry;obtain⟨ci,r2,p2,_⟩:=I.tuple (.inl (.inl h2));exact SeqAt.EqAt.str_tuple z tx p2 (by lia)
 |@tup a xs ds h t=>
  obtain rfl:u=Value.ref a:=rx;obtain⟨its,r1,p1,_⟩:=I.tuple (.inl (.inl h));cases hy with
  |aq=>
   cases ry;exact SeqAt.EqAt.tuple_none p1 (by lia)
  |@bl b2=>
   cases ry;exact SeqAt.EqAt.tuple_bool b2 p1 (by lia)
  |@int i2=>
   obtain⟨ty,rfl⟩:=ry;exact SeqAt.EqAt.tuple_int i2 ty p1 (by lia)
  |@str z2=>
   obtain⟨ty,rfl⟩:=ry;exact SeqAt.EqAt.tuple_str z2 ty p1 (by lia)
  |@tup a2 ys es h2 t2=>
   obtain rfl:v=Value.ref a2:=ry;obtain⟨ci,r2,p2,_⟩:=I.tuple (.inl (.inl h2));obtain⟨n,rfl⟩:∃n,N=n+1:=⟨N-1,by have:=hd;unfold Dv.depth at this;lia⟩;have lO:=t.length;have AV:=t2.length;have q1:=r1.length;have q2:=r2.length;have z:=SeqAt.RcAt.tuples (A:=A) (s:=s) (e:=λj=>((ds[j]?).getD .aq).ba ((es[j]?).getD .aq)) p1 p2 (by lia) (VH (U:=U) (σ:=σ) (H:=H) (n:=n) r1 r2 λj x y u v g1 g2 w1 w2=>?_)
   .rw[lF,lF, <-q1, <-q2,lO,AV, <-Dv.ZE]at z
    by_cases ne:a=a2
    .subst ne;rw[ag.inj I (.tup h t) (.tup h2 t2),Dv.Xt];exact .same _
    .unfold Dv.ba;exact .of_refs ne z
   .obtain⟨d1,k1,k2⟩:=t.j6 g1;obtain⟨e1,m1,m2⟩:=t2.j6 g2;show SeqAt.EqAt A.in1 s u v (((ds[j]?).getD .aq).ba ((es[j]?).getD .aq));rw[k1,m1];exact ih n rfl d1 e1 x y (yao (Dv.Ko k1) (by have:=hd;unfold Dv.depth at this;lia)) k2 m2 (by show A.units+1+n<cLine;lia) w1 w2
def ag.at(I:Inv X U σ H s):∀(n:Nat)(d e:Dv)(x y:V),d.depth<=n->ag H x d->ag H y e->∀{A:Around}{u v:Value},A.units+n<cLine->RelV x u->RelV y v->SeqAt.EqAt A s u v (d.ba e):=by
 intro n
 induction n with
 |zero=>
  intro d e x y hd hx hy A u v hu rx ry;exact ag.MV I hd hx hy hu rx ry λn hn=>absurd hn (by lia)
 |succ n ih=>
  intro d e x y hd hx hy A u v hu rx ry;refine ag.MV I hd hx hy hu rx ry λm hm=>?_;obtain rfl:n=m:=by lia
  exact ih
def ag.Qg7(I:Inv X U σ H s)(hd:d.depth<=n)(hx:ag H x d)(hy:ag H y e)(hu:X.A.units+n<cLine)(rx:RelV x u)(ry:RelV y v):SeqAt.RcNeAt X.A s u v (!(d.ba e)):=by
 cases hx with
 |aq=>
  cases rx;cases hy with
  |aq=>
   cases ry;exact SeqAt.RcNeAt.none_none
  |@bl b2=>
   cases ry;exact SeqAt.RcNeAt.none_bool b2
  |@int i2=>
   obtain⟨ty,rfl⟩:=ry;exact SeqAt.RcNeAt.none_int i2 ty
  |@str z2=>
   obtain⟨ty,rfl⟩:=ry;exact SeqAt.RcNeAt.none_str z2 ty
  |@tup a2 ys es h2 t2=>
   obtain rfl:v=Value.ref a2:=ry;obtain⟨ci,r2,p2,_⟩:=I.tuple (.inl (.inl h2));exact SeqAt.RcNeAt.none_tuple p2 (by lia)
 |@bl b=>
  cases rx;cases hy with
  |aq=>
   cases ry;exact SeqAt.RcNeAt.bool_none b
  |@bl b2=>
   cases ry;exact SeqAt.RcNeAt.bool_bool b b2
  |@int i2=>
   obtain⟨ty,rfl⟩:=ry;exact SeqAt.RcNeAt.bool_int b i2 ty
  |@str z2=>
   obtain⟨ty,rfl⟩:=ry;exact SeqAt.RcNeAt.bool_str b z2 ty
  |@tup a2 ys es h2 t2=>
   obtain rfl:v=Value.ref a2:=ry;obtain⟨ci,r2,p2,_⟩:=I.tuple (.inl (.inl h2));exact SeqAt.RcNeAt.bool_tuple b p2 (by lia)
 |@int i=>
  obtain⟨tx,rfl⟩:=rx;cases hy with
  |aq=>
   cases ry;exact SeqAt.RcNeAt.int_none i tx
  |@bl b2=>
   cases ry;exact SeqAt.RcNeAt.int_bool i tx b2
  |@int i2=>
   obtain⟨ty,rfl⟩:=ry;exact SeqAt.RcNeAt.int_int i tx i2 ty
  |@str z2=>
   obtain⟨ty,rfl⟩:=ry;exact SeqAt.RcNeAt.int_str i tx z2 ty
  |@tup a2 ys es h2 t2=>
   obtain rfl:v=Value.ref a2:=ry;obtain⟨ci,r2,p2,_⟩:=I.tuple (.inl (.inl h2));exact SeqAt.RcNeAt.int_tuple i tx p2 (by lia)
 |@str z=>
  obtain⟨tx,rfl⟩:=rx;cases hy with
  |aq=>
   cases ry;exact SeqAt.RcNeAt.str_none z tx
  |@bl b2=>
   cases ry;exact SeqAt.RcNeAt.str_bool z tx b2
  |@int i2=>
   obtain⟨ty,rfl⟩:=ry;exact SeqAt.RcNeAt.str_int z tx i2 ty
  |@str z2=>
   obtain⟨ty,rfl⟩:=ry;exact SeqAt.RcNeAt.str_str z tx z2 ty
  |@tup a2 ys es h2 t2=>
   obtain rfl:v=Value.ref a2:=ry;obtain⟨ci,r2,p2,_⟩:=I.tuple (.inl (.inl h2));exact SeqAt.RcNeAt.str_tuple z tx p2 (by lia)
 |@tup a xs ds h t=>
  obtain rfl:u=Value.ref a:=rx;obtain⟨its,r1,p1,_⟩:=I.tuple (.inl (.inl h));cases hy with
  |aq=>
   cases ry;exact SeqAt.RcNeAt.tuple_none p1 (by lia)
  |@bl b2=>
   cases ry;exact SeqAt.RcNeAt.tuple_bool b2 p1 (by lia)
  |@int i2=>
   obtain⟨ty,rfl⟩:=ry;exact SeqAt.RcNeAt.tuple_int i2 ty p1 (by lia)
  |@str z2=>
   obtain⟨ty,rfl⟩:=ry;exact SeqAt.RcNeAt.tuple_str z2 ty p1 (by lia)
  |@tup a2 ys es h2 t2=>
   obtain rfl:v=Value.ref a2:=ry;obtain⟨ci,r2,p2,_⟩:=I.tuple (.inl (.inl h2));have lO:=t.length;have AV:=t2.length;have q1:=r1.length;have q2:=r2.length;have Sc:Dv.JX ds+1<=n:=by have:=hd;unfold Dv.depth at this;exact this
   have z:=SeqAt.RcNeAt.tuples (A:=X.A) (s:=s) (e:=λj=>((ds[j]?).getD .aq).ba ((es[j]?).getD .aq)) p1 p2 (by lia) (VH (U:=U) (σ:=σ) (H:=H) (n:=n) r1 r2 λj x y u v g1 g2 w1 w2=>?_)
   .rw[lF,lF, <-q1, <-q2,lO,AV, <-Dv.ZE]at z;unfold Dv.ba;exact z
   .obtain⟨d1,k1,k2⟩:=t.j6 g1;obtain⟨e1,m1,m2⟩:=t2.j6 g2;show SeqAt.EqAt X.A.in1 s u v (((ds[j]?).getD .aq).ba ((es[j]?).getD .aq));rw[k1,m1];exact ag.at I (n-1) d1 e1 x y (yao (Dv.Ko k1) (by lia)) k2 m2 (by show X.A.units+1+(n-1)<cLine;lia) w1 w2
inductive oW (n:Nat) (neg:Bool) (x:V) (y:V) (H:Hp) (Q:VK):Prop
 |mk (d e):ag H x d->ag H y e->d.depth<=n->Q (.bl (if neg then !(d.ba e)else d.ba e)) H->oW n neg x y H Q
def j7(hu:X.A.units+n<cLine):aW X (compareOp .NotEq) (oW n true):=by
 intro U s σ H x y v u Q I rx ry h;obtain⟨d,e,hx,hy,hd,q⟩:=h;exact ag.Qg7 I hd hx hy hu rx ry X.prog X.w X.xe _ ⟨.bl _,H,I,Z,q⟩
end
section
variable {prog:Program}{tt:Addr}
def Qew(g:s.heap.IsTupleIter j tt n)(gt:s.heap.IsTuple tt its)(gv:its[n]? =some v)(k:∀h',h'.IsTupleIter j tt (n+1)->Heap.SameBut j s.heap h'->Q v {s with heap:=h'}):wpAny (model prog w) A (Builtin.SmallTypes.nextOf (.ref j)) Q E s:=by
 obtain⟨o,ho,hc,hd⟩:=id g;obtain⟨ol,Bc,_,nl,NE⟩:=gt;unfold Builtin.SmallTypes.nextOf;refine yaa (yaP (name:=Str.ofString "__next__") g.typeIs ybN (yaM ybN g.typeIs ydU ?_ (ydI _)));show wpAny _ _ (field (.ref j) 0>>=_) _ _ s;refine yaa (yaG ho hd (x:=.ref tt) Z ?_);show wpAny _ _ (if(Value.ref tt==Value.none)=true then _ else _) _ _ s;rw[yah (show ¬ ((Value.ref tt==Value.none)=true)from yal)];show wpAny _ _ (field (.ref j) 1>>=_) _ _ s;refine yaa (yaG ho hd (x:=.int n 0) Z ?_);show wpAny _ _ (seqItems? (.ref tt)>>=_) _ _ s;refine yaa (ybd Bc NE ?_);simp only[lI,gv];refine yaa (wpAny_setField ho hd (by simp) (yac ⟨v,Z,yac (k _ ?_ (ydV ..))⟩));exact⟨_,ybs _ ho (Obj.isFreed_of_fields (Obj.data_mapFields hd _)),(Obj.cls_mapFields ..).trans hc,by rw[Obj.data_mapFields hd];simp[rawInt]⟩
def QcJ(hh:A.handled=none)(g:s.heap.IsTupleIter j tt n)(gt:s.heap.IsTuple tt its)(gv:its[n]? =none)(k:∀h' e,Heap.ExtBut j s.heap h'->(∃o,h'.get? e=some o/\o.cls=.type "StopIteration")->E (.ref e) {s with heap:=h'}):wpAny (model prog w) A (Builtin.SmallTypes.nextOf (.ref j)) Q E s:=by
 obtain⟨o,ho,hc,hd⟩:=id g;obtain⟨ol,Bc,_,nl,NE⟩:=gt;unfold Builtin.SmallTypes.nextOf;refine yaa (yaP (name:=Str.ofString "__next__") g.typeIs ybN (yaM ybN g.typeIs ydU ?_ (ydI _)));show wpAny _ _ (field (.ref j) 0>>=_) _ _ s;refine yaa (yaG ho hd (x:=.ref tt) Z ?_);show wpAny _ _ (if(Value.ref tt==Value.none)=true then _ else _) _ _ s;rw[yah (show ¬ ((Value.ref tt==Value.none)=true)from yal)];show wpAny _ _ (field (.ref j) 1>>=_) _ _ s;refine yaa (yaG ho hd (x:=.int n 0) Z ?_);show wpAny _ _ (seqItems? (.ref tt)>>=_) _ _ s;refine yaa (ybd Bc NE ?_);simp only[lI,gv];refine yaa (ycV (yaa (wpAny_setField ho hd (by simp) ?_)));show wpAny _ _ (newExc (.type "StopIteration") []>>=_) _ _ _;refine yaa ?_;simp only[newExc,newTuple];refine yaa (yaX ?_ (by size_fits));refine yaa (m:=firstArgMember _ _) (ybz (a:=Value.none) (by first|rfl|(simp only[firstArgMember];rfl)) ?_);refine yaX ?_ (by size_fits);simp only[raiseNew];refine yaa (wpAny_handled ?_)
 first|rw[show A.in1.handled=none from hh]|rw[hh]
 refine yaa (yac (wpAny_throw ?_));exact k _ _ (((ydV ..).extBut.push _).push _) ⟨_,yag _ rfl,Z⟩
end
inductive Sk where|tp|ls
def oX(k:Sk)(h:Heap)(it a:Addr)(i:Nat):Prop:=match k with| .tp=>h.IsTupleIter it a i| .ls=>h.IsListIter it a i
def Bd(k:Sk)(h:Heap)(a:Addr)(its:Array Value):Prop:=match k with| .tp=>h.IsTuple a its| .ls=>h.IsList a its
def MW{prog:Program}(k:Sk)(hh:A.handled=none)(it a:Addr)(ne:a≠it)(its:Array Value):Draws prog w A it [it,a] its.size (λi v=>its[i]? =some v) (λi h=>oX k h it a i/\Bd k h a its):=by
 cases k with
 |ls=>exact Draws.list hh it a ne its
 |tp=>
  exact{live:=λ_ _ st=>let ⟨o,ho,_⟩:=st.1;⟨o,ho⟩,frame:=λ_ _ _ st hk=>⟨let ⟨o,ho,r⟩:=st.1;⟨o,hk it (by simp) o ho,r⟩,let ⟨o,ho,r⟩:=st.2;⟨o,hk a (by simp) o ho,r⟩⟩,item:=λi s Q E hi st hQ=>(by
       refine Qew st.1 st.2 (v:=its[i]) (by simp[hi]) λh' g hs=>?_;exact hQ _ h' s.toks (by simp[hi]) ⟨g,let ⟨o,ho,r⟩:=st.2;⟨o,(hs.2 a ne).trans ho,r⟩⟩ hs),done:=λs Q E st hE=>QcJ hh st.1 st.2 (by simp) hE}
def oY(k:Sk)(K:Frag)(H:Hp)(a:Addr)(xs:List V):Prop:=match k with| .tp=>aw K H a xs| .ls=>aE K H a xs
def Inv.sk{X:Cx}{U:List (Addr × Obj)}{σ:St}{xs:List V}(I:Inv X U σ H s)(h:oY k X.K H a xs):∃its:List Value,Vals xs its/\Bd k s.heap a its.toArray/\xs.length<=sizeLine:=by
 cases k with
 |tp=>
  obtain⟨its,r,p,z⟩:=I.tuple h;exact⟨its,r,p,z⟩
 |ls=>
  obtain⟨its,r,p,z⟩:=I.list h;exact⟨its,r,p.isList,z⟩
def Inv.Qey{X:Cx}{U:List (Addr × Obj)}{σ:St}{xs ys:List V}(I:Inv X U σ H s)(h:oY k X.K H a xs)(h':oY k X.K H a ys):xs=ys:=by
 obtain⟨its,r,p,_⟩:=I.sk h;obtain⟨ci,r2,p2,_⟩:=I.sk h';have e:its=ci:=by
  cases k with
  |tp=>
   obtain⟨o,ho,_,n,hd⟩:=p;obtain⟨o2,PP,_,n2,hd2⟩:=p2;obtain rfl:=tP (ho.symm.trans PP);have:=hd.symm.trans hd2;injection this with q;simpa using q
  |ls=>
   obtain⟨o,ho,_,n,hd⟩:=p;obtain⟨o2,PP,_,n2,hd2⟩:=p2;obtain rfl:=tP (ho.symm.trans PP);have:=hd.symm.trans hd2;injection this with q;simpa using q
 subst e;exact Vals.inj r r2
def ED(h:a≠b):Value.type a≠Value.type b:=λz=>h (by injection z)
def MX{it a:Addr}(g:oX k h it a i)(p:Bd k h a its):a≠it:=by
 cases k with
 |tp=>
  obtain⟨o,ho,hc,_⟩:=g;obtain⟨o2,PP,fF,_⟩:=p;rintro rfl;obtain rfl:=tP (ho.symm.trans PP);exact ED (by lia) (hc.symm.trans fF)
 |ls=>
  obtain⟨o,ho,hc,_⟩:=g;obtain⟨o2,PP,fF,_⟩:=p;rintro rfl;obtain rfl:=tP (ho.symm.trans PP);exact ED (by lia) (hc.symm.trans fF)
def MY{it a:Addr}(g:oX k h it a i):∃o,h.get? it=some o/\∀v,o.data≠ .cell v:=by
 cases k with
 |tp=>obtain⟨o,ho,hc,hd⟩:=g;exact⟨o,ho,λv q=>by rw[hd]at q;cases q⟩
 |ls=>obtain⟨o,ho,hc,hd⟩:=g;exact⟨o,ho,λv q=>by rw[hd]at q;cases q⟩
def vk{it a:Addr}(g:oX k h it a i)(kk:∀o,h.get? it=some o->h'.get? it=some o):oX k h' it a i:=by
 cases k with
 |tp=>obtain⟨o,ho,r⟩:=g;exact⟨o,kk o ho,r⟩
 |ls=>obtain⟨o,ho,r⟩:=g;exact⟨o,kk o ho,r⟩
def QeA(p:Bd k h a its)(e:h.get? a=some o):o.cls=.type "tuple"\/o.cls=.type "list":=by
 cases k with
 |tp=>obtain⟨o2,ho,hc,_⟩:=p;obtain rfl:=tP (e.symm.trans ho);exact .inl hc
 |ls=>obtain⟨o2,ho,hc,_⟩:=p;obtain rfl:=tP (e.symm.trans ho);exact .inr hc
noncomputable def GY(k:Sk)(K:Frag)(a:Addr):It:=⟨λi H=>∃xs x,oY k K H a xs/\xs[i]? =some x,λi H v H'=>∃p,H p=none/\v=.ref p/\∀xs,oY k K H a xs->∃x,xs[i]? =some x/\H'=upd H p (.tup [.int (i:Nat),x]),λi H=>∃xs,oY k K H a xs/\xs.length=i⟩
def xW{P:Program}{w:World}{K:Frag}{es:List Expr}{n:Nat}{pos:Pos}(k:Sk)(e it a:Addr)(iH:e≠it):Turn P w K (.Tuple es n pos) (GY k K a) [e,it] e (λi h=>(∃old,IsEnum h e it (i:Nat) old)/\oX k h it a i) where
 mem:=by simp
 obj:=λi h st b hb=>by
  obtain⟨⟨old,he⟩,g⟩:=st;rcases yak.mp hb with rfl|hb
  .exact⟨_,he,λv q=>nomatch (show Data.fields _=Data.cell v from q)⟩
  .obtain rfl:b=it:=by simpa using hb
   exact MY g
 keep:=λi h h' st kk=>by
  obtain⟨⟨old,he⟩,g⟩:=st;exact⟨⟨old,kk e (by simp) _ he⟩,vk g λo=>kk it (by simp) o⟩
 item:=by
  intro X hP hw hK hc i U s σ H E I hf st hg;subst hP hw hK;obtain⟨⟨old,he⟩,g⟩:=st;obtain⟨xs,x,hq,hx⟩:=hg;obtain⟨its,rv,p,hz⟩:=I.sk hq;obtain⟨u,hu,ru⟩:=rv.get hx;have bi:i<its.toArray.size:=by
   rw[lF];exact(yaf.mp hu).1
  have hea:e≠a:=λq=>by
   rcases QeA p (q▸he)with z|z
   .exact ED (by lia) z
   .exact ED (by lia) z
  have D:=MW (prog:=X.prog) (w:=X.w) (A:=X.A.in1) k (I.ok.hd hc) it a (MX g p) its.toArray;refine wpAny_pyNext_enum_itemD D he ⟨g,p⟩ bi iH (by simp[iH,hea]) λv h1 tk hv ho GR hT hsz hk=>⟨_,Z,?_⟩;obtain rfl:v=u:=by
   have:its.toArray[i]? =some u:=by simpa using hu
   exact tP (hv.symm.trans this)
  refine yea ho λh2 Cu GT=>?_;have GS:s.heap.objs.size≠e:=λq=>absurd (yaj he) (by rw[<-q];exact lH _);refine⟨.ref s.heap.objs.size,upd H s.heap.objs.size (.tup [.int (i:Nat),x]),I.j5 (ch:=[e,it]) hf (λb o hb q=>?_) (tO _) ?_,Z,⟨_,I.ao.fresh (tO _),Z,λys hy=>⟨x,by rw[I.Qey hy hq];exact hx,Z⟩⟩,⟨⟨_,Cu⟩,?_⟩,λb hb=>?_⟩
  .simp only[yak,yaK,ycC,not_or]at hb;exact(GT.2 b hb.1).trans (hk b o hb.1 hb.2 q)
  .exact⟨by show 2<=sizeLine;lia,[.int (i:Nat) tk,v],.cons ⟨_,Z⟩ (.cons ru .nil),⟨_,(GT.2 _ GS).trans hT,Z,_,Z,Z⟩⟩
  .exact vk GR.1 λo q=>(GT.2 it iH.symm).trans q
  .have bi:b<s.heap.objs.size:=by
    rcases yak.mp hb with q|q
    .rw[q];exact yaj he
    .obtain⟨o,Cv,_⟩:=MY g;rw[show b=it by simpa using q];exact yaj Cv
   rw[Qo (yaq bi)];exact(hf b hb).1
 done:=by
  intro X hP hw hK hc i U s σ H E I hf st hg;subst hP hw hK;obtain⟨⟨old,he⟩,g⟩:=st;obtain⟨xs,hq,hx⟩:=hg;obtain⟨its,rv,p,hz⟩:=I.sk hq;have hl:=rv.length;have D:=MW (prog:=X.prog) (w:=X.w) (A:=X.A.in1) k (I.ok.hd hc) it a (MX g p) its.toArray;have lm:oX k s.heap it a its.toArray.size/\Bd k s.heap a its.toArray:=⟨by rw[lF, <-hl,hx];exact g,p⟩;exact wpAny_pyNext_enum_endD D he lm λh1 eb=>⟨Z,I.j4 (t':=s.toks) (ch:=[e,it]) hf λb o hb q=>eb b o (λr=>hb (by simp[r])) q⟩
 self:=λ_ _ _ _ _ st h=>let ⟨⟨_,he⟩,_⟩:=st;ydo he h
noncomputable abbrev EE(h:Heap)(a:Addr):Heap:=h.push {cls:=.type "tuple_iterator",data:=.fields #[.ref a,.int 0 0]}
noncomputable abbrev MZ(h:Heap)(a:Addr):Heap:=(EE h a).push {cls:=.type "enumerate",data:=.fields #[.none,.bool false,.ref h.objs.size,rawInt 0,.none,.none]}
open AutoSeq1 (wpAny_loadPart')in
def vm(a:Addr)(its:Array Value)(n:Nat)(dd:Option Addr)(sl:Array (Option Value)):Meets (Builtin.«enumerate.__new__» ⟨[.type "enumerate",.ref a],[]⟩) (λ_ R s=>s.heap.get? a=some ⟨.type "tuple",dd,.seq its n,sl⟩/\R (.ok (.ret (.ref (EE s.heap a).objs.size))) {s with heap:=MZ s.heap a}):=
 .of_wp λprog w A R s h=>by
  obtain⟨hp,g,d,tk,os⟩:=s;obtain⟨hl,h⟩:=h;have lN:=sub_enumerate;have hT:Heap.IsTuple (Shared.heap ⟨hp,g,d,tk,os⟩) a its:=⟨_,hl,Z,n,Z⟩
  wp_walk using ybr hl
  refine wpAny_stack_any λst=>yac ?_
  split
  .rename_i c _ _ _ _ _;cases(c==Value.type "enumerate")<;>(wp_walk using ybr hl,yef hT;exact⟨_,Z,h⟩)
  .wp_walk using ybr hl,yef hT
   exact⟨_,Z,h⟩
def Qau{prog:Program}(hT:s.heap.IsTuple a its)(h:∀h',IsEnum h' (s.heap.objs.size+1) s.heap.objs.size 0 .none->h'.IsTupleIter s.heap.objs.size a 0->h'.objs.size=s.heap.objs.size+2->(∀b o,s.heap.get? b=some o->h'.get? b=some o)->Q (.ref (s.heap.objs.size+1)) {s with heap:=h'}):wpAny (model prog w) A (call (.type "enumerate") [.ref a]) Q E s:=by
 obtain⟨⟨c,dd,dt,sl⟩,hl,hc,n,hd⟩:=hT
 replace hc:c=.type "tuple":=hc
 replace hd:dt=.seq its n:=hd
 subst hc hd;refine callType_new F.called_enumerate (by lia) (F.typeCall_enumerate_1 _) (F.newCall_enumerate_1 _) (λobj=>F.args_object_init_2 obj _) F.entry_enumerate_new (vm a its n dd sl) ⟨hl,?_⟩;have hz:(EE s.heap a).objs.size=s.heap.objs.size+1:=yaQ ..;have he:IsEnum (MZ s.heap a) (EE s.heap a).objs.size s.heap.objs.size 0 .none:=yag _ rfl;rw[hz]at he;show _/\_;rw[hz];exact⟨⟨_,he,Z⟩,h _ he ⟨_,yab _ (yag _ Z),Z,Z⟩ (by rw[yaQ,hz]) λb o x=>yab _ (yab _ x)⟩
def Qav{prog:Program}(k:Sk)(p:Bd k s.heap a its)(h:∀h',IsEnum h' (s.heap.objs.size+1) s.heap.objs.size 0 .none->oX k h' s.heap.objs.size a 0->(∀b o,s.heap.get? b=some o->h'.get? b=some o)->Q (.ref (s.heap.objs.size+1)) {s with heap:=h'}):wpAny (model prog w) A (call (.type "enumerate") [.ref a]) Q E s:=by
 cases k with
 |tp=>exact Qau p λh' h1 h2 _ h4=>h h' h1 h2 h4
 |ls=>exact call_enumerate_list p λh' h1 h2 _ h4=>h h' h1 h2 h4
section
def QeB(k:Sk)(K:Frag)(ta:TA):TI:=λσ H R=>ta σ H λvs H1=>∃a,vs=[.ref a]/\(∃xs,oY k K H1 a xs)/\R (GY k K a) H1
def Qaw(k:Sk){p pos:Pos}(hg:Gl X "enumerate")(hm:X.mg "enumerate"=none)(ha:PA X [a] ta)(hs:starEach [a] X.env=[(false,eval a X.env)]:=by rfl):PI X (.Tuple es n tp) (.Call (.Name "enumerate" p) [a] [] pos) (QeB k X.K ta):=by
 intro U s σ H R I h;refine Call_ (ZQ I hg hm boot_enumerate (yau (ax (ha pos U s σ H _ I h) λus s1⟨vs,H1,I1,r1,aa,e,⟨xs,hq⟩,q⟩=>?_) hs Z));subst e;obtain⟨u,rfl,rfl⟩:=vals1 r1;obtain⟨its,rv,po,hz⟩:=I1.sk hq;refine Qav k po λh1 he lm hk=>?_;refine ydo (s:={s1 with heap:=h1}) he ?_;refine⟨_,[s1.heap.objs.size+1,s1.heap.objs.size],_,_,H1,Z,I1.kept (t':=s1.toks) hk,xW k _ _ aa (Nat.succ_ne_self _),⟨⟨_,he⟩,lm⟩,λb hb=>?_,q⟩;have Fr:s1.heap.objs.size<=b:=by
  simp only[yak,yaK,ycC]at hb;rcases hb with rfl|rfl
  .exact Nat.le_succ _
  .exact tO _
 exact I1.xv Fr (I1.ao.fresh Fr)
end
structure Fix(J:It)(n:Nat)(Ok:Hp->Prop)(item:Nat->Hp->V->Hp->Prop):Prop where
 go:∀i H,Ok H->i<n->J.go i H
 stop:∀H,Ok H->J.stop n H
 dj:∀i H v H',Ok H->i<n->J.dj i H v H'->item i H v H'
section
variable {Ok:Hp->Prop}{item:Nat->Hp->V->Hp->Prop}
def WJ{g:TG}{tb:TS}{D:Ends}{σ:St}{H:Hp}(F:Fix J n Ok item)(Pv:Nat->St->Hp->Prop)(h0:Pv 0 σ H)(ho:∀i σ H,i<=n->Pv i σ H->Ok H)(hs:∀i v σ H H',i<n->Pv i σ H->item i H v H'->g v σ H' λσ2 H2=>tb {D with nx:=Pv (i+1),ct:=Pv (i+1),bk:=D.nx} σ2 H2)(hd:∀σ H,Pv n σ H->D.nx σ H):∃W:Nat->Nat->St->Hp->Prop,(∃m,W 0 m σ H)/\∀i m σ H,W i m σ H->
   (J.stop i H/\D.nx σ H)\/(J.go i H/\∃N:St->Hp->Prop,(∀σ' H',N σ' H'->∃m',m'<m/\W (i+1) m' σ' H')/\∀x H',J.dj i H x H'->g x σ H' λσ2 H2=>tb {D with nx:=N,ct:=N,bk:=D.nx} σ2 H2):=by
 refine⟨λi m σ H=>m=n-i/\i<=n/\Pv i σ H,⟨n,by simp,lG _,h0⟩,?_⟩;rintro i m σ H ⟨rfl,hi,p⟩;have ok:=ho i σ H hi p
 by_cases bi:i<n
 .exact .inr ⟨F.go i H ok bi,Pv (i+1),λσ' H' p'=>⟨n-(i+1),by lia,Z,bi,p'⟩,λx H' y=>hs i x σ H H' bi p (F.dj i H x H' ok bi y)⟩
 .have e:i=n:=by lia
  subst e;exact .inl ⟨F.stop H ok,hd σ H p⟩
def je{nn:Nat}{fi:List Nat}{fv:List V}{tt:TT}(F:Fix J n Ok item)(Pv:Nat->List V->Hp->Prop)(h:∀R:It->Hp->Prop,(∀H1,Pv 0 [] H1->R J H1)->wi σ H R)(j':fi.map (λi=>σ[i]?)=fv.map (λv=>some (some v)))(ho:∀i vs H,i<=n->Pv i vs H->Ok H/\vs.length<=i)(hs:∀i v vs H H',i<n->Pv i vs H->item i H v H'->g v (replicate nn none++fv.map some) H' λσ2 H2=>σ2.drop nn=fv.map some/\tt σ2 H2 λb H3=>if b=true then te σ2 H3 λv H4=>Pv (i+1) (vs++[v]) H4 else Pv (i+1) vs H3)(hd:∀vs H,Pv n vs H->∀p,H p=none->Q (.ref p) (upd H p (.lst vs)))(hz:n<sizeLine):VN nn fi wi g tt te σ H Q:=by
 refine h _ λH1 h0=>⟨fv,j',λi m vs H=>m=n-i/\i<=n/\Pv i vs H,⟨n,by simp,lG _,h0⟩,?_⟩;rintro i m vs H ⟨rfl,hi,p⟩;obtain⟨ok,hv⟩:=ho i vs H hi p
 by_cases bi:i<n
 .exact .inr ⟨F.go i H ok bi,by lia,Pv (i+1),λpi H' p'=>⟨n-(i+1),by lia,Z,bi,p'⟩,λx H' y=>hs i x vs H H' bi p (F.dj i H x H' ok bi y)⟩
 .have e:i=n:=by lia
  subst e;exact .inl ⟨F.stop H ok,hd vs H p⟩
end
def EF{xs:List V}(h:i<xs.length):∃x,xs[i]? =some x:=⟨_,yad h⟩
def M0{K:Frag}{xs:List V}:Fix (fD K a) xs.length (λH=>aw K H a xs) (λi H v H'=>H'=H/\xs[i]? =some v):=
 ⟨λi H ok h=>let ⟨x,e⟩:=EF h;⟨xs,x,ok,e⟩,λH ok=>⟨xs,ok,tO _⟩,λi H v H' ok _ y=>⟨y.1,y.2 _ ok⟩⟩
def GZ{K:Frag}{xs:List V}:Fix (fC K a) xs.length (λH=>aE K H a xs) (λi H v H'=>H'=H/\xs[i]? =some v):=
 ⟨λi H ok h=>let ⟨x,e⟩:=EF h;⟨xs,x,ok,e⟩,λH ok=>⟨xs,ok,tO _⟩,λi H v H' ok _ y=>⟨y.1,y.2 _ ok⟩⟩
def G0{lo:Int}:Fix (sI lo n) n (λ_=>True) (λi H v H'=>H'=H/\v=.int (lo+i)):=⟨λi H _ h=>h,λH _=>tO _,λi H v H' _ _ y=>y⟩
def Qg8{k:Sk}{K:Frag}{xs:List V}:Fix (GY k K a) xs.length (λH=>oY k K H a xs) (λi H v H'=>∃p x,H p=none/\v=.ref p/\xs[i]? =some x/\H'=upd H p (.tup [.int (i:Nat),x])):=
 ⟨λi H ok h=>let ⟨x,e⟩:=EF h;⟨xs,x,ok,e⟩,λH ok=>⟨xs,ok,Z⟩,λi H v H' ok _⟨p,hp,e,y⟩=>let ⟨x,h1,h2⟩:=y xs ok;⟨p,x,hp,e,h1,h2⟩⟩
noncomputable abbrev zT(led:Bool):Obj:={cls:=.type "set",dict:=none,data:=.set #[] 0 (.fresh 0 0 led)}
section
def Inv.QcK{t':Nat}{ch:List Addr}{T:Addr}{nw:HO}(I:Inv X U σ H s)(hf:∀b∈ch,yB X U H b)(k:∀b o,b∉ch->s.heap.get? b=some o->h'.get? b=some o)(hT:s.heap.objs.size<=T)(new:JJ X.prog X.w (upd H T nw) h' T nw):Inv X U σ (upd H T nw) {s with heap:=h',toks:=t'}:=by
 have hn:=I.ao.fresh hT;have fN:∀b u,H b=some u->b∉ch:=λb u e z=>by rw[(hf b z).1]at e;cases e
 have nT:∀b o,H b=some o->upd H T nw b=some o:=λb o e=>by rw[Qo (QA e hn)];exact e
 refine I.step (g':=s.gens) (d':=s.drawn) (ch:=ch) (λb hb=>?_) (λb o _ _ hc e _=>k b o hc e) (λb o _ _ hc e _=>⟨o.slots,k b o hc e⟩) (λb o _ e n=>?_) (λb o hc e=>⟨o,k b o hc e⟩) (λb ys e=>nT b _ e) (λb o u e=>nT b _ e) (λb ps e=>⟨#[],by rw[nT b _ e];simp⟩) (λm hm=>?_) (λb u e=>?_) I.bare
 .obtain⟨_,f1,_,f3,f4,f5⟩:=hf b hb;exact⟨f3,f1,f4,f5⟩
 .rw[Qo (λz=>absurd (yaj e) (by rw[z];exact Nat.not_lt.mpr hT))];exact n
 .obtain⟨o,es,ep,ho,r⟩:=hm;exact⟨o,es,ep,k _ o (λz=>(hf _ z).2.1 Z) ho,r⟩
 .by_cases hb:b=T
  .subst hb;rw[Qf]at e;cases e;exact new
  .rw[Qo hb]at e;refine(I.ao b u e).yz (λc v hc q=>k c v ?_ q) (λc q=>nT c _ q) λc ys q=>nT c _ q;rcases hc with z|z
   .rw[z];exact fN b u e
   .exact fN c _ z
end
open AutoSeq1 (wpAny_loadPart')
section
variable {prog:Program}
def VW:isSubtype (.type "range_iterator") (.type "reversed")=pure false:=by rw[ydq];kernel_rfl
noncomputable abbrev Be(i j:Int):Obj:={cls:=.type "range_iterator",data:=.fields #[rawInt (i+(Builtin.Range.rangeSize i j 1-1)*1),rawInt (Builtin.Range.rangeSize i j 1),rawInt (-1)]}
def QcL(hr:IsRange s.heap r i j 1 t u v)(b: -(2^40)<=i/\i<2^40/\ -(2^40)<=j/\j<2^40)(q:Q (.ref s.heap.objs.size) {s with heap:=s.heap.push (Be i j)}):wpAny (model prog w) A (call (.builtin "range.__reversed__") [.ref r]) Q E s:=by
 have hT:s.TypeIs (.ref r) "range":=⟨_,hr,Z⟩;refine yaM F.slot_range_reversed hT F.entry_range_reversed ?_ (F.args_range_reversed_1 _);have hf:∀x:Int, -(2^41)<=x->x<=2^41->Builtin.Range.rangeFitsLong x=true:=λx h1 h2=>by
  unfold Builtin.Range.rangeFitsLong;rw[tN (show-(2^63)<=x by lia),tN (show x<2^63 by lia)];rfl
 have hn:0<=Builtin.Range.rangeSize i j 1/\Builtin.Range.rangeSize i j 1<=2^41:=by
  unfold Builtin.Range.rangeSize;rw[yai (by lia)]
  split
  .rw[ydr];lia
  .lia
 unfold Builtin.«range.__reversed__»;refine yaa (ybz (a:=Value.ref r) Z ?_);unfold Builtin.Range.rangeFields;refine yaa (yaa (yaG hr Z (x:=.int i t) Z ?_));refine yaa (ybz (a:=some i) Z ?_);refine yaa (yaG hr Z (x:=.int j u) Z ?_);refine yaa (ybz (a:=some j) Z ?_);refine yaa (yaG hr Z (x:=.int 1 v) Z ?_);refine yaa (ybz (a:=some 1) Z (yac ?_));dsimp only;rw[hf i (by lia) (by lia),hf j (by lia) (by lia),hf 1 (by lia) (by lia),hf (-1) (by lia) (by lia),hf (i-1) (by lia) (by lia),hf (Builtin.Range.rangeSize i j 1) (by lia) (by lia)];exact yaa (yaX (yac ⟨_,Z,q⟩))
def jf(hr:IsRange s.heap r i j 1 t u v)(b: -(2^40)<=i/\i<2^40/\ -(2^40)<=j/\j<2^40)(q:Q₁ (.ref s.heap.objs.size) {s with heap:=s.heap.push (Be i j)}):codeAny (model prog w) A (.call (.builtin "reversed.__new__") ⟨[.type "reversed",.ref r],[]⟩) (wants Q₁ E) s:=by
 have hT:s.TypeIs (.ref r) "range":=⟨_,hr,Z⟩;refine yeT ?_;show wpAny _ A.in1 (do checkBuiltinCall "reversed.__new__" ⟨[.type "reversed",.ref r],[]⟩;again (.builtin "reversed.__new__" ⟨[.type "reversed",.ref r],[]⟩)) _ _ s;refine yaa (ybz (F.newCall_reversed_1 _) (yac ⟨ycz ydD _,ybJ F.entry_reversed_new ?_⟩));rw[ybB ydD _];unfold Builtin.«reversed.__new__»;refine yaa (ybz (newClass_reversed _) ?_)
 try dsimp only
 refine yaa (ybz (a:=()) (by first|rfl|kernel_rfl) ?_);refine yaa (ybz (a:=()) (by first|rfl|kernel_rfl) ?_)
 try dsimp only
 refine yaa (yaN hT F.slot_range_reversed.lookup ?_)
 try dsimp only
 refine yaa (ybz (F.slot_range_reversed.bind _) ?_)
 try dsimp only
 first
 |rw[yah (show ¬ ((Value.builtin "range.__reversed__"==Value.none)=true)from yal)]
 |(show wpAny _ _ (if(Value.builtin "range.__reversed__"==Value.none)=true then _ else _) _ _ _;rw[yah (show ¬ ((Value.builtin "range.__reversed__"==Value.none)=true)from yal)])
 refine yaa (ycV ?_);refine yaa (m:=runValue (.call (.builtin "range.__reversed__") ⟨[.ref r],[]⟩)) (show wpAny _ _ (call (.builtin "range.__reversed__") [.ref r]) _ _ _ from QcL hr b ?_)
 first
 |exact yac q
 |exact yaa (yac (yac q))
def jg(hr:IsRange s.heap r i j 1 t u v)(b: -(2^40)<=i/\i<2^40/\ -(2^40)<=j/\j<2^40)(q:Q (.ref s.heap.objs.size) {s with heap:=s.heap.push (Be i j)}):wpAny (model prog w) A (call (.type "reversed") [.ref r]) Q E s:=by
 refine callType_other (U:="range_iterator") (Q₁:=λobj s₁=>obj=.ref s.heap.objs.size/\s₁={s with heap:=s.heap.push (Be i j)}) (by rfl') F.create_reversed ⟨_,_,F.mro_reversed⟩ F.made_reversed VW (F.typeCall_reversed_1 _) (jf hr b ⟨Z,Z⟩) ?_;rintro obj s₁ ⟨rfl,rfl⟩;exact⟨⟨_,yag _ rfl,Z⟩,q⟩
end
section
def Qg9(ta:TA):TI:=λσ H R=>ta σ H λvs H1=>∃i j:Int,vs=[.int i,.int j]/\(-(2^40)<=i/\i<2^40/\ -(2^40)<=j/\j<2^40)/\R (AY (i+((j-i).toNat:Nat)-1) (-1) (j-i).toNat) H1
def vn(i j:Int):Builtin.Range.rangeSize i j 1=(((j-i).toNat:Nat):Int):=by
 unfold Builtin.Range.rangeSize;rw[yai (by lia)]
 split<;>simp<;>lia
end
def ag.xX(h:ag H v d)(e:H l=some o)(n1:∀ys,o≠ .tup ys):ag (upd H l o') v d:=
 h.keep (λb ys q=>by rw[Qo (Fu q e λz=>n1 ys z.symm)];exact q)
def aj.xX(h:aj H v d)(e:H l=some o)(n1:∀ys,o≠ .tup ys):aj (upd H l o') v d:=
 h.keep (λb ys q=>by rw[Qo (Fu q e λz=>n1 ys z.symm)];exact q)
def ag.zU(h:ag H v (.str x)):v=.str x:=by cases h;rfl
def ag.Ae(h:ag H v (.int i)):v=.int i:=by cases h;rfl
def ag.YX{ds:List Dv}(h:ag H v (.tup ds)):∃a xs,v=.ref a/\H a=some (.tup xs)/\aj H xs ds:=by cases h with|tup h t=>exact⟨_,_,Z,h,t⟩
section
variable {prog:Program}
def Qay(t b:Addr)(ys:Array Value)(n n2:Nat)(dd AQ:Option Addr)(sl AR:Array (Option Value)):Meets (Builtin.«tuple.__add__» ⟨[.ref t,.ref b],[]⟩) (λ_ R s=>s.heap.get? t=some ⟨.type "tuple",dd,.seq #[] n,sl⟩/\s.heap.get? b=some ⟨.type "tuple",AQ,.seq ys n2,AR⟩/\R (.ok (.ret (.ref b))) s):=
 .of_wp λprog w A R s h=>by
  obtain⟨hp,g,d,tk,os⟩:=s;obtain⟨hl,hb,h⟩:=h;have f2:=AutoSeq1.sub_tuple_tuple
  wp_walk using ybr hl,ybr hb
  exact⟨_,Z,h⟩
def Qaz{ws:List Value}(ht:IsTup s.heap t #[])(hb:IsTup s.heap b ws.toArray)(q:Q (.ref b) s):wpAny (model prog w) A (binaryOp .Add (.ref t) (.ref b)) Q E s:=by
 obtain⟨⟨cls,dd,data,sl⟩,ho,hc,n,hd⟩:=id ht;obtain⟨⟨FW,AQ,data2,AR⟩,PP,fF,n2,hd2⟩:=id hb;simp only at hc hd fF hd2;subst hc hd fF hd2;exact concat_meets ⟨_,ho,Z⟩ ⟨_,PP,Z⟩ yeE seq_tuple_add slot_tuple_add entry_tuple_add (yeF _ _) (Qay t b ws.toArray n n2 dd AQ sl AR) ⟨ho,PP,q⟩
open HT in
def vo{lo hi:Option Int}(ht:IsTup s.heap t its)(hs:s.heap.IsSliceOf sl vl vu .none)(pl:IsPart vl lo)(pu:IsPart vu hi)(hw:aJ its.size 0 lo=0/\aJ its.size its.size hi=its.size)(q:Q (.ref t) s):wpAny (model prog w) A (getItem (.ref t) (.ref sl)) Q E s:=by
 obtain⟨os,sM,SL,iY⟩:=id hs;have FX:s.TypeIs (.ref sl) "slice":=⟨os,sM,SL⟩;unfold getItem
 try with_reducible refine ybe ?_
 first|refine yaa (yac ?_)|skip
 refine yaa (wpAny_sequenceKey ht.typeIs (by lia) ?_);refine yaa (yaP (name:=Str.ofString "__getitem__") ht.typeIs ybp (yaM ybp ht.typeIs entry_tuple_getitem ?_ (args_tuple_getitem _ _)));show wpAny _ _ (Builtin.Tuple.tupleItemsOf (.ref t)>>=_) _ _ s;refine yaa (tupleItemsOf_ ht ?_);refine yaa (yds FX ?_);rw[yai (by lia)];refine yaa (XO hs pl pu ?_);rw[hw.1,hw.2];show wpAny _ _ (if(((0:Nat):Int)==0&&(1:Int)==1&&(its.size-0)==its.size)=true then _ else _) _ _ s;rw[yai (by simp)];obtain⟨⟨cls,dd,data,BG⟩,ho,hc,n,hd⟩:=id ht;simp only at hc hd;subst hc hd
 wp_walk using ybr ho
 exact⟨_,Z,yac q⟩
end
section
def QaA:aW X (binaryOp .Add) (λx y H Q=>∃a b ys,x=.ref a/\y=.ref b/\Rd H a (.tup [])/\Rd H b (.tup ys)/\Q (.ref b) H):=by
 intro U s σ H x y v u Q I rx ry h;obtain⟨a,b,ys,rfl,rfl,ha,hb,q⟩:=h;cases rx;cases ry;obtain⟨its,r1,p1,_⟩:=I.tuple (.inl ha);obtain⟨ci,r2,p2,_⟩:=I.tuple (.inl hb);obtain rfl:its=[]:=r1.Uf.mpr rfl;exact Qaz p1 p2 ⟨.ref b,H,I,Z,q⟩
inductive bP (x:V) (y:V) (H:Hp) (Q:VK):Prop
 |mk (a b xs ys):x=.ref a->y=.ref b->Rd H a (.tup xs)->Rd H b (.tup ys)->xs.length+ys.length<=sizeLine->((xs=[]->Q (.ref b) H))->((xs≠[]->ys=[]->Q (.ref a) H))->((xs≠[]->ys≠[]->∀p,H p=none->Q (.ref p) (upd H p (.tup (xs++ys)))))->bP x y H Q
def VX:aW X (binaryOp .Add) bP:=by
 intro U s σ H x y v u Q I rx ry h;obtain⟨a,b,xs,ys,rfl,rfl,ha,hb,hz,q0,q1,q2⟩:=h
 by_cases hx:xs=[]
 .subst hx;exact QaA U s σ H _ _ v u Q I rx ry ⟨a,b,ys,Z,Z,ha,hb,q0 rfl⟩
 .exact Ri U s σ H _ _ v u Q I rx ry ⟨a,b,xs,ys,Z,Z,.inl ha,.inl hb,hx,hz,q1 hx,q2 hx⟩
def bP.deep{ds es:List Dv}(hx:ag H x (.tup ds))(hy:ag H y (.tup es))(hz:ds.length+es.length<=sizeLine)(k:∀v H',Qn H H'->ag H' v (.tup (ds++es))->Q v H'):bP x y H Q:=by
 obtain⟨a,xs,rfl,h1,t1⟩:=hx.YX;obtain⟨b,ys,rfl,h2,t2⟩:=hy.YX;have l1:=t1.length;have l2:=t2.length;refine⟨a,b,xs,ys,Z,Z,.inl h1,.inl h2,by lia,λz=>?_,λ_ z=>?_,λ_ _ p hp=>?_⟩
 .subst z;obtain rfl:ds=[]:=ybk.mp l1.symm;exact k _ _ (Qn.refl _) hy
 .subst z;obtain rfl:es=[]:=ybk.mp l2.symm;rw[lB]at k;exact k _ _ (Qn.refl _) hx
 .have S:=Qn.new (o:=.tup (xs++ys)) hp;exact k _ _ S (.tup Qf ((t1.same S).append (t2.same S)))
inductive CC (f:List V->HO) (x y:V) (H:Hp) (Q:VK):Prop
 |mk (p:Addr) (xs:List V) (i:Int) (v:V):x=.ref p->y=.int i->Rd H p (f xs)->eG xs i=some v->Q v H->CC f x y H Q
def QD:BV X (CC .tup):=λvalue slice U s σ H x y v u Q I rx ry⟨p,xs,i,z,e1,e2,hq,he,q⟩ hs=>JE value slice U s σ H x y v u Q I rx ry ⟨p,xs,i,z,e1,e2,.inl hq,he,q⟩ hs
inductive dX (x:V) (lo:Option Int) (hi:Option Int) (H:Hp) (Q:VK):Prop
 |mk (a xs):x=.ref a->Rd H a (.tup xs)->(((HT.aJ xs.length 0 lo=0/\HT.aJ xs.length xs.length hi=xs.length)->Q (.ref a) H))->((¬ (HT.aJ xs.length 0 lo=0/\HT.aJ xs.length xs.length hi=xs.length)->∀p,H p=none->Q (.ref p) (upd H p (.tup (qx xs lo hi)))))->dX x lo hi H Q
def QcN:BS X dX:=by
 intro U s σ H x v vl vu lo hi sl Q I rx hs pl pu h;obtain⟨a,xs,rfl,hx,q1,q2⟩:=h
 by_cases hw:HT.aJ xs.length 0 lo=0/\HT.aJ xs.length xs.length hi=xs.length
 .cases rx;obtain⟨its,r,ht,hz⟩:=I.tuple (.inl hx);have hlen:its.toArray.size=xs.length:=by rw[lF];exact r.length.symm
  exact⟨"tuple",_,PyProof.Rows.slot_tuple_getitem.lookup,ht.typeIs,vo ht hs pl pu (by rw[hlen];exact hw) ⟨.ref a,H,I,Z,q1 hw⟩⟩
 .exact LR U s σ H (.ref a) v vl vu lo hi sl Q I rx hs pl pu ⟨a,xs,Z,.inl hx,hw,q2 hw⟩
def QaB(xs:List V)(a c:Nat):qx xs (some (a:Int)) (some (c:Int))=(xs.take c).drop a:=by
 unfold qx;rw[HT.Xn,HT.Xn,List.drop_take]
 by_cases h:a<=xs.length
 .rw[show min a xs.length=a by lia];apply ybG;intro i;rw[yem,yem]
  by_cases h1:i<min c xs.length-a
  .rw[yai h1,yai (by lia)]
  .rw[yah h1]
   by_cases h2:i<c-a
   .rw[yai h2,ycs,ybR (by lia)]
   .rw[yah h2]
 .rw[show min a xs.length=xs.length by lia,ybO,ydJ,ycr (by lia),ydJ]
def dX.deep{lo:Nat}{ds:List Dv}(hx:ag H x (.tup ds))(k:∀v H',Qn H H'->ag H' v (.tup ((ds.take hi).drop lo))->Q v H'):dX x (some (lo:Int)) (some (hi:Int)) H Q:=by
 obtain⟨a,xs,rfl,h1,t1⟩:=hx.YX;have l1:=t1.length;refine⟨a,xs,Z,.inl h1,λz=>?_,λ_ p hp=>?_⟩
 .rw[HT.Xn,HT.Xn]at z;refine k _ _ (Qn.refl _) ?_;have e:(ds.take hi).drop lo=ds:=by
   by_cases h0:ds=[]
   .rw[h0];simp
   .have:0<ds.length:=List.length_pos_iff.mpr h0;rw[yav (by lia),show lo=0 by lia,ybF]
  rw[e];exact hx
 .have S:=Qn.new (o:=.tup (qx xs (some (lo:Int)) (some (hi:Int)))) hp;have t2:aj H (qx xs (some (lo:Int)) (some (hi:Int))) ((ds.take hi).drop lo):=by
   rw[QaB];exact(t1.take hi).drop lo
  exact k _ _ S (.tup Qf (t2.same S))
noncomputable def tyD:Dv->String
 | .aq=>"NoneType"
 | .bl _=>"bool"
 | .int _=>"int"
 | .str _=>"str"
 | .tup _=>"tuple"
end
def ag.ty{K:Frag}{H:Hp}{v:V}{d:Dv}(h:ag H v d):bI K H v (.type (tyD d)):=by
 cases h with
 |aq=>exact .aq
 |bl=>exact .bl _
 |int=>exact .int _
 |str=>exact .str _
 |tup h t=>exact .tup h
section
variable {Ok:Hp->Prop}{item:Nat->Hp->V->Hp->Prop}
def xY{ds:List Dv}(h:aj H vs (ds.take i))(S:Qn H H')(e:ds[i]? =some d)(hu:ag H' u d):aj H' (vs++[u]) (ds.take (i+1)):=by
 rw[yaJ,e];exact(h.same S).append (.cons hu .nil)
def WK{nn:Nat}{fi:List Nat}{fv:List V}(F:Fix J n Ok item)(ds:List Dv)(hn:ds.length=n)(h:∀R:It->Hp->Prop,(∀H1,Qn H H1->R J H1)->wi σ H R)(j':fi.map (λi=>σ[i]?)=fv.map (λv=>some (some v)))(ho:∀H1,Qn H H1->Ok H1)(hs:∀i v H1 H2 d(R:V->Hp->Prop),ds[i]? =some d->Qn H H1->item i H1 v H2->(∀u H4,Qn H1 H4->ag H4 u d->R u H4)->g v (replicate nn none++fv.map some) H2 λσ2 H3=>σ2.drop nn=fv.map some/\te σ2 H3 R)(hd:∀xs H1 p,Qn H H1->aj H1 xs ds->H1 p=none->Q (.ref p) (upd H1 p (.lst xs)))(hz:n<sizeLine):VN nn fi wi g oJ te σ H Q:=by
 refine je F (λi vs H1=>Qn H H1/\aj H1 vs (ds.take i)) (λR k=>h R λH1 S=>k H1 ⟨S,.nil⟩) j' (λi vs H1 hi⟨S,t⟩=>⟨ho H1 S,by rw[t.length,tY];lia⟩) ?_ ?_ hz
 .rintro i v vs H1 H2 hi ⟨S,t⟩ it;have e:ds[i]? =some ds[i]:=yad (by lia);exact hs i v H1 H2 _ (λu H4=>Qn H H4/\aj H4 (vs++[u]) (ds.take (i+1))) e S it λu H4 S4 du=>⟨S.trans S4,xY t S4 e du⟩
 .rintro vs H1 ⟨S,t⟩ p hp;rw[yav (by lia)]at t;exact hd vs H1 p S t hp
def QaC{xs:List V}{ds:List Dv}(t:aj H xs ds)(hp:H p=none):ag (upd H p (.tup xs)) (.ref p) (.tup ds):=.tup Qf (t.same (Qn.new hp))
end
def QeC(h:te σ H D.rt):sH te D σ H:=h
def dX.QfU{ds:List Dv}(hx:ag H x (.tup ds))(k:∀v H',Qn H H'->ag H' v (.tup (ds.take hi))->Q v H'):dX x none (some (hi:Int)) H Q:=by
 have h:=dX.deep (lo:=0) (hi:=hi) (Q:=Q) hx (by simpa using k);obtain⟨a,xs,e,h1,h2,h3⟩:=h;refine⟨a,xs,e,h1,λz=>h2 ?_,λz p hp=>?_⟩
 .rw[HT.Xn,yeS];exact⟨Z,z.2⟩
 .have e2:qx xs none (some (hi:Int))=qx xs (some ((0:Nat):Int)) (some (hi:Int)):=by unfold qx;rw[HT.zC,show HT.aJ xs.length 0 (some ((0:Nat):Int))=0 by rw[HT.Xn,yeS]]
  rw[e2];exact h3 (λy=>z ⟨Z,y.2⟩) p hp
def Wk{tt:TT}(h:wi σ H λJ H1=>VN n fi (λ_ H R=>R J H) g tt te σ H1 Q):VN n fi wi g tt te σ H Q:=h
section
def JL{pos pos':Pos}(hN:X.N.Nodup)(hi:X.N[i]? =some x)(hx:Loc X.env.scope x)(he:aA X e te)(hs:swapsWith e (some (.Name x pos')) pos.line X.env=pure false)(hf:X.fn x=true):dP X (.Assign [.Name x pos'] e pos) (J9 te (QL i)):=⟨Qt hN hi hx he.pe hs (.inl hf)⟩
def vq{tg iter:Expr}{body:List Stmt}{pos:Pos}(hp:PassesOwn (model X.prog X.w) X.A X.env X.xe)(hc:X.calm=true)(hi:PI X tg iter wi)(hg:PG X tg g)(hb:fb X body tb)(hs:∀x,foldedSetIterable iter X.env x=pure x):dP X (.For tg iter body [] pos) (Lz wi g tb):=⟨ZR hp hc hi hg hb.ps hs⟩
def Jq{pos:Pos}(he:aA X e te):dP X (.Return (some e) pos) (sH te):=⟨Qp he.pe⟩
end
noncomputable def isStar:Expr->Bool
 | .Starred .. =>true
 |_=>false
def Zp{env:Env}(h:isStar e=false):starEach (e::es) env=(false,eval e env)::starEach es env:=by
 cases e<;>first|rfl|cases h
section
variable {to:TE}{name:Str}{apos ce:Pos}{id:String}
def Qv(ha:PE X e te)(hr:PA X es t)(h:isStar e=false:=by rfl):PA X (e::es) (Je te t):=Qa ha hr (Zp h)
def QeD(pa:PlainAttrs T)(slot:Slot T name id)(BX:typeOf (.builtin id)=pure (.type "method_descriptor"))(hm:fQ X id r)(ho:PE X o to)(ha:PA X [e] t)(h:isStar e=false:=by rfl)(AT:attributeBase o name X.env (eval o X.env)=eval o X.env:=by rfl)(lw:(apos.endLine==ce.line)=true:=by rfl):PE X (.Call (.Attribute o name apos) [e] [] ce) (Ej X.K T r to t):=by
 refine JN pa slot BX hm ho ha AT ?_ lw (Zp h) rfl;rw[Zp h];rfl
def QaD(ha:PA X [e] t)(h:isStar e=false)(lw:(apos.endLine==ce.line)=true):PE X (.Call (.Attribute (.Constant (.str x) j p) "join" apos) [e] [] ce) (Ej X.K "str" (λx vs H Q=>∃(z:Str)(p:Addr)(ys:List Str),x=.str z/\vs=[.ref p]/\aE X.K H p (ys.map V.str)/\JoinOk z ys=true/\Q (.str (Txt.join z ys)) H) (tC (.str x)) t):=
 QeD yaD yck ycl KA Qk ha h rfl lw
def vt(ha:oM X [e] t)(h:isStar e=false)(lw:(apos.endLine==ce.line)=true):aA X (.Call (.Attribute (.Constant (.str x) j p) "join" apos) [e] [] ce) (Ej X.K "str" (λx vs H Q=>∃(z:Str)(p:Addr)(ys:List Str),x=.str z/\vs=[.ref p]/\aE X.K H p (ys.map V.str)/\JoinOk z ys=true/\Q (.str (Txt.join z ys)) H) (tC (.str x)) t):=⟨QaD ha.pa h lw⟩
def M3{pos:Pos}{op:Operator}{r:R2}(hr:aW X (binaryOp op) r)(ha:aA X a ta)(hb:aA X b tb):aA X (.BinOp a op b pos) (dS r ta tb):=⟨QF hr ha.pe hb.pe⟩
def JP(ha:aA X e te)(hr:oM X es t)(h:isStar e=false):oM X (e::es) (Je te t):=⟨Qa ha.pe hr.pa (Zp h)⟩
def QeE{pos:Pos}(hc:PT X c tA)(ha:aA X a ta)(hb:aA X b tb):aA X (.IfExp c a b pos) (Lp tA ta tb):=⟨Jh hc ha.pe hb.pe⟩
def X0{pos:Pos}(h:oM X es t):aA X (.Tuple es k pos) (FT t):=⟨Qs h.pa⟩
def M6{t1 u:TS}{pos:Pos}(hc:PT X c tc)(ha:fb X a t1)(hb:fb X b u):dP X (.If c a b pos) (BI tc t1 u):=⟨QN hc ha.ps hb.ps⟩
def ZH:fb X [] Q4:=⟨Qu⟩
end
def j8:typeLookup (.type "tuple") "__reversed__"=pure none:=by rw[ybt,yaO];kernel_rfl
def VY:typeLookup (.type "tuple") "__getitem__"=pure (some (.builtin "tuple.__getitem__")):=by rw[ybt,yaO];kernel_rfl
def sub_tuple_dict:isSubtype (.type "tuple") (.type "dict")=pure false:=by rw[ydq];kernel_rfl
abbrev Zw(h:Heap)(it a:Addr)(i:Int):Prop:=h.get? it=some {cls:=.type "reversed",data:=.fields #[.ref a,rawInt i]}
def xZ(a:Addr)(xs:Array Value):Meets (Builtin.«reversed.__new__» ⟨[.type "reversed",.ref a],[]⟩) (λ_ R s=>IsTup s.heap a xs/\((xs.size:Nat):Int)<2^63/\∀k,R (.ok (.ret (.ref s.heap.objs.size))) {s with heap:=s.heap.push {cls:=.type "reversed",data:=.fields #[.ref a,rawInt ((xs.size:Int)-1)]},toks:=k}):=
 .of_wp λprog w A R s h=>by
  obtain⟨hp,g,d,tk,os⟩:=s;obtain⟨h1,hl,h⟩:=h;have lN:=ycn;have ht:Shared.TypeIs ⟨hp,g,d,tk,os⟩ (.ref a) "tuple":=by obtain⟨o,e,c,_⟩:=h1;exact⟨o,e,c⟩
  have hx:=j8;have hy:=VY;have hd:=sub_tuple_dict;have p1:IsTup (Shared.heap ⟨hp,g,d,tk,os⟩) a xs:=h1
  wp_walk using yaN ht hx ?_,yaN ht hy ?_,len_tuple p1 hl ?_
  exact⟨_,Z,h _⟩
def J4:Slot "reversed" (Str.ofString "__next__") "reversed.__next__":=Slot.of (owner:="reversed") (n:="__next__") (by rw[ybt,yaO];kernel_rfl) (by rfl') (by rfl') (by rfl') (Or.inl (by rfl')) ycn (by rfl')
def Wl:Slot "reversed" (Str.ofString "__iter__") "reversed.__iter__":=Slot.of (owner:="reversed") (n:="__iter__") (by rw[ybt,yaO];kernel_rfl) (by rfl') (by rfl') (by rfl') (Or.inl (by rfl')) ycn (by rfl')
def Ku:entryFor table "reversed.__next__"=some Builtin.«reversed.__next__»:=entryFor_of_tree (by kernel_rfl)
def Wm(a:Value):argsOk "reversed.__next__" {pos:=[a]}:=by first|with_unfolding_all rfl|kernel_rfl
def UB(a:Value):argsOk "reversed.__iter__" {pos:=[a]}:=by first|with_unfolding_all rfl|kernel_rfl
def j9:isSubtype (.type "reversed") (.type "object")=pure true:=by rw[ydq];kernel_rfl
def UC:Slot "reversed" (Str.ofString "__init__") "object.__init__":=Slot.of (owner:="object") (n:="__init__") (by rw[ybt,yaO];kernel_rfl) (by rfl') (by rfl') (by rfl') (Or.inl (by rfl')) j9 (by rfl')
def x0:TypeCalled "reversed" "reversed.__new__" "object.__init__":=⟨by lia,F.create_reversed,⟨_,_,F.mro_reversed⟩,F.made_reversed,ydD,ycn,UC⟩
def Yy:entryFor table "reversed.__iter__"=some Builtin.«dict_keyiterator.__iter__»:=entryFor_alias (id':="dict_keyiterator.__iter__") (by rw[fastTable_eq_tree];kernel_rfl) (by first|kernel_rfl|rfl') (by first|kernel_rfl|rfl') (by rw[fastTable_eq_tree];kernel_rfl)
section
variable {prog:Program}
def vv{it a:Addr}{i:Nat}{xs:Array Value}{x:Value}{Q:Value->Shared->Prop}(h:Zw s.heap it a (i:Int))(hT:IsTup s.heap a xs)(hi:i<xs.size)(hl:((xs.size:Nat):Int)<2^63)(hx:xs[i]? =some x)(hQ:∀h' k,Zw h' it a ((i:Int)-1)->Heap.SameBut it s.heap h'->Q x {s with heap:=h',toks:=k}):wpAny (model prog w) A (Builtin.«reversed.__next__» ⟨[.ref it],[]⟩) (λfin s'=>∃v,fin=.done (.ret v)/\Q v s') E s:=by
 have ht:Shared.TypeIs s (.ref a) "tuple":=by obtain⟨o,e,c,_⟩:=hT;exact⟨o,e,c⟩
 have hn:¬ ((i:Int)<0):=by lia
 show wpAny _ _ (field (.ref it) 0>>=_) _ _ _;refine yaa (yaG h Z (x:=.ref a) Z ?_);refine yaa (yaG h Z (x:=rawInt (i:Int)) Z ?_);unfold rawInt;dsimp only;rw[yah hn];refine yaa (yaN ht VY ?_);rw[yah (by lia)];refine yaa (wpAny_mkInt ?_);refine yaa (yde (getItem_tuple (s:={s with toks:=s.toks+1}) (j:=i) hT (by lia) (by lia) ?_ hx ?_))
 .unfold seqIndex?;dsimp only;rw[yah hn,yai (by simp;lia)];rfl
 dsimp only;refine yaa (yaG (s:={s with toks:=s.toks+1}) h Z (x:=rawInt (i:Int)) Z ?_);unfold rawInt;dsimp only;refine yaa (ybw (s:={s with toks:=s.toks+1}) h (by simp) λh₁ iI Ty=>?_);exact yac ⟨_,Z,hQ _ _ iI Ty⟩
def QaE{it a:Addr}(h:Zw s.heap it a (-1))(hh:A.handled=none)(hE:∀h' e k,(∀c o,c≠it->s.heap.get? c=some o->h'.get? c=some o)->(∃o,h'.get? e=some o/\o.cls=.type "StopIteration")->E (.ref e) {s with heap:=h',toks:=k}):wpAny (model prog w) A (Builtin.«reversed.__next__» ⟨[.ref it],[]⟩) Q E s:=by
 show wpAny _ _ (field (.ref it) 0>>=_) _ _ _;refine yaa (yaG h Z (x:=.ref a) Z ?_);refine yaa (yaG h Z (x:=rawInt (-1)) Z ?_);unfold rawInt;dsimp only;rw[yai (by lia)];refine yaa (ycV ?_)
 wp_walk
 refine wpAny_raiseNew_none hh ?_;refine hE _ _ _ (λc o hc e=>?_) ⟨_,yag _ rfl,Z⟩;refine yab _ (yab _ ?_);rw[Heap.get?_update_ne _ _ _ _ hc,Heap.get?_update_ne _ _ _ _ hc];exact e
def Xu{it a:Addr}(h:Zw s.heap it a i)(hQ:Q (.ref it) s):wpAny (model prog w) A (pyIter (.ref it)) Q E s:=
 have hT:s.TypeIs (.ref it) "reversed":=⟨_,h,Z⟩
 wpAny_pyIter_slot hT Wl (yaM Wl hT Yy (id (yac ⟨_,Z,"reversed",.builtin "reversed.__next__",hT,J4.lookup,hQ⟩)) (UB _))
def VZ{it a:Addr}{i:Nat}{xs:Array Value}(h:Zw s.heap it a (i:Int))(hT:IsTup s.heap a xs)(hi:i<xs.size)(hl:((xs.size:Nat):Int)<2^63)(hx:xs[i]? =some x)(hQ:∀h' k,Zw h' it a ((i:Int)-1)->Heap.SameBut it s.heap h'->Q (some x) {s with heap:=h',toks:=k}):wpAny (model prog w) A (pyNext (.ref it)) Q E s:=by
 have iJ:s.TypeIs (.ref it) "reversed":=⟨_,h,Z⟩;unfold pyNext;exact yaa (yde (yaP (name:=Str.ofString "__next__") iJ J4 (yaM J4 iJ Ku (vv h hT hi hl hx λh' k a1 a2=>yac (hQ h' k a1 a2)) (Wm _))))
def YY{it a:Addr}(h:Zw s.heap it a (-1))(hh:A.handled=none)(hQ:∀h' k,(∀c o,c≠it->s.heap.get? c=some o->h'.get? c=some o)->Q none {s with heap:=h',toks:=k}):wpAny (model prog w) A (pyNext (.ref it)) Q E s:=by
 have iJ:s.TypeIs (.ref it) "reversed":=⟨_,h,Z⟩;unfold pyNext;refine yaa (yde (yaP (name:=Str.ofString "__next__") iJ J4 (yaM J4 iJ Ku (QaE h hh λh' e k hk he=>?_) (Wm _))));obtain⟨o,ho,hc⟩:=he;refine yaa (ycN (T:="StopIteration") (b:=true) ⟨o,ho,hc⟩ isSubtype_stop ?_);exact yac (hQ _ _ hk)
def jh{xs:Array Value}(hT:IsTup s.heap a xs)(hl:((xs.size:Nat):Int)<2^63)(hQ:∀k,Q (.ref s.heap.objs.size) {s with heap:=s.heap.push {cls:=.type "reversed",data:=.fields #[.ref a,rawInt ((xs.size:Int)-1)]},toks:=k}):wpAny (model prog w) A (call (.type "reversed") [.ref a]) Q E s:=
 callType_new x0 (by lia) (F.typeCall_reversed_1 _) (F.newCall_reversed_1 _) (λobj=>F.args_object_init_2 obj _) F.entry_reversed_new (xZ a xs) ⟨hT,hl,λk=>⟨⟨_,yag _ rfl,Z⟩,hQ k⟩⟩
end
noncomputable def G1(K:Frag)(a:Addr)(n:Nat):It:=⟨λi H=>∃xs x,aw K H a xs/\xs.length=n/\i<n/\xs[n-1-i]? =some x,λi H v H'=>H'=H/\∀xs,aw K H a xs->xs[n-1-i]? =some v,λi H=>i=n⟩
def vw{P:Program}{w:World}{K:Frag}{tg:Expr}(a it:Addr)(n:Nat):Turn P w K tg (G1 K a n) [it] it (λi h=>i<=n/\Zw h it a ((n:Int)-1-(i:Int))) where
 mem:=by simp
 obj:=λi h st b hb=>by
  have e:b=it:=by simpa using hb
  subst e;exact⟨_,st.2,λv z=>nomatch (show Data.fields _=Data.cell v from z)⟩
 keep:=λi h h' st k=>⟨st.1,k it (by simp) _ st.2⟩
 item:=by
  intro X hP hw hK hc i U s σ H E I hf st hg;subst hP hw hK;obtain⟨xs,x,hq,hl,hi,hx⟩:=hg;obtain⟨its,rv,p,hz⟩:=I.tuple hq;obtain⟨u,hu,ru⟩:=rv.get hx;obtain⟨f0,f1,f2,f3,f4,f5⟩:=hf it (by simp);have e1:(n:Int)-1-(i:Int)=((n-1-i:Nat):Int):=by lia
  have Do:=st.2;rw[e1]at Do;have hlen:=rv.length;have EG:=Xf;refine VZ (xs:=its.toArray) (x:=u) Do p (by rw[lF];lia) (by rw[lF];lia) (by simpa using hu) λh' k Db sb=>?_;have I1:Inv X U σ H {s with heap:=h',toks:=k}:=I.turned (t':=k) (λb o hb e=>(sb.2 b hb).trans e) f0 f1 f3 f4 f5;have e2:((n-1-i:Nat):Int)-1=(n:Int)-1-((i+1:Nat):Int):=by lia
  rw[e2]at Db;exact⟨u,Z,xw (s:={s with heap:=h',toks:=k}) Db rfl rfl (by lia) ⟨x,H,I1,ru,⟨Z,λys hy=>by rw[I.Vv hy hq];exact hx⟩,⟨by lia,Db⟩,λb hb=>(hf b hb).1⟩⟩
 done:=by
  intro X hP hw hK hc i U s σ H E I hf st hg;subst hP hw hK;have hg:i=n:=hg;obtain⟨f0,f1,f2,f3,f4,f5⟩:=hf it (by simp);have Do:=st.2;rw[show(n:Int)-1-(i:Int)= -1 by lia]at Do;exact YY Do (I.ok.hd hc) λh' k eb=>⟨Z,I.turned (t':=k) (λb o hb e=>eb b o hb e) f0 f1 f3 f4 f5⟩
 self:=λ_ _ _ _ _ st h=>Xu st.2 h
section
def Qha(K:Frag)(ta:TA):TI:=λσ H R=>ta σ H λvs H1=>∃a xs,vs=[.ref a]/\aw K H1 a xs/\R (G1 K a xs.length) H1
def QcO{p pos:Pos}(hg:Gl X "reversed")(hm:X.mg "reversed"=none)(ha:PA X [e] ta)(h1:isStar e=false):PI X tg (.Call (.Name "reversed" p) [e] [] pos) (Qha X.K ta):=by
 intro U s σ H R I h;refine Call_ (ZQ I hg hm ydH (yau (ax (ha pos U s σ H _ I h) λus s1⟨vs,H1,I1,r1,a,xs,e,hq,q⟩=>?_) (Zp h1) Z));subst e;obtain⟨u,rfl,rfl⟩:=vals1 r1;obtain⟨its,rv,pp,hz⟩:=I1.tuple hq;have hlen:=rv.length;have EG:=Xf;refine jh (xs:=its.toArray) pp (by rw[lF];lia) λk=>?_;have g:Zw (s1.heap.push {cls:=.type "reversed",data:=.fields #[.ref a,rawInt ((its.toArray.size:Int)-1)]}) s1.heap.objs.size a ((xs.length:Int)-1-((0:Nat):Int)):=by
  have e:(xs.length:Int)-1-((0:Nat):Int)=(its.toArray.size:Int)-1:=by rw[lF];lia
  rw[e];exact yag _ rfl
 refine Xu (s:={s1 with heap:=s1.heap.push {cls:=.type "reversed",data:=.fields #[.ref a,rawInt ((its.toArray.size:Int)-1)]},toks:=k}) g ?_;refine⟨s1.heap.objs.size,[s1.heap.objs.size],_,_,H1,Z,I1.kept (t':=k) λb o e=>yab _ e,vw a _ xs.length,⟨lG _,g⟩,λb hb=>?_,q⟩;obtain rfl:b=s1.heap.objs.size:=by simpa using hb
 exact I1.xv (tO _) (I1.ao.fresh (tO _))
end
def QfW{K:Frag}{xs:List V}:Fix (G1 K a xs.length) xs.length (λH=>aw K H a xs) (λi H v H'=>H'=H/\xs[xs.length-1-i]? =some v):=
 ⟨λi H ok h=>let ⟨x,e⟩:=EF (xs:=xs) (i:=xs.length-1-i) (by lia);⟨xs,x,ok,Z,h,e⟩,λH ok=>rfl,λi H v H' ok _ y=>⟨y.1,y.2 _ ok⟩⟩
section
open Classical in
def za(hr:Zc k A):A.units+16<cLine:=Nat.lt_of_le_of_lt (by lia:A.units+16<=A.units+64) hr.units
def QcP{p p2 pos P3:Pos}(hg:Gl X "reversed")(hm:X.mg "reversed"=none)(hg2:Gl X "range")(hm2:X.mg "range"=none)(ha:PA X [a] ta)(h1:isStar a=false):PI X tg (.Call (.Name "reversed" p) [.Call (.Name "range" p2) [a] [] P3] [] pos) (Qg9 (λσ H Q=>ta σ H λvs H1=>Q (.int 0::vs) H1)):=by
 intro U s σ H R I h;have EA:starEach [.Call (.Name "range" p2) [a] [] P3] X.env=[(false,eval (.Call (.Name "range" p2) [a] [] P3) X.env)]:=rfl;refine Call_ (ZQ I hg hm ydH (yau ?_ EA Z));rw[EA];show wpAny _ _ (spliced ((false,eval (.Call (.Name "range" p2) [a] [] P3) X.env)::[])) _ _ s;refine ybv ?_;refine Call_ (ZQ I hg2 hm2 boot_range (yau (ax (ha P3 U s σ H _ I h) λus s1⟨vs,H1,I1,r1,i,j,e,bd,q⟩=>?_) (Zp h1) Z));obtain⟨rfl,rfl⟩:(0:Int)=i/\vs=[.int j]:=by
  injection e with e1 e2;injection e1 with e1;exact⟨e1,e2⟩
 obtain⟨v1,rfl,⟨t,rfl⟩⟩:=vals1 r1;refine call_range_1 (ycc ?_);have I2:Inv X U σ H1 {s1 with heap:=s1.heap.push {cls:=.type "range",data:=.fields #[.int 0 s1.toks,.int j t,.int 1 (s1.toks+1)]},toks:=s1.toks+1+1}:=I1.kept λb o e=>yab _ e;refine jg (s:={s1 with heap:=s1.heap.push {cls:=.type "range",data:=.fields #[.int 0 s1.toks,.int j t,.int 1 (s1.toks+1)]},toks:=s1.toks+1+1}) (IsRange.new ..) bd ?_;generalize M7:({s1 with heap:=s1.heap.push {cls:=.type "range",data:=.fields #[.int 0 s1.toks,.int j t,.int 1 (s1.toks+1)]},toks:=s1.toks+1+1}:Shared)=s2 at I2;have hit:IsRangeIter (s2.heap.push (Be 0 j)) s2.heap.objs.size (0+((j-0).toNat:Nat)-1+((0:Nat):Int)*(-1)) ((((j-0).toNat:Nat):Int)-((0:Nat):Int)) (-1):=by
  have e1:0+((j-0).toNat:Nat)-1+((0:Nat):Int)*(-1)=0+(Builtin.Range.rangeSize 0 j 1-1)*1:=by rw[vn];simp
  have e2:(((j-0).toNat:Nat):Int)-((0:Nat):Int)=Builtin.Range.rangeSize 0 j 1:=by rw[vn];simp
  rw[e1,e2];exact yag _ rfl
 refine ydj (s:={s2 with heap:=s2.heap.push (Be 0 j)}) hit ?_;refine⟨s2.heap.objs.size,[s2.heap.objs.size],_,_,H1,Z,I2.kept (t':=s2.toks) λb o e=>yab _ e,VM _ _ (-1) _,hit,λb hb=>?_,q⟩;obtain rfl:b=s2.heap.objs.size:=by simpa using hb
 exact I2.xv (tO _) (I2.ao.fresh (tO _))
end
structure ei(X:Cx)(e:Expr)(t:TT):Prop where
 pt:PT X e t
structure EH(X:Cx)(e:Expr)(t:TT):Prop where
 pw:PW X e t
section
variable {rest:List Expr}{pos apos ce:Pos}{to:TE}{t1:TT}{sp:Sp}{id:String}{name:Str}
def zV(h:aA X (.Call f es ks pos) te):ei X (.Call f es ks pos) (tB te):=⟨XT h.pe⟩
def vz(h:ei X a t1):ei X (.UnaryOp .Not a pos) (Lo t1):=⟨KS h.pt⟩
def vA(h:ei X a t1):EH X (.BoolOp .Or [a] pos) t1:=⟨JV h.pt⟩
def M8(h:ei X a t1)(hb:EH X (.BoolOp .Or (b::rest) pos) t2):EH X (.BoolOp .Or (a::b::rest) pos) (Ln t1 t2):=⟨ZP h.pt hb.pw⟩
def M9(h:EH X e t1):ei X e t1:=⟨h.pw.pt⟩
def Xv{s1 s2:List Stmt}(hc:ei X c t1)(ha:fb X s1 u1)(hb:fb X s2 u2):dP X (.If c s1 s2 pos) (BI t1 u1 u2):=⟨QN hc.pt ha.ps hb.ps⟩
def vB(D:Def X.prog X.w X.K X.mg X.Y k x ps sp)(hr:Zc k' X.A)(hk:k<=k')(hg:Gl X x)(hx:Passes (av X.prog X.w) X E)(ha:oM X [e] t)(h:isStar e=false)(mo:(x==("__debug__":Str))=false):aA X (.Call (.Name x p) [e] [] pos) (XS sp [] E t):=⟨D.pe hr hk hg hx ha.pa mo (Zp h) rfl⟩
def X1(D:Def X.prog X.w X.K X.mg X.Y k x ps sp)(hr:Zc k' X.A)(hk:k<=k')(hg:Gl X x)(hx:Passes (av X.prog X.w) X E)(ha:oM X [e,f] t)(h:isStar e=false)(h2:isStar f=false)(mo:(x==("__debug__":Str))=false):aA X (.Call (.Name x p) [e,f] [] pos) (XS sp [] E t):=⟨D.pe hr hk hg hx ha.pa mo (Zp h) (by rw[Zp h2];rfl)⟩
def QaF(ha:aA X a ta)(hb:aA X b tb):aA X (.BoolOp .And [a,b] pos) (FC ta tb):=⟨YO ha.pe (YN hb.pe)⟩
end
structure bf(P:Program)(w:World)(K:Frag)(mg:Str->Option Value)(Y:Heap)(C:Addr)(k:Nat)(m:Str)(ps:List Str)(sp:Sp):Prop where
 cl:eh K C
 ex:∃f fd,Meth K C m f/\Binds K fd ps []/\Zz1 P w K mg Y k f fd ps sp
structure fZ(P:Program)(w:World)(K:Frag)(mg:Str->Option Value)(Y:Heap)(C:Addr)(k:Nat)(x:Str)(ps:List Str)(sp:Sp):Prop where
 mgC:mg x=some (.ref C)
 ex:∃f fd,Mk K C f/\Binds K fd ps []/\Zz1 P w K mg Y k f fd ps sp
section
variable {X:Cx}{E:XK}{o e:Expr}{es:List Expr}{ta:TE}{t:TA}{k k':Nat}{x m:Str}{ps:List Str}{sp:Sp}{C:Addr}{pl:Sem Bool}{p pos apos:Pos}
def bf.pe(D:bf X.prog X.w X.K X.mg X.Y C k m ps sp)(hr:Zc k' X.A)(hk:k<=k')(hx:Passes (av X.prog X.w) X E)(he:PE X o ta)(ha:PA X (e::es) t)(lm:starEach (e::es) X.env=(false,eval e X.env)::starEach es X.env:=by rfl)(dL:(backTo pos (starEach es X.env)).any (·.1)=false:=by rfl)(ht:eval (.Call (.Attribute o m apos) (e::es) [] pos) X.env=(do
   let ov<-eval o X.env
   standAt apos.atName
   let (f,first)<-holding [ov] (getMethod ov m pl)
   callWith pos f first (backTo pos (starEach (e::es) X.env)) (backToKw pos (keywordEach [] X.env))):=by rfl):PE X (.Call (.Attribute o m apos) (e::es) [] pos) (Ue C m sp [] E ta t):=by
 obtain⟨f,fd,hm,hb,F⟩:=D.ex;exact k8 he D.cl hm F (hr.mono hk) hb .nil hx ha lm dL ht
def fZ.pe(D:fZ X.prog X.w X.K X.mg X.Y C k x ps sp)(hr:Zc k' X.A)(hk:k+1<=k')(hg:Gl X x)(hx:Passes (av X.prog X.w) X E)(ha:PA X (e::es) t)(mo:(x==("__debug__":Str))=false:=by lia)(he:starEach (e::es) X.env=(false,eval e X.env)::starEach es X.env:=by rfl)(dL:(backTo pos (starEach es X.env)).any (·.1)=false:=by rfl):PE X (.Call (.Name x p) (e::es) [] pos) (LL C sp [] E t):=by
 obtain⟨f,fd,qMa,hb,F⟩:=D.ex;exact Rc qMa F (hr.mono hk) hg D.mgC hb .nil hx ha mo he dL
end
open Builtin in
section
variable {P:Program}{w:World}{K:Frag}{mg:Str->Option Value}{Y h:Heap}{x:Str}{st:Stmt}{k:Nat}{sp:Sp}{p1 p2 p3 p4:Str}
def ai.d0(D:ai K x st)(X:K.In h)(G:h.Ns mainGlobals mg)(ao:∀f fd,az K x x st f fd->Zz1 P w K mg Y k f fd [] sp)(hb:∀(kV doc pm:Value)(an:Option Addr)(am ct:Value),bindArgs (fnOf x x (Q7 st) (QS st) (Qe st) .none kV doc pm an am ct) ⟨[],[]⟩=pure []):Def P w K mg Y k x [] sp:=
 D.def X G ao λkV doc pm an am ct us hl=>match us,hl with|[],_=>hb kV doc pm an am ct
def ai.d1(D:ai K x st)(X:K.In h)(G:h.Ns mainGlobals mg)(ao:∀f fd,az K x x st f fd->Zz1 P w K mg Y k f fd [p1] sp)(hb:∀(kV doc pm:Value)(an:Option Addr)(am ct:Value)(u1:Value),bindArgs (fnOf x x (Q7 st) (QS st) (Qe st) .none kV doc pm an am ct) ⟨[u1],[]⟩=pure [(p1,u1)]):Def P w K mg Y k x [p1] sp:=
 D.def X G ao λkV doc pm an am ct us hl=>match us,hl with|[u1],_=>hb kV doc pm an am ct u1
def ai.d2(D:ai K x st)(X:K.In h)(G:h.Ns mainGlobals mg)(ao:∀f fd,az K x x st f fd->Zz1 P w K mg Y k f fd [p1,p2] sp)(hb:∀(kV doc pm:Value)(an:Option Addr)(am ct:Value)(u1 u2:Value),bindArgs (fnOf x x (Q7 st) (QS st) (Qe st) .none kV doc pm an am ct) ⟨[u1,u2],[]⟩=pure [(p1,u1),(p2,u2)]):Def P w K mg Y k x [p1,p2] sp:=
 D.def X G ao λkV doc pm an am ct us hl=>match us,hl with|[u1,u2],_=>hb kV doc pm an am ct u1 u2
def ai.d3(D:ai K x st)(X:K.In h)(G:h.Ns mainGlobals mg)(ao:∀f fd,az K x x st f fd->Zz1 P w K mg Y k f fd [p1,p2,p3] sp)(hb:∀(kV doc pm:Value)(an:Option Addr)(am ct:Value)(u1 u2 u3:Value),bindArgs (fnOf x x (Q7 st) (QS st) (Qe st) .none kV doc pm an am ct) ⟨[u1,u2,u3],[]⟩=pure [(p1,u1),(p2,u2),(p3,u3)]):Def P w K mg Y k x [p1,p2,p3] sp:=
 D.def X G ao λkV doc pm an am ct us hl=>match us,hl with|[u1,u2,u3],_=>hb kV doc pm an am ct u1 u2 u3
def ai.d4(D:ai K x st)(X:K.In h)(G:h.Ns mainGlobals mg)(ao:∀f fd,az K x x st f fd->Zz1 P w K mg Y k f fd [p1,p2,p3,p4] sp)(hb:∀(kV doc pm:Value)(an:Option Addr)(am ct:Value)(u1 u2 u3 u4:Value),bindArgs (fnOf x x (Q7 st) (QS st) (Qe st) .none kV doc pm an am ct) ⟨[u1,u2,u3,u4],[]⟩=pure [(p1,u1),(p2,u2),(p3,u3),(p4,u4)]):Def P w K mg Y k x [p1,p2,p3,p4] sp:=
 D.def X G ao λkV doc pm an am ct us hl=>match us,hl with|[u1,u2,u3,u4],_=>hb kV doc pm an am ct u1 u2 u3 u4
end
structure MethAt(K:Frag)(C:Addr)(m q:Str)(st:Stmt):Prop where
 ex:∃f fd,Meth K C m f/\az K m q st f fd
def vC{K:Frag}{m q:Str}{st:Stmt}{od an:Option Addr}{ge:Array (Option Value)}{kV doc pm am ct:Value}(a:findIn K (.ref C) m=some (some (.ref f)))(i:isFn K (.ref f)=true)(l:K.lookup f=some ⟨oc,od,.func (fnOf m q (Q7 st) (QS st) (Qe st) .none kV doc pm an am ct),ge⟩)(c:codeIn K am q=true)(k:keepIn K (.ref f)=true):MethAt K C m q st:=
 ⟨f,_,⟨a,i,k⟩,⟨⟨oc,od,kV,doc,pm,an,am,ct,ge,Z,l,c⟩,k⟩⟩
section
variable {P:Program}{w:World}{K:Frag}{mg:Str->Option Value}{Y:Heap}{C:Addr}{x m q:Str}{st:Stmt}{k:Nat}{p1 p2:Str}{sp:Sp}
def MethAt.M'(D:MethAt K C m q st)(cl:eh K C)(ao:∀f fd,az K m q st f fd->Zz1 P w K mg Y k f fd [p1,p2] sp)(hb:∀(kV doc pm:Value)(an:Option Addr)(am ct:Value)(u1 u2:Value),bindArgs (fnOf m q (Q7 st) (QS st) (Qe st) .none kV doc pm an am ct) ⟨[u1,u2],[]⟩=pure [(p1,u1),(p2,u2)]):bf P w K mg Y C k m [p1,p2] sp:=by
 obtain⟨f,fd,qMa,F⟩:=D.ex;exact⟨cl,f,fd,qMa,F.binds (ps:=[p1,p2]) λkV doc pm an am ct us hl=>match us,hl with|[u1,u2],_=>hb kV doc pm an am ct u1 u2,ao f fd F⟩
def MethAt.dc2(D:MethAt K C "__init__" q st)(hx:mg x=some (.ref C))(mk:makesIn K C=true)(kp:keepIn K (.ref C)=true)(ao:∀f fd,az K "__init__" q st f fd->Zz1 P w K mg Y k f fd [p1,p2] sp)(hb:∀(kV doc pm:Value)(an:Option Addr)(am ct:Value)(u1 u2:Value),bindArgs (fnOf "__init__" q (Q7 st) (QS st) (Qe st) .none kV doc pm an am ct) ⟨[u1,u2],[]⟩=pure [(p1,u1),(p2,u2)]):fZ P w K mg Y C k x [p1,p2] sp:=by
 obtain⟨f,fd,qMa,F⟩:=D.ex;exact⟨hx,f,fd,⟨mk,qMa.at_,qMa.fn,kp⟩,F.binds (ps:=[p1,p2]) λkV doc pm an am ct us hl=>match us,hl with|[u1,u2],_=>hb kV doc pm an am ct u1 u2,ao f fd F⟩
end
section
variable {P:Program}{w:World}{K:Frag}{mg:Str->Option Value}{Y:Heap}{C:Addr}{m q:Str}{st:Stmt}{k:Nat}{p1 p2 p3:Str}{sp:Sp}
def MethAt.G2(D:MethAt K C m q st)(cl:eh K C)(ao:∀f fd,az K m q st f fd->Zz1 P w K mg Y k f fd [p1,p2,p3] sp)(hb:∀(kV doc pm:Value)(an:Option Addr)(am ct:Value)(u1 u2 u3:Value),bindArgs (fnOf m q (Q7 st) (QS st) (Qe st) .none kV doc pm an am ct) ⟨[u1,u2,u3],[]⟩=pure [(p1,u1),(p2,u2),(p3,u3)]):bf P w K mg Y C k m [p1,p2,p3] sp:=by
 obtain⟨f,fd,qMa,F⟩:=D.ex;exact⟨cl,f,fd,qMa,F.binds (ps:=[p1,p2,p3]) λkV doc pm an am ct us hl=>match us,hl with|[u1,u2,u3],_=>hb kV doc pm an am ct u1 u2 u3,ao f fd F⟩
end
def vD:typeLookup (.type "reversed") "__len__"=pure none:=by rw[ybt,yaO];kernel_rfl
def Xw:Slot "reversed" (Str.ofString "__length_hint__") "reversed.__length_hint__":=Slot.of (owner:="reversed") (n:="__length_hint__") (by rw[ybt,yaO];kernel_rfl) (by rfl') (by rfl') (by rfl') (Or.inr (by rfl')) ycn (by rfl')
def Yz:entryFor table "reversed.__length_hint__"=some Builtin.«reversed.__length_hint__»:=entryFor_of_tree (by kernel_rfl)
def UD(a:Value):argsOk "reversed.__length_hint__" {pos:=[a]}:=by first|with_unfolding_all rfl|kernel_rfl
section
variable {prog:Program}
def UE{it a:Addr}{xs:Array Value}(h:Zw s.heap it a ((xs.size:Int)-1))(hT:IsTup s.heap a xs)(hl:((xs.size:Nat):Int)<2^63)(hQ:∀t k,Q (.int (xs.size:Nat) t) {s with toks:=k}):wpAny (model prog w) A (call (.builtin "reversed.__length_hint__") [.ref it]) Q E s:=by
 refine yaM Xw ⟨_,h,Z⟩ Yz ?_ (UD _);show wpAny _ _ (field (.ref it) 0>>=_) _ _ _;refine yaa (yaG h Z (x:=.ref a) Z ?_);refine ycf (λIR=>Bool.noConfusion IR) (λ_=>?_);refine yaa (len_tuple hT (by lia) ?_);refine yaa (m:=asInt? _) (yac ?_);refine yaa (yaG (s:={s with toks:=s.toks+1+1}) h Z (x:=rawInt ((xs.size:Int)-1)) Z ?_);refine ycf (λIR=>absurd IR (by lia)) (λ_=>?_);have e:(xs.size:Int)-1+1=((xs.size:Nat):Int):=by lia
 rw[e];exact yaa (wpAny_mkInt (yac ⟨_,Z,hQ _ _⟩))
def vE{it a:Addr}{xs:Array Value}(h:Zw s.heap it a ((xs.size:Int)-1))(hT:IsTup s.heap a xs)(hl:xs.size<=sizeLine)(hQ:∀b k,Q b {s with toks:=k}):wpAny (model prog w) A (Builtin.List.listLengthHint (.ref it)) Q E s:=by
 have hR:s.TypeIs (.ref it) "reversed":=⟨_,h,Z⟩;have EG:=Xf;unfold Builtin.List.listLengthHint;refine yaa (yaN hR vD ?_);refine ycf (λIR=>Bool.noConfusion IR) (λ_=>?_);refine ycf (λIR=>Bool.noConfusion IR) (λ_=>?_);refine yaa (yaN hR Xw.lookup ?_);generalize bB:("reversed.__length_hint__":String)=Ep
 wp_delta
 rw[show splitId Ep=some ("reversed","__length_hint__")from by subst bB;rfl'];subst bB;refine yaa (ycN (T:="reversed") (b:=true) hR (by rw[ydq];kernel_rfl) ?_);refine ycf (λIR=>absurd IR (by lia)) (λ_=>?_);refine ycf (λIR=>absurd IR (by rfl')) (λ_=>?_);refine yaa (ycV ?_);refine yaa (ybz (Xw.bind _) ?_);refine yaa (yde (UE h hT (by lia) λt k=>?_));dsimp only;have e1:asInt? (Value.int ((xs.size:Nat):Int) t)=pure (some ((xs.size:Nat):Int)):=rfl;have Gc:Builtin.List.listTooLong (((xs.size:Nat):Int).toNat)=false:=by
  show decide (_>sizeLine)=false;exact tM (by lia)
 have iG:Builtin.List.listFitsIndex ((xs.size:Nat):Int)=true:=by
  unfold Builtin.List.listFitsIndex;rw[yay];exact⟨tN (by lia),tN (by lia)⟩
 have iK:¬ ((xs.size:Nat):Int)<0:=by lia
 generalize ((xs.size:Nat):Int)=n at e1 Gc iG iK ⊢;refine yaa (ybz e1 ?_);dsimp only;rw[iG,Gc,yah (by lia),yah iK,yah (by lia)];exact yac (hQ _ _)
def zW(xs:Array Value)(i:Nat)(v:Value):Prop:=xs[xs.size-1-i]? =some v
def x5(hh:A.handled=none)(I a:Addr)(sw:I≠a)(xs:Array Value)(hl:((xs.size:Nat):Int)<2^63):Walks prog w A I [I,a] [I] xs.size (zW xs) (λi h=>i<=xs.size/\Zw h I a ((xs.size:Int)-1-(i:Int))/\IsTup h a xs) where
 sub:=λb hb=>by simp at hb;simp[hb]
 frame:=λi h h' st hk=>⟨st.1,hk I (by simp) _ st.2.1,by obtain⟨o,e,r⟩:=st.2.2;exact⟨o,hk a (by simp) o e,r⟩⟩
 item:=λi s Q E hi st hQ=>by
  have e1:(xs.size:Int)-1-(i:Int)=((xs.size-1-i:Nat):Int):=by lia
  have Do:=st.2.1;rw[e1]at Do;obtain⟨x,hx⟩:∃x,xs[xs.size-1-i]? =some x:=⟨_,yaR (by lia)⟩;refine VZ Do st.2.2 (by lia) hl hx λh' k Db sb=>hQ x h' k hx ⟨hi,?_,?_⟩ λb o hb e=>(sb.2 b (λz=>hb (by simp[z]))).trans e
  .rw[show(xs.size:Int)-1-((i+1:Nat):Int)=((xs.size-1-i:Nat):Int)-1 by lia];exact Db
  .obtain⟨o,e,r⟩:=st.2.2;exact⟨o,(sb.2 a (Ne.symm sw)).trans e,r⟩
 done:=λs Q E st hQ=>by
  have Do:=st.2.1;rw[show(xs.size:Int)-1-(xs.size:Int)= -1 by lia]at Do;exact YY Do hh λh' k eb=>hQ h' k λb o hb e=>eb b o (λz=>hb (by simp[z])) e
 self:=λ_ _ _ _ st hQ=>Xu st.2.1 hQ
def vF{it a:Addr}{xs:Array Value}(hh:A.handled=none)(hr:Zw s.heap it a ((xs.size:Int)-1))(hT:IsTup s.heap a xs)(hlen:xs.size<=sizeLine)(S:Addr)(hS:s.heap.get? S=some {cls:=.type "list",data:=.seq #[]})(hR:∀h' tk Ch c',(∀b o,b≠S->b≠it->s.heap.get? b=some o->h'.get? b=some o)->h'.get? S=some {cls:=.type "list",dict:=none,data:=.seq Ch c',slots:= #[]}->ItemsOf (zW xs) Ch xs.size->R (.ok (.ret .none)) {s with heap:=h',toks:=tk}):wpAny (model prog w) A.in1 (Builtin.«list.__init__» ⟨[.ref S,.ref it],[]⟩) (λfin s'=>match fin with| .done f=>R (.ok f) s'| .again c'=>c'.quiet=true/\codeAny (model prog w) A c' R s') (λe s'=>R (.error e) s') s:=by
 have EG:=Xf;have sw:it≠a:=λz=>by
  obtain⟨o,e,c,n,d⟩:=hT;rw[<-z,hr]at e;cases e;cases d
 have lP:S≠it:=λz=>by rw[z,hr]at hS;simp at hS
 have G3:S≠a:=λz=>by
  obtain⟨o,e,c,n,d⟩:=hT;rw[<-z,hS]at e;cases e;simp at c
 show wpAny _ _ (do let old<-Builtin.List.listItems (.ref S);Builtin.List.listUpdate (.ref S) (λ_=> #[]);letGo old.toList.reverse;Builtin.List.listExtendWith (.ref S) (.ref it) .none) _ _ s;refine yaa ?_;unfold Builtin.List.listItems;refine yaa (ybd hS Z (yac ?_));show wpAny _ _ (updateSeq S (λ_=> #[])>>=λ_=>letGo (#[]:Array Value).toList.reverse>>=λ_=>Builtin.List.listExtendWith (.ref S) (.ref it) .none) _ _ s;refine yaa (yeU hS Z (yaa (yfa ?_)));have g2:=ybs (Obj.mapSeq (λ_=>(#[]:Array Value))) hS rfl;have CD:∀b o,b≠S->s.heap.get? b=some o->(s.heap.update S (Obj.mapSeq (λ_=>(#[]:Array Value)))).get? b=some o:=λb o hb e=>(ybK _ _ (Ne.symm hb)).trans e;generalize s.heap.update S (Obj.mapSeq (λ_=>(#[]:Array Value)))=hp at g2 CD;have ic:Zw hp it a ((xs.size:Int)-1):=CD _ _ (Ne.symm lP) hr;have iJ:IsTup hp a xs:=by obtain⟨o,e,r⟩:=hT;exact⟨o,CD _ _ (Ne.symm G3) e,r⟩
 have hI:Shared.TypeIs {s with heap:=hp} (.ref it) "reversed":=⟨_,ic,Z⟩;have W:=(x5 (prog:=prog) (w:=w) (A:=A.in1) hh it a sw xs (by lia)).toS;have key:∀(h:Heap)(c₁ tk:Nat),Zw h it a ((xs.size:Int)-1)->IsTup h a xs->(∀b o,b≠S->s.heap.get? b=some o->h.get? b=some o)->
   h.get? S=some {cls:=.type "list",data:=.seq #[] c₁}->codeAny (model prog w) A (.builtin "list.extend.loop" ⟨[.ref S,.ref it,.none],[]⟩) R {s with heap:=h,toks:=tk}:=by
  intro h c₁ tk hit Bf hk Gu;refine codeAny_extend_loopS W hlen S (λhm=>by simp at hm;rcases hm with z|z;exact lP z;exact G3 z) .none xs.size 0 _ #[] c₁ rfl (lG _) ⟨lG _,by simpa using hit,Bf⟩ Gu (ItemsOf.nil _) λs' Ch c' hm iE IN=>?_;rw[Moved.eq_with hm];refine hR s'.heap s'.toks Ch c' (λb o hb Fr e=>hm.heap b o (λAf=>?_) (hk b o hb e)) iE IN;rcases yak.mp Af with e'|Af
  .exact hb e'
  .exact Fr (yap.mp Af)
 unfold Builtin.List.listExtendWith;refine yaa (yds (T:="reversed") hI ?_);have h1:Builtin.List.listSameRef (.ref S) (.ref it)=false:=by simp[Builtin.List.listSameRef,lP]
 have h2:(Value.type "reversed"==Value.type "list")=false:=by lia
 have h3:(Value.type "reversed"==Value.type "tuple")=false:=by lia
 simp only[h1,h2,h3,Bool.or_false,yam,yaL];refine yaa (Xu (s:={s with heap:=hp}) ic ?_);refine yaa (ybe (vE (s:={s with heap:=hp}) ic iJ hlen λb k=>?_));refine ycf (λ_=>?_) (λ_=>yac ⟨ycz ydQ _,key _ _ _ ic iJ CD g2⟩);refine yaa (ycV ?_);refine yaa ?_;show wpAny _ _ (updateSeq S (·.push .none)>>=λ_=>updateSeq S (·.pop)) _ _ _;refine yaa (yeU (s:={s with heap:=hp,toks:=k}) g2 Z ?_);have Na:=ybs (Obj.mapSeq (·.push Value.none)) g2 rfl;refine yeU (hz:=by seq_fits) Na rfl ?_;have hS3:=ybs (Obj.mapSeq (·.pop)) Na rfl;have Ag:∀b o,b≠S->hp.get? b=some o->((hp.update S (Obj.mapSeq (·.push Value.none))).update S (Obj.mapSeq (·.pop))).get? b=some o:=λb o hb e=>(ybK _ _ (Ne.symm hb)).trans ((ybK _ _ (Ne.symm hb)).trans e);refine yac ⟨ycz ydQ _,key _ _ _ (Ag _ _ (Ne.symm lP) ic) ?_ (λb o hb e=>Ag b o hb (CD b o hb e)) hS3⟩;obtain⟨o,e,r⟩:=iJ;exact⟨o,Ag _ _ (Ne.symm G3) e,r⟩
end
def QcQ{xs:List V}{acc:Array Value}(r:Vals xs its)(h:ItemsOf (zW its.toArray) acc its.toArray.size):Vals xs.reverse acc.toList:=by
 have hl:=r.length;have e:acc.toList=its.reverse:=by
  apply ybG;intro j
  by_cases hj:j<its.length
  .have h1:acc.size=its.length:=by rw[h.1,lF]
   obtain⟨v,hv⟩:∃v,acc[j]? =some v:=⟨_,yaR (by lia)⟩;have h2:=h.2 j v hv;unfold zW at h2;rw[lF,List.getElem?_toArray]at h2;rw[yeP,hv,ydv hj,h2]
  .have h1:acc.size=its.length:=by rw[h.1,lF]
   rw[ybR (by rw[lE];lia),ybR (by rw[lg];lia)]
 rw[e];clear h e hl
 induction r with
 |nil=>exact .nil
 |cons a r ih=>
  rw[ybI,ybI];exact ih.append (.cons a .nil)
section
def QfX(K:Frag)(ta:TA):TE:=λσ H Q=>ta σ H λvs H1=>∃a xs,vs=[.ref a]/\aw K H1 a xs/\∀l,H1 l=none->Q (.ref l) (upd H1 l (.lst xs.reverse))
def WL{p q fe ce:Pos}(hc:X.calm=true)(hgl:Gl X "list")(Nb:X.mg "list"=none)(hg:Gl X "reversed")(hm:X.mg "reversed"=none)(ha:PA X [e] ta)(h1:isStar e=false):PE X (.Call (.Name "list" q) [.Call (.Name "reversed" p) [e] [] fe] [] ce) (QfX X.K ta):=by
 intro U s σ H Q I h;refine yaY (ZQ I hgl Nb boot_list ?_ (by lia) (by lia));refine yau ?_ (Zp Z) rfl;rw[Zp (e:=.Call (.Name "reversed" p) [e] [] fe) rfl];refine ybv ?_;refine yaY (ZQ I hg hm ydH ?_ (by lia) (by lia));refine yau (ax (ha fe U s σ H _ I h) λus s1⟨vs,H1,I1,r1,a,xs,e,hq,q⟩=>?_) (Zp h1) rfl;subst e;obtain⟨u,rfl,rfl⟩:=vals1 r1;obtain⟨its,rv,pp,hz⟩:=I1.tuple hq;have hlen:=rv.length;have EG:=Xf;refine jh (xs:=its.toArray) pp (by rw[lF];lia) λk=>?_;refine ycc ?_;have g:Zw (s1.heap.push {cls:=.type "reversed",data:=.fields #[.ref a,rawInt ((its.toArray.size:Int)-1)]}) s1.heap.objs.size a ((its.toArray.size:Int)-1):=yag _ rfl;have Nc:IsTup (s1.heap.push {cls:=.type "reversed",data:=.fields #[.ref a,rawInt ((its.toArray.size:Int)-1)]}) a its.toArray:=by obtain⟨o,e,r⟩:=pp;exact⟨o,yab _ e,r⟩
 have up:∀b o,s1.heap.get? b=some o->(s1.heap.push {cls:=.type "reversed",data:=.fields #[.ref a,rawInt ((its.toArray.size:Int)-1)]}).get? b=some o:=λb o e=>yab _ e;have hsz:s1.heap.objs.size<(s1.heap.push {cls:=.type "reversed",data:=.fields #[.ref a,rawInt ((its.toArray.size:Int)-1)]}).objs.size:=yaj g;generalize s1.heap.push {cls:=.type "reversed",data:=.fields #[.ref a,rawInt ((its.toArray.size:Int)-1)]}=h2 at g Nc up hsz;refine callType_codes (Q₁:=λobj s₁=>obj=.ref h2.objs.size/\s₁={s1 with heap:=h2.push {cls:=.type "list",data:=.seq #[]},toks:=k}) F.called_list (F.typeCall_list_1 _) F.entry_list_init (code_list_new _ ⟨Z,Z⟩) λobj s₁ h₁=>?_;obtain⟨rfl,rfl⟩:=h₁;have g1:(h2.push {cls:=.type "list",data:=.seq #[]}).get? h2.objs.size=some {cls:=.type "list",data:=.seq #[]}:=yag _ rfl;have pp3:IsTup (h2.push {cls:=.type "list",data:=.seq #[]}) a its.toArray:=by obtain⟨o,e,r⟩:=Nc;exact⟨o,yab _ e,r⟩
 refine⟨⟨_,g1,Z⟩,F.args_list_init_2 _ _,vF (s:={s1 with heap:=h2.push {cls:=.type "list",data:=.seq #[]},toks:=k}) (A:=X.A.in1) (I1.ok.hd hc) (yab _ g) pp3 (by rw[lF];lia) _ g1 λh' tk acc c' hk hS IN=>⟨Z,?_⟩⟩;have rv2:=QcQ rv IN;have GE:H1 h2.objs.size=none:=I1.ao.fresh (ycU hsz);refine⟨.ref h2.objs.size,_,I1.laid (t':=tk) (λb o e=>hk b o (yaq (yaj (up b o e))) (yaq (yaj e)) (yab _ (up b o e))) (ycU hsz) (show JJ X.prog X.w _ h' _ (.lst xs.reverse)from⟨?_,acc.toList,c',rv2,by rw[Array.toArray_toList];exact hS⟩),Z,q _ GE⟩;rw[lg];lia
end
open PySem PySem.SeqAt
open MeetsSeq MeetsSeq2 MeetsSeq3 SeqRoads2
open PySem PySem.Spec PyProof.Rows PySem.SeqAt
open PySem PySem.Spec PyProof.Rows PySem.SeqAt PySem.W
def ji{xs:List V}{us:List Value}(r:Vals xs us){i:Nat}(h:us[i]? =some u):∃x,xs[i]? =some x/\RelV x u:=by
 have hl:=r.length;have hi:=(yaf.mp h).1;have k:xs[i]? =some xs[i]:=yad (by lia);obtain⟨u',e,q⟩:=r.get k;rw[h]at e;cases e;exact⟨_,k,q⟩
end L2
namespace K35
open PySem PySem.W PyProof.Rows
variable {lt:Nat->Nat->Bool}
end K35
namespace L2
open PySem PySem.Spec PyProof.Rows
open PySem PySem.Spec PyProof.Rows PySem.W
end L2
namespace aI
open PySem PySem.SetTable
noncomputable def path(t:SetTable)(h:Int):Nat->Probe
 |0=>t.probeStart h
 |n+1=>t.advance (path t h n)
def Small(m:Nat):Prop:=m=7
noncomputable def Bg(m:Nat):Nat->Nat->Nat
 |0,i=>i
 |d+1,i=>Bg m d ((i*5+1) % (m+1))
def QaG:∀i,i<=7->∀e,e<=7->∃d,d<=7/\Bg 7 d i=e:=by rfl'
def QcR(hm:Small m)(hi:i<=m)(he:e<=m):∃d,d<=m/\Bg m d i=e:=by
 cases hm;exact QaG i hi e he
noncomputable def run(t:SetTable)(i P:Nat):Probe:={j:=i,more:=runEnd t.mask i-i,i:=i,perturb:=P,dummy:=none}
def QcS(m i:Nat):runEnd m i-i<=9:=by unfold runEnd;split<;>lia
theorem zX(e:path t h n=run t i P):∀k,k<=runEnd t.mask i-i->path t h (n+k)={run t i P with j:=i+k,more:=runEnd t.mask i-i-k}
 |0,_=>by rw[yfg,e];rfl
 |k+1,hk=>by
  have ih:=zX e k (by lia);show t.advance (path t h (n+k))=_;rw[ih];unfold advance;rw[yai (by show runEnd t.mask i-i-k>0;lia)];show({run t i P with j:=i+k+1,more:=runEnd t.mask i-i-k-1}:Probe)=_;rw[show i+k+1=i+(k+1) by lia,show runEnd t.mask i-i-k-1=runEnd t.mask i-i-(k+1) by lia]
def vG(e:path t h n=run t i P):path t h (n+(runEnd t.mask i-i)+1)=run t ((i*5+1+P/32) % (t.mask+1)) (P/32):=by
 have:=zX e (runEnd t.mask i-i) (tO _);show t.advance (path t h (n+(runEnd t.mask i-i)))=_;rw[this];unfold advance;rw[yah (by show ¬ (runEnd t.mask i-i-(runEnd t.mask i-i)>0);lia)];rfl
theorem WM:∀(d n i P:Nat),path t h n=run t i P->i<=t.mask->∃n' i',n'<=n+10*d/\path t h n'=run t i' (P/32^d)/\i'<=t.mask/\(P=0->i'=Bg t.mask d i)
 |0,n,i,P,e,hi=>⟨n,i,by lia,by rw[Nat.pow_zero,Nat.div_one];exact e,hi,λ_=>rfl⟩
 |d+1,n,i,P,e,hi=>by
  have h1:=vG e;have hr:=QcS t.mask i;obtain⟨n',i',a,b,c,z⟩:=WM d _ _ _ h1 (by have:=yfe (i*5+1+P/32) (show 0<t.mask+1 by lia);lia);refine⟨n',i',by lia,?_,c,λhp=>?_⟩
  .rw[b,Nat.div_div_eq_div_mul,Nat.pow_succ,ybP]
  .subst hp;rw[z (by rw[Nat.zero_div])];show Bg t.mask d ((i*5+1+0/32) % (t.mask+1))=Bg t.mask (d+1) i;rw[Nat.zero_div,yfg];rfl
def QcT(h:Int):bits h<2^64:=by
 unfold bits;have h1:=ybu h (show(2^64:Int)≠0 by lia);have h2:=ybb h (show(0:Int)<2^64 by lia);lia
def QaH(hm:Small t.mask)(h:Int)(he:e<=t.mask):∃n,n<10*turns t.mask/\(path t h n).j=e:=by
 have e0:path t h 0=run t (bits h % (t.mask+1)) (bits h):=rfl;have hi0:bits h % (t.mask+1)<=t.mask:=by have:=yfe (bits h) (show 0<t.mask+1 by lia);lia
 obtain⟨n1,i1,a1,b1,c1,_⟩:=WM 13 0 _ _ e0 hi0;have hz:bits h/32^13=0:=Nat.div_eq_of_lt (yan (QcT h) (by lia));rw[hz]at b1;obtain⟨d,hd,hde⟩:=QcR hm c1 he;obtain⟨n2,i2,a2,b2,c2,z2⟩:=WM d n1 i1 0 b1 c1;exists n2,?_
 .unfold turns;lia
 .rw[b2, <-hde, <-z2 rfl];rfl
structure Ok(hs:List Int)(t:SetTable):Prop where
 mask:Small t.mask
 oZ:t.dummies= #[]
 len:t.place.size=hs.length
 ups:t.place.toList.Pairwise (· < ·)
 le:∀x∈t.place.toList,x<=t.mask
 on:∀q∈hs.zip t.place.toList,∃n,(path t q.1 n).j=q.2/\∀m,m<n->(path t q.1 m).j∈t.place.toList
def Zc(hs:List Int)(t:SetTable):Prop:=hs.length*5<t.mask*3
def Ok.up(o:Ok hs t):∀i j(hi:i<t.place.size)(hj:j<t.place.size),i<j->t.place[i]<t.place[j]:=λi j hi hj h=>by
 have:=List.pairwise_iff_getElem.mp o.ups i j (by simpa using hi) (by simpa using hj) h;simpa using this
def QaI(f m:Nat)(led:Bool):Ok [] (SetTable.fresh f m led):=
 ⟨Z,Z,Z,List.Pairwise.nil,λx hx=>by simp[SetTable.fresh]at hx,λq hq=>by simp at hq⟩
def x6(f m:Nat)(led:Bool):Zc [] (SetTable.fresh f m led):=by show 0*5<7*3;lia
theorem UF{xs:Array Nat}(up:∀i k(hi:i<xs.size)(hk:k<xs.size),i<k->xs[i]<xs[k]):∀(f lo hi:Nat),hi<=xs.size->lo<=hi->hi-lo<=f->(∀k(hk:k<xs.size),k<lo->xs[k]<j)->(∀k(hk:k<xs.size),hi<=k->j<=xs[k])->
  below.go xs j f lo hi<=xs.size/\(∀k(hk:k<xs.size),k<below.go xs j f lo hi->xs[k]<j)/\(∀k(hk:k<xs.size),below.go xs j f lo hi<=k->j<=xs[k])
 |0,lo,hi,h1,h2,h3,a,b=>by
  unfold below.go;exact⟨by lia,a,λk hk hl=>b k hk (by lia)⟩
 |f+1,lo,hi,h1,h2,h3,a,b=>by
  unfold below.go
  by_cases bi:lo<hi
  .rw[yai bi];have hm:(lo+hi)/2<xs.size:=by lia
   have e:xs.getD ((lo+hi)/2) j=xs[(lo+hi)/2]:=by simp[Array.getD,hm]
   dsimp only;rw[e]
   by_cases hc:xs[(lo+hi)/2]<j
   .rw[yai hc];refine UF up f _ hi h1 (by lia) (by lia) (λk hk hl=>?_) b
    by_cases z:k=(lo+hi)/2
    .subst z;exact hc
    .exact ybh (up k _ hk hm (by lia)) hc
   .rw[yah hc];refine UF up f lo _ (by lia) (by lia) (by lia) a λk hk hl=>?_
    by_cases z:k=(lo+hi)/2
    .subst z;lia
    .have:=up _ k hm hk (by lia);lia
  .rw[yah bi];exact⟨by lia,a,λk hk hl=>b k hk (by lia)⟩
def below_at(o:Ok hs t)(j:Nat):below t.place j<=t.place.size/\(∀k(hk:k<t.place.size),k<below t.place j->t.place[k]<j)/\(∀k(hk:k<t.place.size),below t.place j<=k->j<=t.place[k]):=
 UF o.up _ 0 _ (tO _) (lG _) (by lia) (λk _ h=>by lia) (λk hk h=>by lia)
def ZI(o:Ok hs t)(h:t.place[i]? =some j):t.slot j=.live i:=by
 obtain⟨hi,e⟩:=yeb.mp h;obtain⟨b1,b2,b3⟩:=below_at o j;have:below t.place j=i:=by
  rcases Nat.lt_trichotomy (below t.place j) i with z|z|z
  .have h1:=b3 _ (by lia) (tO _);have h2:=o.up (below t.place j) i (by lia) hi z;lia
  .exact z
  .have:=b2 i hi z;lia
 unfold slot;dsimp only;rw[this,h];simp
def x8(o:Ok hs t)(h:j∉t.place.toList):t.slot j=.empty:=by
 unfold slot;dsimp only;have h1:(t.place[below t.place j]? ==some j)=false:=by
  cases e:t.place[below t.place j]? with
  |none=>rfl
  |some x=>
   have:x∈t.place.toList:=ycF.mpr (Array.mem_of_getElem? e);have hx:x≠j:=λz=>h (z▸this);simp[hx]
 rw[h1];have h2:has t.dummies j=false:=by rw[o.oZ];rfl
 rw[h2];simp
def vH(o:Ok hs t)(r:Zc hs t):∃e,e<=t.mask/\e∉t.place.toList:=by
 have bi:t.place.toList.length<(List.range (t.mask+1)).length:=by
  have:=o.len;unfold Zc at r;simp only[lE,List.length_range];lia
 have:∃e∈List.range (t.mask+1),e∉t.place.toList:=by
  refine ycL λhn=>?_;have mt:∀e∈List.range (t.mask+1),e∈t.place.toList:=λe he=>ycL λz=>hn ⟨e,he,z⟩;have Nd:(List.range (t.mask+1)).Nodup:=List.nodup_range;have:=List.Nodup.length_le_of_subset Nd mt;lia
 obtain⟨e,he,hn⟩:=this;exact⟨e,by simpa using Nat.lt_succ_iff.mp (by simpa using he),hn⟩
def YZ(o:Ok hs t)(r:Zc hs t)(h:Int):∃N,N<10*turns t.mask/\(path t h N).j∉t.place.toList/\∀m,m<N->(path t h m).j∈t.place.toList:=by
 obtain⟨e,he,hn⟩:=vH o r;obtain⟨n,hn1,oE⟩:=QaH o.mask h he;have key:∀n,(path t h n).j∉t.place.toList->∃N,N<=n/\(path t h N).j∉t.place.toList/\∀m,m<N->(path t h m).j∈t.place.toList:=by
  intro n
  induction n using Nat.strongRecOn with
  |ind n ih=>
   intro hf
   by_cases hm:∃m,m<n/\(path t h m).j∉t.place.toList
   .obtain⟨m,h1,h2⟩:=hm;obtain⟨N,a,b⟩:=ih m h1 h2;exact⟨N,by lia,b⟩
   .exact⟨n,tO _,hf,λm Nf=>ycL λz=>hm ⟨m,Nf,z⟩⟩
 obtain⟨N,a,b⟩:=key n (by rw[oE];exact hn);exact⟨N,by lia,b⟩
theorem Y0(t:SetTable)(h:Int):∀n,(path t h n).dummy=none
 |0=>rfl
 |n+1=>by
  have:=Y0 t h n;show(t.advance (path t h n)).dummy=none;unfold advance
  split
  .exact this
  .exact this
theorem zY(o:Ok hs t){hashAt:Nat->Int}(hN:(path t h N).j∉t.place.toList)(bi:∀m,m<N->(path t h m).j∈t.place.toList):∀(d f n:Nat),n+d=N->d<f->
  (probe.go t hashAt h f (path t h n)=some (.empty (path t h N).j none)/\∀m,n<=m->m<N->∀i,t.place[i]? =some (path t h m).j->hashAt i≠h)\/
  ∃m i,n<=m/\m<N/\t.place[i]? =some (path t h m).j/\hashAt i=h/\probe.go t hashAt h f (path t h n)=some (.candidate (path t h m).j i (path t h (m+1)))/\∀m',n<=m'->m'<m->∀i,t.place[i]? =some (path t h m').j->hashAt i≠h
 |0,f,n,hd,hf=>by
  obtain⟨f,rfl⟩:∃f',f=f'+1:=⟨f-1,by lia⟩;have:n=N:=by lia
  subst this;refine .inl ⟨?_,λm h1 h2=>by lia⟩;unfold probe.go;rw[x8 o hN,Y0]
 |d+1,f,n,hd,hf=>by
  obtain⟨f,rfl⟩:∃f',f=f'+1:=⟨f-1,by lia⟩;have GM:=bi n (by lia);obtain⟨i,hi,e⟩:=ybC.mp GM;have hp:t.place[i]? =some (path t h n).j:=by
   rw[lE]at hi;rw[yaR hi];simpa using e
  have uniq:∀i',t.place[i']? =some (path t h n).j->i'=i:=λi' h'=>by
   have a1:=ZI o h';rw[ZI o hp]at a1;cases a1;rfl
  unfold probe.go;rw[ZI o hp];dsimp only
  by_cases hc:hashAt i=h
  .rw[yai (by rw[hc];exact ybf h)];exact .inr ⟨n,i,tO _,by lia,hp,hc,Z,λm' h1 h2=>by lia⟩
  .rw[yah (by rw[ybl];exact hc)];rcases zY o hN bi d f (n+1) (by lia) (by lia)with⟨r,q⟩|⟨m,i2,h1,h2,h3,h4,r,q⟩
   .refine .inl ⟨r,λm h1 h2 i' h'=>?_⟩
    by_cases z:m=n
    .subst z;rw[uniq i' h'];exact hc
    .exact q m (by lia) h2 i' h'
   .refine .inr ⟨m,i2,by lia,h2,h3,h4,r,λm' h1' h2' i' h'=>?_⟩
    by_cases z:m'=n
    .subst z;rw[uniq i' h'];exact hc
    .exact q m' (by lia) h2' i' h'
theorem ZJ(e:t'.mask=t.mask)(h:Int):∀n,path t' h n=path t h n
 |0=>by show t'.probeStart h=t.probeStart h;unfold probeStart;rw[e]
 |n+1=>by
  show t'.advance (path t' h n)=t.advance (path t h n);rw[ZJ e h n];unfold advance;rw[e]
def QeF(o:Ok hs t)(hN:(path t h N).j∉t.place.toList)(bi:∀m,m<N->(path t h m).j∈t.place.toList)(hle:(path t h N).j<=t.mask):(t.put (path t h N).j).1.place.toList=t.place.toList.take (below t.place (path t h N).j)++(path t h N).j::t.place.toList.drop (below t.place (path t h N).j)/\
  Ok (hs.take (below t.place (path t h N).j)++h::hs.drop (below t.place (path t h N).j)) (t.put (path t h N).j).1:=by
 obtain⟨b1,b2,b3⟩:=below_at o (path t h N).j;have ep:(t.put (path t h N).j).1.place.toList=t.place.toList.take (below t.place (path t h N).j)++(path t h N).j::t.place.toList.drop (below t.place (path t h N).j):=by
  unfold put;exact SetTable.toList_insertAt _ _ _
 have em:(t.put (path t h N).j).1.mask=t.mask:=rfl;have mem:∀x,x∈(t.put (path t h N).j).1.place.toList↔x=(path t h N).j\/x∈t.place.toList:=λx=>by
  rw[ep,yat,yak];have:=ybT (below t.place (path t h N).j) t.place.toList;constructor
  .rintro(z|z|z)
   .exact .inr (ydE z)
   .exact .inl z
   .exact .inr (ybE z)
  .rintro(z|z)
   .exact .inr (.inl z)
   .rw[<-this]at z;rcases yat.mp z with z|z
    .exact .inl z
    .exact .inr (.inr z)
 have lo:∀x∈t.place.toList.take (below t.place (path t h N).j),x<(path t h N).j:=λx hx=>by
  obtain⟨i,hi,e⟩:=ybC.mp hx;rw[tY,lE]at hi;have:=b2 i (by lia) (by lia);rw[List.getElem_take]at e;rw[<-e];simpa using this
 have hi:∀x∈t.place.toList.drop (below t.place (path t h N).j),(path t h N).j<x:=λx hx=>by
  have FM:=ybE hx;obtain⟨i,hi,e⟩:=ybC.mp hx;rw[tZ,lE]at hi;have:=b3 (below t.place (path t h N).j+i) (by lia) (by lia);rw[List.getElem_drop]at e;have h1:(path t h N).j<=x:=by rw[<-e];simpa using this
  have h2:x≠(path t h N).j:=λz=>hN (z▸FM);lia
 refine⟨ep,o.mask,?_,?_,?_,λx hx=>?_,λq hq=>?_⟩
 .unfold put;dsimp only;have:has t.dummies (path t h N).j=false:=by rw[o.oZ];rfl
  rw[this];exact o.oZ
 .have h1:=yaE List.length ep;rw[lE]at h1;have:=o.len;rw[h1];simp only[tK,tY,tR,tZ,lE];lia
 .rw[ep];refine List.pairwise_append.mpr ⟨o.ups.sublist (List.take_sublist _ _),List.pairwise_cons.mpr ⟨hi,o.ups.sublist (List.drop_sublist _ _)⟩,λa ha b hb=>?_⟩;rcases yak.mp hb with rfl|hb
  .exact lo a ha
  .exact ybh (lo a ha) (hi b hb)
 .rcases(mem x).mp hx with rfl|z
  .exact hle
  .exact o.le x z
 .rw[ep,List.zip_append (by simp only[tY,lE];have:=o.len;lia),List.zip_cons_cons]at hq;have old:q∈hs.zip t.place.toList->∃n,(path (t.put (path t h N).j).1 q.1 n).j=q.2/\∀m,m<n->(path (t.put (path t h N).j).1 q.1 m).j∈(t.put (path t h N).j).1.place.toList:=λz=>by
   obtain⟨n,e1,e2⟩:=o.on q z;exact⟨n,by rw[ZJ em];exact e1,λm hm=>by rw[ZJ em];exact(mem _).mpr (.inr (e2 m hm))⟩
  have split:hs.zip t.place.toList=(hs.take (below t.place (path t h N).j)).zip (t.place.toList.take (below t.place (path t h N).j))++(hs.drop (below t.place (path t h N).j)).zip (t.place.toList.drop (below t.place (path t h N).j)):=by
   rw[<-List.zip_append (by simp only[tY,lE];have:=o.len;lia),ybT,ybT]
  rcases yat.mp hq with z|z
  .exact old (by rw[split];exact tU _ z)
  .rcases yak.mp z with rfl|z
   .exact⟨N,by rw[ZJ em],λm hm=>by rw[ZJ em];exact(mem _).mpr (.inr (bi m hm))⟩
   .exact old (by rw[split];exact tT _ z)
theorem vI(hm:Small t.mask)(h:Int):∀n,(path t h n).i<=t.mask/\(path t h n).j+(path t h n).more<=t.mask
 |0=>by
  have h1:bits h % (t.mask+1)<=t.mask:=by have:=yfe (bits h) (show 0<t.mask+1 by lia);lia
  exists h1;show bits h % (t.mask+1)+(runEnd t.mask (bits h % (t.mask+1))-bits h % (t.mask+1))<=t.mask;unfold runEnd
  split<;>lia
 |n+1=>by
  obtain⟨h1,h2⟩:=vI hm h n;show(t.advance (path t h n)).i<=t.mask/\(t.advance (path t h n)).j+(t.advance (path t h n)).more<=t.mask;unfold advance
  split
  .exact⟨h1,by show(path t h n).j+1+((path t h n).more-1)<=t.mask;lia⟩
  .have h3:((path t h n).i*5+1+(path t h n).perturb/32) % (t.mask+1)<=t.mask:=by have:=yfe ((path t h n).i*5+1+(path t h n).perturb/32) (show 0<t.mask+1 by lia);lia
   exists h3;show((path t h n).i*5+1+(path t h n).perturb/32) % (t.mask+1)+(runEnd t.mask (((path t h n).i*5+1+(path t h n).perturb/32) % (t.mask+1))-((path t h n).i*5+1+(path t h n).perturb/32) % (t.mask+1))<=t.mask;generalize ((path t h n).i*5+1+(path t h n).perturb/32) % (t.mask+1)=x at h3;unfold runEnd
   split<;>lia
end aI
namespace aI
open PySem PySem.SetTable
variable {owner:Array (Option Nat)}
end aI
namespace L2
open PySem PySem.Spec PyProof.Rows PySem.SeqAt
mutual
inductive HD (h:Heap):Value->Dv->Prop where
 |int (i:Int) (t:Tok):HD h (.int i t) (.int i)
 |str (x:Str) (t:Tok):HD h (.str x t) (.str x)
 |tup {a:Addr} {o:Obj} {us:List Value} {n:Nat} {ds:List Dv} (e:h.get? a=some o) (c:o.cls=.type "tuple") (d:o.data=.seq us.toArray n) (t:cW h us ds):HD h (.ref a) (.tup ds)
inductive cW (h:Heap):List Value->List Dv->Prop where
 |nil:cW h [] []
 |cons {u:Value} {d:Dv} {us:List Value} {ds:List Dv} (a:HD h u d) (t:cW h us ds):cW h (u::us) (d::ds)
end
mutual
theorem HD.keep(k:∀b o,h.get? b=some o->o.cls=.type "tuple"->h'.get? b=some o):∀{u:Value}{d:Dv},HD h u d->HD h' u d
 |_,_,.int i t=>.int i t
 |_,_,.str x t=>.str x t
 |_,_,.tup e c d t=>.tup (k _ _ e c) c d (cW.keep k t)
theorem cW.keep(k:∀b o,h.get? b=some o->o.cls=.type "tuple"->h'.get? b=some o):∀{us:List Value}{ds:List Dv},cW h us ds->cW h' us ds
 |_,_,.nil=>.nil
 |_,_,.cons a t=>.cons (HD.keep k a) (cW.keep k t)
end
theorem cW.length:∀{us:List Value}{ds:List Dv},cW h us ds->us.length=ds.length
 |_,_,.nil=>rfl
 |_,_,.cons _ t=>by rw[tR,tR,cW.length t]
theorem cW.at:∀{us:List Value}{ds:List Dv},cW h us ds->∀{i:Nat}{u:Value},us[i]? =some u->∃d,ds[i]? =some d/\HD h u d
 |_,_,.nil,i,u,e=>by cases e
 |_,_,.cons a t,0,u,e=>by cases e;exact⟨_,Z,a⟩
 |_,_,.cons a t,i+1,u,e=>cW.at t (by simpa using e)
mutual
noncomputable def Dv.hk:Dv->Bool
 | .int _=>true
 | .str _=>true
 | .tup ds=>Dv.Ah ds
 |_=>false
noncomputable def Dv.Ah:List Dv->Bool
 |[]=>true
 |d::ds=>Dv.hk d&&Dv.Ah ds
end
mutual
theorem ag.hd{X:Cx}{U:List (Addr × Obj)}{σ:St}(I:Inv X U σ H s):∀{x:V}{d:Dv},ag H x d->d.hk=true->∀{u:Value},RelV x u->HD s.heap u d
 |_,_,.aq,h,_,_=>by cases h
 |_,_,.bl,h,_,_=>by cases h
 |_,_,.int,_,_,r=>by obtain⟨t,rfl⟩:=r;exact .int _ _
 |_,_,.str,_,_,r=>by obtain⟨t,rfl⟩:=r;exact .str _ _
 |_,_,.tup g t,h,_,r=>by
  cases r;obtain⟨its,rv,⟨o,e,c,n,d⟩,_⟩:=I.tuple (.inl (.inl g));exact .tup e c d (aj.hd I t (by unfold Dv.hk at h;exact h) rv)
theorem aj.hd{X:Cx}{U:List (Addr × Obj)}{σ:St}(I:Inv X U σ H s):∀{xs:List V}{ds:List Dv},aj H xs ds->Dv.Ah ds=true->∀{us:List Value},Vals xs us->cW s.heap us ds
 |_,_,.nil,_,_,r=>by cases r;exact .nil
 |_,_,.cons a t,h,_,r=>by
  unfold Dv.Ah at h;obtain⟨h1,h2⟩:=(yay _ _).mp h;cases r with
  |cons r1 r2=>exact .cons (ag.hd I a h1 r1) (aj.hd I t h2 r2)
end
mutual
noncomputable def Jn(w:World):Dv->Int
 | .int i=>yE w (.inl i)
 | .str x=>yE w (.inr x)
 | .tup ds=>reduceHash (Builtin.Tuple.tupleHashOf (x9 w ds))
 |_=>0
noncomputable def x9(w:World):List Dv->List Int
 |[]=>[]
 |d::ds=>Jn w d::x9 w ds
end
theorem V0(w:World):∀ds:List Dv,x9 w ds=ds.map (Jn w)
 |[]=>rfl
 |d::ds=>by rw[lD, <-V0 w ds];rfl
def QaJ(w:World){ds:List Dv}{i:Nat}(e:ds[i]? =some d):(x9 w ds)[i]? =some (Jn w d):=by rw[V0,lh,e];rfl
section
variable {prog:Program}
def QaK{us:List Value}(hu:A.units<cLine)(ho:s.heap.get? a=some o)(hc:o.cls=.type "tuple")(hd:o.data=.seq us.toArray n)(hl:us.length=hs.length)(item:∀(B:Around)(i:Nat)(u:Value)(h:Int)(tk:Nat)(E':Value->Shared->Prop)(Q':Int->Shared->Prop),B.units<=A.units+1->us[i]? =some u->hs[i]? =some h->(∀IO,Q' h {s with toks:=IO})->wpAny (model prog w) B (pyHash u) Q' E' {s with toks:=tk})(h:∀tk,Q (reduceHash (Builtin.Tuple.tupleHashOf hs)) {s with toks:=tk}):wpAny (model prog w) A (pyHash (.ref a)) Q E s:=by
 have hT:s.TypeIs (.ref a) "tuple":=⟨o,ho,hc⟩;unfold pyHash
 first|unfold pyHashByItsType|skip
 first|refine yaa (wpAny_cRoomFor_or (.inr hu) ?_)|skip
 refine yaa (yaN hT F.slot_tuple_hash.lookup ?_);show wpAny _ _ (if(some (Value.builtin "tuple.__hash__")==some Value.none)=true then _ else _) Q E s;rw[yah (by rw[beq_builtin_none];exact yal)];refine yaa (yaN hT F.slot_tuple_hash.lookup ?_);show wpAny _ _ (callSpecialIfBoundUnlessNone? (.ref a) "__hash__" _>>=_) Q E s;refine yaa (wpAny_callSpecialIfBoundUnlessNone?_slot hT F.slot_tuple_hash (yaM F.slot_tuple_hash hT F.entry_tuple_hash ?_ (F.args_tuple_hash_1 _)));show wpAny _ _ (Builtin.Tuple.tupleItemsOf (.ref a)>>=_) _ _ s;refine yaa (wpAny_tupleItemsOf ho hd (yaa ?_));rw[<-ydf];refine ycP _ (λrest(b:Array Int) s'=>∃i,rest=us.drop i/\b.toList=hs.take i/\i<=us.length/\∃tk,s'={s with toks:=tk}) _ ?_ ?_ _ _ ⟨0,Z,Z,lG _,s.toks,Z⟩
 .rintro x rest b s' ⟨i,hr,hb,hi,tk,rfl⟩;have bi:i<us.length:=by
   rcases yba i us.length with z|z
   .exact z
   .rw[ycr z]at hr;cases hr
  have hx:us[i]? =some x:=by
   have:=yaE (λl=>l[0]?) hr;simpa using this.symm
  have hr':rest=us.drop (i+1):=by
   have:=yaE (λl=>l.drop 1) hr;simpa[ycJ]using this
  have hh:hs[i]? =some (hs[i]'(by lia)):=yad (by lia);have nx:∀IO,∃j,rest=us.drop j/\(b.push (hs[i]'(by lia))).toList=hs.take j/\j<=us.length/\∃tk,({s with toks:=IO}:Shared)={s with toks:=tk}:=λIO=>⟨i+1,hr',by rw[Array.toList_push,hb,yaJ,hh];rfl,by lia,IO,Z⟩;refine yaa (item _ i x _ tk _ _ (tO _) hx hh λIO=>?_)
  first
   |exact yac (nx IO)
   |exact yaa (yac (yac (nx IO)))
 .rintro b s' ⟨i,hr,hb,hi,tk,rfl⟩;have hie:i=us.length:=by
   rcases yba i us.length with z|z
   .rw[yaH z]at hr;cases hr
   .lia
  have hb':b.toList=hs:=by rw[hb,hie,hl,ycp]
  show wpAny _ _ (retInt (Builtin.Tuple.tupleHashOf b.toList)) _ _ _;rw[hb'];refine wpAny_ret_mkInt ?_;show wpAny _ _ (if(decide (-(2:Int)^63<=Builtin.Tuple.tupleHashOf hs)&&decide (Builtin.Tuple.tupleHashOf hs<2^63))=true then _ else _) Q E _;unfold reduceHash at h
  by_cases hr:(decide (-(2:Int)^63<=Builtin.Tuple.tupleHashOf hs)&&decide (Builtin.Tuple.tupleHashOf hs<2^63))=true
  .rw[yai hr];rw[yai hr]at h;exact yac (h _)
  .rw[yah hr];rw[yah hr]at h;exact yaa (ycV (yac (h _)))
def HD.hash:∀(n:Nat){u:Value}{d:Dv}{s:Shared},d.depth<=n->HD s.heap u d->∀{A:Around}{E:Value->Shared->Prop}{Q:Int->Shared->Prop},A.units+n<cLine->(∀tk,Q (Jn w d) {s with toks:=tk})->wpAny (model prog w) A (pyHash u) Q E s:=by
 intro n
 induction n with
 |zero=>
  intro u d s hn hu A E Q hA h;cases hu with
  |int i t=>exact(QY prog w).pyHash (k:=.inl i) (Vr i t) (h _)
  |str x t=>exact(QY prog w).pyHash (k:=.inr x) (Vs x t) (h _)
  |tup e c dd t=>unfold Dv.depth at hn;lia
 |succ n ih=>
  intro u d s hn hu A E Q hA h;cases hu with
  |int i t=>exact(QY prog w).pyHash (k:=.inl i) (Vr i t) (h _)
  |str x t=>exact(QY prog w).pyHash (k:=.inr x) (Vs x t) (h _)
  |@tup a o us m ds e c dd t=>
   have hl:=t.length;have ie:Dv.JX ds<=n:=by have:=hn;unfold Dv.depth at this;lia
   have hlL:(x9 w ds).length=ds.length:=by rw[V0,tL]
   refine QaK (hs:=x9 w ds) (by lia) e c dd (by lia) (λB i u' h' tk E' Q' hB hu' hh' hq=>?_) λtk=>?_
   .obtain⟨d',Sc,hD⟩:=t.at hu';have:=QaJ w Sc;rw[hh']at this;cases this;exact ih (s:={s with toks:=tk}) (yao (Dv.Ko Sc) ie) hD (by lia) λIO=>hq IO
   .have:=h tk;unfold Jn at this;exact this
def HD.quiet:∀(n:Nat){u:Value}{d:Dv}{s:Shared},d.depth<=n->HD s.heap u d->∀{A:Around}{E:Value->Shared->Prop}{Q:Bool->Shared->Prop},Q true s->wpAny (model prog w) A (eqIsQuiet n u) Q E s:=by
 intro n
 induction n with
 |zero=>
  intro u d s hn hu A E Q h;cases hu with
  |int i t=>rw[ydp 0 rfl];exact yac h
  |str x t=>rw[ydp 0 rfl];exact yac h
  |tup e c dd t=>unfold Dv.depth at hn;lia
 |succ n ih=>
  intro u d s hn hu A E Q h;cases hu with
  |int i t=>rw[ydp _ rfl];exact yac h
  |str x t=>rw[ydp _ rfl];exact yac h
  |@tup a o us m ds e c dd t=>
   have ie:Dv.JX ds<=n:=by have:=hn;unfold Dv.depth at this;lia
   have hT:s.TypeIs (.ref a) "tuple":=⟨o,e,c⟩;unfold eqIsQuiet;refine yaa (yaN hT F.slot_tuple_eq.lookup ?_);show wpAny _ _ (isInstance (.ref a) (.type "tuple")>>=_) _ _ s;refine yaa (ycN hT isSubtype_tuple_tuple ?_);simp only[ydg,yam,yaL];refine yaa (ybd e dd (yaa ?_));show wpAny _ _ (forIn us.toArray _ _) _ _ s;rw[<-ydf];refine ycP _ (λrest r s'=>r.1=none/\s'=s/\∃es,Dv.JX es<=n/\cW s.heap rest es) _ ?_ ?_ _ _ ⟨Z,Z,ds,ie,t⟩
   .rintro v rest r s' ⟨hr,rfl,es,G4,ht⟩;cases ht with
    |@cons _ d0 _ sK hv ht=>
     unfold Dv.JX at G4;refine yaa (ih (by lia) hv ?_);simp only[ydg,yam,yaL];exact yac ⟨Z,Z,sK,by lia,ht⟩
   .rintro⟨r1,r2⟩ s' ⟨hr,rfl,_⟩;simp only at hr;subst hr;exact yac h
def HD.vJ:∀(n:Nat){u:Value}{d:Dv}{s:Shared},d.depth<=n->HD s.heap u d->∀{A:Around}{E:Value->Shared->Prop}{Q:Bool->Shared->Prop},Q false s->wpAny (model prog w) A (ofAClassStatement n u) Q E s:=by
 intro n
 induction n with
 |zero=>
  intro u d s hn hu A E Q h;cases hu with
  |int i t=>unfold ofAClassStatement;exact yac h
  |str x t=>unfold ofAClassStatement;exact yac h
  |tup e c dd t=>unfold Dv.depth at hn;lia
 |succ n ih=>
  intro u d s hn hu A E Q h;cases hu with
  |int i t=>unfold ofAClassStatement;exact yac h
  |str x t=>unfold ofAClassStatement;exact yac h
  |@tup a o us m ds e c dd t=>
   have ie:Dv.JX ds<=n:=by have:=hn;unfold Dv.depth at this;lia
   have hT:s.TypeIs (.ref a) "tuple":=⟨o,e,c⟩;unfold ofAClassStatement;refine yaa (yds hT ?_);show wpAny _ _ (if("tuple"=="tuple")=true then _ else _) _ _ _;rw[yai (by lia)];refine yaa (yac ?_);simp only[ydg,yam,yaL];refine yaa (ybd e dd (yaa ?_));rw[<-ydf];refine ycP _ (λrest r s'=>r.1=none/\s'=s/\∃es,Dv.JX es<=n/\cW s.heap rest es) _ ?_ ?_ _ _ ⟨Z,Z,ds,ie,t⟩
   .rintro v rest r s' ⟨hr,rfl,es,G4,ht⟩;cases ht with
    |@cons _ d0 _ sK hv ht=>
     unfold Dv.JX at G4;refine yaa (ih (by lia) hv ?_);simp only[yam,yaL];exact yac ⟨Z,Z,sK,by lia,ht⟩
   .rintro⟨r1,r2⟩ s' ⟨hr,rfl,_⟩;simp only at hr;subst hr;exact yac h
def HD.QfY:∀(n:Nat){u:Value}{d:Dv}{s:Shared},HD s.heap u d->∀{A:Around}{E:Value->Shared->Prop}{Q:Bool->Shared->Prop},(∀b,Q b s)->wpAny (model prog w) A (hashByValue n u) Q E s:=by
 intro n
 induction n with
 |zero=>
  intro u d s hu A E Q h;cases hu<;>(unfold hashByValue;exact yac (h _))
 |succ n ih=>
  intro u d s hu A E Q h;cases hu with
  |int i t=>unfold hashByValue;exact yac (h _)
  |str x t=>unfold hashByValue;exact yac (h _)
  |@tup a o us m ds e c dd t=>
   have hT:s.TypeIs (.ref a) "tuple":=⟨o,e,c⟩;unfold hashByValue;refine yaa (yaN hT F.slot_tuple_hash.lookup ?_);show wpAny _ _ (seqItems? (.ref a)>>=_) _ _ s;refine yaa (ybd e dd (yaa ?_));show wpAny _ _ (forIn us.toArray _ _) _ _ s;rw[<-ydf];refine ycP _ (λrest r s'=>s'=s/\r.1=none/\∃es,cW s.heap rest es) _ ?_ ?_ _ _ ⟨Z,Z,ds,t⟩
   .rintro v rest r s' ⟨rfl,hr,es,ht⟩;cases ht with
    |@cons _ d0 _ sK hv ht=>
     refine yaa (ih hv λb=>?_);cases b with
     |true=>exact yac ⟨Z,Z,sK,ht⟩
     |false=>exact yac (yac (h _))
   .rintro⟨r1,r2⟩ s' ⟨rfl,hr,_⟩;simp only at hr;subst hr;exact yac (h _)
end
mutual
theorem Dv.Ng:∀{d e:Dv},d.hk=true->e.hk=true->d.ba e=true->d=e
 | .int a,.int b,_,_,h=>by unfold Dv.ba at h;rw[yeO h]
 | .str a,.str b,_,_,h=>by unfold Dv.ba at h;rw[yeO h]
 | .tup ds,.tup es,h1,h2,h=>by
  unfold Dv.ba at h;unfold Dv.hk at h1 h2;rw[Dv.Nh h1 h2 h]
 | .int _,.str _,_,_,h=>by unfold Dv.ba at h;cases h
 | .int _,.tup _,_,_,h=>by unfold Dv.ba at h;cases h
 | .str _,.int _,_,_,h=>by unfold Dv.ba at h;cases h
 | .str _,.tup _,_,_,h=>by unfold Dv.ba at h;cases h
 | .tup _,.int _,_,_,h=>by unfold Dv.ba at h;cases h
 | .tup _,.str _,_,_,h=>by unfold Dv.ba at h;cases h
 | .aq,_,h,_,_=>by unfold Dv.hk at h;cases h
 | .bl _,_,h,_,_=>by unfold Dv.hk at h;cases h
 | .int _,.aq,_,h,_=>by unfold Dv.hk at h;cases h
 | .int _,.bl _,_,h,_=>by unfold Dv.hk at h;cases h
 | .str _,.aq,_,h,_=>by unfold Dv.hk at h;cases h
 | .str _,.bl _,_,h,_=>by unfold Dv.hk at h;cases h
 | .tup _,.aq,_,h,_=>by unfold Dv.hk at h;cases h
 | .tup _,.bl _,_,h,_=>by unfold Dv.hk at h;cases h
theorem Dv.Nh:∀{ds es:List Dv},Dv.Ah ds=true->Dv.Ah es=true->Dv.kJ ds es=true->ds=es
 |[],[],_,_,_=>rfl
 |d::ds,e::es,h1,h2,h=>by
  unfold Dv.Ah at h1 h2;unfold Dv.kJ at h;obtain⟨a1,a2⟩:=(yay _ _).mp h1;obtain⟨b1,b2⟩:=(yay _ _).mp h2;obtain⟨c1,c2⟩:=(yay _ _).mp h;rw[Dv.Ng a1 b1 c1,Dv.Nh a2 b2 c2]
 |[],_::_,_,_,h=>by unfold Dv.kJ at h;cases h
 |_::_,[],_,_,h=>by unfold Dv.kJ at h;cases h
end
def HD.eq:∀(n:Nat){u v:Value}{d e:Dv}{s:Shared},d.depth<=n->HD s.heap u d->HD s.heap v e->∀{A:Around},A.units+n<cLine->EqAt A s u v (d.ba e):=by
 have key:∀(N:Nat){u v:Value}{d e:Dv}{s:Shared},d.depth<=N->HD s.heap u d->HD s.heap v e->∀{A:Around},A.units+N<cLine->(∀n,N=n+1->∀{u v:Value}{d e:Dv},d.depth<=n->HD s.heap u d->HD s.heap v e->∀{A:Around},A.units+n<cLine->EqAt A s u v (d.ba e))->EqAt A s u v (d.ba e):=by
  intro N u v d e s hN hu hv A hA ih;cases hu with
  |int i t=>
   cases hv with
   |int j t2=>exact EqAt.int_int i t j t2
   |str y t2=>exact EqAt.int_str i t y t2
   |tup e2 c2 d2 _=>exact EqAt.int_tuple i t ⟨_,e2,c2,_,d2⟩ (by lia)
  |str x t=>
   cases hv with
   |int j t2=>exact EqAt.str_int x t j t2
   |str y t2=>exact EqAt.str_str x t y t2
   |tup e2 c2 d2 _=>exact EqAt.str_tuple x t ⟨_,e2,c2,_,d2⟩ (by lia)
  |@tup a o us m ds e1 c1 d1 t1=>
   cases hv with
   |int j t2=>exact EqAt.tuple_int j t2 ⟨_,e1,c1,_,d1⟩ (by lia)
   |str y t2=>exact EqAt.tuple_str y t2 ⟨_,e1,c1,_,d1⟩ (by lia)
   |@tup a2 o2 EI m2 es e2 c2 d2 t2=>
    have fg:∃n,N=n+1:=⟨N-1,by unfold Dv.depth at hN;lia⟩;obtain⟨n,rfl⟩:=fg;have ie:Dv.JX ds<=n:=by have:=hN;unfold Dv.depth at this;lia
    have q1:=t1.length;have q2:=t2.length
    by_cases IR:a=a2
    .subst IR;rw[e1]at e2;cases e2;rw[d1]at d2;injection d2 with h1 _;have:us=EI:=by simpa using yaE Array.toList h1
     subst this;have inj:∀{us:List Value}{ds es:List Dv},cW s.heap us ds->cW s.heap us es->ds=es:=by
      have G5:∀(n:Nat){u:Value}{d e:Dv},d.depth<=n->HD s.heap u d->HD s.heap u e->d=e:=by
       intro n
       induction n with
       |zero=>
        intro u d e hn h1 h2;cases h1 with
        |int i t=>cases h2;rfl
        |str x t=>cases h2;rfl
        |tup _ _ _ _=>unfold Dv.depth at hn;lia
       |succ n ih=>
        intro u d e hn h1 h2;cases h1 with
        |int i t=>cases h2;rfl
        |str x t=>cases h2;rfl
        |@tup b ob vs k fs g1 g2 g3 g4=>
         cases h2 with
         |@tup _ ob2 vs2 k2 Bh f1 f2 f3 f4=>
          rw[g1]at f1;cases f1;rw[g3]at f3;injection f3 with z _;have:vs=vs2:=by simpa using yaE Array.toList z
          subst this;have hL:Dv.JX fs<=n:=by unfold Dv.depth at hn;lia
          have go:∀{vs:List Value}{fs Bh:List Dv},Dv.JX fs<=n->cW s.heap vs fs->cW s.heap vs Bh->fs=Bh:=by
           intro vs
           induction vs with
           |nil=>intro fs Bh _ a b;cases a;cases b;rfl
           |cons v vs G6=>
            intro fs Bh hL a b;cases a with
            |cons a1 a2=>
             cases b with
             |cons b1 b2=>
              unfold Dv.JX at hL;rw[ih (by lia) a1 b1,G6 (by lia) a2 b2]
          rw[go hL g4 f4]
      intro us
      induction us with
      |nil=>intro ds es a b;cases a;cases b;rfl
      |cons v vs G6=>
       intro ds es a b;cases a with
       |cons a1 a2=>
        cases b with
        |cons b1 b2=>rw[G5 _ (tO _) a1 b1,G6 a2 b2]
     rw[inj t1 t2,Dv.Xt];exact EqAt.same _
    .have z:=RcAt.tuples (A:=A) (s:=s) (e:=λj=>((ds[j]?).getD .aq).ba ((es[j]?).getD .aq)) ⟨o,e1,c1,m,d1⟩ ⟨o2,e2,c2,m2,d2⟩ (by lia) λj h1 h2=>by
      rw[lF]at h1 h2;obtain⟨x,k1,k2⟩:=t1.at (yad h1);obtain⟨y,m1,m2'⟩:=t2.at (yad h2);have g1:us.toArray[j]=us[j]:=by simp
      have g2:EI.toArray[j]=EI[j]:=by simp
      rw[g1,g2];show EqAt A.in1 s us[j] EI[j] (((ds[j]?).getD .aq).ba ((es[j]?).getD .aq));rw[k1,m1];exact ih n rfl (yao (Dv.Ko k1) ie) k2 m2' (by show A.units+1+n<cLine;lia)
     rw[lF,lF,q1,q2]at z;rw[<-Dv.ZE]at z;unfold Dv.ba;exact .of_refs IR z
 intro n
 induction n with
 |zero=>intro u v d e s hn hu hv A hA;exact key 0 hn hu hv hA λn z=>by lia
 |succ n ih=>
  intro u v d e s hn hu hv A hA;exact key (n+1) hn hu hv hA λm z=>by
   obtain rfl:m=n:=by lia
   exact λ{u v d e} a b c{A} d'=>ih a b c d'
open PySem.SetTable (probe turns)
def V1(o:aI.Ok hs t)(hN:(aI.path t h N).j∉t.place.toList)(bi:∀m,m<N->(aI.path t h m).j∈t.place.toList)(fk:N<10*turns t.mask)(iK:n0<=N)(hp:p=aI.path t h n0)(heq:t.probe ha h p=r):(r=some (.empty (aI.path t h N).j none)/\∀m,n0<=m->m<N->∀i,t.place[i]? =some (aI.path t h m).j->ha i≠h)\/
  ∃m i,n0<=m/\m<N/\t.place[i]? =some (aI.path t h m).j/\ha i=h/\r=some (.candidate (aI.path t h m).j i (aI.path t h (m+1)))/\∀m',n0<=m'->m'<m->∀i,t.place[i]? =some (aI.path t h m').j->ha i≠h:=by
 subst hp;subst heq;exact aI.zY o hN bi (N-n0) (10*turns t.mask) n0 (by lia) (by lia)
def ka(o:aI.Ok hs t)(hN:(aI.path t h N).j∉t.place.toList)(bi:∀m,m<N->(aI.path t h m).j∈t.place.toList)(fk:N<10*turns t.mask)(iK:n0<=N):∃met,t.probe ha h (aI.path t h n0)=some met:=by
 rcases V1 o (ha:=ha) hN bi fk iK rfl rfl with⟨r,_⟩|⟨m,i,_,_,_,_,r,_⟩<;>exact⟨_,r⟩
section
variable {prog:Program}
def QcU(hx:HD s.heap x d)(hd:d.depth<=8)(l:List Value)(hl:∀y∈l,∃e,HD s.heap y e/\e.depth<=8)(h:Q false s):wpAny (model prog w) A (searchCouldBeSeen x l) Q E s:=by
 unfold searchCouldBeSeen;refine yaa ?_;refine ycP _ (λrest r s'=>r.1=none/\s'=s/\∀y∈rest,∃e,HD s.heap y e/\e.depth<=8) _ ?_ ?_ _ _ ⟨Z,Z,hl⟩
 .rintro y rest r s' ⟨hr,rfl,mt⟩;have o3:∀y∈rest,∃e,HD s'.heap y e/\e.depth<=8:=λz hz=>mt z (tW _ hz);obtain⟨e,hy,he⟩:=mt y tX;dsimp only
  split<;>split
  all_goals first
   |exact yac ⟨rfl,rfl,o3⟩
   |(refine yaa (HD.quiet 8 hd hx ?_)
     simp only[ydg,yam,yaL];refine yaa (HD.quiet 8 he hy ?_);simp only[ydg,yam,yaL];refine yaa (HD.vJ 8 hd hx ?_);simp only[yam,yaL];refine yaa (HD.vJ 8 he hy ?_);simp only[yam,yaL];exact yac ⟨rfl,rfl,o3⟩)
 .rintro⟨r1,r2⟩ s' ⟨hr,rfl,_⟩;simp only at hr;subst hr;exact yac h
noncomputable abbrev ents(w:World)(es:List (Value × Dv)):List (Int × Value):=es.map λe=>(Jn w e.2,e.1)
noncomputable abbrev hashes(w:World)(es:List (Value × Dv)):List Int:=es.map λe=>Jn w e.2
structure bh(h:Heap)(e:Value × Dv):Prop where
 hd:HD h e.1 e.2
 dp:e.2.depth<=7
 hk:e.2.hk=true
 rf:∃b,e.1=.ref b
def Y1{ad:Bool}(hu:A.units+8<cLine)(ho:s.heap.get? a=some o)(hd:o.data=.set (ents w es).toArray ep t)(ok:aI.Ok (hashes w es) t)(rm:aI.Zc (hashes w es) t)(el:∀e∈es,bh s.heap e)(hx:bh s.heap (x,d))(fk:N<10*turns t.mask)(hN:(aI.path t (Jn w d) N).j∉t.place.toList)(bi:∀m,m<N->(aI.path t (Jn w d) m).j∈t.place.toList):∀(k n0 fuel:Nat)(ig:Option SetTable.Probe),N-n0=k->n0<=N->k<fuel->ig.getD (t.probeStart (Jn w d))=aI.path t (Jn w d) n0->(∀m,m<n0->∀(i:Nat) e,t.place[i]? =some (aI.path t (Jn w d) m).j->es[i]? =some e->e.2≠d)->
   ((∃e∈es,e.2=d)->∀r:Option Nat,(ad=false->r.isSome=true)->Q (.there r) s)->((∀e∈es,e.2≠d)->Q (.free (aI.path t (Jn w d) N).j false) s)->wpAny (model prog w) A (setSearchFrom a x (Jn w d) ad fuel ig) Q E s:=by
 have hsz:(ents w es).toArray.size=es.length:=by rw[lF,tL]
 have hlen:t.place.size=es.length:=by rw[ok.len,tL]
 have o4:t.fill=es.length:=by show t.place.size+t.dummies.size=_;rw[ok.oZ,hlen];rfl
 have lQ:es.length*5<t.mask*3:=by have:=rm;unfold aI.Zc at this;rwa[tL]at this
 have hf:t.fits (ents w es).toArray.size=true:=by
  rw[hsz];simp only[SetTable.fits,yay,ybl,ybH];exact⟨hlen,by lia⟩
 have hgw:t.gaveWay=false:=by
  unfold SetTable.gaveWay;rw[ok.mask];rfl
 intro k
 induction k using Nat.strongRecOn with
 |ind k ih=>
  intro n0 fuel ig hk iK hfu lm seen GM Re;obtain⟨fuel,rfl⟩:∃f,fuel=f+1:=⟨fuel-1,by lia⟩;unfold setSearchFrom;refine yaa (ycD ho hd hf ?_);dsimp only;rw[hgw];simp only[yam,yaL];rw[lm];have found:∀{e:Value × Dv},e∈es->e.2=d->∃m i,n0<=m/\m<N/\t.place[i]? =some (aI.path t (Jn w d) m).j/\es[i]? =some e:=λ{e} he TD=>by
   obtain⟨i,hi,rfl⟩:=ybC.mp he;have dL:t.place[i]? =some (t.place[i]'(by lia)):=yaR (by lia);have hz:(Jn w es[i].2,t.place[i]'(by lia))∈(hashes w es).zip t.place.toList:=by
    refine ybC.mpr ⟨i,by simp[ydW];lia,?_⟩;simp
   obtain⟨m,e1,e2⟩:=ok.on _ hz;rw[TD]at e1 e2;have hmN:m<N:=by
    rcases Nat.lt_trichotomy m N with z|z|z
    .exact z
    .subst z;exact absurd (by rw[e1];simp) hN
    .exact absurd (e2 N z) hN
   refine⟨m,i,?_,hmN,by rw[e1];exact dL,yad hi⟩;rcases yba m n0 with z|z
   .exact absurd TD (seen m z i _ (by rw[e1];exact dL) (yad hi))
   .exact z
  have uniq:∀{i i' j:Nat},t.place[i]? =some j->t.place[i']? =some j->i=i':=λh1 h2=>by
   have:=aI.ZI ok h1;rw[aI.ZI ok h2]at this;cases this;rfl
  split
  .rename_i met heq;rcases V1 ok hN bi fk iK rfl heq with⟨r,q⟩|⟨m,i,h1,h2,h3,h4,r,q⟩
   .cases r;refine yac (Re λe he TD=>?_);obtain⟨m,i,h1,h2,h3,h4⟩:=found he TD;refine q m h1 h2 i h3 ?_;show((((ents w es).toArray)[i]?).map (·.1)).getD 0=Jn w d;have:((ents w es).toArray)[i]? =some (Jn w e.2,e.1):=by simp[h4]
    rw[this,TD];rfl
   .cases r;have FS:i<es.length:=by
     have:=(yeb.mp h3).1;lia
    have iH:es[i]? =some es[i]:=yad FS;have ij:((ents w es).toArray)[i]? =some (Jn w es[i].2,es[i].1):=by simp[iH]
    have E1:=el es[i] (yeH FS);obtain⟨b,hb⟩:=E1.rf;refine if lR:t.led=true then ?led else ?CF
    case' led=>
     rw[lR];simp only[ydg,yam,yaL]
    case' CF=>
     rw[(Bool.not_eq_true _).mp lR];simp only[Bool.not_false,ybM];refine yaa (QcU hx.hd (by have:=hx.dp;lia) _ (λy hy=>by
      obtain⟨e,he,rfl⟩:=yaZ.mp hy;have oK:e∈ents w es:=by
       have:=(Array.mem_filter.mp (ycF.mp he)).1;simpa using this
      obtain⟨e0,h0,rfl⟩:=yaZ.mp oK;exact⟨e0.2,(el e0 h0).hd,by have:=(el e0 h0).dp;lia⟩) ?_)
     simp only[yam,yaL]
    all_goals
     rw[ij];dsimp only;refine yaa (ybe (HD.eq 7 E1.dp E1.hd hx.hd (by lia) prog w _ _ ?_));refine yaa (ycD ho hd hf ?_);dsimp only;cases hq:es[i].2.ba d with
     |true=>
      have G7:t.sameMemory t.moves t.mask=some true:=by unfold SetTable.sameMemory;rw[ybf];rfl
      have Ni:∃e∈es,e.2=d:=⟨es[i],yeH FS,Dv.Ng E1.hk hx.hk hq⟩;cases ad with
      |true=>
       rw[Bool.true_and,yai rfl];exact yac (GM Ni none λz=>nomatch z)
      |false=>
       rw[yeZ];simp only[yam,yaL];rw[G7];dsimp only;rw[yai rfl,aI.ZI ok h3];dsimp only;rw[ij];dsimp only;rw[hb];refine yaa (wpAny_isSame_ref_self (yaa (yac ?_)));rw[yai rfl];dsimp only;rw[yai trivial];exact yac (GM Ni _ λ_=>rfl)
     |false=>
      rw[yen];simp only[yam,yaL];have G7:t.sameMemory t.moves t.mask=some true:=by unfold SetTable.sameMemory;rw[ybf];rfl
      rw[G7];dsimp only;rw[yai rfl,aI.ZI ok h3];dsimp only;rw[ij];dsimp only;rw[hb];refine yaa (wpAny_isSame_ref_self (yaa (yac ?_)));rw[yai rfl];dsimp only;refine ih (N-(m+1)) (by lia) (m+1) fuel _ rfl (by lia) (by lia) rfl (λm' Nf i' e' Ai oK=>?_) GM Re
      by_cases z1:m'<n0
      .exact seen m' z1 i' e' Ai oK
      .by_cases z2:m'=m
       .subst z2;obtain rfl:=uniq h3 Ai;rw[iH]at oK;cases oK;intro z;rw[z,Dv.Xt]at hq;cases hq
       .intro z;refine q m' (by lia) (by lia) i' Ai ?_;show((((ents w es).toArray)[i']?).map (·.1)).getD 0=Jn w d;have:((ents w es).toArray)[i']? =some (Jn w e'.2,e'.1):=by simp[oK]
        rw[this,z];rfl
  .rename_i heq;exact(heq _ (Classical.choose_spec (ka ok hN bi fk iK))).elim
end
open PySem.SetTable (probe turns below)
structure dy(w:World)(h:Heap)(a:Addr)(es:List (Value × Dv)):Prop where
 ex:∃o ep t,h.get? a=some o/\o.ExactSet/\o.data=.set (ents w es).toArray ep t/\aI.Ok (hashes w es) t/\aI.Zc (hashes w es) t/\t.led= !w.params.followText "set-order"
 el:∀e∈es,bh h e
 nd:(es.map (·.2)).Nodup
theorem bh.keep(E:bh h e)(k:∀b o,h.get? b=some o->o.cls=.type "tuple"->h'.get? b=some o):bh h' e:=⟨E.hd.keep k,E.dp,E.hk,E.rf⟩
theorem dy.keep(S:dy w h a es)(k:∀b o,h.get? b=some o->(o.cls=.type "tuple"\/b=a)->h'.get? b=some o):dy w h' a es:=by
 obtain⟨o,ep,t,ho,r⟩:=S.ex;exact⟨⟨o,ep,t,k a o ho (.inr Z),r⟩,λe he=>(S.el e he).keep λb o h1 h2=>k b o h1 (.inl h2),S.nd⟩
section
variable {prog:Program}
def QaL(hu:A.units+8<cLine)(S:dy w s.heap a es)(hx:bh s.heap (x,d))(hl:es.length<4)(hQ:∀b h' sK,Heap.SameBut a s.heap h'->dy w h' a sK->((∃e∈es,e.2=d)/\sK=es\/(∀e∈es,e.2≠d)/\sK.Perm (es++[(x,d)]))->Q b {s with heap:=h'}):wpAny (model prog w) A (setAddHashed a x (Jn w d)) Q E s:=by
 obtain⟨o,ep,t,ho,hex,hd,ok,rm,led⟩:=S.ex;obtain⟨bx,Aj⟩:=hx.rf;have Aj:x=.ref bx:=Aj;have hlen:t.place.size=es.length:=by rw[ok.len,tL]
 have o4:t.fill=es.length:=by show t.place.size+t.dummies.size=_;rw[ok.oZ,hlen];rfl
 have lQ:es.length*5<t.mask*3:=by have:=rm;unfold aI.Zc at this;rwa[tL]at this
 have hsz:(ents w es).toArray.size=es.length:=by rw[lF,tL]
 have hf:t.fits (ents w es).toArray.size=true:=by
  rw[hsz];simp only[SetTable.fits,yay,ybl,ybH];exact⟨hlen,by lia⟩
 have CG:∀{h':Heap},Heap.SameBut a s.heap h'->∀b o',s.heap.get? b=some o'->o'.cls=.type "tuple"->h'.get? b=some o':=λ{h'} sb b o' e c=>by
  refine(sb.2 b λz=>?_).trans e;rw[z,ho]at e;cases e;rw[hex.1]at c;injection c with c;exact absurd c (by lia)
 obtain⟨N,fk,hN,bi⟩:=aI.YZ ok rm (Jn w d);unfold setAddHashed setAddHashedIn;refine ybe (yaa (ycD ho hd hf ?_));dsimp only;rw[show byScan x (ents w es).toArray=false by rw[Aj];rfl];simp only[yam,yaL];refine yaa (Y1 hu ho hd ok rm S.el hx fk hN bi N 0 100000 none (by lia) (lG _) (by unfold turns at fk;rw[ok.mask]at fk;lia) Z (λm hm=>by lia) (λGM _ _=>?_) λRe=>?_)
 .refine yac ?_;have:=hQ false s.heap es (Heap.SameBut.refl _ _) S (.inl ⟨GM,Z⟩);exact this
 .dsimp only;refine yaa (ycD ho hd hf ?_);dsimp only;obtain⟨ep1,lS⟩:=aI.QeF ok hN bi (by have:=(aI.vI ok.mask (Jn w d) N).2;lia);have bl:=(aI.below_at ok (aI.path t (Jn w d) N).j).1;have ij:SetTable.insertAt (ents w es).toArray (below t.place (aI.path t (Jn w d) N).j) (Jn w d,x)=(ents w (es.take (below t.place (aI.path t (Jn w d) N).j)++(x,d)::es.drop (below t.place (aI.path t (Jn w d) N).j))).toArray:=by
   apply Array.toList_inj.mp;rw[SetTable.toList_insertAt];simp[ents,yeA,yeB]
  have hhs:hashes w (es.take (below t.place (aI.path t (Jn w d) N).j)++(x,d)::es.drop (below t.place (aI.path t (Jn w d) N).j))=(hashes w es).take (below t.place (aI.path t (Jn w d) N).j)++Jn w d::(hashes w es).drop (below t.place (aI.path t (Jn w d) N).j):=by
   simp[hashes,yeA,yeB]
  have Bi:(es.take (below t.place (aI.path t (Jn w d) N).j)++(x,d)::es.drop (below t.place (aI.path t (Jn w d) N).j)).Perm (es++[(x,d)]):=by
   refine List.perm_middle.trans ?_;rw[ybT];exact(List.perm_append_singleton _ _).symm
  rw[show(t.put (aI.path t (Jn w d) N).j).2=below t.place (aI.path t (Jn w d) N).j from rfl,ij];rw[<-hhs]at lS;generalize es.take (below t.place (aI.path t (Jn w d) N).j)++(x,d)::es.drop (below t.place (aI.path t (Jn w d) N).j)=On at lS Bi ⊢;have lO:On.length=es.length+1:=by rw[Bi.length_eq,tK];rfl
  have el1:∀e∈On,bh s.heap e:=λe he=>by
   rcases yat.mp (Bi.mem_iff.mp he)with z|z
   .exact S.el e z
   .rw[yap.mp z];exact hx
  have nd1:(On.map (·.2)).Nodup:=by
   refine(Bi.map (·.2)).nodup_iff.mpr ?_;rw[lr,List.nodup_append];refine⟨S.nd,by simp,λy hy z hz=>?_⟩;obtain⟨e,he,rfl⟩:=yaZ.mp hy;have:z=d:=by simpa using hz
   rw[this];exact Re e he
  generalize Nj:(t.put (aI.path t (Jn w d) N).j).1=t1 at lS ⊢;have o5:t1.mask=t.mask:=by rw[<-Nj];rfl
  have fW:t1.led=t.led:=by rw[<-Nj];rfl
  have any:∀t2:SetTable,t2.mask=t1.mask->t2.place=t1.place->t2.dummies=t1.dummies->t2.led=t1.led->wpAny (model prog w) A (do
    storeSet a (ents w On).toArray t2
    if(!false&&t2.tooFull)=true then setRelay a (SetTable.grown ((ents w es).toArray.size+1))
    pure true) Q E s:=λt2 e1 e2 e3 eL=>by
   have G8:aI.Ok (hashes w On) t2:=⟨by rw[e1];exact lS.mask,by rw[e3];exact lS.oZ,by rw[e2];exact lS.len,by rw[e2];exact lS.ups,by rw[e2,e1];exact lS.le,λq hq=>by
    rw[e2]at hq ⊢;obtain⟨n,a1,a2⟩:=lS.on q hq;exact⟨n,by rw[aI.ZJ e1];exact a1,λm hm=>by rw[aI.ZJ e1];exact a2 m hm⟩⟩
   have ut:t2.place.size=On.length:=by rw[G8.len,tL]
   have Cl:t2.fill=On.length:=by show t2.place.size+t2.dummies.size=_;rw[G8.oZ,ut];rfl
   have EC:(ents w On).toArray.size=On.length:=by rw[lF,tL]
   have ge1:(s.heap.update a (Obj.putSet (ents w On).toArray t2)).get? a=some {o with data:=.set (ents w On).toArray (ep+1) t2}:=by
    have:=ybs (Obj.putSet (ents w On).toArray t2) ho (by rw[putSet_of _ _ hd];rfl);rw[putSet_of _ _ hd]at this;exact this
   have Nl:=ydV s.heap a (Obj.putSet (ents w On).toArray t2);have hf2:t2.fits (ents w On).toArray.size=true:=by
    rw[EC];simp only[SetTable.fits,yay,ybl,ybH];exists ut;rw[Cl,e1,o5];lia
   refine yaa (wpAny_storeSet_of ho hd ?_ (by rw[EC,yaF];lia));have TW:¬ t2.tooFull=true:=λz=>by
    unfold SetTable.tooFull at z;rw[Cl,e1,o5,ok.mask]at z;have:=ybq z;have:=Bi.length_eq;rw[tK,tQ]at this;lia
   rw[yah (by rw[(Bool.not_eq_true _).mp TW];lia)];refine yac ?_;refine hQ true _ On Nl ⟨⟨_,ep+1,t2,ge1,hex,Z,G8,?_,by rw[eL,fW,led]⟩,λe he=>(el1 e he).keep (CG Nl),nd1⟩ (.inr ⟨Re,Bi⟩);unfold SetTable.tooFull at TW;unfold aI.Zc;rw[tL];rw[Cl]at TW;have:¬ (On.length*5≥t2.mask*3):=λz=>TW (tN z);lia
  cases dL:t1.plain with
  |true=>
   simp only[ybM];refine yaa (HD.QfY 8 hx.hd λb=>?_);cases b with
   |true=>simp only[ybM];exact any t1 rfl rfl rfl rfl
   |false=>simp only[yam,yaL];exact any _ rfl rfl rfl rfl
  |false=>
   simp only[yam,yaL];refine yaa (yac ?_);simp only[ybM];exact any t1 rfl rfl rfl rfl
end
open PySem PySem.Spec PyProof.Rows
def Bj(es:List (Value × Dv))(ds:List Dv):Prop:=∀d,(∃e∈es,e.2=d)↔d∈ds
structure Mv(wr:List Addr)(s s':Shared):Prop where
 heap:∀b o,b∉wr->s.heap.get? b=some o->s'.heap.get? b=some o
 gens:s'.gens=s.gens
 drawn:s'.drawn=s.drawn
 os:s'.os=s.os
theorem Mv.trans{wr:List Addr}(h1:Mv wr a b)(h2:Mv wr b c):Mv wr a c:=⟨λx o hx e=>h2.heap x o hx (h1.heap x o hx e),h2.gens.trans h1.gens,h2.drawn.trans h1.drawn,h2.os.trans h1.os⟩
def Mv.of{wr Nm:List Addr}{a b:Shared}(h:Moved wr (λx y=>x=y) a b)(hs:∀x∈wr,x∈Nm):Mv Nm a b:=⟨λx o hx e=>h.heap x o (λz=>hx (hs x z)) e,h.gens.symm,h.drawn,h.os⟩
def CH(items:Array Value)(ds:List Dv)(es:List (Value × Dv)):Prop:=∀e∈es,∃j:Nat,items[j]? =some e.1/\ds[j]? =some e.2
section
variable {prog:Program}
def vK{items:Array Value}{ds:List Dv}(hh:A.in1.handled=none)(hu:A.units+9<cLine)(hIl:l≠I)(sX:S≠I)(hSl:S≠l)(iY:ds.length=items.size)(h12:items.size<=4):∀(m i:Nat)(s:Shared)(es:List (Value × Dv)),items.size-i=m->i<=items.size->s.heap.IsListIter I l i->s.heap.IsList l items->(∀(j:Nat)(v:Value)(d:Dv),items[j]? =some v->ds[j]? =some d->bh s.heap (v,d))->dy w s.heap S es->Bj es (ds.take i)->es.length<=i->CH items ds es->
   (∀s' sK,Mv [S,I] s s'->dy w s'.heap S sK->Bj sK ds->sK.length<=items.size->CH items ds sK->R (.ok (.ret .none)) s')->codeAny (model prog w) A (.builtin "set.update.loop" ⟨[.ref S,.ref I],[]⟩) R s:=by
 have W:=WA (prog:=prog) (w:=w) (A:=A.in1) hh I l hIl items;intro m
 induction m with
 |zero=>
  intro i s es hk hi hit hl Ak hS hj hle GE hR;obtain rfl:i=items.size:=by lia
  refine ybJ F.entry_set_update_loop ?_;rw[ybB ydh _];show wpAny _ A.in1 (pyNext (.ref I)>>=_) _ _ s;refine yaa (W.done s _ _ ⟨hit,hl⟩ λs' hm=>?_);show wpAny _ A.in1 (ret Value.none) _ _ s';have kI:∀b o,b≠I->s.heap.get? b=some o->s'.heap.get? b=some o:=λb o hb e=>hm.heap b o (by simpa using hb) e;obtain⟨oI,eI,cI,_⟩:=id hit;refine yac (hR s' es (Mv.of hm λb hb=>tW _ hb) (hS.keep λb o e c=>kI b o (λz=>?_) e) (by rw[<-iY,ycp]at hj;exact hj) hle GE);rcases c with c|c
  .rw[z,eI]at e;cases e;rw[cI]at c;injection c with c;exact absurd c (by lia)
  .exact sX (c.symm.trans z)
 |succ m ih=>
  intro i s es hk hi hit hl Ak hS hj hle GE hR;have bi:i<items.size:=by lia
  refine ybJ F.entry_set_update_loop ?_;rw[ybB ydh _];show wpAny _ A.in1 (pyNext (.ref I)>>=_) _ _ s;refine yaa (W.item i s _ _ bi ⟨hit,hl⟩ λv s' hP CI hm=>?_);have kI:∀b o,b≠I->s.heap.get? b=some o->s'.heap.get? b=some o:=λb o hb e=>hm.heap b o (by simpa using hb) e;obtain⟨oI,eI,cI,_⟩:=id hit;have nI:∀b o,s.heap.get? b=some o->o.cls=.type "tuple"->b≠I:=λb o e c z=>by
   rw[z,eI]at e;cases e;rw[cI]at c;injection c with c;exact absurd c (by lia)
  have EJ:ds[i]? =some (ds[i]'(by lia)):=yad (by lia);generalize ds[i]'(by lia)=d at EJ;have iE:dy w s'.heap S es:=hS.keep λb o e c=>kI b o (c.elim (λc=>nI b o e c) λc=>by rw[c];exact sX) e;have hE:bh s'.heap (v,d):=(Ak i v d hP EJ).keep λb o e c=>kI b o (nI b o e c) e;show wpAny _ A.in1 (holding [v] (setAdd S v)>>=_) _ _ s';refine yaa (ybe ?_);unfold setAdd;refine ybe (yaa (HD.hash 7 hE.dp hE.hd (by show A.units+1+7<cLine;lia) λtk=>?_));refine QaL (s:={s' with toks:=tk}) (by show A.units+1+8<cLine;lia) iE hE (by lia) λb h' sK sb M7 ul=>?_;have G9:h'.IsListIter I l (i+1):=CI.1.at λo e=>(sb.2 I sX.symm).trans e;have AV:h'.IsList l items:=CI.2.at λo e=>(sb.2 l hSl.symm).trans e;obtain⟨oS,epS,tS,eS,xS,_⟩:=iE.ex;have kT:∀b o,s'.heap.get? b=some o->o.cls=.type "tuple"->h'.get? b=some o:=λb o e c=>by
   refine(sb.2 b λz=>?_).trans e;rw[z,eS]at e;cases e;rw[xS.1]at c;injection c with c;exact absurd c (by lia)
  have hj2:Bj sK (ds.take (i+1)):=λd'=>by
   rw[yaJ,EJ];show _↔d'∈ds.take i++[d];rw[yat,yap, <-hj d'];rcases ul with⟨⟨e0,EK,lT⟩,rfl⟩|⟨SZ,pm⟩
   .exact⟨λz=>.inl z,λz=>z.elim id λz=>⟨e0,EK,lT.trans z.symm⟩⟩
   .constructor
    .rintro⟨e,he,TD⟩;rcases yat.mp (pm.mem_iff.mp he)with z|z
     .exact .inl ⟨e,z,TD⟩
     .rw[yap.mp z]at TD;exact .inr TD.symm
    .rintro(⟨e,he,TD⟩|z)
     .exact⟨e,pm.mem_iff.mpr (tU _ he),TD⟩
     .exact⟨(v,d),pm.mem_iff.mpr (tT _ (yap.mpr Z)),z.symm⟩
  have G':sK.length<=i+1:=by
   rcases ul with⟨_,rfl⟩|⟨_,pm⟩
   .lia
   .rw[pm.length_eq,tK];show es.length+1<=i+1;lia
  have Ha:CH items ds sK:=λe he=>by
   rcases ul with⟨_,rfl⟩|⟨_,pm⟩
   .exact GE e he
   .rcases yat.mp (pm.mem_iff.mp he)with z|z
    .exact GE e z
    .rw[yap.mp z];exact⟨i,hP,EJ⟩
  refine yac ⟨ycz ydh _,ih (i+1) {s' with heap:=h',toks:=tk} sK (by lia) bi G9 AV (λj v' d' a b=>((Ak j v' d' a b).keep λb o e c=>kI b o (nI b o e c) e).keep kT) M7 hj2 G' Ha λiX Hc He Hf Hg Hh Hi=>?_⟩;refine hR iX Hc (Mv.trans (b:={s' with heap:=h',toks:=tk}) (Mv.trans (b:=s') (Mv.of hm λb hb=>tW _ hb) ⟨λb o hb e=>?_,Z,Z,Z⟩) He) Hf Hg Hh Hi;exact(sb.2 b λz=>hb (by rw[z];exact tX)).trans e
end
open PySem.SetTable (below)
section
variable {prog:Program}
def QaM(a:Value)(h:Q₁ (.ref s.heap.objs.size) {s with heap:=s.heap.push (zT (!w.params.followText "set-order"))}):codeAny (model prog w) A (.call (.builtin "set.__new__") ⟨[.type "set",a],[]⟩) (wants Q₁ E) s:=by
 refine yeT ?_;show wpAny _ _ (do checkBuiltinCall "set.__new__" ⟨[.type "set",a],[]⟩;again (.builtin "set.__new__" ⟨[.type "set",a],[]⟩)) _ _ _;refine yaa (ybz (F.newCall_set_1 a) (yac ⟨ycz F.plain_set_new _,ybJ F.entry_set_new ?_⟩));rw[ybB F.plain_set_new _];unfold Builtin.«set.__new__» Builtin.Frozenset.newClass;have lN:=sub_set_self;obtain⟨hp,g,d,tk,os⟩:=s;dsimp only
 wp_walk
 refine wpAny_askSetting (yac ?_);dsimp only;simp only[newObj];exact yaa (wpAny_alloc (yac (yac h)))
def kc{s:Shared}{a:Addr}{ds:List Dv}(hh:A.handled=none)(hu:A.units+64<cLine)(hT0:s.heap.IsList a its)(Ak:∀(j:Nat)(v:Value)(d:Dv),its[j]? =some v->ds[j]? =some d->bh s.heap (v,d))(iY:ds.length=its.size)(hb:its.size<=4)(h:∀(h':Heap)(tk:Nat)(es:List (Value × Dv)),dy w h' s.heap.objs.size es->Bj es ds->es.length<=its.size->CH its ds es->(∀b o,b<s.heap.objs.size->s.heap.get? b=some o->h'.get? b=some o)->Q (.ref s.heap.objs.size) {s with heap:=h',toks:=tk}):wpAny (model prog w) A (call (.type "set") [.ref a]) Q E s:=by
 obtain⟨c,tl,hmro⟩:=F.called_set.mro;have Np:=F.called_set.made;have lN:=F.called_set.sub;refine yeq (yeT ?_);show wpAny _ _ (callAny (.type "set") _) _ _ _;refine yac ⟨Code.quiet_builtin _ (by rfl'),ybJ F.entry_type_call ?_⟩;rw[Around.under_plain (weight_type_call_type "set" [.ref a] []) rfl];have h1:=F.called_set.notType;have h2:=F.called_set.canCreate;have hct:=F.typeCall_set_1 (.ref a)
 repeat (any_goals (first|assumption|wp_step))
 refine ycW (QaM (.ref a) (E:=E) (Q₁:=λobj s₁=>∃led:Bool,led=(!w.params.followText "set-order")/\obj=.ref s.heap.objs.size/\s₁={s with heap:=s.heap.push (zT led)}) ⟨_,Z,Z,Z⟩) λr s₁ hr=>?_;cases r with
 |error e=>exact hr
 |ok fl=>
  cases fl with
  |ret obj=>
   obtain⟨led,lR,rfl,rfl⟩:=hr;have hS:(s.heap.push (zT led)).get? s.heap.objs.size=some (zT led):=yag _ rfl;have hT:Shared.TypeIs {s with heap:=s.heap.push (zT led)} (.ref s.heap.objs.size) "set":=⟨_,hS,Z⟩;have hli:=F.called_set.init.lookup;have hbi:=F.called_set.init.bind (.ref s.heap.objs.size)
   repeat (any_goals (first|assumption|wp_step))
   refine ycW (ybY (R:=wants (λr s₂=>r=.none/\∃h' tk es,s₂={s with heap:=h',toks:=tk}/\dy w h' s.heap.objs.size es/\Bj es ds/\es.length<=its.size/\CH its ds es/\(∀b o,b<s.heap.objs.size->s.heap.get? b=some o->h'.get? b=some o)) E) F.called_set.init.plain F.entry_set_init (check_set_init_1 hT ?_)) λr₂ s₂ Hj=>?_
   .obtain⟨⟨ocls,CJ,Nq,Al⟩,Bc,Nr,nl,NE⟩:=hT0;simp only at Nr NE;subst Nr;subst NE;have Hk:(s.heap.push (zT led)).get? a=some {cls:=.type "list",dict:=CJ,data:=.seq its nl,slots:=Al}:=yab _ Bc;have hsls:=F.sub_list_set;have hslf:=F.sub_list_frozenset;have sw:(Value.type "list"==Value.type "dict")=false:=by lia
    have lO:(s.heap.push (zT led)).IsList a its:=⟨_,Hk,Z,nl,Z⟩;unfold Builtin.«set.__init__» noKeywords Builtin.Frozenset.updateFrom;generalize hPI:pyIter=PI
    wp_walk
    subst hPI;refine ydl lO ?_;refine yaa (wpAny_runValue ?_);have Nt:a<s.heap.objs.size:=yaj Bc;have Gz:A.in1.in1.in1.handled=none:=by simp[hh]
    have Hl:a≠(s.heap.push (zT led)).objs.size:=by rw[yaQ];exact yaq (ycA Nt)
    have sX:s.heap.objs.size≠(s.heap.push (zT led)).objs.size:=by rw[yaQ];exact yaq (yco _)
    have up:∀b o,s.heap.get? b=some o->((s.heap.push (zT led)).push {cls:=.type "list_iterator",data:=.fields #[.ref a,.int 0 0]}).get? b=some o:=λb o e=>yab _ (yab _ e);refine vK (I:=(s.heap.push (zT led)).objs.size) (l:=a) (S:=s.heap.objs.size) (ds:=ds) Gz (by show A.units+1+1+9<cLine;lia) Hl sX (yct Nt) iY hb (its.size-0) 0 _ [] (by lia) (lG _) ⟨_,yag _ rfl,Z,Z⟩ (lO.push _) (λj v d a b=>(Ak j v d a b).keep λb o e _=>up b o e) ?hS0 (λd=>⟨λ⟨e,he,_⟩=>(nomatch he),λz=>by rw[ycI]at z;cases z⟩) (tO _) (λe he=>nomatch he) λs' sK hm iE hj hle GE=>?hR
    case hS0=>
     have Hm:((s.heap.push (zT led)).push {cls:=.type "list_iterator",data:=.fields #[.ref a,.int 0 0]}).get? s.heap.objs.size=some (zT led):=yab _ hS;exact⟨⟨_,0,_,Hm,⟨Z,Z,Z⟩,Z,aI.QaI 0 0 led,aI.x6 0 0 led,lR⟩,λe he=>(nomatch he),List.nodup_nil⟩
    case hR=>
     obtain⟨h',g',d',IO,iW⟩:=s';obtain rfl:g'=s.gens:=hm.gens;obtain rfl:d'=s.drawn:=hm.drawn;obtain rfl:iW=s.os:=hm.os;show wpAny _ _ _ _ _ _;refine yac ?_;show wpAny _ _ (ret Value.none) _ _ _;refine yac ⟨Z,h',IO,sK,Z,iE,hj,hle,GE,λb o hb e=>?_⟩;have Hn:b≠s.heap.objs.size:=yaq hb;have Fr:b≠(s.heap.push (zT led)).objs.size:=by rw[yaQ];exact yaq (ycA hb)
     exact hm.heap b o (by simp only[yak,yap,yaK,ycC,not_or];exact⟨Hn,Fr⟩) (up b o e)
   .cases r₂ with
    |error e=>exact Hj
    |ok fl2=>
     cases fl2 with
     |ret r=>
      obtain⟨rfl,h',tk,es,rfl,iE,hj,hle,GE,Ho⟩:=Hj
      repeat (any_goals (first|assumption|wp_step))
      exact h _ _ es iE hj hle GE Ho
     |_=>exact Hj.elim
  |_=>exact hr.elim
end
open PySem PySem.Spec PyProof.Rows PySem.W
noncomputable def o6(w:World)(a:Addr)(ys:List V)(ds:List Dv):HO:=.ext λh=>∃es:List (Value × Dv),(∃o ep t,h.get? a=some o/\o.ExactSet/\o.data=.set (ents w es).toArray ep t/\aI.Ok (hashes w es) t/\aI.Zc (hashes w es) t/\t.led= !w.params.followText "set-order")/\(es.map (·.2)).Nodup/\Bj es ds/\es.length<=4/\∀e∈es,∃(j:Nat)(y:V),ys[j]? =some y/\RelV y e.1/\ds[j]? =some e.2
def jj(ds:List Dv):Prop:=∀d∈ds,(∃es,d=.tup es)/\d.hk=true/\d.depth<=7
def zc{X:Cx}{U:List (Addr × Obj)}{σ:St}{ys:List V}{ds:List Dv}(I:Inv X U σ H s)(hD:aj H ys ds)(hk:jj ds){j:Nat}{x:V}(hx:ys[j]? =some x)(hd:ds[j]? =some d)(rx:RelV x u):bh s.heap (u,d):=by
 obtain⟨d',Sc,dx⟩:=hD.j6 hx;rw[hd]at Sc;cases Sc;obtain⟨⟨es,rfl⟩,h1,h2⟩:=hk d (lj hd);exists dx.hd I h1 rx,h2,h1;cases dx with
 |tup g t=>cases rx;exact⟨_,Z⟩
section
def ke(hc:X.calm=true)(hu:X.A.units+64<cLine):Ww X (.type "set") (λxs H Q=>∃(p:Addr)(ys:List V)(ds:List Dv),xs=[.ref p]/\aE X.K H p ys/\aj H ys ds/\jj ds/\ys.length<=4/\∀q,H q=none->Q (.ref q) (upd H q (o6 X.w q ys ds))):=by
 intro U s σ H xs us Q I r h;obtain⟨p,ys,ds,rfl,hq,hD,hk,hy,q⟩:=h;obtain⟨u,rfl,ru⟩:=vals1 r;obtain rfl:u=Value.ref p:=ru;obtain⟨its,rv,pl,hl⟩:=I.list hq;have hlen:=rv.length;have NE:=hD.length;have hsz:its.toArray.size=ys.length:=by rw[lF,hlen]
 refine kc (ds:=ds) (I.ok.hd hc) hu pl.isList (λj v d hv hd=>?_) (by lia) (by lia) λh' tk es hS hj hle GE Ho=>?_
 .have hv:its[j]? =some v:=by simpa using hv
  obtain⟨x,hx,rx⟩:=ji rv hv;exact zc I hD hk hx hd rx
 .have hn:=I.ao.fresh (tO s.heap.objs.size);refine⟨.ref s.heap.objs.size,upd H s.heap.objs.size (o6 X.w s.heap.objs.size ys ds),?_,Z,q _ hn⟩;refine I.QcK (ch:=[]) (λb hb=>by cases hb) (λb o _ e=>Ho b o (yaj e) e) (tO _) ?_;refine⟨⟨es,hS.ex,hS.nd,hj,by lia,λe he=>?_⟩,?_,λh1 h2⟨es,⟨o,ep,t,z,r⟩,r2⟩ kk=>⟨es,⟨o,ep,t,kk o z,r⟩,r2⟩⟩
  .obtain⟨j,h1,h2⟩:=GE e he;have h1:its[j]? =some e.1:=by simpa using h1
   obtain⟨x,hx,rx⟩:=ji rv h1;exact⟨j,x,hx,rx,h2⟩
  .obtain⟨o,ep,t,ho,_⟩:=hS.ex;exact⟨o,ho⟩
end
open Builtin Builtin.Str
section
def QcV(hu:X.A.units+1+n<cLine):aW X (compareOp .NotEq) (λx y H Q=>∃a b xs ys ds es,x=.ref a/\y=.ref b/\aE X.K H a xs/\aE X.K H b ys/\aj H xs ds/\aj H ys es/\Dv.JX ds<=n/\Q (.bl (!(Dv.kJ ds es))) H):=by
 intro U s σ H x y v u Q I rx ry h;obtain⟨a,b,xs,ys,ds,es,rfl,rfl,ha,hb,t,t2,hd,q⟩:=h;obtain rfl:v=Value.ref a:=rx;obtain rfl:u=Value.ref b:=ry;obtain⟨its,r1,p1,_⟩:=I.list ha;obtain⟨ci,r2,p2,_⟩:=I.list hb;have l1:=r1.length;have l2:=r2.length;have m1:=t.length;have m2:=t2.length
 by_cases hl:ds.length=es.length
 .refine SeqAt.RcNeAt.lists (e:=λj=>((ds[j]?).getD .aq).ba ((es[j]?).getD .aq)) p1.isList p2.isList (by rw[lF,lF];lia) (by lia) (VH (U:=U) (σ:=σ) (H:=H) (n:=n) r1 r2 λj x y u v g1 g2 w1 w2=>?_) X.prog X.w X.xe _ ?_
  .obtain⟨d1,k1,k2⟩:=t.j6 g1;obtain⟨e1,k3,k4⟩:=t2.j6 g2;show SeqAt.EqAt X.A.in1 s u v (((ds[j]?).getD .aq).ba ((es[j]?).getD .aq));rw[k1,k3];exact ag.at I n d1 e1 x y (yao (Dv.Ko k1) hd) k2 k4 (by show X.A.units+1+n<cLine;lia) w1 w2
  .have e:=Dv.ZE ds es;rw[hl,Nat.min_self,ybf,Bool.and_true]at e;refine⟨.bl _,H,I,?_,q⟩;rw[e];show Value.bool _=Value.bool _;rw[lF, <-l1,m1,hl]
 .have e:Dv.kJ ds es=false:=by rw[Dv.ZE,beq_false_of_ne hl,yen]
  rw[e]at q;refine SeqAt.RcNeAt.lists_lengths p1.isList p2.isList (by rw[lF,lF];simp;lia) (by lia) _ _ _ _ ?_;exact⟨.bl true,H,I,Z,q⟩
end
structure cX(P:Program)(w:World)(K:Frag)(mg:Str->Option Value)(Y:Heap)(C:Addr)(k:Nat)(m:Str)(ps:List Str)(dv:V)(sp:Sp):Prop where
 cl:eh K C
 ex:∃f fd d,Meth K C m f/\Binds K fd ps [d]/\RelV dv d/\Zz1 P w K mg Y k f fd ps sp
section
variable {X:Cx}{E:XK}{o e:Expr}{es:List Expr}{ta:TE}{t:TA}{k k':Nat}{m:Str}{ps:List Str}{sp:Sp}{C:Addr}{pl:Sem Bool}{pos apos:Pos}{dv:V}
def cX.pe(D:cX X.prog X.w X.K X.mg X.Y C k m ps dv sp)(hr:Zc k' X.A)(hk:k<=k')(hx:Passes (av X.prog X.w) X E)(he:PE X o ta)(ha:PA X (e::es) t)(lm:starEach (e::es) X.env=(false,eval e X.env)::starEach es X.env:=by rfl)(dL:(backTo pos (starEach es X.env)).any (·.1)=false:=by rfl)(ht:eval (.Call (.Attribute o m apos) (e::es) [] pos) X.env=(do
   let ov<-eval o X.env
   standAt apos.atName
   let (f,first)<-holding [ov] (getMethod ov m pl)
   callWith pos f first (backTo pos (starEach (e::es) X.env)) (backToKw pos (keywordEach [] X.env))):=by rfl):PE X (.Call (.Attribute o m apos) (e::es) [] pos) (Ue C m sp [dv] E ta t):=by
 obtain⟨f,fd,d,hm,hb,hd,F⟩:=D.ex;exact k8 he D.cl hm F (hr.mono hk) hb (.cons hd .nil) hx ha lm dL ht
end
structure MethAtD(K:Frag)(C:Addr)(m q:Str)(st:Stmt)(nm:Str)(v:Value):Prop where
 ex:∃(f kd:Addr)(oc:Value)(od:Option Addr)(doc pm:Value)(an:Option Addr)(am ct:Value)(ge:Array (Option Value)),Meth K C m f/\
  K.lookup f=some ⟨oc,od,.func (fnOf m q (Q7 st) (QS st) (Qe st) .none (.ref kd) doc pm an am ct),ge⟩/\codeIn K am q=true/\nsOkIn K kd=true/\nsIn K kd nm=some (some v)
def kg{K:Frag}{m q:Str}{st:Stmt}{nm:Str}{od an:Option Addr}{ge:Array (Option Value)}{doc pm am ct:Value}(a:findIn K (.ref C) m=some (some (.ref f)))(i:isFn K (.ref f)=true)(l:K.lookup f=some ⟨oc,od,.func (fnOf m q (Q7 st) (QS st) (Qe st) .none (.ref kd) doc pm an am ct),ge⟩)(c:codeIn K am q=true)(k:keepIn K (.ref f)=true)(n:nsOkIn K kd=true)(d:nsIn K kd nm=some (some v)):MethAtD K C m q st nm v:=
 ⟨f,kd,oc,od,doc,pm,an,am,ct,ge,⟨a,i,k⟩,l,c,n,d⟩
def MethAtD.Nu{K:Frag}{Y:Heap}{m q:Str}{st:Stmt}{k:Nat}{p1 p2 p3 p4:Str}{sp:Sp}{b:Bool}(D:MethAtD K C m q st p4 (.bool b))(cl:eh K C)(ao:∀f fd,az K m q st f fd->Zz1 P w K mg Y k f fd [p1,p2,p3,p4] sp)(hb:∀(kd:Addr)(doc pm:Value)(an:Option Addr)(am ct:Value)(u1 u2 u3:Value),dW (bindArgs (fnOf m q (Q7 st) (QS st) (Qe st) .none (.ref kd) doc pm an am ct) ⟨[u1,u2,u3],[]⟩) (nsGet kd p4) (.bool b) [(p1,u1),(p2,u2),(p3,u3),(p4,.bool b)]):cX P w K mg Y C k m [p1,p2,p3,p4] (.bl b) sp:=by
 obtain⟨f,kd,oc,od,doc,pm,an,am,ct,ge,qMa,l,c,n,d⟩:=D.ex;refine⟨cl,f,_,.bool b,qMa,λs us KX hl=>?_,Z,ao f _ ⟨⟨oc,od,.ref kd,doc,pm,an,am,ct,ge,Z,l,c⟩,qMa.kp⟩⟩;have Nk:s.heap.Ns kd (s.heap.nsMap kd):=.of_isNs (isNs_of_in KX n);have h3:us.length=3:=by simpa using hl
 match us,h3 with
 |[u1,u2,u3],_=>exact(hb kd doc pm an am ct u1 u2 u3).binds Nk (MT KX Nk d)
open PySem.SetTable (turns)
section
variable {prog:Program}
def QcW(hu:A.units+32<cLine)(ho:s.heap.get? a=some o)(hex:o.ExactSet)(hd:o.data=.set (ents w es).toArray ep t)(ok:aI.Ok (hashes w es) t)(rm:aI.Zc (hashes w es) t)(el:∀e∈es,bh s.heap e)(hx:bh s.heap (x,d))(h:∀b tk,(b=true↔∃e∈es,e.2=d)->Q (.bool b) {s with toks:=tk}):wpAny (model prog w) A (compareOp .In x (.ref a)) Q E s:=by
 have hT:s.TypeIs (.ref a) "set":=⟨o,ho,hex.1⟩;obtain⟨bx,Aj⟩:=hx.rf;have Aj:x=.ref bx:=Aj;have hsz:(ents w es).toArray.size=es.length:=by rw[lF,tL]
 have hlen:t.place.size=es.length:=by rw[ok.len,tL]
 have lQ:es.length*5<t.mask*3:=by have:=rm;unfold aI.Zc at this;rwa[tL]at this
 have o4:t.fill=es.length:=by show t.place.size+t.dummies.size=_;rw[ok.oZ,hlen];rfl
 have hf:t.fits (ents w es).toArray.size=true:=by
  rw[hsz];simp only[SetTable.fits,yay,ybl,ybH];exact⟨hlen,by lia⟩
 obtain⟨N,fk,hN,bi⟩:=aI.YZ ok rm (Jn w d);show wpAny _ _ (do return .bool (<-contains (.ref a) x)) Q E s;refine yaa ?_;unfold contains
 try with_reducible refine ybe ?_
 refine yaa (yaN hT F.slot_set_contains.lookup ?_);rw[yah (by rw[beq_builtin_none];exact yal)];refine yaa (wpAny_callSpecialUnlessNone?_slot (name:=Str.ofString "__contains__") hT F.slot_set_contains (yaM F.slot_set_contains hT entry_set_contains ?_ (F.args_set_contains_2 _ _)));unfold Builtin.«frozenset.__contains__» Builtin.Frozenset.oneOther;simp only[List.isEmpty_nil,bind_assoc];unfold Builtin.Frozenset.addrOf Builtin.Frozenset.withSetAsKey setContains;refine yaa (yac ?_)
 try dsimp only
 refine yaa (yac ?_)
 try dsimp only
 refine yaa (wpAny_tryCatch (ybe ?_));refine yaa (HD.hash 7 hx.dp hx.hd (by show A.units+1+7<cLine;lia) λtk=>?_);have iJ:∀e∈es,bh ({s with toks:=tk}:Shared).heap e:=el;unfold setFind setFindIn;refine yaa (yaa (ycD (s:={s with toks:=tk}) ho hd hf ?_));dsimp only;rw[show byScan x (ents w es).toArray=false by rw[Aj];rfl];simp only[yam,yaL];refine yaa (Y1 (ad:=false) (s:={s with toks:=tk}) (by show A.units+1+8<cLine;lia) ho hd ok rm el hx fk hN bi N 0 100000 none (by lia) (lG _) (by unfold turns at fk;rw[ok.mask]at fk;lia) Z (λm hm=>by lia) (λGM r hr=>?_) λRe=>?_)
 .refine yac (yac ?_);rw[hr rfl];exact yac ⟨_,Z,yaW (yac (h true tk ⟨λ_=>GM,λ_=>rfl⟩))⟩
 .exact yac (yac (yac ⟨_,Z,yaW (yac (h false tk ⟨λz=>(nomatch z),λ⟨e,he,z⟩=>absurd z (Re e he)⟩))⟩))
end
inductive ik (w:World) (x:V) (y:V) (H:Hp) (Q:VK):Prop
 |mk (p:Addr) (ys:List V) (ds:List Dv) (d:Dv):y=.ref p->H p=some (o6 w p ys ds)->aj H ys ds->jj ds->ag H x d->jj [d]->(∀b:Bool,(b=true↔d∈ds)->Q (.bl b) H)->ik w x y H Q
def QaN(hw:X.w=w0)(hu:X.A.units+32<cLine):aW X (compareOp .In) (ik w0):=by
 subst hw;intro U s σ H x y v u Q I rx ry h;obtain⟨p,ys,ds,d,rfl,hp,hD,hk,hd,Hq,q⟩:=h;obtain rfl:u=Value.ref p:=ry;obtain⟨⟨es,⟨o,ep,t,ho,hex,Hr,ok,rm,led⟩,Nd,hj,hle,Hs⟩,_⟩:=I.ao p _ hp;have Ak:∀e∈es,bh s.heap e:=λe he=>by
  obtain⟨j,y,h1,h2,h3⟩:=Hs e he;exact zc I hD hk h1 h3 h2
 have hx:bh s.heap (v,d):=zc (j:=0) (ys:=[x]) (ds:=[d]) I (.cons hd .nil) Hq rfl rfl rx;refine QcW hu ho hex Hr ok rm Ak hx λb tk hb=>⟨.bl b,H,I.kept (t':=tk) λ_ _ e=>e,Z,q b (hb.trans (hj d))⟩
def QfZ(b:Bool)(ta:TE):TE:=λσ H Q=>ta σ H λx H1=>∃c,x=.bl c/\Q (.bl (c !=b)) H1
def QcX{j pos'}(ha:PE X a ta):PC X .IsNot a (.Constant (.bool b) j pos') (QfZ b ta):=by
 intro U s σ H Q I h;refine ax (ha U s σ H _ I h) λv s1⟨x,H1,I1,r1,c,e,q1⟩=>?_;subst e;cases r1;refine Constant_bool ?_;have z:EP X U σ Q (.bool (c !=b)) s1:=⟨.bl _,H1,I1,Z,q1⟩;cases c<;>cases b<;>exact yac z
end L2
def Am:0<=PySem.sizeLine:=by rw[ycg];lia
def iL:1<=PySem.sizeLine:=by rw[ycg];lia
def bF:2<=PySem.sizeLine:=by rw[ycg];lia
def CK:3<=PySem.sizeLine:=by rw[ycg];lia
def Bk:4<=PySem.sizeLine:=by rw[ycg];lia
def sL5:5<=PySem.sizeLine:=by rw[ycg];lia
namespace Lw
open PySem PySem.Spec PyProof.Rows L2 dB bL
section
variable {P:Program}{w:World}{K:Frag}{mg:Str->Option Value}{Y:Heap}{f:Addr}{fd:FuncData}{tk:Nat->Tok}{c kr:Nat->Addr}
noncomputable def top(i:Nat):Stmt:=PySem.Challenge.pw_boxmoves_k46_whole_sums_in_areas.main.body.getD i (.Pass ⟨0,0,0,0⟩)
noncomputable abbrev UG:Stmt:=top 16
def Wn:af ["many","power","turn"] ["many"] (Qe UG):=by constructor<;>rfl'
noncomputable abbrev X2:Stmt:=top 17
def UH:af ["text"] ["text"] (Qe X2):=by constructor<;>rfl'
noncomputable abbrev KC:Stmt:=top 18
def Zk:af ["text","number","start","part"] ["text"] (Qe KC):=by constructor<;>rfl'
noncomputable abbrev X3:Stmt:=top 19
def J5:af ["number","above","parts","part"] ["number"] (Qe X3):=by constructor<;>rfl'
noncomputable abbrev Wo:Stmt:=top 30
def WN:af ["picture","rows","facts"] ["picture"] (Qe Wo):=by constructor<;>rfl'
noncomputable abbrev Wp:Stmt:=top 32
def WO:af ["picture","rows","facts"] ["picture"] (Qe Wp):=by constructor<;>rfl'
noncomputable abbrev ZW:Stmt:=top 33
def Xx:af ["picture","rows","facts"] ["picture"] (Qe ZW):=by constructor<;>rfl'
noncomputable abbrev J6:Stmt:=top 34
def Zq:af ["kind","picture","rows","facts"] ["kind","picture"] (Qe J6):=by constructor<;>rfl'
noncomputable abbrev Xy:Stmt:=top 35
def YA:af ["rows"] ["rows"] (Qe Xy):=by constructor<;>rfl'
noncomputable abbrev V2:Stmt:=top 36
def Ze:af ["thing","rows","at","symbol","many"] ["thing"] (Qe V2):=by constructor<;>rfl'
noncomputable abbrev WP:Stmt:=top 37
def KF:af ["text","at","end","number"] ["text","at"] (Qe WP):=by constructor<;>rfl'
noncomputable abbrev WQ:Stmt:=top 38
def Xz:af ["rows","facts"] ["rows"] (Qe WQ):=by constructor<;>rfl'
noncomputable abbrev Z5:Stmt:=top 39
def Q2:af ["rows","symbol","many","signed","behind_point","figures"] ["rows"] (Qe Z5):=by constructor<;>rfl'
noncomputable abbrev XA:Stmt:=top 40
def Z6:af ["rows","symbol","many"] ["rows"] (Qe XA):=by constructor<;>rfl'
noncomputable abbrev Z7:Stmt:=top 41
def QH:af ["rows","lead","start","place","many","nines","behind","end","tail","floats","shown","before"] ["rows"] (Qe Z7):=by constructor<;>rfl'
noncomputable abbrev Z8:Stmt:=top 42
def Q3:af ["rows","lead","start","place","many","nines","behind","end"] ["rows"] (Qe Z8):=by constructor<;>rfl'
noncomputable abbrev V3:Stmt:=top 43
def ZF:af ["rows","lead","at","choice"] ["rows"] (Qe V3):=by constructor<;>rfl'
noncomputable abbrev KG:Stmt:=top 44
def Zl:af ["rows","at","symbol","many","behind"] ["rows","at"] (Qe KG):=by constructor<;>rfl'
noncomputable abbrev V4:Stmt:=top 45
def Zf:af ["rows","at","place","many","nines","behind"] ["rows","at"] (Qe V4):=by constructor<;>rfl'
noncomputable abbrev X4:Stmt:=top 46
def JG:af ["rows","at","place","many","nines"] ["rows","at"] (Qe X4):=by constructor<;>rfl'
noncomputable abbrev KH:Stmt:=top 47
def ZX:af ["rows","at","place","many"] ["rows","at","place"] (Qe KH):=by constructor<;>rfl'
noncomputable abbrev XB:Stmt:=top 48
def Z9:af ["rows","at","place","symbol","many"] ["rows","at","place"] (Qe XB):=by constructor<;>rfl'
noncomputable abbrev V5:Stmt:=top 49
def Y2:af ["rows","at","tail"] ["rows","at"] (Qe V5):=by constructor<;>rfl'
noncomputable abbrev WR:Stmt:=top 51
def JU:af ["layout","signs","left","items","times","item"] ["layout"] (Qe WR):=by constructor<;>rfl'
noncomputable abbrev zd:Stmt:=top 52
def UI:af ["layout","path","start","item"] ["layout","path"] (Qe zd):=by constructor<;>rfl'
noncomputable abbrev J7:Stmt:=top 53
def Kv:af ["layout","path","other","others"] ["layout","path","other"] (Qe J7):=by constructor<;>rfl'
noncomputable abbrev UJ:Stmt:=top 55
def Zz:af ["layout","path","start","items","item","step","ahead"] ["layout","path"] (Qe UJ):=by constructor<;>rfl'
noncomputable abbrev Zr:Stmt:=top 56
def Ja:af ["items","with_tables","paths","left","path","item","number"] ["items","with_tables"] (Qe Zr):=by constructor<;>rfl'
noncomputable abbrev X5:Stmt:=top 57
def UK:af ["path","items"] ["path","items"] (Qe X5):=by constructor<;>rfl'
noncomputable abbrev vL:Stmt:=top 58
def QcY:af ["item"] ["item"] (Qe vL):=by constructor<;>rfl'
noncomputable abbrev WS:Stmt:=top 59
def ze:af ["thing"] ["thing"] (Qe WS):=by constructor<;>rfl'
noncomputable abbrev Wq:Stmt:=top 60
def Zg:af ["items","step","name","number","under","at","item"] ["items","step"] (Qe Wq):=by constructor<;>rfl'
noncomputable abbrev X6:Stmt:=top 61
def UL:af ["step"] ["step"] (Qe X6):=by constructor<;>rfl'
noncomputable abbrev JR:Stmt:=top 62
def WT:af ["item","number"] ["item","number"] (Qe JR):=by constructor<;>rfl'
noncomputable abbrev s_same:Stmt:=top 64
def UM:af ["one","other","first","second","places"] ["one","other"] (Qe s_same):=by constructor<;>rfl'
noncomputable abbrev zf:Stmt:=top 65
def Vl:af ["one","other","first","second","places"] ["one","other"] (Qe zf):=by constructor<;>rfl'
noncomputable abbrev Ht:Stmt:=top 66
def vM:af ["amount","places","units","own"] ["amount","places"] (Qe Ht):=by constructor<;>rfl'
noncomputable abbrev V6:Stmt:=top 67
def kh:af ["amount","places","units","own","by","twice","nearest"] ["amount","places"] (Qe V6):=by constructor<;>rfl'
noncomputable abbrev UN:Stmt:=top 68
def V7:af ["amount","before","behind","units","kept"] ["amount","before","behind"] (Qe UN):=by constructor<;>rfl'
noncomputable abbrev WU:Stmt:=top 69
def V8:af ["one","other","places"] ["one","other"] (Qe WU):=by constructor<;>rfl'
noncomputable abbrev Xa:Stmt:=top 70
def X7:af ["number","by","quotient"] ["number","by"] (Qe Xa):=by constructor<;>rfl'
noncomputable abbrev Vm:Stmt:=top 75
def JQ:af ["picture","amount","rows","signed","before","behind","lead","body","tail","units","is_below"] ["picture","amount"] (Qe Vm):=by constructor<;>rfl'
noncomputable abbrev ZA:Stmt:=top 76
def QP:af ["picture","text","rows","signed","before","behind","lead","body","tail","pairs","units","choice"] ["picture","text"] (Qe ZA):=by constructor<;>rfl'
noncomputable abbrev Xb:Stmt:=top 77
def V9:af ["body"] ["body"] (Qe Xb):=by constructor<;>rfl'
noncomputable abbrev XC:Stmt:=top 78
def YB:af ["symbols"] ["symbols"] (Qe XC):=by constructor<;>rfl'
noncomputable abbrev KI:Stmt:=top 79
def jk:af ["symbols","is_below"] ["symbols","is_below"] (Qe KI):=by constructor<;>rfl'
noncomputable abbrev KJ:Stmt:=top 80
def ZY:af ["body","units","is_below","signs","hidden","place"] ["body","units","is_below"] (Qe KJ):=by constructor<;>rfl'
noncomputable abbrev UO:Stmt:=top 81
def ZK:af ["body","units","symbol","many","figures","signs","used"] ["body","units"] (Qe UO):=by constructor<;>rfl'
noncomputable abbrev KK:Stmt:=top 82
def X8:af ["body","signs","at","symbol"] ["body","signs"] (Qe KK):=by constructor<;>rfl'
noncomputable abbrev ZZ:Stmt:=top 87
def Jx:af ["picture","amount","rows","signed","before","behind","units","figures"] ["picture","amount"] (Qe ZZ):=by constructor<;>rfl'
noncomputable abbrev XD:Stmt:=top 88
def Jj:af ["picture","content","rows","signed","before","behind","last","is_below","figures","units"] ["picture","content"] (Qe XD):=by constructor<;>rfl'
noncomputable abbrev zZ:Stmt:=top 89
def Ya:af ["content","picture","other","right","source","target","text","moved"] ["content","picture","other","right"] (Qe zZ):=by constructor<;>rfl'
noncomputable abbrev Vn:Stmt:=top 90
def Xg:af ["picture","amount","nearest","rows","signed","before","behind","result"] ["picture","amount","nearest"] (Qe Vn):=by constructor<;>rfl'
noncomputable abbrev zg:Stmt:=top 91
def z5:af ["picture","kind"] ["picture"] (Qe zg):=by constructor<;>rfl'
noncomputable abbrev EL:Stmt:=top 92
def QeI:af ["picture","amount"] ["picture","amount"] (Qe EL):=by constructor<;>rfl'
noncomputable abbrev ZB:Stmt:=top 93
def Xc:af ["content","picture","kind","figures"] ["content","picture"] (Qe ZB):=by constructor<;>rfl'
noncomputable abbrev Xd:Stmt:=top 94
def Yb:af ["content","picture","signed","before","behind","units","places"] ["content","picture"] (Qe Xd):=by constructor<;>rfl'
noncomputable abbrev Yc:Stmt:=top 95
def ki:af ["text","size","right"] ["text","size","right"] (Qe Yc):=by constructor<;>rfl'
noncomputable abbrev ZL:Stmt:=inClass (top 98) 0
def Vg:af ["self","layout"] ["self","layout"] (Qe ZL):=by constructor<;>rfl'
noncomputable abbrev WV:Stmt:=inClass (top 98) 4
def XE:af ["self","path","start","size","picture"] ["self","path"] (Qe WV):=by constructor<;>rfl'
noncomputable abbrev ZC:Stmt:=inClass (top 98) 5
def Zh:af ["self","path","start","size","picture"] ["self","path"] (Qe ZC):=by constructor<;>rfl'
noncomputable abbrev XF:Stmt:=inClass (top 98) 6
def Z0:af ["self","path","text","start","size","picture"] ["self","path","text"] (Qe XF):=by constructor<;>rfl'
noncomputable abbrev Z1:Stmt:=inClass (top 98) 8
def J8:af ["self","path","amount","nearest","start","size","picture","content"] ["self","path","amount","nearest"] (Qe Z1):=by constructor<;>rfl'
noncomputable abbrev XG:Stmt:=inClass (top 98) 9
def X9:af ["self","path","other","right","source","target"] ["self","path","other","right"] (Qe XG):=by constructor<;>rfl'
noncomputable abbrev JH:Stmt:=inClass (top 98) 10
def QT:af ["self","path","other","source","target","ways","held","way"] ["self","path","other"] (Qe JH):=by constructor<;>rfl'
noncomputable abbrev XH:Stmt:=inClass (top 98) 14
def YC:af ["self","word","held"] ["self","word","held"] (Qe XH):=by constructor<;>rfl'
noncomputable abbrev JM:Stmt:=top 99
def Jk:af ["layout","parts","left","item"] ["layout"] (Qe JM):=by constructor<;>rfl'
noncomputable abbrev Z2:Stmt:=top 100
def UP:af ["picture","kinds"] ["picture","kinds"] (Qe Z2):=by constructor<;>rfl'
noncomputable abbrev Ka:Stmt:=top 101
def UQ:af ["held","start","text"] ["held","start","text"] (Qe Ka):=by constructor<;>rfl'
noncomputable abbrev XI:Stmt:=top 102
def Js:af ["held","source","target","right","start","size","picture","other_start","other_size","other_picture","content"] ["held","source","target","right"] (Qe XI):=by constructor<;>rfl'
noncomputable abbrev KL:Stmt:=top 104
def Zm:af ["_law_script","_law_town","_law_many","_law_at","_law_rest","_law_number"] ["_law_script","_law_town","_law_many"] (Qe KL):=by constructor<;>rfl'
noncomputable abbrev Kb:Stmt:=top 105
def UR:af [] [] (Qe Kb):=by constructor<;>rfl'
noncomputable abbrev Zs:Stmt:=top 106
def JI:af ["_law_script","_law_town","_law_figures","_law_far","_law_units","_law_places","_law_k"] ["_law_script","_law_town","_law_figures","_law_far"] (Qe Zs):=by constructor<;>rfl'
noncomputable abbrev Kc:Stmt:=top 107
def ZD:af ["_law_many","_law_row","_law_inner","_law_seen"] ["_law_many"] (Qe Kc):=by constructor<;>rfl'
noncomputable abbrev US:Stmt:=top 108
def Zx:af ["_law_script","_law_town","_law_many","_law_items_here","_law_area","_law_due","_law_k","_law_at","_law_one","_law_path","_law_before","_law_fits_so","_law_parts","_law_whole","_law_part"] ["_law_script"] (Qe US):=by constructor<;>rfl'
inductive cp (vs:List V) (H:Hp) (Q:VK) (ap:XK):Prop
 |mk (m:Int):vs=[.int m]-> -(2^62)<=m->m<2^62->Q (.int (ay.aM m)) H->cp vs H Q ap
def vN(F:az K "ten_to" "ten_to" UG f fd)(O:Own mg):Zz1 P w K mg Y 1 f fd ["many"] cp:=by
 refine okN F Wn (by nofun) λam A L s H vs Q E hr h=>?_
 obtain⟨m,rfl,h1,h2,k⟩:=h;refine⟨_,(Qd (Qt (i:=1) Wn.nd Z Zz0 Qj)
  (Qd (ZR yaz Z (XU Z O.range (Qa (pv 0) Qb)) (Qi (i:=2) Wn.nd Z Zz0) (Qg (Qt (i:=1) Wn.nd Z Zz0 (QF K7 (pv 1) Qj))))
  (Qg (Qp (pv 1))))),?_⟩
 refine⟨_,Z,m,Z,h1,h2,qE (n:=m.toNat) (λi σ H2=>∃v,σ=[some (.int m),some (.int (10^i)),v]/\H2=H) ⟨none,Z,Z⟩ ?_ ?_⟩
 .rintro i σ H2 hi ⟨v,rfl,rfl⟩;refine⟨_,Z,_,_,Z,Z,.inr ⟨by lia,by lia⟩,?_⟩;exact⟨_,by rw[Int.pow_succ];rfl,Z⟩
 .rintro σ H2 ⟨v,rfl,rfl⟩;exact⟨_,Z,k⟩
def Yd(h:m<=40):(ay.aM m).natAbs<2^200:=by
 have h1:=ay.SW (a:=m) (b:=40) h (by lia);have h2:=ay.JC m;have h3:ay.aM 40<2^200:=by lia
 lia
def big{a:Int}(h:a.natAbs<2^200):a.natAbs<2^2000:=yan h (by lia)
structure Txt(K:Frag)(mg:Str->Option Value)(tk:Nat->Tok)(c kr:Nat->Addr):Prop where
 u0:mg "BoxError"=some (.ref (c 0))
 rY:mg "NoPicture"=some (.ref (c 1))
 ux:mg "NoRoom"=some (.ref (c 2))
 mL:mg "NoFigures"=some (.ref (c 5))
 rZ:mg "NoLetters"=some (.ref (c 6))
 uy:mg "NoMove"=some (.ref (c 7))
 rl:mg "NoPath"=some (.ref (c 8))
 uc:mg "NoAmount"=some (.ref (c 9))
 ur:mg "NoGroup"=some (.ref (c 10))
 uu:mg "BadSize"=some (.ref (c 11))
 tH:mg "NoBack"=some (.ref (c 12))
 gU:mg "FIGURES"=some (.str "0123456789" (tk 0))
 nN:mg "PART"=some (.int 18 (tk 1))
 gP:mg "INSERTED"=some (.str ",B0/" (tk 2))
 pO:mg "SIGNS"=some (.str "+-" (tk 3))
 gD:mg "FLOATING"=some (.str "+-$" (tk 4))
 nO:mg "PLACES"=some (.str "9Z*+-$" (tk 5))
 gm:mg "MOST_FIGURES"=some (.int 18 (tk 6))
 gR:mg "MOST_SIGNS"=some (.int 60 (tk 7))
 gx:mg "LAST_BELOW"=some (.str "pqrstuvwxy" (tk 8))
 gh:mg "LETTERS_AND_BLANK"=some (.str "abcdefghijklmnopqrstuvwxyzABCDEFGHIJKLMNOPQRSTUVWXYZ " (tk 9))
 mf:mg "BESIDE"=some (.ref (kr 3))
 mh:mg "NOT_BELOW"=some (.ref (kr 4))
 pP:mg "BELOW"=some (.ref (kr 5))
 gE:mg "WITH_AMOUNTS"=some (.ref (kr 6))
 pQ:mg "MOVES"=some (.ref (kr 7))
 gF:mg "NUMBER_FORMS"=some (.ref (kr 0))
 pq:mg "SHOWN"=some (.ref (kr 1))
 gA:mg "PLAIN_KINDS"=some (.ref (kr 2))
 uZ:∀H,aw K H (kr 0) [.str "9",.str "S9",.str "V9",.str "SV9",.str "9V9",.str "S9V9"]
 pz:∀H,aw K H (kr 1) [.str "+",.str "-",.str "CR",.str "DB"]
 u5:∀H,aw K H (kr 6) [.str "number",.str "edited"]
 uz:∀H,aw K H (kr 8) [.str "number",.str "edited",.str "text"]
 uA:∀H,aw K H (kr 9) [.str "number",.str "edited",.str "text"]
 uB:∀H,aw K H (kr 10) [.str "number",.str "edited",.str "text",.str "letters"]
 uC:∀H,aw K H (kr 11) [.str "text",.str "letters"]
 r6:fG K (c 1)
 uD:fG K (c 2)
 mM:fG K (c 5)
 r8:fG K (c 6)
 uE:fG K (c 7)
 rn:fG K (c 8)
 ud:fG K (c 9)
 uv:fG K (c 10)
 uw:fG K (c 11)
 r9:kitOne K (.type "str") (.type "str")=some true
 ub:kitOne K (.type "int") (.type "str")=some false
 tI:kitOne K (.type "NoneType") (.type "str")=some false
 tJ:kitOne K (.type "tuple") (.type "str")=some false
noncomputable def jl:List (Key × V):=[(Sum.inr "X",.str "text"),(Sum.inr "A",.str "letters")]
inductive bw (vs:List V) (H:Hp) (Q:VK) (ap:XK):Prop
 |mk (z:Str):vs=[.str z]->z.length<=1000->Q (.bl (decide (z.cps.toList≠[]/\NumText.AllDigits z.cps.toList))) H->bw vs H Q ap
def Ye(z:Str):decide (V.str z=V.str "")=decide (z.cps.toList=[]):=by
 have e:("":Str)=tx []:=by rfl'
 rw[e]
 by_cases h:z.cps.toList=[]
 .rw[tN h,tN];rw[qY z,h]
 .rw[tM h,tM];intro q;exact h (by rw[V.str.inj q])
def vO(z:Str):decide (V.str (Txt.stripChars z "0123456789")=V.str "")=decide (NumText.AllDigits z.cps.toList):=by
 rw[Ye, <-wU z.cps.toList];have e:tx z.cps.toList=z:=(qY z).symm;rw[e]
 by_cases h:(Txt.stripChars z "0123456789").cps.toList=[]
 .rw[tN h,tN];rw[qY (Txt.stripChars _ _),h];rfl
 .rw[tM h,tM];intro q;exact h (by rw[q];rfl)
def UT(F:az K "is_figures" "is_figures" X2 f fd)(T:Txt K mg tk c kr):Zz1 P w K mg Y 1 f fd ["text"] bw:=by
 refine okN F UH (by nofun) λam A L s H vs Q E hr h=>?_
 obtain⟨z,rfl,hl,k⟩:=h;exists _,(Qg (Qp (YO (JS Xe (pv 0) Qk (Qq _)) (YN (JS Jl (JN yaD slot_str_strip type_str_strip Up (pv 0) (Qa (QK (v:=V.str "0123456789") Z T.gU ⟨_,Z⟩) Qb)) Qk (Qq _))))));exists _,Z,Z,_,Z;refine cf (λh=>?_) (λh=>?_)
 .exists _,Z,Z,z,"0123456789",Z,Z,yao hl (by lia),Z;rw[Ye]at h;refine Eq.mp (yaE (λb=>Q (.bl b) H) ?_) k;rw[vO];have sw:z.cps.toList≠[]:=λq=>by rw[tN q]at h;cases h
  by_cases hd:NumText.AllDigits z.cps.toList
  .rw[tN hd,tN ⟨sw,hd⟩]
  .rw[tM hd,tM λq=>hd q.2]
 .rw[Ye]at h;have sw:z.cps.toList=[]:=by
   by_cases q:z.cps.toList=[]
   .exact q
   .rw[tM q]at h;cases h
  refine Eq.mp (yaE (λb=>Q (.bl b) H) ?_) k;exact tM λq=>q.1 sw
inductive cY (vs:List V) (H:Hp) (Q:VK) (ap:XK):Prop
 |mk (z:Str):vs=[.str z]->NumText.AllDigits z.cps.toList->z.length<=500->Q (.int (NumText.digitsVal z.cps.toList:Nat)) H->cY vs H Q ap
def jm(F:az K "number_of" "number_of" KC f fd)(O:Own mg)(T:Txt K mg tk c kr)(gg:Def P w K mg Y 1 "ten_to" ["many"] cp):Zz1 P w K mg Y 2 f fd ["text"] cY:=by
 refine okN F Zk (by nofun) λam A L s H vs Q E hr h=>?_
 obtain⟨z,rfl,hd,h2,k⟩:=h;have o7:=len_list z;refine⟨_,(Qd (Qt (i:=1) Zk.nd Z Zz0 Qj)
  (Qd (ZR yaz Z (wI Z O.range (Qa Qj (Qa (Qw Q9 Z O.len ybg (Qa (pv 0) Qb)) (Qa (QK (v:=V.int 18) Z T.nN ⟨_,Z⟩) Qb)))) (Qi (i:=2) Zk.nd Z Zz0) (Qd (Qt (i:=3) Zk.nd Z Zz0 (QR Zb (pv 0) (QQ (pv 2)) (QQ (QF Ji (pv 2) (QK (v:=V.int 18) Z T.nN ⟨_,Z⟩)))))
  (Qg (Qt (i:=1) Zk.nd Z Zz0 (QF Ji (QF wA (pv 1) (gg.pq hr Qr (Qa (Qw Q9 Z O.len ybg (Qa (pv 3) Qb)) Qb))) (XV Wf Z O.int boot_int (Qa (pv 3) Qb)))))))
  (Qg (Qp (pv 1))))),?_⟩
 have hn:Builtin.Range.rangeSize 0 (z.length:Int) 18=(((z.length+17)/18:Nat):Int):=by
  unfold Builtin.Range.rangeSize;rw[yai (by lia)]
  split<;>lia
 refine⟨_,Z,z,Z,yao h2 (by lia),0,(z.length:Int),18,_,Z,⟨by lia,by lia,by lia,by lia,by lia,by lia⟩,hn,xQ (λi σ H2=>∃x2 x3,σ=[some (.str z),some (.int (NumText.digitsVal (z.cps.toList.take (18*i)):Nat)),x2,x3]/\H2=H) ⟨none,none,Z,Z⟩ ?_ ?_⟩
 .rintro i σ H2 hi ⟨x2,x3,rfl,rfl⟩;have hi18:18*i<z.length:=by lia
  have hs:StrLaws.sliceText z (some (0+(i:Int)*18)) (some (0+(i:Int)*18+18))=tx ((z.cps.toList.drop (18*i)).take 18):=by
   have e1:(0+(i:Int)*18)=((18*i:Nat):Int):=by lia
   have e2:(0+(i:Int)*18+18)=((18*i+18:Nat):Int):=by lia
   rw[e2,e1];have:=J1 z.cps.toList (a:=18*i) (b:=18*i+18) (by lia) (by lia);rw[<-qY z,show 18*i+18-18*i=18 by lia]at this;exact this
  refine⟨_,Z,_,Z,_,Z,_,Z,_,_,Z,Z,_,Z,z,Z,yao h2 (by lia),?_⟩;rw[hs];have Nv:NumText.AllDigits ((z.cps.toList.drop (18*i)).take 18):=λc hc=>hd c (ybE (ydE hc));have dL:((z.cps.toList.drop (18*i)).take 18).length<=18:=by rw[tY];lia
  have o8:1<=((z.cps.toList.drop (18*i)).take 18).length:=by rw[tY,tZ];lia
  have Ps:z.cps.toList.take (18*(i+1))=z.cps.toList.take (18*i)++(z.cps.toList.drop (18*i)).take 18:=by rw[show 18*(i+1)=18*i+18 by lia,List.take_add]
  generalize (z.cps.toList.drop (18*i)).take 18=pl at Nv dL o8 Ps;have Gc:=Qx pl;have hv0:=Mz (l:=z.cps.toList.take (18*i)) λc hc=>hd c (ydE hc);have hv1:NumText.digitsVal (z.cps.toList.take (18*i))<10^500:=yan hv0 (ybZ (by lia) (by rw[tY];lia));refine⟨_,Z,_,Z,tx pl,Z,by rw[Gc];exact yao dL (by lia),_,Z,by lia,by lia,_,_,Z,Z,⟨ybh hv1 (by lia),big (Yd (by lia))⟩,?_⟩;exists _,Z,tx pl,_,Z,yeY Nv (λq=>by rw[WC]at q;rw[q]at o8;exact absurd o8 (by lia)) (by rw[Gc];lia),by rw[Gc];lia,_,_,Z,Z;have et:ay.aM (((tx pl).length:Nat):Int)=((10^pl.length:Nat):Int):=by
   unfold ay.aM;rw[lI,Gc];push_cast;rfl
  have key:((NumText.digitsVal (z.cps.toList.take (18*i)):Nat):Int)*ay.aM (((tx pl).length:Nat):Int)+((NumText.digitsVal (tx pl).cps.toList:Nat):Int)=((NumText.digitsVal (z.cps.toList.take (18*(i+1))):Nat):Int):=by
   rw[Ps,Uu,et,WC];push_cast;rfl
  refine⟨some (.int (0+(i:Int)*18)),some (.str (tx pl)),?_,Z⟩;rw[<-key];rfl
 .rintro σ H2 ⟨x2,x3,rfl,rfl⟩;exists _,Z;rw[yav (by lia)];exact k
inductive cz (vs:List V) (H:Hp) (Q:VK) (ap:XK):Prop
 |mk (l:List Nat) (a:Nat):vs=[.str (tx l),.int (a:Nat)]->l.length<=500->a<=l.length->(∀b,a<=b->b<=l.length->(Q1 (l.drop a)).2=l.drop b->∀q,H q=none->Q (.ref q) (upd H q (.tup [.int ((Q1 (l.drop a)).1:Nat),.int (b:Nat)])))->cz vs H Q ap
def QaP(h:t.take 1≠[40]):Q1 t=(1,t):=by
 unfold Q1
 split
 .exact absurd rfl h
 .rfl
def vP(h:¬ (41∈r/\r.takeWhile (· !=41)≠[]/\NumText.AllDigits (r.takeWhile (· !=41))/\(r.takeWhile (· !=41)).head?≠some 48)):Q1 (40::r)=(1,40::r):=yah h
def kj(h:41∈r/\r.takeWhile (· !=41)≠[]/\NumText.AllDigits (r.takeWhile (· !=41))/\(r.takeWhile (· !=41)).head?≠some 48):Q1 (40::r)=(NumText.digitsVal (r.takeWhile (· !=41)),r.drop ((r.takeWhile (· !=41)).length+1)):=yai h
def jn(a:Nat):(a:Int)+1=((a+1:Nat):Int):=by lia
def zh(F:az K "times_at" "times_at" WP f fd)(O:Own mg)(T:Txt K mg tk c kr)(gj:Def P w K mg Y 1 "is_figures" ["text"] bw)(hZ:Def P w K mg Y 2 "number_of" ["text"] cY):Zz1 P w K mg Y 3 f fd ["text","at"] cz:=by
 refine okN F KF (by nofun) λam A L s H vs Q E hr h=>?_
 obtain⟨l,a,rfl,hl,ha,k⟩:=h;have hz:=zza
 have Gc:=Qx l;have e40:("(":Str)=tx [40]:=by rfl'
 have e41:(")":Str)=tx [41]:=by rfl'
 have e48:("0":Str)=tx [48]:=by rfl'
 refine⟨_,(Qd (QN (Ql Xe (QR Zb (pv 0) (QQ (pv 1)) (QQ (QF Ji (pv 1) Qj))) Qk (Qq _)) (Qg (Qp (Qs (Qa Qj (Qa (pv 1) Qb))))) Qu)
  (Qd (Qt (i:=2) KF.nd Z Zz0 (JN yaD slot_str_find type_str_find Sm (pv 0) (Qa Qk (Qa (pv 1) Qb))))
  (Qd (Qt (i:=3) KF.nd Z Zz0 (QR Zb (pv 0) (QQ (QF Ji (pv 1) Qj)) (QQ (Qw (Vx Z) Z O.max boot_max (Qa (pv 2) (Qa (pv 1) Qb))))))
  (Qd (QN (PW.pt (ZP (KS (XT (gj.pq hr Qr (Qa (pv 3) Qb)))) (JV (XT (JN yaD slot_str_startswith type_str_startswith Uq (pv 3) (Qa Qk Qb)))))) (Qg (Qp (Qs (Qa Qj (Qa (pv 1) Qb))))) Qu)
  (Qg (Qp (Qs (Qa (hZ.pq hr Qr (Qa (pv 3) Qb)) (Qa (QF Ji (pv 2) Qj) Qb))))))))),?_⟩
 refine⟨_,Z,_,Z,_,Z,_,Z,_,_,Z,Z,_,Z,tx l,Z,by lia,?_⟩;rw[jn,J1 l (a:=a) (b:=a+1) ha (by lia),show a+1-a=1 by lia];exists Z,_,Z;have stop:Q1 (l.drop a)=(1,l.drop a)->∀q,H q=none->Q (.ref q) (upd H q (.tup [.int 1,.int (a:Nat)])):=λe q hq=>by
  have:=k a (tO _) ha (by rw[e]) q hq;rw[e]at this;exact this
 rw[e40,VQ];refine cf (λh1=>?_) (λh1=>?_)
 .refine⟨_,Z,bF,stop (QaP λe=>?_)⟩;rw[e]at h1;cases h1
 have h2:(l.drop a).take 1=[40]:=by
  by_cases e:(l.drop a).take 1=[40]
  .exact e
  .rw[tM e]at h1;cases h1
 obtain⟨r,An⟩:∃r,l.drop a=40::r:=by
  cases e:l.drop a with
  |nil=>rw[e]at h2;cases h2
  |cons b r=>
   rw[e]at h2;have:b=40:=(ycB h2).1;exact⟨r,by rw[this]⟩
 have Cs:l.length=a+(r.length+1):=by
  have:=yaE List.length An;rw[tZ,tR]at this;lia
 have il:¬ (41∈r/\r.takeWhile (· !=41)≠[]/\NumText.AllDigits (r.takeWhile (· !=41))/\(r.takeWhile (· !=41)).head?≠some 48)->∀q,H q=none->Q (.ref q) (upd H q (.tup [.int 1,.int (a:Nat)])):=λz=>stop (by rw[An];exact vP z);exists _,Z,Z,_,Z,tx l,")",(a:Int),Z,Z;rw[e41];have o9:=Tg (c:=41) An (by lia);generalize wJ (tx l) (tx [41]) (a:Int)=e at o9;refine⟨_,Z,_,Z,_,_,Z,Z,_,Z,_,Z,_,Z,_,_,Z,_,Z,tx l,Z,by lia,?_⟩;rw[jn];rcases o9 with⟨SZ,rfl⟩|⟨GM,rfl⟩
 .have es:StrLaws.sliceText (tx l) (some ((a+1:Nat):Int)) (some (if(a:Int)> -1 then(a:Int)else-1))=tx []:=by
   rw[yai (by lia)];exact xT l (by lia) (by lia)
  rw[es];exists _,Z,tx [],Z,by rw[Qx];lia,_,Z;refine cf (λ_=>?_) (λq=>?_)
  .exact⟨_,Z,bF,il λq=>SZ q.1⟩
  .have:decide ((tx []).cps.toList≠[]/\NumText.AllDigits (tx []).cps.toList)=false:=tM λz=>z.1 rfl;rw[this]at q;cases q
 .generalize hn:r.takeWhile (· !=41)=n;have hnl:n.length<=r.length:=by rw[<-hn];exact(yeL _).length_le
  have hnr:n.length<r.length:=by
   rcases yba n.length r.length with h|h
   .exact h
   .have e:n=r:=by rw[<-hn]at h ⊢;exact(yeL _).eq_of_length_le h
    rw[<-e, <-hn]at GM;have:=wT GM;simp at this
  have Ps:r.take n.length=n:=by
   have:=ydn (p:=(· !=41)) (l:=r);rw[hn]at this;rw[<-this,List.take_left]
  have es:StrLaws.sliceText (tx l) (some ((a+1:Nat):Int)) (some (if(a:Int)>((a+1+n.length:Nat):Int)then(a:Int)else((a+1+n.length:Nat):Int)))=tx n:=by
   rw[yah (by lia),J1 l (by lia) (by lia),show a+1+n.length-(a+1)=n.length by lia];have:l.drop (a+1)=r:=by rw[<-ycJ,An];rfl
   rw[this,Ps]
  rw[es];have hnt:=Qx n;exists _,Z,tx n,Z,by lia,_,Z;refine cf (λq=>?_) (λq=>?_)
  .refine⟨_,Z,bF,il λz=>?_⟩;rw[hn]at z;have:decide ((tx n).cps.toList≠[]/\NumText.AllDigits (tx n).cps.toList)=true:=tN ⟨z.2.1,z.2.2.1⟩;rw[this]at q;cases q
  have CL:n≠[]/\NumText.AllDigits n:=by
   by_cases z:n≠[]/\NumText.AllDigits n
   .exact z
   .have:decide ((tx n).cps.toList≠[]/\NumText.AllDigits (tx n).cps.toList)=false:=tM z;rw[this]at q;cases q
  exists _,Z,Z,tx n,"0",Z,Z,trivial,_,Z;rw[e48,Td];refine cf (λq2=>?_) (λq2=>?_)
  .refine⟨_,Z,bF,il λz=>?_⟩;rw[hn]at z;exact z.2.2.2 (by simpa using q2)
  have CM:41∈r/\r.takeWhile (· !=41)≠[]/\NumText.AllDigits (r.takeWhile (· !=41))/\(r.takeWhile (· !=41)).head?≠some 48:=by
   rw[hn];exact⟨GM,CL.1,CL.2,by simpa using q2⟩
  have hn1:1<=n.length:=by cases n with|nil=>exact absurd rfl CL.1|cons=>simp
  refine⟨_,Z,tx n,Z,CL.2,by lia,_,Z,_,_,Z,Z,bF,λp hp=>?_⟩;have et:=kj CM;rw[hn]at et;have:=k (a+1+n.length+1) (by lia) (by lia) (by
   rw[An,et];show r.drop (n.length+1)=_;have e1:l.drop (a+1)=r:=by rw[<-ycJ,An];rfl
   rw[<-e1,ycJ]
   congr 1) p hp
  rw[An,et]at this;exact this
def Qhb(v:V)(H:Hp):Prop:=v=.aq\/(∃i,v=.int i)\/∃a xs,v=.ref a/\H a=some (.tup xs)
inductive cZ (K:Frag) (vs:List V) (H:Hp) (Q:VK) (ap:XK):Prop
 |mk (v:V) (rows:List Rw):vs=[v]->((∃l,v=.str (tx l)/\l.length<=500/\rows=rowsOf l)\/(Qhb v H/\rows=[]))->(∀p rs H',Qn H H'->au K H' p rs rows->Q (.ref p) H')->cZ K vs H Q ap
def QaQ(t:List Nat):(Q1 t).2.length<=t.length:=by
 unfold Q1
 split
 .split
  .show(List.drop _ _).length<=_;rw[tZ,tR];lia
  .exact tO _
 .exact tO _
def UU{c:TT}(Good:L2.St->Hp->Prop)(rest:∀σ' H',Good σ' H'->u D σ' H')(h:(∀σ' H',Good σ' H'->u D σ' H')->c σ H λb H1=>if b=true then t {D with nx:=u D} σ H1 else u D σ H1):Za (BI c t Q4) u D σ H:=h rest
def cq.last{rs:List Addr}{rows:List Rw}(h:cq H rs rows):(rs=[]/\rows=[])\/∃Ix r Da x,rs=Ix++[r]/\rows=Da++[x]/\cq H Ix Da/\H r=some (oQ x):=by
 induction h with
 |nil=>exact .inl ⟨Z,Z⟩
 |@cons r rs x xs a t ih=>
  rcases ih with⟨rfl,rfl⟩|⟨Ix,r',Da,x',rfl,rfl,h1,h2⟩
  .exact .inr ⟨[],r,[],x,Z,Z,.nil,a⟩
  .exact .inr ⟨r::Ix,r',x::Da,x',Z,Z,.cons a h1,h2⟩
def add_nil(c n:Nat):Jr [] c n=[]++[(c,n)]:=rfl
def add_same(rows:List Rw)(c n m:Nat):Jr (rows++[(c,m)]) c n=rows++[(c,n+m)]:=by
 unfold Jr;rw[ybD];simp
def vQ{rows:List Rw}{c c' n m:Nat}(h:c'≠c):Jr (rows++[(c',m)]) c n=(rows++[(c',m)])++[(c,n)]:=by
 unfold Jr;rw[ybD];simp[h]
def kl(F:az K "rows_of" "rows_of" V2 f fd)(O:Own mg)(T:Txt K mg tk c kr)(pC:Def P w K mg Y 3 "times_at" ["text","at"] cz):Zz1 P w K mg Y 4 f fd ["thing"] (cZ K):=by
 refine okN F Ze (by nofun) λam A L s H vs Q E hr h=>?_
 obtain⟨v,rows,rfl,hv,k⟩:=h;have hz:=zza
 refine⟨_,(Qd (QN (KS (XT (Qw Wg Z O.sU ydi (Qa (pv 0) (Qa (Vu (v:=V.ty "str") Z O.str boot_str Z) Qb))))) (Qg (Qp (K9 Qb))) Qu)
  (Qd (Qt (i:=1) Ze.nd Z Zz0 (K9 Qb))
  (Qd (Qt (i:=2) Ze.nd Z Zz0 Qj)
  (Qd (Xl yaz (Ql Ve (pv 2) (Qw Q9 Z O.len ybg (Qa (pv 0) Qb)) (Qq _)) (Qd (Qt (i:=3) Ze.nd Z Zz0 (QB Wa (pv 0) (pv 2) (λ_ _=>rfl)))
  (Qd (QW (pC.pq hr Qr (Qa (pv 0) (Qa (QF Ji (pv 2) Qj) Qb))) (QM Z (Qh (Qi (i:=4) Ze.nd Z Zz0) (Qh (Qi (i:=2) Ze.nd Z Zz0) Qy))))
  (Qd (QN (PW.pt (Zu (Jd (pv 1) (λ_=>rfl)) (JZ (Ql Jl (QB JE (QB Jv (pv 1) (KZ ZS Qj) (λ_ _=>rfl)) Qj (λ_ _=>rfl)) (pv 3) (Qq _))))) (Qg (KU (i:=4) Ze.nd Z Zz0 (QB JE (zD yaA yeC yeD zF (pv 1)) Qj (λ_ _=>rfl)) W6)) Qu)
  (Qg (Q6 (JN yaA yaB yaC JO (pv 1) (Qa (Qs (Qa (pv 3) (Qa (pv 4) Qb))) Qb))))))))
  (Qg (Qp (pv 1))))))),?_⟩
 rcases hv with⟨l,rfl,hl,rfl⟩|⟨hv,rfl⟩
 .have Gc:=Qx l;exists _,Z,.str (tx l),V.ty "str",true,Z,Z,.inl ⟨_,.str _,T.r9⟩,true,Z;refine QO ⟨Am,λp hp=>?_⟩;have S1:=Qn.new (o:=.lst []) hp;refine⟨λm σ H2=>∃(a:Nat)(rs:List Addr)(rows:List Rw)(x3 x4:Option V)(kf:Nat),m=l.length-a/\a<=l.length/\σ=[some (.str (tx l)),some (.ref p),some (.int (a:Nat)),x3,x4]/\H2 p=some (.lst (rs.map V.ref))/\cq H2 rs rows/\Qn H H2/\rows.length<=a/\(l.drop a).length<=kf/\rowsOf l=W9 kf (l.drop a) rows,⟨l.length,0,[],[],none,none,l.length,Z,lG _,Z,Qf,.nil,S1,tO _,by simp,Z⟩,?_⟩;rintro m σ H2 ⟨a,rs,rows,x3,x4,kf,rfl,hal,rfl,ut,R2,S2,Nw,EM,EN⟩;exists _,Z,_,Z,tx l,Z,by lia,_,_,Z,Z,_,Z;refine cf (λh1=>?_) (λh1=>?_)
  .have ha:a<l.length:=by have:=ybq h1;lia
   obtain⟨ch,No⟩:∃ch,l[a]? =some ch:=⟨_,yad ha⟩;have iM:l.drop a=ch::l.drop (a+1):=by rw[yaH ha];congr 1;rw[yad ha]at No;exact tP No
   exists _,λ_ _ h=>h,_,Z,_,Z,tx l,(a:Int),ch,Z,Z,by lia,Zo No;refine⟨_,Z,_,Z,_,_,Z,Z,l,a+1,Z,hl,by lia,λb Hn Fr Bl q hq=>⟨q,_,Z,aw.of Qf,Z,_,_,Z,_,_,Z,Z,?_⟩⟩;have S3:=Qn.new (o:=.tup [.int ((Q1 (l.drop (a+1))).1:Nat),.int (b:Nat)]) hq;generalize hH3:upd H2 q (.tup [.int ((Q1 (l.drop (a+1))).1:Nat),.int (b:Nat)])=H3 at S3;have iN:=S3 _ _ ut;have R3:=R2.keep λb xs h=>S3 _ _ h;have ms:=S2.trans S3;clear hH3 hq S3 ut R2 S2;cases kf with
   |zero=>rw[iM]at EM;exact absurd EM (by simp)
   |succ kf=>
   rw[iM]at EN EM;have Ao:rowsOf l=W9 kf (Q1 (l.drop (a+1))).2 (Jr rows ch (Q1 (l.drop (a+1))).1):=EN;have CN:(Q1 (l.drop (a+1))).2.length<=kf:=by
    have:=QaQ (l.drop (a+1));rw[tR]at EM;lia
   rw[Bl]at Ao CN;generalize (Q1 (l.drop (a+1))).1=n at Ao;dsimp only;refine UU (λσ' H'=>∃(sd:List Addr)(T0:List Rw)(nn:Nat),σ'=[some (.str (tx l)),some (.ref p),some (.int (b:Nat)),some (.str (tx [ch])),some (.int (nn:Nat))]/\H' p=some (.lst (sd.map V.ref))/\cq H' sd T0/\Qn H H'/\Jr rows ch n=T0++[(ch,nn)]/\T0.length<=rows.length) ?_ (λrest=>?_)
   .rintro σ' H4 ⟨sd,T0,nn,rfl,ip,R4,S4,Nx,hle⟩;refine⟨_,Z,.inl ⟨Z,_,.inl (.inl ip)⟩,_,Z,_,Z,bF,λq2 iF=>?_⟩;have S5:=Qn.new (o:=.tup [.str (tx [ch]),.int (nn:Nat)]) iF;have g5:upd H4 q2 (.tup [.str (tx [ch]),.int (nn:Nat)]) q2=some (oQ (ch,nn)):=Qf;generalize upd H4 q2 (.tup [.str (tx [ch]),.int (nn:Nat)])=H5 at S5 g5;have se:=S5 _ _ ip;have nq:q2≠p:=λz=>by rw[z,ip]at iF;cases iF
    have R5:=R4.keep λb xs h=>S5 _ _ h;have CO:=S4.trans S5;refine⟨p,_,_,Z,Z,se,by rw[tL,R4.len];lia,l.length-b,by lia,b,sd++[q2],Jr rows ch n,_,_,kf,Z,Fr,Z,?_,?_,?_,?_,CN,Ao⟩
    .rw[Qf,lr];rfl
    .rw[Nx];refine cq.app (R5.keep λb xs h=>?_) ?_
     .rw[Qo λz=>by rw[z,se]at h;cases h];exact h
     .rw[Qo nq];exact g5
    .intro b o h;rw[Qo (QA h hp)];exact CO _ _ h
    .rw[Nx,tK];simp;lia
   .rcases R3.last with⟨rfl,rfl⟩|⟨Ix,r',Da,⟨c',m'⟩,rfl,rfl,R4,g4⟩
    .exists _,Z,false,.inl ⟨_,aE.of iN,Z⟩;exact QO (QO (rest _ _ ⟨[],[],n,Z,iN,.nil,ms,add_nil ch n,tO _⟩))
    .have ip:H3 p=some (.lst (Ix.map V.ref++[V.ref r'])):=by rw[iN,lr];rfl
     have Hu:aE K H3 p (Ix.map V.ref++[V.ref r']):=aE.of ip;refine⟨_,Z,true,.inl ⟨_,Hu,by cases Ix<;>rfl⟩,?_⟩;refine Q0 ⟨_,Z,_,Z,p,_,_,_,Z,Z,Hu,Ug _ _,r',_,_,_,Z,Z,aw.of g4,Z,_,Z,Z,_,Z,?_⟩;rw[show(⟨#[ch]⟩:Str)=tx [ch]from rfl,Zd];refine cf (λh2=>?_) (λh2=>?_)
     .have hc:c'=ch:=ybq h2;subst hc;exists _,Z,_,Z,.inl ⟨Z,_,Hu⟩,p,_,V.ref r',Z,Z,ip,by rw[tK];simp,r',[.str (tx [c']),.int (m':Nat)],1,.int (m':Nat),Z,Z,?_,Z,_,_,Z,Z
      .exact aw.of (by rw[Qo λz=>by rw[z,ip]at g4;cases g4];exact g4)
      .refine rest _ _ ⟨Ix,Da,n+m',Z,by rw[Qf,yca],R4.keep λb xs h=>?_,λb o h=>?_,add_same Da c' n m',by simp⟩
       .rw[Qo λz=>by rw[z,ip]at h;cases h];exact h
       .rw[Qo (QA h hp)];exact ms _ _ h
     .have hc:c'≠ch:=ybU h2;exact rest _ _ ⟨_,_,n,Z,iN,R3,ms,vQ hc,tO _⟩
  .have ha:a=l.length:=by have:=ybU h1;lia
   subst ha;rw[ybO]at EN;have ic:rowsOf l=rows:=by
    rw[EN];cases kf<;>rfl
   refine⟨_,Z,k p rs H2 S2 ⟨aE.of ut,by rw[ic];exact R2,by rw[ic];lia⟩⟩
 .have sU:∃x c b,[v,V.ty "str"]=[x,c]/\Gr c=true/\((∃t,bI K H x t/\kitOne K t (B9 c)=some b)\/∃a C,x=.ref a/\H a=some (Gq a (.ref C))/\cR K C/\kitOne K (.ref C) (B9 c)=some b)/\b=false:=by
   rcases hv with rfl|⟨i,rfl⟩|⟨a,xs,rfl,e⟩
   .exact⟨_,_,false,Z,Z,.inl ⟨_,.aq,T.tI⟩,Z⟩
   .exact⟨_,_,false,Z,Z,.inl ⟨_,.int _,T.ub⟩,Z⟩
   .exact⟨_,_,false,Z,Z,.inl ⟨_,.tup e,T.tJ⟩,Z⟩
  obtain⟨x,cc,b,e1,e2,e3,rfl⟩:=sU;exists _,Z,x,cc,false,e1,e2,e3,false,Z;refine Q0 ⟨Am,λp hp=>?_⟩;exact k p [] _ (Qn.new hp) ⟨aE.of Qf,.nil,by simp⟩
def drop_cons{α:Type}{l:List α}{a:Nat}{x:α}(h:l[a]? =some x):l.drop a=x::l.drop (a+1):=by
 have ha:=(yaf.mp h).1;rw[yaH ha]
 congr 1
 rw[yad ha]at h;exact tP h
def Yf{α:Type}{l:List α}{a:Nat}(h:a<l.length):∃x,l[a]? =some x:=⟨_,yad h⟩
def Ny:(",B0/":Str)=tx [44,66,48,47]:=by rfl'
def Nz:("+-$":Str)=tx [43,45,36]:=by rfl'
def Qf0:("+-":Str)=tx [43,45]:=by rfl'
def Qf1:("9Z*+-$":Str)=tx [57,90,42,43,45,36]:=by rfl'
def Qf2:("$":Str)=tx [36]:=by rfl'
def EO:("9":Str)=tx [57]:=by rfl'
def Qf3:(".":Str)=tx [46]:=by rfl'
def ER:("":Str)=tx []:=by rfl'
inductive bQ (K:Frag) (vs:List V) (H:Hp) (Q:VK) (ap:XK):Prop
 |mk (p:Addr) (rs:List Addr) (rows:List Rw) (a:Nat):vs=[.ref p,.int (a:Nat)]->au K H p rs rows->a<rows.length->Q (.bl (Kl (rows.drop a))) H->bQ K vs H Q ap
def jo(F:az K "floats_at" "floats_at" KG f fd)(O:Own mg)(T:Txt K mg tk c kr):Zz1 P w K mg Y 1 f fd ["rows","at"] (bQ K):=by
 refine okN F Zl (by nofun) λam A L s H vs Q E hr h=>?_
 obtain⟨p,rs,rows,a,rfl,R,ha,k⟩:=h;refine⟨_,(Qd (QW (QB Jv (pv 0) (pv 1) (λ_ _=>rfl)) (QM Z (Qh (Qi (i:=2) Zl.nd Z Zz0) (Qh (Qi (i:=3) Zl.nd Z Zz0) Qy))))
  (Qd (QN (Ql Uc (pv 3) Qj (Qq _)) (Qg (Qp Xk)) Qu)
  (Qd (Qt (i:=4) Zl.nd Z Zz0 (QF Ji (pv 1) Qj))
  (Qd (Xl yaz (PW.pt (Zu (Ql Ve (pv 4) (Qw QI Z O.len ybg (Qa (pv 0) Qb)) (Qq _)) (JZ (Ql Zj (QB JE (QB Jv (pv 0) (pv 4) (λ_ _=>rfl)) Qj (λ_ _=>rfl)) (QK (v:=V.str ",B0/") Z T.gP ⟨_,Z⟩) (by with_unfolding_all rfl))))) (Qg (KU (i:=4) Zl.nd Z Zz0 Qj W6)))
  (Qg (Qp (YO (JS Ve (pv 4) (Qw QI Z O.len ybg (Qa (pv 0) Qb)) (Qq _)) (YN (JS Jl (QB JE (QB Jv (pv 0) (pv 4) (λ_ _=>rfl)) Qj (λ_ _=>rfl)) (pv 2) (Qq _)))))))))),?_⟩
 obtain⟨⟨y,n⟩,hx⟩:=Yf ha;rw[drop_cons hx]at k;refine ja rfl (J3 Z) R hx λr iO=>⟨r,_,Z,aw.of iO,Z,_,_,Z,_,_,Z,Z,?_⟩;exists _,Z,_,_,Z,Z,_,Z;refine cf (λh1=>?_) (λh1=>?_)
 .have hn:n>1:=by have:=ybq h1;lia
  have e:Kl ((y,n)::rows.drop (a+1))=true:=by unfold Kl;simp[hn]
  rw[e]at k;exact k
 have hn:¬ n>1:=by have:=ybU h1;lia
 have e:Kl ((y,n)::rows.drop (a+1))=(match(rows.drop (a+1)).dropWhile (λx=>ins x.1)with|(c',_)::_=>c'==y|[]=>false):=by
  show(decide (n>1)||_)=_;rw[tM hn,yfb]
  all_goals rfl
 rw[e]at k;clear e;exists _,Z,_,_,Z,Z;refine⟨λm σ H2=>∃b:Nat,m=rows.length-b/\b<=rows.length/\σ=[some (.ref p),some (.int (a:Nat)),some (.str (tx [y])),some (.int (n:Nat)),some (.int (b:Nat))]/\H2=H/\(rows.drop (a+1)).dropWhile (λx=>ins x.1)=(rows.drop b).dropWhile (λx=>ins x.1),⟨_,a+1,Z,by lia,Z,Z,Z⟩,?_⟩;rintro m σ H2 ⟨b,rfl,hb,rfl,rfl,hd⟩;refine⟨_,Z,Zy rfl R ⟨_,_,Z,Z,_,Z,?_⟩⟩;rcases yba b rows.length with bi|lU
 .rw[tN (by lia)];obtain⟨⟨y2,n2⟩,BT⟩:=Yf bi;refine Q0 (XY Z (J3 Z) R BT ⟨_,_,Z,Z,_,Z,?_⟩);rw[Ny,XQ];have hc:([44,66,48,47]:List Nat).contains y2=ins y2:=rfl;rw[hc];rw[drop_cons BT]at hd;refine cf (λh2=>?_) (λh2=>?_)
  .refine⟨_,λ_ _ h=>h,?_⟩;exists _,Z,_,_,Z,Z,_,?_,b+1,Z,by lia,Z,Z
   .lia
   .rw[hd,List.dropWhile_cons,yai h2]
  .rw[List.dropWhile_cons,yah (by rw[h2];lia)]at hd;rw[hd]at k;refine⟨_,Z,Zy rfl R ⟨_,_,Z,Z,_,Z,?_⟩⟩;rw[tN (by lia)];refine Q0 (XY Z (J3 Z) R BT ⟨_,Z,Z,?_⟩);rw[Zd];have e3:decide (y2=y)=(y2==y):=by by_cases z:y2=y<;>simp[z]
   rw[e3];exact k
 .rw[tM (by lia)];refine QO (QO ?_);rw[yaw lU]at hd;rw[hd]at k;refine⟨_,Z,Zy rfl R ⟨_,_,Z,Z,_,Z,?_⟩⟩;rw[tM (by lia)];exact QO k
inductive bR (K:Frag) (vs:List V) (H:Hp) (Q:VK) (ap:XK):Prop
 |mk (p:Addr) (rs:List Addr) (rows:List Rw) (a pc:Nat):vs=[.ref p,.int (a:Nat),.str (tx [pc])]->au K H p rs rows->a<=rows.length->(∀b many:Nat,b<=rows.length->JF pc (rows.drop a) 0=(many,rows.drop b)->∀q,H q=none->Q (.ref q) (upd H q (.tup [.int (many:Nat),.int (b:Nat)])))->bR K vs H Q ap
def jp(F:az K "places_of" "places_of" KH f fd)(O:Own mg)(T:Txt K mg tk c kr):Zz1 P w K mg Y 1 f fd ["rows","at","place"] (bR K):=by
 refine okN F ZX (by nofun) λam A L s H vs Q E hr h=>?_
 obtain⟨p,rs,rows,a,pc,rfl,R,ha,k⟩:=h;have hz:=zza
 refine⟨_,(Qd (Qt (i:=3) ZX.nd Z Zz0 Qj)
  (Qd (Xl yaz (PW.pt (Zu (Ql Ve (pv 1) (Qw QI Z O.len ybg (Qa (pv 0) Qb)) (Qq _)) (JZ (PW.pt (ZP (Ql Jl (QB JE (QB Jv (pv 0) (pv 1) (λ_ _=>rfl)) Qj (λ_ _=>rfl)) (pv 2) (Qq _)) (JV (Ql Zj (QB JE (QB Jv (pv 0) (pv 1) (λ_ _=>rfl)) Qj (λ_ _=>rfl)) (QK (v:=V.str ",B0/") Z T.gP ⟨_,Z⟩) (by with_unfolding_all rfl)))))))) (Qd (QN (Ql Jl (QB JE (QB Jv (pv 0) (pv 1) (λ_ _=>rfl)) Qj (λ_ _=>rfl)) (pv 2) (Qq _)) (Qg (KU (i:=3) ZX.nd Z Zz0 (QB JE (QB Jv (pv 0) (pv 1) (λ_ _=>rfl)) Qj (λ_ _=>rfl)) W6)) Qu)
  (Qg (KU (i:=1) ZX.nd Z Zz0 Qj W6))))
  (Qg (Qp (Qs (Qa (pv 3) (Qa (pv 1) Qb))))))),?_⟩
 exists λm σ H2=>∃b many:Nat,m=rows.length-b/\b<=rows.length/\σ=[some (.ref p),some (.int (b:Nat)),some (.str (tx [pc])),some (.int (many:Nat))]/\H2=H/\JF pc (rows.drop a) 0=JF pc (rows.drop b) many,⟨_,a,0,Z,ha,Z,Z,Z⟩;rintro m σ H2 ⟨b,many,rfl,hb,rfl,rfl,hd⟩;refine⟨_,Z,Zy rfl R ⟨_,_,Z,Z,_,Z,?_⟩⟩;rcases yba b rows.length with bi|lU
 .rw[tN (by lia)];obtain⟨⟨y,n⟩,hx⟩:=Yf bi;rw[drop_cons hx]at hd;refine Q0 (XY Z (J3 Z) R hx ⟨_,Z,Z,_,Z,?_⟩);rw[Zd]
  by_cases h1:y=pc
  .rw[tN h1];refine Q0 (Q0 ⟨_,λ_ _ h=>h,XY rfl (J3 Z) R hx ⟨_,Z,Z,_,Z,?_⟩⟩);rw[Zd,tN h1];refine Q0 ⟨_,Z,MB rfl (J3 Z) R hx ⟨_,_,Z,Z,?_⟩⟩;exists _,Z,_,_,Z,Z,rows.length-(b+1),by lia,b+1,many+n,Z,by lia,Z,Z;rw[hd];show(if y=pc then JF pc (rows.drop (b+1)) (many+n)else _)=_;rw[yai h1]
  .rw[tM h1];refine QO (XY Z (J3 Z) R hx ⟨_,_,Z,Z,_,Z,?_⟩);rw[Ny,XQ];have hc:([44,66,48,47]:List Nat).contains y=ins y:=rfl;rw[hc];refine cf (λh2=>?_) (λh2=>?_)
   .refine⟨_,λ_ _ h=>h,XY rfl (J3 Z) R hx ⟨_,Z,Z,_,Z,?_⟩⟩;rw[Zd,tM h1];refine QO ⟨_,Z,_,_,Z,Z,rows.length-(b+1),by lia,b+1,many,Z,by lia,Z,Z,?_⟩;rw[hd];show(if y=pc then _ else if ins y then JF pc (rows.drop (b+1)) many else _)=_;rw[yah h1,yai h2]
   .have hd2:JF pc (rows.drop a) 0=(many,rows.drop b):=by
     rw[hd,drop_cons hx];show(if y=pc then _ else if ins y then _ else(many,(y,n)::rows.drop (b+1)))=_;rw[yah h1,yah (by rw[h2];lia)]
    exact⟨_,Z,_,Z,bF,k b many (by lia) hd2⟩
 .rw[tM (by lia)];refine QO (QO ?_);have Fr:rows.drop b=[]:=yaw lU;have hd2:JF pc (rows.drop a) 0=(many,rows.drop b):=by rw[hd,Fr];rfl
  exact⟨_,Z,_,Z,bF,k b many (by lia) hd2⟩
inductive cA (K:Frag) (vs:List V) (H:Hp) (Q:VK) (ap:XK):Prop
 |mk (p:Addr) (rs:List Addr) (rows:List Rw) (a:Nat):vs=[.ref p,.int (a:Nat)]->au K H p rs rows->a<=rows.length->(∀(pl:List Nat)(many bn b:Nat),b<=rows.length->QX (rows.drop a)=(pl,many,bn,rows.drop b)->∀q H',Qn H H'->H' q=some (.tup [.str (tx pl),.int (many:Nat),.int (bn:Nat),.int (b:Nat)])->Q (.ref q) H')->cA K vs H Q ap
def UV(F:az K "whole_part" "whole_part" X4 f fd)(O:Own mg)(T:Txt K mg tk c kr)(mO:Def P w K mg Y 1 "places_of" ["rows","at","place"] (bR K)):Zz1 P w K mg Y 2 f fd ["rows","at"] (cA K):=by
 refine okN F JG (by nofun) λam A L s H vs Q E hr h=>?_
 obtain⟨p,rs,rows,a,rfl,R,ha,k⟩:=h;have hz:=zza
 refine⟨_,(Qd (QN (PW.pt (ZP (Ql kW (pv 1) (Qw QI Z O.len ybg (Qa (pv 0) Qb)) (Qq _)) (JV (Ql ZT (QB JE (QB Jv (pv 0) (pv 1) (λ_ _=>rfl)) Qj (λ_ _=>rfl)) (QK (v:=V.str "9Z*+-$") Z T.nO ⟨_,Z⟩) (by with_unfolding_all rfl))))) (Qg (Qp (Qs (Qa Qk (Qa Qj (Qa Qj (Qa (pv 1) Qb))))))) Qu)
  (Qd (Qt (i:=2) JG.nd Z Zz0 (QB JE (QB Jv (pv 0) (pv 1) (λ_ _=>rfl)) Qj (λ_ _=>rfl)))
  (Qd (QW (mO.pq hr Qr (Qa (pv 0) (Qa (pv 1) (Qa (pv 2) Qb)))) (QM Z (Qh (Qi (i:=3) JG.nd Z Zz0) (Qh (Qi (i:=1) JG.nd Z Zz0) Qy))))
  (Qd (QW (mO.pq hr Qr (Qa (pv 0) (Qa (pv 1) (Qa Qk Qb)))) (QM Z (Qh (Qi (i:=4) JG.nd Z Zz0) (Qh (Qi (i:=1) JG.nd Z Zz0) Qy))))
  (Qg (Qp (Qs (Qa (pv 2) (Qa (pv 3) (Qa (pv 4) (Qa (pv 1) Qb))))))))))),?_⟩
 refine⟨_,Z,Zy rfl R ⟨_,_,Z,Z,_,Z,?_⟩⟩;have none:QX (rows.drop a)=([],0,0,rows.drop a)->∀q,H q=none->Q (.ref q) (upd H q (.tup [.str "",.int 0,.int 0,.int (a:Nat)])):=λe q hq=>
  k [] 0 0 a ha e q _ (Qn.new hq) (by rw[Qf,ER];rfl)
 rcases yba a rows.length with bi|lU
 .rw[tM (by lia)];obtain⟨⟨y,n⟩,hx⟩:=Yf bi;refine QO (XY Z (J3 Z) R hx ⟨_,_,Z,Z,_,Z,?_⟩);rw[Qf1,XQ];refine cf (λh1=>?_) (λh1=>?_)
  .refine⟨_,Z,Bk,none ?_⟩;rw[drop_cons hx];show(if([57,90,42,43,45,36]:List Nat).contains y then _ else _)=_;rw[yah (by rw[yce]at h1;rw[h1];lia)]
  .have h2:([57,90,42,43,45,36]:List Nat).contains y=true:=by
    cases e:([57,90,42,43,45,36]:List Nat).contains y with
    |true=>rfl
    |false=>rw[e]at h1;cases h1
   refine XY rfl (J3 Z) R hx ?_;refine⟨_,Z,_,Z,_,Z,p,rs,rows,a,y,Z,R,ha,λb many hb o8 q hq=>⟨q,_,Z,aw.of Qf,Z,_,_,Z,_,_,Z,Z,?_⟩⟩;have S1:=Qn.new (o:=.tup [.int (many:Nat),.int (b:Nat)]) hq;generalize upd H q (.tup [.int (many:Nat),.int (b:Nat)])=H1 at S1;refine⟨_,Z,_,Z,p,rs,rows,b,57,by rw[EO];rfl,R.same S1,hb,λb2 bn Fr ut q2 iF=>⟨q2,_,Z,aw.of Qf,Z,_,_,Z,_,_,Z,Z,?_⟩⟩;have S2:=Qn.new (o:=.tup [.int (bn:Nat),.int (b2:Nat)]) iF;generalize upd H1 q2 (.tup [.int (bn:Nat),.int (b2:Nat)])=H2 at S2;refine⟨_,Z,_,Z,_,Z,_,Z,Bk,λq3 Bm=>?_⟩;refine k [y] many bn b2 Fr ?_ q3 _ ((S1.trans S2).trans (Qn.new Bm)) Qf;rw[drop_cons hx]at o8 ⊢;show(if([57,90,42,43,45,36]:List Nat).contains y then _ else _)=_;rw[yai h2,o8];show([y],many,(JF 57 (rows.drop b) 0).1,(JF 57 (rows.drop b) 0).2)=_;rw[ut]
 .rw[tN (by lia)];refine Q0 (Q0 ⟨_,Z,Bk,none ?_⟩);rw[yaw lU];rfl
noncomputable def oV:Option Nat->V
 |none=>.aq
 |some n=>.int (n:Nat)
inductive bS (K:Frag) (vs:List V) (H:Hp) (Q:VK) (ap:XK):Prop
 |mk (p:Addr) (rs:List Addr) (rows:List Rw) (a:Nat) (pl:List Nat):vs=[.ref p,.int (a:Nat),.str (tx pl)]->au K H p rs rows->a<=rows.length->(∀(o:Option Nat)(b:Nat),b<=rows.length->JA (rows.drop a) pl=(o,rows.drop b)->∀q,H q=none->Q (.ref q) (upd H q (.tup [oV o,.int (b:Nat)])))->bS K vs H Q ap
def km(h:y≠46):JA ((y,n)::r) pl=(some 0,(y,n)::r):=by
 unfold JA
 split
 .rename_i e;exact absurd (Prod.mk.inj (ycB e).1).1 h
 .rfl
def YD(F:az K "broken_part" "broken_part" XB f fd)(O:Own mg)(T:Txt K mg tk c kr):Zz1 P w K mg Y 1 f fd ["rows","at","place"] (bS K):=by
 refine okN F Z9 (by nofun) λam A L s H vs Q E hr h=>?_
 obtain⟨p,rs,rows,a,pl,rfl,R,ha,k⟩:=h;have hz:=zza
 have iq:2<=sizeLine:=by lia
 refine⟨_,(Qd (QN (PW.pt (ZP (Ql kW (pv 1) (Qw QI Z O.len ybg (Qa (pv 0) Qb)) (Qq _)) (JV (Ql Xe (QB JE (QB Jv (pv 0) (pv 1) (λ_ _=>rfl)) Qj (λ_ _=>rfl)) Qk (Qq _))))) (Qg (Qp (Qs (Qa Qj (Qa (pv 1) Qb))))) Qu)
  (Qd (QN (PW.pt (ZP (Ql Uc (QB JE (QB Jv (pv 0) (pv 1) (λ_ _=>rfl)) Qj (λ_ _=>rfl)) Qj (Qq _)) (JV (Ql Jl (QF Ji (pv 1) Qj) (Qw QI Z O.len ybg (Qa (pv 0) Qb)) (Qq _))))) (Qg (Qp (Qs (Qa Zt (Qa (pv 1) Qb))))) Qu)
  (Qd (QW (QB Jv (pv 0) (QF Ji (pv 1) Qj) (λ_ _=>rfl)) (QM Z (Qh (Qi (i:=3) Z9.nd Z Zz0) (Qh (Qi (i:=4) Z9.nd Z Zz0) Qy))))
  (Qd (QN (PW.pt (Zu (Ql Xe (pv 3) Qk (Qq _)) (JZ (PW.pt (ZP (Ql Xe (pv 3) (pv 2) (Qq _)) (JV (Ql Zj (pv 3) (QK (v:=V.str "+-$") Z T.gD ⟨_,Z⟩) (by with_unfolding_all rfl)))))))) (Qg (Qp (Qs (Qa Zt (Qa (pv 1) Qb))))) Qu)
  (Qg (Qp (Qs (Qa (pv 4) (Qa (QF Ji (pv 1) Qj) Qb))))))))),?_⟩
 refine⟨_,Z,Zy rfl R ⟨_,_,Z,Z,_,Z,?_⟩⟩;rcases yba a rows.length with bi|lU
 .rw[tM (by lia)];obtain⟨⟨y,n⟩,hx⟩:=Yf bi;refine QO (XY Z (J3 Z) R hx ⟨Z,_,Z,?_⟩);rw[Qf3,Zd]
  by_cases h1:y=46
  .rw[tN h1];subst h1;refine QO (MB Z (J3 Z) R hx ⟨_,_,Z,Z,_,Z,?_⟩)
   by_cases h2:n>1
   .rw[tN (by lia)];refine Q0 (Q0 ⟨_,Z,iq,k none a ha ?_⟩);rw[drop_cons hx];show(if n>1\/_ then _ else _)=_;rw[yai (.inl h2)]
   .rw[tM (by lia)];refine QO ⟨_,Z,_,_,Z,Z,Zy rfl R ⟨Z,_,Z,?_⟩⟩;rw[Kz]
    by_cases h3:a+1=rows.length
    .rw[tN (by lia)];refine Q0 ⟨_,Z,iq,k none a ha ?_⟩;rw[drop_cons hx];show(if n>1\/_ then _ else _)=_;rw[yai (.inr (yaw (by lia)))]
    .rw[tM (by lia)];obtain⟨⟨y2,n2⟩,BT⟩:=Yf (show a+1<rows.length by lia);refine QO (ja (k:=a+1) Z (λQ q=>⟨_,Z,_,_,Z,Z,q⟩) R BT λr iO=>⟨r,_,Z,aw.of iO,Z,_,_,Z,_,_,Z,Z,?_⟩);have eb:JA (rows.drop a) pl=if y2≠57/\([y2]≠pl\/[43,45,36].contains y2=true)then(none,rows.drop a)else(some n2,rows.drop (a+2)):=by
      rw[drop_cons hx];show(if n>1\/rows.drop (a+1)=[]then _ else _)=_;rw[yah (by rw[drop_cons BT];simp;lia),drop_cons BT]
     exists _,Z,Z,_,Z;rw[EO,Zd]
     by_cases h4:y2=57
     .rw[tN h4];refine QO (QO ⟨_,Z,_,Z,_,_,Z,Z,iq,k (some n2) (a+2) (by lia) ?_⟩);rw[eb,yah λz=>z.1 h4]
     .rw[tM h4];refine Q0 ⟨_,Z,_,Z,Z,_,Z,?_⟩;rw[VQ]
      by_cases h5:[y2]=pl
      .rw[tN h5];refine QO ⟨_,Z,_,_,Z,Z,_,Z,?_⟩;rw[Nz,XQ];refine cf (λh6=>?_) (λh6=>?_)
       .refine⟨_,Z,iq,k none a ha ?_⟩;rw[eb,yai ⟨h4,.inr h6⟩]
       .refine⟨_,Z,_,Z,_,_,Z,Z,iq,k (some n2) (a+2) (by lia) ?_⟩;rw[eb,yah λz=>z.2.elim (λq=>q h5) (λq=>by rw[h6]at q;cases q)]
      .rw[tM h5];refine Q0 (Q0 ⟨_,Z,iq,k none a ha ?_⟩);rw[eb,yai ⟨h4,.inl h5⟩]
  .rw[tM h1];refine Q0 ⟨_,Z,iq,k (some 0) a ha ?_⟩;rw[drop_cons hx];exact km h1
 .rw[tN (by lia)];refine Q0 (Q0 ⟨_,Z,iq,k (some 0) a ha ?_⟩);rw[yaw lU];rfl
inductive c5 (K:Frag) (vs:List V) (H:Hp) (Q:VK) (ap:XK):Prop
 |mk (p:Addr) (rs:List Addr) (rows:List Rw):vs=[.ref p]->au K H p rs rows->(∀(ld:List Nat)(b:Nat),b<=rows.length->ld.length<=2->ZG rows=(ld,rows.drop b)->∀q H',Qn H H'->H' q=some (.tup [.str (tx ld),.int (b:Nat)])->Q (.ref q) H')->c5 K vs H Q ap
def ko(F:az K "lead_of" "lead_of" V3 f fd)(O:Own mg)(T:Txt K mg tk c kr)(nP:Def P w K mg Y 1 "floats_at" ["rows","at"] (bQ K)):Zz1 P w K mg Y 2 f fd ["rows"] (c5 K):=by
 refine okN F ZF (by nofun) λam A L s H vs Q E hr h=>?_
 obtain⟨p,rs,rows,rfl,R,k⟩:=h;have hz:=zza
 have iq:2<=sizeLine:=by lia
 refine⟨_,(Qd (Qt (i:=1) ZF.nd Z Zz0 Qk)
  (Qd (Qt (i:=2) ZF.nd Z Zz0 Qj)
  (Qd (ZR yaz Z (qC (Qs (Qa (QK (v:=V.str "+-") Z T.pO ⟨_,Z⟩) (Qa Qk Qb)))) (Qi (i:=3) ZF.nd Z Zz0) (Qg (QN (PW.pt (Zu (Ql Ve (pv 2) (Qw QI Z O.len ybg (Qa (pv 0) Qb)) (Qq _)) (Zu (Ql Zj (QB JE (QB Jv (pv 0) (pv 2) (λ_ _=>rfl)) Qj (λ_ _=>rfl)) (pv 3) (by with_unfolding_all rfl)) (JZ (KS (XT (nP.pq hr Qr (Qa (pv 0) (Qa (pv 2) Qb))))))))) (Qd (KU (i:=1) ZF.nd Z Zz0 (QB JE (QB Jv (pv 0) (pv 2) (λ_ _=>rfl)) Qj (λ_ _=>rfl)) Sr)
  (Qg (KU (i:=2) ZF.nd Z Zz0 Qj W6))) Qu)))
  (Qg (Qp (Qs (Qa (pv 1) (Qa (pv 2) Qb)))))))),?_⟩
 refine⟨iq,λt ht=>⟨t,Z,⟨_,aw.of Qf⟩,?_⟩⟩;have S1:=Qn.new (o:=.tup [.str "+-",.str "$"]) ht;have g1:upd H t (.tup [.str "+-",.str "$"]) t=some (.tup [.str (tx [43,45]),.str (tx [36])]):=by rw[Qf,Qf0,Qf2]
 generalize upd H t (.tup [.str "+-",.str "$"])=H1 at S1 g1;have R1:=R.same S1;refine kP (xs:=[.str (tx [43,45]),.str (tx [36])]) (λi σ H2=>∃(ld:List Nat)(b:Nat)(x:Option V),σ=[some (.ref p),some (.str (tx ld)),some (.int (b:Nat)),x]/\H2=H1/\b<=rows.length/\ld.length<=i/\ZG rows=Va (([[43,45],[36]]:List (List Nat)).drop i) (rows.drop b) ld) ⟨[],0,none,by rw[<-ER];rfl,Z,lG _,tO _,Z⟩ (λi σ H2 hi hP=>?_) ?_ ?_
 .obtain⟨_,_,_,_,rfl,_⟩:=hP;exact aw.of g1
 .rintro i x σ H2 hi ⟨ld,b,x3,rfl,rfl,hb,o7,Tk⟩;have Hv:i<2:=(yaf.mp hi).1;obtain⟨ch,No,hxc⟩:∃ch,([[43,45],[36]]:List (List Nat))[i]? =some ch/\x=.str (tx ch):=by
   match i,hi,Hv with
   |0,hi,_=>exact⟨_,Z,(tP hi).symm⟩
   |1,hi,_=>exact⟨_,Z,(tP hi).symm⟩
  subst hxc;rw[drop_cons No]at Tk;refine⟨_,Z,Zy rfl R1 ⟨_,_,Z,Z,_,Z,?_⟩⟩;rcases yba b rows.length with bi|lU
  .rw[tN (by lia)];obtain⟨⟨y,n⟩,hx⟩:=Yf bi;have el:Va (ch::([[43,45],[36]]:List (List Nat)).drop (i+1)) (rows.drop b) ld=if(ch.contains y&& !Kl (rows.drop b))=true then Va (([[43,45],[36]]:List (List Nat)).drop (i+1)) (rows.drop (b+1)) (ld++[y])else Va (([[43,45],[36]]:List (List Nat)).drop (i+1)) (rows.drop b) ld:=by
    rw[drop_cons hx];rfl
   rw[el]at Tk;refine Q0 (XY Z (J3 Z) R1 hx ⟨_,Z,_,_,Z,Z,_,Z,?_⟩);rw[XQ];refine cf (λh1=>?_) (λh1=>?_)
   .exists _,Z,_,Z,p,rs,rows,b,Z,R1,bi,_,Z;rw[h1,Bool.true_and]at Tk;refine cf (λh2=>?_) (λh2=>?_)
    .refine⟨_,Z,XY rfl (J3 Z) R1 hx ⟨_,_,Z,Z,by rw[Qx,Qx];simp;lia,?_⟩⟩;rw[XX];refine⟨_,Z,_,_,Z,Z,ld++[y],b+1,_,Z,Z,by lia,by rw[tK];simp;lia,?_⟩;rw[Tk,yai h2]
    .refine⟨ld,b,_,Z,Z,hb,by lia,?_⟩;rw[Tk,yah (by rw[h2];lia)]
   .rw[h1,yeZ]at Tk;exact QO ⟨ld,b,_,Z,Z,hb,by lia,by rw[Tk];rfl⟩
  .rw[tM (by lia)];refine QO (QO ⟨ld,b,_,Z,Z,hb,by lia,?_⟩);rw[Tk,yaw lU];rfl
 .rintro σ H2 ⟨ld,b,x3,rfl,rfl,hb,o7,Tk⟩;refine⟨_,Z,_,Z,iq,λq hq=>?_⟩;exact k ld b hb o7 Tk q _ (S1.trans (Qn.new hq)) Qf
def Yg{xs:List V}{NB:List Str}{g:TG}{tt:TT}{te:TE}{Q:VK}{H:Hp}(Pv:Nat->List V->Hp->Prop)(h0:Pv 0 [] H)(hl:∀i vs H,i<=xs.length->Pv i vs H->aE K H a xs/\vs.length<=i)(hs:∀i x vs H,xs[i]? =some x->Pv i vs H->g x (replicate NB.length none) H λσ2 H2=>tt σ2 H2 λb H3=>if b=true then te σ2 H3 λv H4=>Pv (i+1) (vs++[v]) H4 else Pv (i+1) vs H3)(hd:∀vs H,Pv xs.length vs H->∀p,H p=none->Q (.ref p) (upd H p (.lst vs)))(hz:xs.length<sizeLine):∃W:Nat->Nat->List V->Hp->Prop,(∃m,W 0 m [] H)/\∀i m vs H,W i m vs H->
   ((fC K a).stop i H/\∀p,H p=none->Q (.ref p) (upd H p (.lst vs)))\/((fC K a).go i H/\vs.length<sizeLine/\∃N:List V->Hp->Prop,(∀pi H',N pi H'->∃m',m'<m/\W (i+1) m' pi H')/\
    ∀x H',(fC K a).dj i H x H'->g x (replicate NB.length none) H' λσ2 H2=>tt σ2 H2 λb H3=>if b=true then te σ2 H3 λv H4=>N (vs++[v]) H4 else N vs H3):=by
 refine⟨λi m vs H=>m=xs.length-i/\i<=xs.length/\Pv i vs H,⟨xs.length,by simp,lG _,h0⟩,?_⟩;rintro i m vs H ⟨rfl,hi,p⟩;obtain⟨q,hv⟩:=hl i vs H hi p
 by_cases bi:i<xs.length
 .refine .inr ⟨⟨xs,xs[i],q,by simp[bi]⟩,by lia,Pv (i+1),λpi H' p'=>⟨xs.length-(i+1),by lia,Z,bi,p'⟩,λx H' y=>?_⟩;obtain⟨e,y⟩:=y;subst e;exact hs i x vs _ (y xs q) p
 .have e:i=xs.length:=by lia
  subst e;exact .inl ⟨⟨xs,q,tO _⟩,hd vs H p⟩
def cq.at'{rs:List Addr}{rows:List Rw}(h:cq H rs rows):∀{i:Nat}{r:Addr},rs[i]? =some r->∃x,rows[i]? =some x/\H r=some (oQ x):=by
 induction h with
 |nil=>intro i r e;cases e
 |cons a _ ih=>
  intro i r e;cases i with
  |zero=>exact⟨_,Z,by have:_=r:=tP e;rw[<-this];exact a⟩
  |succ i=>exact ih (i:=i) (r:=r) e
def KO{k:Nat}{pos:Pos}(hK:X.K=K0)(hc:X.calm=true)(h:BJ X es t)(hn:(assignEach es X.env).length=n:=by rfl)(lm:(assignEach es X.env).findIdx? (·.1)=none:=by rfl):PG X (.Tuple es k pos) (eC K0 n t):=by
 subst hK;exact QM hc h hn lm
def vR{rs:List Addr}{rows:List Rw}{te:TE}{NB:List Str}{n:Nat}{H:Hp}{Q:VK}(val:Rw->V)(ir:NB.length=3)(hn:n=2)(R:au K H p rs rows)(Ap:∀(x:Rw)(Q:VK),Q (val x) H->te [none,some (.str (tx [x.1])),some (.int (x.2:Nat))] H Q)(hd:∀q,H q=none->Q (.ref q) (upd H q (.lst (rows.map val)))):∃W:Nat->Nat->List V->Hp->Prop,(∃m,W 0 m [] H)/\∀i m vs H,W i m vs H->
   ((fC K p).stop i H/\∀p,H p=none->Q (.ref p) (upd H p (.lst vs)))\/((fC K p).go i H/\vs.length<sizeLine/\∃N:List V->Hp->Prop,(∀pi H',N pi H'->∃m',m'<m/\W (i+1) m' pi H')/\
    ∀x H',(fC K p).dj i H x H'->eC K n (bE (QL 1) (bE (QL 2) e7)) x (replicate NB.length none) H' λσ2 H2=>oJ σ2 H2 λb H3=>if b=true then te σ2 H3 λv H4=>N (vs++[v]) H4 else N vs H3):=by
 have hz:=zza
 have hl:=R.le;have hlen:=R.len;refine Yg (xs:=rs.map V.ref) (λi vs H2=>H2=H/\vs=(rows.take i).map val) ⟨Z,Z⟩ ?_ ?_ ?_ (by lia)
 .rintro i vs H2 hi ⟨rfl,rfl⟩;exact⟨R.sq,by rw[tL,tY];lia⟩
 .rintro i x vs H2 hx ⟨rfl,rfl⟩;rw[lh]at hx;obtain⟨r,hr,rfl⟩:=ybo.mp hx;obtain⟨y,hy,g⟩:=R.rw.at' hr;subst hn;rw[ir];exists r,_,Z,aw.of g,Z,_,_,Z,_,_,Z,Z;dsimp only[oJ];rw[yai rfl];refine Ap y _ ⟨Z,?_⟩;have hi:=(yaf.mp hy).1;rw[yaJ,hy,lr];rfl
 .rintro vs H2 ⟨rfl,rfl⟩ q hq;rw[yav (by lia)];exact hd q hq
def QaT{α:Type}(rs:List Addr)(a:Nat):qx (rs.map V.ref) (some (a:Int)) none=(rs.drop a).map V.ref:=by
 unfold qx;rw[HT.Xn,HT.zC];rcases Nat.le_total a (rs.map V.ref).length with h|h
 .rw[ybc h,yav (by rw[tZ];exact tO _),yeB]
 .rw[yeI h,yaw (tO _),ydJ,yaw (by rw[tL]at h;exact h)];rfl
def WW{rows:List Rw}{tl te:TE}(val:Rw->V)(ir:NB.length=3)(hn:n=2)(h:∀R:VK,(∀p rs H1,Qn H H1->au K H1 p rs rows->R (.ref p) H1)->tl σ H R)(Ap:∀(x:Rw)(H:Hp)(Q:VK),Q (val x) H->te [none,some (.str (tx [x.1])),some (.int (x.2:Nat))] H Q)(hd:∀q H1,Qn H H1->H1 q=none->Q (.ref q) (upd H1 q (.lst (rows.map val)))):Uo NB (yI K tl) (eC K n (bE (QL 1) (bE (QL 2) e7))) oJ te σ H Q:=
 h _ λp rs H1 S1 R1=>⟨p,Z,⟨_,R1.sq⟩,vR val ir hn R1 (λx Q q=>Ap x H1 Q q) λq hq=>hd q H1 S1 hq⟩
def Y3{rs:List Addr}{rows:List Rw}(RA:au K H p rs rows)(h1:σ[i]? =some (some (.ref p)))(h2:σ[j]? =some (some (.int (a:Nat)))):∀R:VK,(∀p2 eT H1,Qn H H1->au K H1 p2 eT (rows.drop a)->R (.ref p2) H1)->FZ (i3 K) (aF i) (FY (aF j)) jP σ H R:=λR r=>
 ⟨_,h1,_,h2,_,Z,p,_,Z,RA.sq,λp2 ut=>by
  rw[QaT (α:=Unit)];have S2:=Qn.new (o:=.lst ((rs.drop a).map V.ref)) ut;exact r p2 (rs.drop a) _ S2 ⟨aE.of Qf,(RA.rw.dr a).keep λb xs h=>S2 _ _ h,by rw[tZ];have:=RA.le;lia⟩⟩
def QaU{rs:List Addr}{rows:List Rw}(RA:au K H p rs rows)(h1:σ[i]? =some (some (.ref p))):∀R:VK,(∀p2 eT H1,Qn H H1->au K H1 p2 eT rows->R (.ref p2) H1)->aF i σ H R:=λR r=>⟨_,h1,r p rs H (Qn.refl H) RA⟩
def QeL(a b:List Nat):i4 (.str (tx a)) (.str (tx b))=decide (a=b):=by
 show(tx a==tx b)=_
 by_cases h:a=b
 .subst h;simp
 .rw[tM h];exact yas.mpr λz=>h (qZ z)
def in_list(ls:List (List Nat))(s:List Nat):i5 (.str (tx s)) (ls.map λl=>V.str (tx l))=ls.contains s:=by
 unfold i5
 induction ls with
 |nil=>rfl
 |cons a r ih=>
  rw[lD,yda,ih,QeL,yei]
  congr 1
  by_cases h:a=s
  .subst h;simp
  .rw[tM h];exact(yas.mpr λz=>h z.symm).symm
def vS:([.str "9",.str "S9",.str "V9",.str "SV9",.str "9V9",.str "S9V9"]:List V)=Ey.map λl=>V.str (tx l):=by rfl'
def UW:([.str "+",.str "-",.str "CR",.str "DB"]:List V)=J2.map λl=>V.str (tx l):=by rfl'
def UX(ls:List (List Nat)):(ls.map λl=>V.str (tx l)).all VA=true:=by
 induction ls with
 |nil=>rfl
 |cons a r ih=>rw[lD,yew,ih];rfl
noncomputable def tV:Option (List Nat)->V
 |none=>.aq
 |some l=>.str (tx l)
inductive c6 (K:Frag) (vs:List V) (H:Hp) (Q:VK) (ap:XK):Prop
 |mk (p:Addr) (rs:List Addr) (rows:List Rw) (a:Nat):vs=[.ref p,.int (a:Nat)]->au K H p rs rows->a<=rows.length->(∀H',Qn H H'->Q (tV (Vb (rows.drop a))) H')->c6 K vs H Q ap
def vT(rows:List Rw):(rows.map λx=>V.str (tx [x.1]))=((rows.map (·.1)).map λc=>tx [c]).map V.str:=by rw[lC,lC];rfl
def Qc0(rows:List Rw):(rows.map λx=>V.int (x.2:Nat))=(rows.map λx=>((x.2:Nat):Int)).map V.int:=by rw[lC];rfl
def kq(F:az K "tail_of" "tail_of" V5 f fd)(O:Own mg)(T:Txt K mg tk c kr):Zz1 P w K mg Y 1 f fd ["rows","at"] (c6 K):=by
 refine okN F Y2 (by nofun) λam A L s H vs Q E hr h=>?_
 obtain⟨p,rs,rows,a,rfl,R,ha,k⟩:=h;have hz:=zza
 have hle:=R.le;refine⟨_,(Qd (QN (Ql Jl (pv 1) (Qw QI Z O.len ybg (Qa (pv 0) Qb)) (Qq _)) (Qg (Qp Qk)) Qu)
  (Qd (Qt (i:=2) Y2.nd Z Zz0 (JN yaD yck ycl KA Qk (Qa (Xq (NB:=[".0","symbol","many"]) Z ⟨Z,by rfl'⟩ (Z4 (QR jR (pv 0) (QQ (pv 1)) JK)) (λ_ _ _=>(KO (K0:=K) (n:=2) Z Z (Qh (Qi (i:=1) (show([".0","symbol","many"]:List Str).Nodup by rfl') Z Zz0 (Or.inr Z)) (Qh (Qi (i:=2) (show([".0","symbol","many"]:List Str).Nodup by rfl') Z Zz0 (Or.inr Z)) Qy)))) (λ_ _ _=>Xo) (λ_ _ _=>(pv 1))) Qb)))
  (Qd (QN (PW.pt (ZP (Ql ZU (pv 2) (QK (v:=V.ref (kr 1)) Z T.pq Z) (by with_unfolding_all rfl)) (JV (Ql Uc (Qw (wK Z) Z O.max boot_max (Qa (Xq (NB:=[".0","symbol","many"]) Z ⟨Z,by rfl'⟩ (Z4 (QR jR (pv 0) (QQ (pv 1)) JK)) (λ_ _ _=>(KO (K0:=K) (n:=2) Z Z (Qh (Qi (i:=1) (show([".0","symbol","many"]:List Str).Nodup by rfl') Z Zz0 (Or.inr Z)) (Qh (Qi (i:=2) (show([".0","symbol","many"]:List Str).Nodup by rfl') Z Zz0 (Or.inr Z)) Qy)))) (λ_ _ _=>Xo) (λ_ _ _=>(pv 2))) Qb)) Qj (Qq _))))) (Qg (Qp Zt)) Qu)
  (Qg (Qp (pv 2)))))),?_⟩
 refine⟨_,Z,Zy rfl R ⟨Z,_,Z,?_⟩⟩;rw[Kz]
 by_cases h1:a=rows.length
 .rw[tN (by lia)];have e:Vb (rows.drop a)=some []:=by rw[h1,ybO];rfl
  rw[e]at k;have:=k H (Qn.refl H);refine Q0 ?_;show Q (.str "") H;rw[ER];exact this
 .rw[tM (by lia)];have sw:rows.drop a≠[]:=λz=>by
   have:=yaE List.length z;rw[tZ,yaS]at this;lia
  have et:Vb (rows.drop a)=if(!J2.contains ((rows.drop a).map (·.1))||(rows.drop a).any (λx=>decide (x.2>1)))=true then none else some ((rows.drop a).map (·.1)):=by
   unfold Vb;rw[yah sw]
  rw[et]at k;have NE:(rows.drop a).length<=600:=by rw[tZ];lia
  refine QO ⟨Z,WW (λx=>.str (tx [x.1])) rfl rfl (Y3 R Z Z) (λx H Q q=>⟨_,Z,q⟩) λq H2 S2 hq=>?_⟩;have RR:=R.same S2;have iD:∀{H3:Hp},au K H3 p rs rows->∀{σ:L2.St}{i j:Nat},σ[i]? =some (some (.ref p))->σ[j]? =some (some (.int (a:Nat)))->∀R:VK,(∀p2 eT H1,Qn H3 H1->au K H1 p2 eT (rows.drop a)->R (.ref p2) H1)->FZ (i3 K) (aF i) (FY (aF j)) jP σ H3 R:=λ{_} R3{_ _ _} h1 h2=>Y3 R3 h1 h2;generalize hD:rows.drop a=D at k sw NE iD;rw[vT];have S3:=S2.trans (Qn.new (o:=.lst (((D.map (·.1)).map λc=>tx [c]).map V.str)) hq);have R3:=RR.same (Qn.new (o:=.lst (((D.map (·.1)).map λc=>tx [c]).map V.str)) hq);refine⟨"",q,_,Z,Z,aE.of Qf,VR (by rw[tL];lia),?_⟩;rw[XZ];generalize upd H2 q (.lst (((D.map (·.1)).map λc=>tx [c]).map V.str))=H3 at S3 R3;exists _,Z,kr 1,_,Z,.inr (T.pz _),Z,by rw[UW];exact UX _,_,Z;rw[UW,yai rfl,in_list];refine cf (λh2=>?_) (λh2=>?_)
  .rw[h2,Bool.true_or]at k;exact k _ S3
  .rw[h2,yfb]at k;dsimp only[xz,dS,sL,Je];refine WW (λx=>.int (x.2:Nat)) rfl rfl (iD R3 Z Z) (λx H Q q=>⟨_,Z,q⟩) λq5 H4 S4 Aq=>?_;rw[Qc0];have S5:=(S3.trans S4).trans (Qn.new (o:=.lst ((D.map λx=>((x.2:Nat):Int)).map V.int)) Aq);refine⟨q5,_,Z,aE.of Qf,by simpa using sw,λm hm hmx=>?_⟩;generalize upd H4 q5 (.lst ((D.map λx=>((x.2:Nat):Int)).map V.int))=H5 at S5;exists _,_,Z,Z,_,Z;have Hw:decide ((1:Int)<m)=D.any (λx=>decide (x.2>1)):=by
    obtain⟨y,hy,rfl⟩:=yaZ.mp hm
    by_cases h3:y.2>1
    .rw[tN (by lia),List.any_eq_true.mpr ⟨y,hy,tN h3⟩]
    .rw[tM (by lia)];refine(List.any_eq_false.mpr λz GW=>?_).symm;have:=hmx _ (yaZ.mpr ⟨z,GW,Z⟩);rw[ybH];lia
   rw[Hw];refine cf (λh3=>?_) (λh3=>?_)
   .rw[h3]at k;exact k _ S5
   .rw[h3]at k;exact⟨_,Z,k _ S5⟩
noncomputable def kindS:Nat->Str
 |0=>"text"
 |1=>"letters"
 |2=>"number"
 |_=>"edited"
noncomputable def fO(x:Facts):HO:=.tup [.str (kindS x.kind),.bl x.signed,.int (x.before:Nat),.int (x.behind:Nat)]
def FV(o:Option Facts)(v:V)(H:Hp):Prop:=match o with
 |none=>v=.aq
 |some x=>∃q,v=.ref q/\H q=some (fO x)
inductive aC (K:Frag) (fn:List Rw->Option Facts) (vs:List V) (H:Hp) (Q:VK) (ap:XK):Prop
 |mk (p:Addr) (rs:List Addr) (rows:List Rw):vs=[.ref p]->au K H p rs rows->(∀v H',Qn H H'->FV (fn rows) v H'->Q v H')->aC K fn vs H Q ap
def QaV{rows:List Rw}(h:rows[i]? =some (y,n)):WF (rows.drop i) s p a b=if y=57 then(if p then WF (rows.drop (i+1)) s p a n else WF (rows.drop (i+1)) s p n b)else if n>1 then none else if y=83 then WF (rows.drop (i+1)) true p a b else WF (rows.drop (i+1)) s true a b:=by
 rw[drop_cons h];rfl
def Yh(F:az K "number_facts" "number_facts" Z5 f fd)(O:Own mg)(T:Txt K mg tk c kr):Zz1 P w K mg Y 1 f fd ["rows"] (aC K Jc):=by
 refine okN F Q2 (by nofun) λam A L s H vs Q E hr h=>?_
 obtain⟨p,rs,rows,rfl,R,k⟩:=h;have hz:=zza
 have hle:=R.le;refine⟨_,(Qd (QN (Ql ZU (JN yaD yck ycl KA Qk (Qa (Xq (NB:=[".0","symbol","many"]) Z ⟨Z,by rfl'⟩ (Z4 (pv 0)) (λ_ _ _=>(KO (K0:=K) (n:=2) Z Z (Qh (Qi (i:=1) (show([".0","symbol","many"]:List Str).Nodup by rfl') Z Zz0 (Or.inr Z)) (Qh (Qi (i:=2) (show([".0","symbol","many"]:List Str).Nodup by rfl') Z Zz0 (Or.inr Z)) Qy)))) (λ_ _ _=>Xo) (λ_ _ _=>(pv 1))) Qb)) (QK (v:=V.ref (kr 0)) Z T.gF Z) (by with_unfolding_all rfl)) (Qg (Qp Zt)) Qu)
  (Qd (Qt (i:=3) Q2.nd Z Zz0 Xk)
  (Qd (Qt (i:=4) Q2.nd Z Zz0 Xk)
  (Qd (Qt (i:=5) Q2.nd Z Zz0 (K9 (Qa Qj (Qa Qj Qb))))
  (Qd (ZR yaz Z (Z4 (pv 0)) (QM Z (Qh (Qi (i:=1) Q2.nd Z Zz0) (Qh (Qi (i:=2) Q2.nd Z Zz0) Qy))) (Qg (QN (Ql Jl (pv 1) Qk (Qq _)) (Qg (QW (pv 2) (PF (pv 5) (Jh (Jd (pv 4) (λ_=>rfl)) Qj Qj) set_list))) (Qg (QN (Ql Uc (pv 2) Qj (Qq _)) (Qg (Qp Zt)) (Qg (QN (Ql Jl (pv 1) Qk (Qq _)) (Qg (Qt (i:=3) Q2.nd Z Zz0 Xk)) (Qg (Qt (i:=4) Q2.nd Z Zz0 Xk)))))))))
  (Qd (QN (Ql Uc (Qw (zL Z) Z O.sum L2.boot_sum (Qa (pv 5) Qb)) (QK (v:=V.int 18) Z T.gm ⟨_,Z⟩) (Qq _)) (Qg (Qp Zt)) Qu)
  (Qg (Qp (Qs (Qa Qk (Qa (pv 3) (Qa (QB Jv (pv 5) Qj (λ_ _=>rfl)) (Qa (QB Jv (pv 5) Qj (λ_ _=>rfl)) Qb))))))))))))),?_⟩
 have Hx:("S":Str)=tx [83]:=by rfl'
 refine⟨Z,WW (λx=>.str (tx [x.1])) rfl rfl (QaU R Z) (λx H Q q=>⟨_,Z,q⟩) λq H2 S2 hq=>?_⟩;rw[vT];have S3:=S2.trans (Qn.new (o:=.lst (((rows.map (·.1)).map λc=>tx [c]).map V.str)) hq);refine⟨"",q,_,Z,Z,aE.of Qf,VR (by rw[tL];lia),?_⟩;rw[XZ];generalize upd H2 q (.lst (((rows.map (·.1)).map λc=>tx [c]).map V.str))=H3 at S3;have R3:=R.same S3;exists kr 0,_,Z,.inr (T.uZ _),Z,by rw[vS];exact UX _,_,Z;rw[vS,yai rfl,in_list];refine cf (λh2=>?_) (λh2=>?_)
 .have hn:Jc rows=none:=by
   unfold Jc;rw[yah (by rw[yce]at h2;rw[h2];lia)]
  exact k .aq H3 S3 (by rw[hn];rfl)
 have hf:Ey.contains (rows.map (·.1))=true:=by
  cases e:Ey.contains (rows.map (·.1))with
  |true=>rfl
  |false=>rw[e]at h2;cases h2
 have en:Jc rows=(match WF rows false false 0 0 with
   |some (s,a,b)=>if a+b>18 then none else some ⟨2,s,a,b⟩
   |none=>none):=by
  unfold Jc;rw[yai hf]
  all_goals rfl
 refine⟨bF,λfl Cl=>?_⟩;have S4:=Qn.new (o:=.lst [.int 0,.int 0]) Cl;exists _,Z,p,Z,⟨_,(R3.same S4).sq⟩;refine yK (xs:=rs.map V.ref) (λi σ H5=>∃(x1 x2:Option V)(sg pt:Bool)(a b:Nat),σ=[some (.ref p),x1,x2,some (.bl sg),some (.bl pt),some (.ref fl)]/\H5 fl=some (.lst [.int (a:Nat),.int (b:Nat)])/\Qn H3 H5/\WF rows false false 0 0=WF (rows.drop i) sg pt a b) ⟨none,none,false,false,0,0,Z,Qf,S4,Z⟩ ?_ ?_ ?_
 .rintro i σ H5 hi ⟨x1,x2,sg,pt,a,b,rfl,g5,S5,hg⟩;exact(R3.same S5).sq
 .rintro i x σ H5 hx ⟨x1,x2,sg,pt,a,b,rfl,g5,S5,hg⟩;rw[lh]at hx;obtain⟨r,iO,rfl⟩:=ybo.mp hx;obtain⟨⟨y,n⟩,hy,g⟩:=(R3.same S5).rw.at' iO;rw[QaV hy]at hg;exists r,_,Z,aw.of g,Z,_,_,Z,_,_,Z,Z;exists _,Z,Z,_,Z;rw[EO,Zd];have keep:∀(o:HO),Qn H3 (upd H5 fl o):=λo b u h=>by rw[Qo (QA h Cl)];exact S5 _ _ h
  by_cases h1:y=57
  .rw[tN h1];rw[yai h1]at hg;refine Q0 ⟨_,Z,_,Z,_,Z,pt,Z,?_⟩;refine cf (λh3=>?_) (λh3=>?_)
   .rw[yai h3]at hg;refine⟨fl,_,1,1,Z,Z,g5,Z,some (.str (tx [y])),some (.int (n:Nat)),sg,pt,a,n,Z,?_,keep _,hg⟩;rw[Qf];rfl
   .rw[yah (by rw[h3];lia)]at hg;refine⟨fl,_,0,0,Z,Z,g5,Z,some (.str (tx [y])),some (.int (n:Nat)),sg,pt,n,b,Z,?_,keep _,hg⟩;rw[Qf];rfl
  .rw[tM h1];rw[yah h1]at hg;refine QO ⟨_,Z,_,_,Z,Z,_,Z,?_⟩
   by_cases h3:n>1
   .rw[tN (by lia)];rw[yai h3]at hg;refine Q0 (k .aq H5 (S3.trans S5) ?_);rw[en,hg];rfl
   .rw[tM (by lia)];rw[yah h3]at hg;refine QO ⟨_,Z,Z,_,Z,?_⟩;rw[Hx,Zd]
    by_cases h4:y=83
    .rw[tN h4];rw[yai h4]at hg;exact Q0 ⟨some (.str (tx [y])),some (.int (n:Nat)),true,pt,a,b,Z,g5,S5,hg⟩
    .rw[tM h4];rw[yah h4]at hg;exact QO ⟨some (.str (tx [y])),some (.int (n:Nat)),sg,true,a,b,Z,g5,S5,hg⟩
 .rintro σ H5 ⟨x1,x2,sg,pt,a,b,rfl,g5,S5,hg⟩;rw[R.len,ybO]at hg;rw[hg]at en;exists _,Z,fl,[(a:Int),(b:Int)],Z,aE.of g5,_,_,Z,Z,_,Z;have es:([(a:Int),(b:Int)]:List Int).sum=((a+b:Nat):Int):=by simp
  rw[es]
  by_cases h1:a+b>18
  .rw[tN (by lia)];refine Q0 (k .aq H5 (S3.trans S5) ?_);rw[en];show FV (if a+b>18 then none else _) _ _;rw[yai h1];rfl
  .rw[tM (by lia)];refine QO ⟨_,Z,_,Z,fl,_,_,_,Z,Z,aE.of g5,Z,_,Z,fl,_,_,_,Z,Z,aE.of g5,Z,Bk,λq6 Hy=>?_⟩;refine k _ _ ((S3.trans S5).trans (Qn.new Hy)) ?_;rw[en];show FV (if a+b>18 then none else _) _ _;rw[yah h1];exact⟨q6,Z,Qf⟩
def jq(y:Nat):Vf jl (Sum.inr (tx [y]):Key)=if y=88 then some (.str "text")else if y=65 then some (.str "letters")else none:=by
 have eX:("X":Str)=tx [88]:=by rfl'
 have eA:("A":Str)=tx [65]:=by rfl'
 unfold Vf jl;rw[eX,eA]
 by_cases h1:y=88
 .subst h1;rw[yai rfl];simp
 .rw[yah h1];have n1:¬ ((Sum.inr (tx [88]):Key)=Sum.inr (tx [y])):=λz=>h1 (ycB (qZ (ydM z))).1.symm
  by_cases h2:y=65
  .subst h2;rw[yai rfl];simp
  .rw[yah h2];have n2:¬ ((Sum.inr (tx [65]):Key)=Sum.inr (tx [y])):=λz=>h2 (ycB (qZ (ydM z))).1.symm;simp[n1,n2]
def YE(F:az K "plain_facts" "plain_facts" XA f fd)(O:Own mg)(T:Txt K mg tk c kr)(KD:aG P w K (kr 2) jl):Zz1 P w K mg Y 1 f fd ["rows"] (aC K JW):=by
 refine okN F Z6 (by nofun) λam A L s H vs Q E hr h=>?_
 obtain⟨p,rs,rows,rfl,R,k⟩:=h;have hz:=zza
 refine⟨_,(Qd (QN (Ql Xe (Qw QI Z O.len ybg (Qa (pv 0) Qb)) Qj (Qq _)) (Qg (Qp Zt)) Qu)
  (Qd (QW (QB Jv (pv 0) Qj (λ_ _=>rfl)) (QM Z (Qh (Qi (i:=1) Z6.nd Z Zz0) (Qh (Qi (i:=2) Z6.nd Z Zz0) Qy))))
  (Qd (QN (PW.pt (ZP (JY (WB KD (pv 1) (QK (v:=V.ref (kr 2)) Z T.gA Z)) (by with_unfolding_all rfl)) (JV (Ql Uc (pv 2) (QK (v:=V.int 60) Z T.gR ⟨_,Z⟩) (Qq _))))) (Qg (Qp Zt)) Qu)
  (Qg (Qp (Qs (Qa (Wh KD (QK (v:=V.ref (kr 2)) Z T.gA Z) (pv 1) (λ_ _=>rfl)) (Qa Xk (Qa Qj (Qa Qj Qb)))))))))),?_⟩
 exists _,Z,p,_,Z,.inl R.sq;rw[R.len];exists Z,_,Z;rw[wC]
 match rows,R,k with
 |[],R,k=>exact Q0 (k .aq H (Qn.refl H) Z)
 |_::_::_,R,k=>
  rw[tN (by simp;lia)];exact Q0 (k .aq H (Qn.refl H) Z)
 |[(y,n)],R,k=>
  refine QO (ja (k:=0) Z (λQ q=>q) R Z λr iO=>⟨r,_,Z,aw.of iO,Z,_,_,Z,_,_,Z,Z,?_⟩);exists _,Z,Sum.inr (tx [y]),Z,Z,_,Z;have ep:JW [(y,n)]=if(y≠88/\y≠65)\/n>60 then none else some ⟨if y=88 then 0 else 1,false,0,0⟩:=rfl;rw[jq]
  by_cases h1:y=88\/y=65
  .have h2:(if y=88 then some (V.str "text")else if y=65 then some (.str "letters")else none)=some (.str (kindS (if y=88 then 0 else 1))):=by
    rcases h1 with rfl|rfl
    .rfl
    .rfl
   rw[h2];refine QO ⟨_,Z,_,_,Z,Z,_,Z,?_⟩
   by_cases h3:n>60
   .rw[tN (by lia)];refine Q0 (k .aq H (Qn.refl H) ?_);rw[ep,yai (.inr h3)];rfl
   .rw[tM (by lia)];refine QO ⟨_,Z,Sum.inr (tx [y]),.str (kindS (if y=88 then 0 else 1)),Z,Z,by rw[jq,h2],Bk,λq hq=>?_⟩;refine k _ _ (Qn.new hq) ?_;rw[ep,yah (by lia)];exact⟨q,Z,Qf⟩
  .rw[yah (show ¬y=88 by lia),yah (show ¬y=65 by lia)];refine Q0 (Q0 (k .aq H (Qn.refl H) ?_));rw[ep,yai (.inl (by lia))];rfl
def QaW{xs:List V}{NB:List Str}{g:TG}{tt:TT}{te:TE}{Q:VK}{H:Hp}(Pv:Nat->List V->Hp->Prop)(h0:Pv 0 [] H)(hl:∀i vs H,i<=xs.length->Pv i vs H->aw K H a xs/\vs.length<=i)(hs:∀i x vs H,xs[i]? =some x->Pv i vs H->g x (replicate NB.length none) H λσ2 H2=>tt σ2 H2 λb H3=>if b=true then te σ2 H3 λv H4=>Pv (i+1) (vs++[v]) H4 else Pv (i+1) vs H3)(hd:∀vs H,Pv xs.length vs H->∀p,H p=none->Q (.ref p) (upd H p (.lst vs)))(hz:xs.length<sizeLine):∃W:Nat->Nat->List V->Hp->Prop,(∃m,W 0 m [] H)/\∀i m vs H,W i m vs H->
   ((fD K a).stop i H/\∀p,H p=none->Q (.ref p) (upd H p (.lst vs)))\/((fD K a).go i H/\vs.length<sizeLine/\∃N:List V->Hp->Prop,(∀pi H',N pi H'->∃m',m'<m/\W (i+1) m' pi H')/\
    ∀x H',(fD K a).dj i H x H'->g x (replicate NB.length none) H' λσ2 H2=>tt σ2 H2 λb H3=>if b=true then te σ2 H3 λv H4=>N (vs++[v]) H4 else N vs H3):=by
 refine⟨λi m vs H=>m=xs.length-i/\i<=xs.length/\Pv i vs H,⟨xs.length,by simp,lG _,h0⟩,?_⟩;rintro i m vs H ⟨rfl,hi,p⟩;obtain⟨q,hv⟩:=hl i vs H hi p
 by_cases bi:i<xs.length
 .refine .inr ⟨⟨xs,xs[i],q,by simp[bi]⟩,by lia,Pv (i+1),λpi H' p'=>⟨xs.length-(i+1),by lia,Z,bi,p'⟩,λx H' y=>?_⟩;obtain⟨e,y⟩:=y;subst e;exact hs i x vs _ (y xs q) p
 .have e:i=xs.length:=by lia
  subst e;exact .inl ⟨⟨xs,q,tO _⟩,hd vs H p⟩
noncomputable def Kd(ld pl:List Nat)(many bn:Nat)(o:Option Nat)(tl:Option (List Nat)):Option Facts:=
 match pl,o,tl with
 |[place],some behind,some tail=>
  let fl:Bool:=[43,45,36].contains place
  if fl&&decide (many<2)then none
  else
   let shown:=[ld.take 1,[place],tail].filter (J2.contains ·)
   if shown.length>1 then none
   else
    let before:=many+bn-(if fl then 1 else 0)
    if before+behind>18 then none else some ⟨3,shown.length==1,before,behind⟩
 |_,_,_=>none
def vU{rows:List Rw}{ld pl:List Nat}{b many bn b2 b3:Nat}(h1:ZG rows=(ld,rows.drop b))(h2:QX (rows.drop b)=(pl,many,bn,rows.drop b2))(h3:JA (rows.drop b2) (if bn=0 then pl else[57])=(o,rows.drop b3)):Jw rows=Kd ld pl many bn o (Vb (rows.drop b3)):=by
 unfold Jw;simp only[h1,h2,h3];rfl
def vV(r:List Rw):(QX r).1=[]\/∃y,(QX r).1=[y]:=by
 unfold QX
 split
 .split
  .exact .inr ⟨_,Z⟩
  .exact .inl rfl
 .exact .inl rfl
def ku{ls:List (List Nat)}{H:Hp}{Q:VK}(T:Txt K mg tk c kr)(hq:H a=some (.tup (ls.map λl=>V.str (tx l))))(hl:ls.length<=3)(hd:∀q,H q=none->Q (.ref q) (upd H q (.lst ((ls.filter (J2.contains ·)).map λl=>V.str (tx l))))):∃W:Nat->Nat->List V->Hp->Prop,(∃m,W 0 m [] H)/\∀i m vs H,W i m vs H->
   ((fD K a).stop i H/\∀p,H p=none->Q (.ref p) (upd H p (.lst vs)))\/((fD K a).go i H/\vs.length<sizeLine/\∃N:List V->Hp->Prop,(∀pi H',N pi H'->∃m',m'<m/\W (i+1) m' pi H')/\
    ∀x H',(fD K a).dj i H x H'->QL 1 x (replicate 2 none) H' λσ2 H2=>xz (dS (AS K false) (aF 1) (tC (.ref (kr 1)))) σ2 H2 λb H3=>if b=true then aF 1 σ2 H3 λv H4=>N (vs++[v]) H4 else N vs H3):=by
 have hz:=zza
 refine QaW (NB:=["a","b"]) (xs:=ls.map λl=>V.str (tx l)) (λi vs H2=>H2=H/\vs=((ls.take i).filter (J2.contains ·)).map λl=>V.str (tx l)) ⟨Z,Z⟩ ?_ ?_ ?_ (by rw[tL];lia)
 .rintro i vs H2 hi ⟨rfl,rfl⟩;exists aw.of hq;rw[tL];exact yao (ybj _ _) (by rw[tY];lia)
 .rintro i x vs H2 hx ⟨rfl,rfl⟩;rw[lh]at hx;obtain⟨l,lO,rfl⟩:=ybo.mp hx;exists _,Z,kr 1,_,Z,.inr (T.pz _),Z,by rw[UW];exact UX _,_,Z;rw[UW,yah (show ¬false=true by lia),in_list];have ef:((ls.take (i+1)).filter (J2.contains ·))=((ls.take i).filter (J2.contains ·))++(if J2.contains l then[l]else[]):=by
   rw[yaJ,lO,ybx]
   by_cases hm:l∈J2<;>simp[hm]
  refine cf (λh=>?_) (λh=>?_)
  .exists _,Z,Z;rw[ef,h,lr];rfl
  .exists Z;rw[ef,h];simp
 .rintro vs H2 ⟨rfl,rfl⟩ q iF;rw[tL,ycp];exact hd q iF
def zi{ls:List (List Nat)}{tl:TE}(T:Txt K mg tk c kr)(ir:NB.length=2)(hl:ls.length<=3)(h:∀R:VK,(∀p H1,Qn H H1->H1 p=some (.tup (ls.map λl=>V.str (tx l)))->R (.ref p) H1)->tl σ H R)(hd:∀q H1,Qn H H1->H1 q=none->Q (.ref q) (upd H1 q (.lst ((ls.filter (J2.contains ·)).map λl=>V.str (tx l))))):Uo NB (Lx K tl) (QL 1) (xz (dS (AS K false) (aF 1) (tC (.ref (kr 1))))) (aF 1) σ H Q:=by
 refine h _ λp H1 S1 g1=>⟨p,Z,⟨_,aw.of g1⟩,?_⟩;rw[ir];exact ku T g1 hl λq hq=>hd q H1 S1 hq
def vW(l:List Nat):StrLaws.sliceText (tx l) none (some 1)=tx (l.take 1):=by
 cases l with
 |nil=>rfl'
 |cons a r=>exact WD (a::r) (k:=1) (by simp)
inductive c7 (K:Frag) (vs:List V) (H:Hp) (Q:VK) (ap:XK):Prop
 |mk (p:Addr) (rs:List Addr) (rows:List Rw) (a:Nat):vs=[.ref p,.int (a:Nat)]->au K H p rs rows->a<=rows.length->(∀(pl:List Nat)(many bn b2 b3:Nat)(o:Option Nat),b3<=rows.length->QX (rows.drop a)=(pl,many,bn,rows.drop b2)->JA (rows.drop b2) (if bn=0 then pl else[57])=(o,rows.drop b3)->∀q H',Qn H H'->H' q=some (.tup [.str (tx pl),.int (many:Nat),.int (bn:Nat),oV o,.int (b3:Nat)])->Q (.ref q) H')->c7 K vs H Q ap
def ky(F:az K "body_of" "body_of" V4 f fd)(ng:Def P w K mg Y 2 "whole_part" ["rows","at"] (cA K))(mP:Def P w K mg Y 1 "broken_part" ["rows","at","place"] (bS K)):Zz1 P w K mg Y 3 f fd ["rows","at"] (c7 K):=by
 refine okN F Zf (by nofun) λam A L s H vs Q E hr h=>?_
 obtain⟨p,rs,rows,b,rfl,R,hb,k⟩:=h;have hz:=zza
 refine⟨_,(Qd (QW (ng.pq hr Qr (Qa (pv 0) (Qa (pv 1) Qb))) (QM Z (Qh (Qi (i:=2) Zf.nd Z Zz0) (Qh (Qi (i:=3) Zf.nd Z Zz0) (Qh (Qi (i:=4) Zf.nd Z Zz0) (Qh (Qi (i:=1) Zf.nd Z Zz0) Qy))))))
  (Qd (QW (mP.pq hr Qr (Qa (pv 0) (Qa (pv 1) (Qa (Jh (Ql Jl (pv 4) Qj (Qq _)) (pv 2) Qk) Qb)))) (QM Z (Qh (Qi (i:=5) Zf.nd Z Zz0) (Qh (Qi (i:=1) Zf.nd Z Zz0) Qy))))
  (Qg (Qp (Qs (Qa (pv 2) (Qa (pv 3) (Qa (pv 4) (Qa (pv 5) (Qa (pv 1) Qb)))))))))),?_⟩
 refine⟨_,Z,_,Z,p,rs,rows,b,Z,R,hb,λpl many bn b2 Fr h2 q2 H2 S2 g2=>⟨q2,_,Z,aw.of g2,Z,_,_,Z,_,_,Z,_,_,Z,_,_,Z,Z,?_⟩⟩;exists _,Z,_,Z,_,Z,Z,_,Z;refine Um (λx H'=>x=.str (tx (if bn=0 then pl else[57]))/\H'=H2) (λz rest=>?_) (λz rest=>?_) ?_
 .rw[Kz]at z;have hn:bn=0:=by have:=ybq z;lia
  rw[yai hn]at rest;exact⟨_,Z,rest _ _ ⟨Z,Z⟩⟩
 .rw[Kz]at z;have hn:bn≠0:=by have:=ybU z;lia
  rw[yah hn]at rest;exact rest _ _ ⟨by rw[EO],Z⟩
 rintro x H' ⟨rfl,rfl⟩;refine⟨p,rs,rows,b2,_,Z,R.same S2,Fr,λo b3 Bl h3 q3 Bm=>⟨q3,_,Z,aw.of Qf,Z,_,_,Z,_,_,Z,Z,?_⟩⟩;have S3:=S2.trans (Qn.new (o:=.tup [oV o,.int (b3:Nat)]) Bm);generalize upd H' q3 (.tup [oV o,.int (b3:Nat)])=H3 at S3;refine⟨_,Z,_,Z,_,Z,_,Z,_,Z,sL5,λq4 hq4=>?_⟩;exact k pl many bn b2 b3 o Bl h2 h3 q4 _ (S3.trans (Qn.new hq4)) Qf
def Yi(F:az K "edited_facts" "edited_facts" Z7 f fd)(O:Own mg)(T:Txt K mg tk c kr)(mm:Def P w K mg Y 2 "lead_of" ["rows"] (c5 K))(mn:Def P w K mg Y 3 "body_of" ["rows","at"] (c7 K))(mq:Def P w K mg Y 1 "tail_of" ["rows","at"] (c6 K)):Zz1 P w K mg Y 4 f fd ["rows"] (aC K Jw):=by
 refine okN F QH (by nofun) λam A L s H vs Q E hr h=>?_
 obtain⟨p,rs,rows,rfl,R,k⟩:=h;have hz:=zza
 refine⟨_,(Qd (QW (mm.pq hr Qr (Qa (pv 0) Qb)) (QM Z (Qh (Qi (i:=1) QH.nd Z Zz0) (Qh (Qi (i:=2) QH.nd Z Zz0) Qy))))
  (Qd (QW (mn.pq hr Qr (Qa (pv 0) (Qa (pv 2) Qb))) (QM Z (Qh (Qi (i:=3) QH.nd Z Zz0) (Qh (Qi (i:=4) QH.nd Z Zz0) (Qh (Qi (i:=5) QH.nd Z Zz0) (Qh (Qi (i:=6) QH.nd Z Zz0) (Qh (Qi (i:=7) QH.nd Z Zz0) Qy)))))))
  (Qd (Qt (i:=8) QH.nd Z Zz0 (mq.pq hr Qr (Qa (pv 0) (Qa (pv 7) Qb))))
  (Qd (QN (PW.pt (ZP (Ql Jl (pv 3) Qk (Qq _)) (ZP (JY (XN (pv 6))) (JV (JY (XN (pv 8))))))) (Qg (Qp Zt)) Qu)
  (Qd (Qt (i:=9) QH.nd Z Zz0 (JS Zj (pv 3) (QK (v:=V.str "+-$") Z T.gD ⟨_,Z⟩) (by with_unfolding_all rfl)))
  (Qd (QN (PW.pt (Zu (Jd (pv 9) (λ_=>rfl)) (JZ (Ql Ve (pv 4) Qj (Qq _))))) (Qg (Qp Zt)) Qu)
  (Qd (zN (NB:=[".0","part"]) (iy:=10) Z ⟨Z,by rfl'⟩ (qC (Qs (Qa (QR Zb (pv 1) JK (QQ Qj)) (Qa (pv 3) (Qa (pv 8) Qb))))) (λ_ _ _=>(Qi (i:=1) (show([".0","part"]:List Str).Nodup by rfl') Z Zz0)) (λ_ _ _=>(VL (Ql (xR (K0:=K) Z) (pv 1) (QK (v:=V.ref (kr 1)) Z T.pq Z) (by with_unfolding_all rfl)))) (λ_ _ _=>(pv 1)) QH.nd Z Zz0 Z)
  (Qd (QN (Ql Uc (Qw QI Z O.len ybg (Qa (pv 10) Qb)) Qj (Qq _)) (Qg (Qp Zt)) Qu)
  (Qd (Qt (i:=11) QH.nd Z Zz0 (QF Vw (QF Ji (pv 4) (pv 5)) (Jh (Jd (pv 9) (λ_=>rfl)) Qj Qj)))
  (Qd (QN (Ql Uc (QF Ji (pv 11) (pv 6)) (QK (v:=V.int 18) Z T.gm ⟨_,Z⟩) (Qq _)) (Qg (Qp Zt)) Qu)
  (Qg (Qp (Qs (Qa Qk (Qa (JS Jl (Qw QI Z O.len ybg (Qa (pv 10) Qb)) Qj (Qq _)) (Qa (pv 11) (Qa (pv 6) Qb))))))))))))))))),?_⟩
 refine⟨_,Z,p,rs,rows,Z,R,λld b hb o7 h1 q1 H1 S1 g1=>⟨q1,_,Z,aw.of g1,Z,_,_,Z,_,_,Z,Z,?_⟩⟩;refine⟨_,Z,_,Z,p,rs,rows,b,Z,R.same S1,hb,λpl many bn b2 b3 o Bl h2 h3 q2 H3 S2 g2=>⟨q2,_,Z,aw.of g2,Z,_,_,Z,_,_,Z,_,_,Z,_,_,Z,_,_,Z,Z,?_⟩⟩;have S3:=S1.trans S2;clear g1 g2 S1 S2;have ee:=vU h1 h2 h3;have CP:=vV (rows.drop b);rw[h2]at CP;refine⟨_,Z,_,Z,p,rs,rows,b3,Z,R.same S3,Bl,λH4 S4=>?_⟩;have sB:=S3.trans S4;generalize Vb (rows.drop b3)=tl at ee;rw[ee]at k;clear ee h1 h2 h3 S3 S4;exists _,Z,Z,_,Z;rw[ER,VQ];rcases CP with hp|⟨place,hp⟩
 .have ut:pl=[]:=hp;subst ut;rw[tN rfl];exact Q0 (Q0 (k .aq H4 sB Z))
 have ut:pl=[place]:=hp;subst ut;rw[tM (by simp)];refine QO ⟨_,Z,_,Z,?_⟩;cases o with
 |none=>exact Q0 (Q0 (k .aq H4 sB Z))
 |some behind=>
 refine QO ⟨_,Z,_,Z,?_⟩;cases tl with
 |none=>exact Q0 (k .aq H4 sB Z)
 |some tail=>
 refine QO ⟨_,Z,_,_,Z,Z,?_⟩;rw[Nz,XQ];generalize Cl:([43,45,36]:List Nat).contains place=fl;have ek:Kd ld [place] many bn (some behind) (some tail)=if(fl&&decide (many<2))=true then none else if([ld.take 1,[place],tail].filter (J2.contains ·)).length>1 then none else if many+bn-(if fl=true then 1 else 0)+behind>18 then none else some ⟨3,([ld.take 1,[place],tail].filter (J2.contains ·)).length==1,many+bn-(if fl=true then 1 else 0),behind⟩:=by
  rw[<-Cl];rfl
 rw[ek]at k;clear ek;dsimp only;refine UU (λσ' H'=>σ'=[some (.ref p),some (.str (tx ld)),some (.int (b:Nat)),some (.str (tx [place])),some (.int (many:Nat)),some (.int (bn:Nat)),some (.int (behind:Nat)),some (.int (b3:Nat)),some (.str (tx tail)),some (.bl fl),none,none]/\H'=H4/\¬ (fl&&decide (many<2))=true) ?_ (λrest=>?_)
 .rintro σ' H' ⟨rfl,rfl,Cy⟩;rw[yah Cy]at k;have hmm:fl=true->2<=many:=λz=>by
   rcases yba many 2 with q|q
   .exact absurd (by rw[z,tN q];rfl) Cy
   .exact q
  dsimp only[Za,J9];refine zi (ls:=[ld.take 1,[place],tail]) T rfl (by simp) (λR r=>⟨_,Z,_,Z,tx ld,Z,by rw[Qx];lia,_,Z,_,Z,CK,λp5 se=>r p5 _ (Qn.new se) (by rw[Qf,vW];rfl)⟩) λq5 H5 S5 Aq=>?_;have S6:=(sB.trans S5).trans (Qn.new (o:=.lst (([ld.take 1,[place],tail].filter (J2.contains ·)).map λl=>V.str (tx l))) Aq);have g6:upd H5 q5 (.lst (([ld.take 1,[place],tail].filter (J2.contains ·)).map λl=>V.str (tx l))) q5=some (.lst (([ld.take 1,[place],tail].filter (J2.contains ·)).map λl=>V.str (tx l))):=Qf;generalize upd H5 q5 (.lst (([ld.take 1,[place],tail].filter (J2.contains ·)).map λl=>V.str (tx l)))=H6 at S6 g6;generalize [ld.take 1,[place],tail].filter (J2.contains ·)=sh at g6 k;exists _,Z,q5,_,Z,.inl (aE.of g6),_,_,Z,Z,_,Z;rw[tL]
  by_cases h7:sh.length>1
  .rw[tN (by lia)];rw[yai h7]at k;exact Q0 (k .aq H6 S6 Z)
  .rw[tM (by lia)];rw[yah h7]at k;refine QO ⟨_,Z,_,Z,_,_,Z,Z,_,Z,fl,Z,?_⟩;have hbf:((many:Nat):Int)+(bn:Nat)-(if fl=true then 1 else 0)=((many+bn-(if fl=true then 1 else 0):Nat):Int):=by
    cases fl with
    |true=>have:=hmm rfl;simp;lia
    |false=>simp
   refine Um (λx H'=>x=.int (if fl=true then 1 else 0)/\H'=H6) (λz rest=>rest _ _ ⟨by rw[yai z],Z⟩) (λz rest=>rest _ _ ⟨by rw[yah (by rw[z];lia)],Z⟩) ?_;rintro x H7 ⟨rfl,rfl⟩;exists _,_,Z,Z;dsimp only[QL];rw[hbf];generalize many+bn-(if fl=true then 1 else 0)=before at k;exists _,Z,_,Z,_,_,Z,Z,_,_,Z,Z,_,Z
   by_cases h8:before+behind>18
   .rw[tN (by lia)];rw[yai h8]at k;exact Q0 (k .aq H7 S6 Z)
   .rw[tM (by lia)];rw[yah h8]at k;refine QO ⟨_,Z,q5,_,Z,.inl (aE.of g6),Z,_,Z,_,Z,Bk,λq9 Ar=>?_⟩;refine k _ _ (S6.trans (Qn.new Ar)) ⟨q9,Z,?_⟩;rw[Qf,tL,Kz];have e9:decide ((sh.length:Int)=1)=(sh.length==1):=by
     by_cases z:sh.length=1
     .rw[z];rfl
     .rw[tM (by lia)];exact(yas.mpr z).symm
    rw[e9];rfl
 .exists _,Z,fl,Z;cases fl with
  |false=>
   exact QO (QO (rest _ _ ⟨Z,Z,by simp⟩))
  |true=>
   refine Q0 ⟨_,Z,_,_,Z,Z,_,Z,?_⟩
   by_cases h6:many<2
   .rw[tN (by lia)];refine Q0 (k .aq H4 sB ?_);rw[tN h6];rfl
   .rw[tM (by lia)];exact QO (rest _ _ ⟨Z,Z,by rw[tM h6];lia⟩)
def FV.CQ(h:FV o v H):decide (v=.aq)= !o.isSome:=by
 cases o with
 |none=>rw[show v=.aq from h];rfl
 |some x=>obtain⟨q,h1,h2⟩:=h;rw[h1];rfl
def zj(F:az K "facts_of" "facts_of" WQ f fd)(mw:Def P w K mg Y 1 "number_facts" ["rows"] (aC K Jc))(mQ:Def P w K mg Y 1 "plain_facts" ["rows"] (aC K JW))(my:Def P w K mg Y 4 "edited_facts" ["rows"] (aC K Jw)):Zz1 P w K mg Y 5 f fd ["rows"] (aC K JT):=by
 refine okN F Xz (by nofun) λam A L s H vs Q E hr h=>?_
 obtain⟨p,rs,rows,rfl,R,k⟩:=h;refine⟨_,(Qd (Qt (i:=1) Xz.nd Z Zz0 (mw.pq hr Qr (Qa (pv 0) Qb)))
  (Qd (QN (JY (XN (pv 1))) (Qg (Qt (i:=1) Xz.nd Z Zz0 (mQ.pq hr Qr (Qa (pv 0) Qb)))) Qu)
  (Qd (QN (JY (XN (pv 1))) (Qg (Qt (i:=1) Xz.nd Z Zz0 (my.pq hr Qr (Qa (pv 0) Qb)))) Qu)
  (Qg (Qp (pv 1)))))),?_⟩
 refine⟨_,Z,p,rs,rows,Z,R,λv1 H1 S1 f1=>?_⟩;exists _,Z,_,Z;rw[f1.CQ];cases e1:Jc rows with
 |some x=>
  rw[e1]at f1;have ef:JT rows=some x:=by unfold JT;rw[e1]
  refine QO ⟨_,Z,_,Z,?_⟩;rw[f1.CQ];refine QO ⟨_,Z,k v1 H1 S1 ?_⟩;rw[ef];exact f1
 |none=>
  refine Q0 ⟨_,Z,p,rs,rows,Z,R.same S1,λv2 H2 S2 f2=>?_⟩;exists _,Z,_,Z;rw[f2.CQ];cases e2:JW rows with
  |some x=>
   rw[e2]at f2;have ef:JT rows=some x:=by unfold JT;rw[e1,e2]
   refine QO ⟨_,Z,k v2 H2 (S1.trans S2) ?_⟩;rw[ef];exact f2
  |none=>
   have ef:JT rows=Jw rows:=by unfold JT;rw[e1,e2]
   refine Q0 ⟨_,Z,p,rs,rows,Z,(R.same S1).same S2,λv3 H3 S3 f3=>⟨_,Z,k v3 H3 ((S1.trans S2).trans S3) ?_⟩⟩;rw[ef];exact f3
inductive bT (K:Frag) (c:Nat->Addr) (vs:List V) (H:Hp) (Q:VK) (E:XK):Prop
 |mk (l:List Nat):vs=[.str (tx l)]->l.length<=500->((QZ l=none->∀H',Qn H H'->E (.ref (c 1)) none H'))->((∀x,QZ l=some x->∀q p rs r H',Qn H H'->H' q=some (.tup [.ref p,.ref r])->H' r=some (fO x)->au K H' p rs (rowsOf l)->Q (.ref q) H'))->bT K c vs H Q E
def UY(F:az K "understood" "understood" ZW f fd)(T:Txt K mg tk c kr)(mr:Def P w K mg Y 4 "rows_of" ["thing"] (cZ K))(gW:Def P w K mg Y 5 "facts_of" ["rows"] (aC K JT)):Zz1 P w K mg Y 6 f fd ["picture"] (bT K c):=by
 refine cT F Xx (by nofun) λam A L s H vs Q E hr h=>?_
 obtain⟨l,rfl,hl,k1,k2⟩:=h;have hz:=zza
 have fr:=Jf (P:=P) (w:=w) (K:=K) (mg:=mg) (Y:=Y) (N:=["picture","rows","facts"]) (qual:="understood") (scope:=Qe ZW) (f:=f) (cd:=am) (A:=A) (L:=L) (s:=s) (H:=H) (E:=E);have ht:=Jo fr;have hx:=QG fr;refine⟨_,(Qd (Qt (i:=1) Xx.nd Z Zz0 (mr.pq hr hx (Qa (pv 0) Qb)))
  (Qd (Qt (i:=2) Xx.nd Z Zz0 (gW.pq hr hx (Qa (pv 1) Qb)))
  (Qd (QN (JY (XN (pv 2))) (Qg (JD ht Z Z T.rY T.r6 (Qa Qk Qb))) Qu)
  (Qg (Qp (Qs (Qa (pv 1) (Qa (pv 2) Qb)))))))),?_⟩
 refine⟨_,Z,_,rowsOf l,Z,.inl ⟨l,Z,hl,Z⟩,λp rs H1 S1 R1=>⟨_,Z,p,rs,rowsOf l,Z,R1,λv2 H2 S2 f2=>?_⟩⟩;exists _,Z,_,Z;rw[f2.CQ];cases e:JT (rowsOf l)with
 |none=>exact Q0 ⟨iL,k1 e _ (S1.trans S2)⟩
 |some x=>
  rw[e]at f2;obtain⟨r,rfl,g⟩:=f2;refine QO ⟨_,Z,_,Z,bF,λq hq=>?_⟩;have S3:=Qn.new (o:=.tup [.ref p,.ref r]) hq;exact k2 x e q p rs r _ ((S1.trans S2).trans S3) Qf (S3 _ _ g) ((R1.same S2).same S3)
inductive aT (c:Nat->Addr) (vs:List V) (H:Hp) (Q:VK) (E:XK):Prop
 |mk (l:List Nat):vs=[.str (tx l)]->l.length<=500->((QZ l=none->∀H',Qn H H'->E (.ref (c 1)) none H'))->((∀x,QZ l=some x->∀H',Qn H H'->Q (.str (kindS x.kind)) H'))->aT c vs H Q E
def kz(F:az K "kind_of" "kind_of" Wo f fd)(gK:Def P w K mg Y 6 "understood" ["picture"] (bT K c)):Zz1 P w K mg Y 7 f fd ["picture"] (aT c):=by
 refine cT F WN (by nofun) λam A L s H vs Q E hr h=>?_
 obtain⟨l,rfl,hl,k1,k2⟩:=h;have fr:=Jf (P:=P) (w:=w) (K:=K) (mg:=mg) (Y:=Y) (N:=["picture","rows","facts"]) (qual:="kind_of") (scope:=Qe Wo) (f:=f) (cd:=am) (A:=A) (L:=L) (s:=s) (H:=H) (E:=E);have hx:=QG fr;refine⟨_,(Qd (QW (gK.pq hr hx (Qa (pv 0) Qb)) (QM Z (Qh (Qi (i:=1) WN.nd Z Zz0) (Qh (Qi (i:=2) WN.nd Z Zz0) Qy))))
  (Qg (Qp (QB JE (pv 2) Qj (λ_ _=>rfl))))),?_⟩
 refine⟨_,Z,l,Z,hl,k1,λx e q p rs r H1 S1 g1 g2 R1=>?_⟩;exact⟨q,_,Z,aw.of g1,Z,_,_,Z,_,_,Z,Z,_,Z,r,_,_,_,Z,Z,aw.of g2,Z,k2 x e H1 S1⟩
end
end Lw
namespace iu
open dB bL PySem.NumText
noncomputable def fit(u o:Int)(a b:Nat):Int:=if ay.Xj u o b<0 then-(ay.XW (ay.Xj u o b) % ay.aM ((a:Int)+b))else ay.XW (ay.Xj u o b) % ay.aM ((a:Int)+b)
noncomputable def UZ(l:List Nat):List Nat:=l.dropLast++[l.getLast?.getD 48+64]
noncomputable def cont(s:Bool)(a b:Nat)(u o:Int):List Nat:=if s=true/\fit u o a b<0 then UZ (pad (fit u o a b).natAbs (a+b))else pad (fit u o a b).natAbs (a+b)
noncomputable def XJ(s:Bool)(l:List Nat):Bool:=s&&(([112,113,114,115,116,117,118,119,120,121]:List Nat).contains (l.getLast?.getD 0))
noncomputable def Zn(s:Bool)(l:List Nat):List Nat:=if XJ s l=true then l.dropLast++[l.getLast?.getD 0-64]else l
noncomputable def ZM(s:Bool)(l:List Nat):Int:=if XJ s l=true then-(digitsVal (Zn s l):Int)else(digitsVal (Zn s l):Int)
def kA(s:Bool)(a b:Nat)(l:List Nat):Prop:=l.length=a+b/\AllDigits (Zn s l)
noncomputable instance (s:Bool)(a b:Nat)(l:List Nat):Decidable (kA s a b l):=inferInstanceAs (Decidable (_/\_))
def Y4(u o:Int)(a b:Nat):(fit u o a b).natAbs<10^(a+b):=by
 have h1:=ybu (ay.XW (ay.Xj u o b)) (ybQ (ay.JC ((a:Int)+b)));have h2:=ybb (ay.XW (ay.Xj u o b)) (ay.JC ((a:Int)+b));have h3:ay.aM ((a:Int)+b)=((10^(a+b):Nat):Int):=by
  unfold ay.aM;have:((a:Int)+b).toNat=a+b:=by lia
  rw[this];push_cast;rfl
 rw[h3]at h1 h2;unfold fit;rw[h3]
 split<;>lia
end iu
namespace Lw
open PySem PySem.Spec PyProof.Rows L2 dB bL iu
open Builtin Builtin.Str StrLaws
section
variable {P:Program}{w:World}{K:Frag}{mg:Str->Option Value}{Y:Heap}{f:Addr}{fd:FuncData}{tk:Nat->Tok}{c kr:Nat->Addr}
def z6:∀ls:List (List Nat),Txt.join "" (ls.map tx)=tx ls.flatten:=by
 intro ls;show Builtin.Str.glued _ _=_;rw[ydw];have e:("":Str)=tx []:=by rfl'
 rw[e]
 induction ls with
 |nil=>rfl
 |cons a r ih=>
  cases r with
  |nil=>simp[PySem.Str.join]
  |cons b r=>
   show tx a++tx []++PySem.Str.join (tx []) ((b::r).map tx)=_;rw[ih,XX,XX,yaI (l:=a),lB]
def jr:∀(ls:List (List Nat))(n:Nat),(ls.map tx).foldl (λ(m:Nat)(s:Str)=>m+s.length+("":Str).length) n=n+ls.flatten.length:=by
 have e:("":Str).length=0:=by rfl'
 intro ls
 induction ls with
 |nil=>intro n;rfl
 |cons a r ih=>
  intro n;show(r.map tx).foldl _ (n+(tx a).length+("":Str).length)=_;rw[ih,e,Qx,yaI,tK];lia
def QaX{ls:List (List Nat)}(h:ls.flatten.length<=1000):JoinOk "" (ls.map tx)=true:=by
 unfold JoinOk;rw[<-yek,ydS,jr];unfold tooLong;have hz:=zza
 rw[tM (by lia)];rfl
def vX(ch k:Nat):L2.qy (tx [ch]) k=tx (replicate k ch):=by
 rw[qY (L2.qy (tx [ch]) k)]
 congr 1
 unfold L2.qy;have:∀(l:List (Array Nat))(acc:Array Nat),(l.foldl (· ++ ·) acc).toList=acc.toList++(l.map (·.toList)).flatten:=by
  intro l
  induction l with
  |nil=>intro acc;simp
  |cons a r ih=>intro acc;rw[ydb,ih];simp
 rw[this];simp only[ydc]
 induction k with
 |zero=>rfl
 |succ k ih=>simp[yar]at ih ⊢
inductive dG (vs:List V) (H:Hp) (Q:VK) (ap:XK):Prop
 |mk (a b:Int):vs=[.int a,.int b]->b≠0->b.natAbs<2^2000->Q (.int (ay.oP a b)) H->dG vs H Q ap
def vY(h:b.natAbs<n):(if b<0 then-b else b).natAbs<n:=by split<;>lia
def Qc1(h:b≠0):0<(if b<0 then-b else b):=by split<;>lia
def Yj(F:az K "quotient_cut" "quotient_cut" Xa f fd)(O:Own mg):Zz1 P w K mg Y 1 f fd ["number","by"] dG:=by
 refine okN F X7 (by nofun) λam A L s H vs Q E hr h=>?_
 obtain⟨a,b,rfl,h1,h2,k⟩:=h;refine⟨_,(Qd (Qt (i:=2) X7.nd Z Zz0 (QF yU (Qw Xm Z O.abs yeW (Qa (pv 0) Qb)) (Qw Xm Z O.abs yeW (Qa (pv 1) Qb))))
  (Qg (Qp (Jh (Ql Xe (JS Ve (pv 0) Qj (Qq _)) (JS Ve (pv 1) Qj (Qq _)) (Qq _)) (KZ ZS (pv 2)) (pv 2))))),?_⟩
 exists _,Z,a,Z,_,Z,b,Z,_,_,Z,Z,⟨Qc1 h1,vY h2⟩;exists _,Z,_,_,Z,Z,_,Z,_,_,Z,Z,Z,_,Z;refine cf (λz=>?_) (λz=>?_)
 .exists _,Z,_,Z;have e:ay.oP a b= -(ay.XW a/ay.XW b):=by unfold ay.oP;rw[yai (by rw[<-Mf];exact z)]
  rw[e]at k;exact k
 .exists _,Z;have e:ay.oP a b=ay.XW a/ay.XW b:=by unfold ay.oP;rw[yah (by rw[<-Mf];exact λq=>Bool.noConfusion (z.symm.trans q))]
  rw[e]at k;exact k
structure dQ(K:Frag)(H:Hp)(a:Addr)(u o:Int):Prop where
 sq:aw K H a [.int u,.int o]
 bd:u.natAbs<2^200
 lo:0<=o
 hi:o<=18
theorem dQ.same{u o:Int}(A:dQ K H a u o)(e:Qn H H'):dQ K H' a u o:=⟨A.sq.same e,A.bd,A.lo,A.hi⟩
inductive dD (K:Frag) (vs:List V) (H:Hp) (Q:VK) (ap:XK):Prop
 |mk (a:Addr) (u o p:Int):vs=[.ref a,.int p]->dQ K H a u o->0<=p->p<=18->(∀q,H q=none->Q (.ref q) (upd H q (.tup [.int (ay.Xj u o p),.int p])))->dD K vs H Q ap
def QeM(F:az K "cut" "cut" Ht f fd)(O:Own mg)(gg:Def P w K mg Y 1 "ten_to" ["many"] cp)(mz:Def P w K mg Y 1 "quotient_cut" ["number","by"] dG):Zz1 P w K mg Y 2 f fd ["amount","places"] (dD K):=by
 refine okN F vM (by nofun) λam A L s H vs Q E hr h=>?_
 obtain⟨a,u,o,p,rfl,qMa,h1,h2,k⟩:=h;have b1:=qMa.lo;have b2:=qMa.hi;refine⟨_,(Qd (QW (pv 0) (QM Z (Qh (Qi (i:=2) vM.nd Z Zz0) (Qh (Qi (i:=3) vM.nd Z Zz0) Qy))))
  (Qg (Qp (Qs (Qa (mz.pq hr Qr (Qa (QF wA (pv 2) (gg.pq hr Qr (Qa (QF Vw (pv 1) (pv 3)) Qb))) (Qa (gg.pq hr Qr (Qa (QF Vw (pv 3) (pv 1)) Qb)) Qb))) (Qa (pv 1) Qb)))))),?_⟩
 exists _,Z,a,_,Z,qMa.sq,Z,_,_,Z,_,_,Z,Z;refine⟨_,Z,_,Z,_,Z,_,_,Z,Z,_,Z,by lia,by lia,_,_,Z,Z,⟨big qMa.bd,big (Yd (by lia))⟩,?_⟩;refine⟨_,Z,_,Z,_,_,Z,Z,_,Z,by lia,by lia,?_⟩;refine⟨_,_,Z,ybQ (ay.JC _),big (Yd (by lia)),?_⟩;exact⟨_,Z,by show 2<=sizeLine;lia,k⟩
inductive dY (K:Frag) (vs:List V) (H:Hp) (Q:VK) (ap:XK):Prop
 |mk (p:Addr) (u o:Int) (a b:Nat):vs=[.ref p,.int (a:Nat),.int (b:Nat)]->dQ K H p u o->a+b<=18->(∀H',Qn H H'->Q (.int (fit u o a b)) H')->dY K vs H Q ap
def vZ(F:az K "fitted" "fitted" UN f fd)(O:Own mg)(gg:Def P w K mg Y 1 "ten_to" ["many"] cp)(nQ:Def P w K mg Y 2 "cut" ["amount","places"] (dD K)):Zz1 P w K mg Y 3 f fd ["amount","before","behind"] (dY K):=by
 refine okN F V7 (by nofun) λam A L s H vs Q E hr h=>?_
 obtain⟨p,u,o,a,b,rfl,qMa,IR,k⟩:=h;refine⟨_,(Qd (Qt (i:=3) V7.nd Z Zz0 (QB JE (nQ.pq hr Qr (Qa (pv 0) (Qa (pv 2) Qb))) Qj (λ_ _=>rfl)))
  (Qd (Qt (i:=4) V7.nd Z Zz0 (QF W7 (Qw Xm Z O.abs yeW (Qa (pv 3) Qb)) (gg.pq hr Qr (Qa (QF Ji (pv 1) (pv 2)) Qb))))
  (Qg (Qp (Jh (Ql Ve (pv 3) Qj (Qq _)) (KZ ZS (pv 4)) (pv 4)))))),?_⟩
 refine⟨_,Z,_,Z,p,u,o,(b:Int),Z,qMa,by lia,by lia,λq hq=>⟨q,_,_,_,Z,Z,aw.of Qf,Z,?_⟩⟩;have S1:=Qn.new (o:=.tup [.int (ay.Xj u o b),.int (b:Int)]) hq;exists _,Z,_,Z,_,Z,_,Z,_,_,Z,Z,(a:Int)+b,Z,by lia,by lia,_,_,Z,Z,ay.JC _;exists _,Z,_,_,Z,Z,_,Z;have k:=k _ S1;refine cf (λz=>?_) (λz=>?_)
 .exists _,Z,_,Z;have e:fit u o a b= -(ay.XW (ay.Xj u o b) % ay.aM ((a:Int)+b)):=by unfold fit;rw[yai (ybq z)]
  rw[e]at k;exact k
 .exists _,Z;have e:fit u o a b=ay.XW (ay.Xj u o b) % ay.aM ((a:Int)+b):=by unfold fit;rw[yah (ybU z)]
  rw[e]at k;exact k
inductive c8 (vs:List V) (H:Hp) (Q:VK) (ap:XK):Prop
 |mk (n:Nat):vs=[.int n]->n<10^18->(∀H',Qn H H'->Q (.str (tx (dec n))) H')->c8 vs H Q ap
def U0(F:az K "figures_of" "figures_of" X3 f fd)(O:Own mg)(T:Txt K mg tk c kr)(gg:Def P w K mg Y 1 "ten_to" ["many"] cp):Zz1 P w K mg Y 2 f fd ["number"] c8:=by
 refine okN F J5 (by nofun) λam A L s H vs Q E hr h=>?_
 obtain⟨n,rfl,hn,k⟩:=h;refine⟨_,(Qd (Qt (i:=1) J5.nd Z Zz0 (gg.pq hr Qr (Qa (QK (v:=V.int 18) Z T.nN ⟨_,Z⟩) Qb)))
  (Qd (Qt (i:=2) J5.nd Z Zz0 (K9 Qb))
  (Qd (Xl yaz (Ql kW (pv 0) (pv 1) (Qq _)) (Qd (QW (Qw jO Z O.divmod boot_divmod (Qa (pv 0) (Qa (pv 1) Qb))) (QM Z (Qh (Qi (i:=0) J5.nd Z Zz0) (Qh (Qi (i:=3) J5.nd Z Zz0) Qy))))
  (Qg (Q6 (JN yaA yaB yaC JO (pv 2) (Qa (JN yaD slot_str_zfill type_str_zfill Ur (XV W8 Z O.str boot_str (Qa (pv 3) Qb)) (Qa (QK (v:=V.int 18) Z T.nN ⟨_,Z⟩) Qb)) Qb))))))
  (Qd (Q6 (JN yaA yaB yaC JO (pv 2) (Qa (XV W8 Z O.str boot_str (Qa (pv 0) Qb)) Qb)))
  (Qg (Qp (xP Z Z O.reversed Qk (pv 2)))))))),?_⟩
 refine⟨18,Z,by lia,by lia,by show 0<=sizeLine;lia,λp hp=>?_⟩;have S1:=Qn.new (o:=.lst []) hp;exists λm σ H2=>σ=[some (.int (n:Int)),some (.int (ay.aM 18)),some (.ref p),none]/\H2=upd H p (.lst []),⟨0,Z,Z⟩;rintro m σ H2 ⟨rfl,rfl⟩;exists _,Z,_,Z,_,_,Z,Z,_,Z;have sf:ay.aM 18=10^18:=by lia
 refine cf (λq=>absurd (ybq q) (by rw[sf];lia)) (λ_=>?_);have Hz:(n:Int).natAbs.log2<1920:=by
  rw[yel]
  by_cases h0:n=0
  .rw[h0];lia
  .exact(Nat.log2_lt h0).mpr (ybh hn (by lia))
 refine⟨_,Z,.inl ⟨Z,_,.inl (.inl Qf)⟩,_,Z,(n:Int),Z,Hz,p,[],_,Z,Z,Qf,by show 0<sizeLine;lia,?_⟩;rw[dB.Ub];have S2:Qn H (upd (upd H p (.lst [])) p (.lst ([]++[.str (tx (dec n))]))):=λb o e=>by
  have hb:=QA e hp;rw[Qo hb,Qo hb];exact e
 have NE:=SY (n:=n) (ybh hn (by lia));exists "",Z,_,Z,p,[tx (dec n)],Z,Qf,?_
 .have ES:=Qx (dec n);show(!Builtin.Str.tooLong (0+(tx (dec n)).length+("":Str).length))=true;rw[ES];have he:("":Str).length=0:=by rfl'
  rw[he];unfold Builtin.Str.tooLong;have hz:=zza
  rw[tM (by lia)];rfl
 .have ej:Txt.join "" [tx (dec n)].reverse=tx (dec n):=by
   show Builtin.Str.glued _ _=_;rw[ydw];rfl
  rw[ej];exact k _ S2
def KP(h0:0<=i)(h1:i<=1000):PadOk i=true:=by
 obtain⟨n,rfl⟩:=ydd h0;have:n<=1000:=by lia
 have key:∀m:Nat,m<=1000->PadOk ((m:Nat):Int)=true:=by
  intro m hm;unfold PadOk fitsSsize;have e1:Builtin.Str.tooLong ((m:Nat):Int).toNat=false:=by
   unfold Builtin.Str.tooLong;have hz:=zza
   rw[lI];exact tM (by lia)
  rw[e1];simp;lia
 exact key n this
inductive aP (K:Frag) (c:Nat->Addr) (vs:List V) (H:Hp) (Q:VK) (E:XK):Prop
 |mk (l:List Nat) (k:Nat):vs=[.str (kindS k),.str (tx l)]->l.length<=500->k<=3->(((∀x,QZ l=some x->x.kind<=3/\x.kind≠k)->∀H',Qn H H'->E (.ref (c 2)) none H'))->((∀x,QZ l=some x->x.kind=k->∀q p rs r H',Qn H H'->H' q=some (.tup [.ref p,.ref r])->H' r=some (.tup [.bl x.signed,.int (x.before:Nat),.int (x.behind:Nat)])->au K H' p rs (rowsOf l)->Q (.ref q) H'))->aP K c vs H Q E
def Vo:∀a≤3,∀b≤3,decide (V.str (kindS a)=V.str (kindS b))=decide (a=b):=by rfl'
def QaY{ld pl:List Nat}{many bn:Nat}{tl:Option (List Nat)}(h:Kd ld pl many bn o tl=some x):x.kind<=3:=by
 unfold Kd at h
 split at h
 .dsimp only at h
  repeat' (split at h)
  all_goals first
   |(cases h;done)
   |(have:=tP h;rw[<-this];exact tO _)
 .cases h
def Qc2{rows:List Rw}(h:Jw rows=some x):x.kind<=3:=by
 have e:Jw rows=Kd (ZG rows).1 (QX (ZG rows).2).1 (QX (ZG rows).2).2.1 (QX (ZG rows).2).2.2.1 (JA (QX (ZG rows).2).2.2.2 (if(QX (ZG rows).2).2.2.1=0 then(QX (ZG rows).2).1 else[57])).1
  (Vb (JA (QX (ZG rows).2).2.2.2 (if(QX (ZG rows).2).2.2.1=0 then(QX (ZG rows).2).1 else[57])).2):=rfl
 rw[e]at h;exact QaY h
def QaZ(h:QZ l=some x):x.kind<=3:=by
 unfold QZ JT at h;cases e1:Jc (rowsOf l)with
 |some y=>
  rw[e1]at h;have e:y=x:=tP h;subst e;unfold Jc at e1
  split at e1
  .split at e1
   .split at e1
    .cases e1
    .cases e1;exact(show(2:Nat)<=3 by lia)
   .cases e1
  .cases e1
 |none=>
  rw[e1]at h;cases e2:JW (rowsOf l)with
  |some y=>
   rw[e2]at h;have e:y=x:=tP h;subst e;unfold JW at e2
   split at e2
   .split at e2
    .cases e2
    .cases e2;show(if _ then 0 else 1)<=3;split<;>lia
   .cases e2
  |none=>
   rw[e2]at h;exact Qc2 h
def Vh(F:az K "understood_as" "understood_as" J6 f fd)(T:Txt K mg tk c kr)(mr:Def P w K mg Y 4 "rows_of" ["thing"] (cZ K))(gW:Def P w K mg Y 5 "facts_of" ["rows"] (aC K JT)):Zz1 P w K mg Y 6 f fd ["kind","picture"] (aP K c):=by
 refine cT F Zq (by nofun) λam A L s H vs Q E hr h=>?_
 obtain⟨l,kd,rfl,hl,hk3,k1,k2⟩:=h;have hz:=zza
 have fr:=Jf (P:=P) (w:=w) (K:=K) (mg:=mg) (Y:=Y) (N:=["kind","picture","rows","facts"]) (qual:="understood_as") (scope:=Qe J6) (f:=f) (cd:=am) (A:=A) (L:=L) (s:=s) (H:=H) (E:=E);have ht:=Jo fr;have hx:=QG fr;refine⟨_,(Qd (Qt (i:=2) Zq.nd Z Zz0 (mr.pq hr hx (Qa (pv 1) Qb)))
  (Qd (Qt (i:=3) Zq.nd Z Zz0 (gW.pq hr hx (Qa (pv 2) Qb)))
  (Qd (QN (PW.pt (ZP (JY (XN (pv 3))) (JV (Ql Xe (QB JE (pv 3) Qj (λ_ _=>rfl)) (pv 0) (Qq _))))) (Qg (JD ht Z Z T.ux T.uD (Qa Qk Qb))) Qu)
  (Qg (Qp (Qs (Qa (pv 2) (Qa (QR LR (pv 3) (QQ Qj) JK) Qb)))))))),?_⟩
 refine⟨_,Z,_,rowsOf l,Z,.inl ⟨l,Z,hl,Z⟩,λp rs H1 S1 R1=>⟨_,Z,p,rs,rowsOf l,Z,R1,λv2 H2 S2 f2=>?_⟩⟩;exists _,Z,_,Z;rw[f2.CQ];have rc:QZ l=JT (rowsOf l):=rfl;cases e:JT (rowsOf l)with
 |none=>exact Q0 (Q0 ⟨iL,k1 (λx h=>by rw[rc,e]at h;cases h) _ (S1.trans S2)⟩)
 |some x=>
  rw[e]at f2 rc;have si:=QaZ rc;obtain⟨r,rfl,g⟩:=f2;refine QO ⟨_,Z,r,_,_,_,Z,Z,aw.of g,Z,_,Z,Z,_,Z,?_⟩;rw[Vo _ si _ hk3]
  by_cases ET:x.kind=kd
  .rw[tN ET];refine QO ⟨_,Z,_,Z,_,Z,r,_,Z,aw.of g,(λz=>absurd (show HT.aJ 4 0 (some 1)=0 from z.1) (by lia)),λq5 Aq=>?_⟩;have S5:=Qn.new (o:=.tup [.bl x.signed,.int (x.before:Nat),.int (x.behind:Nat)]) Aq;have g5:upd H2 q5 (.tup [.bl x.signed,.int (x.before:Nat),.int (x.behind:Nat)]) q5=some (.tup [.bl x.signed,.int (x.before:Nat),.int (x.behind:Nat)]):=Qf;refine⟨bF,λq6 Hy=>?_⟩;have S6:=Qn.new (o:=.tup [.ref p,.ref q5]) Hy;exact k2 x rc ET q6 p rs q5 _ (((S1.trans S2).trans S5).trans S6) Qf (S6 _ _ g5) (((R1.same S2).same S5).same S6)
  .rw[tM ET];exact Q0 ⟨iL,k1 (λy h=>by rw[rc]at h;cases h;exact⟨si,ET⟩) _ (S1.trans S2)⟩
def Y5{rs:List Addr}{rows:List Rw}{tt:TT}(val:Rw->V)(ok:Rw->Bool)(ir:NB.length=3)(hn:n=2)(hσ:σ[i]? =some (some (.ref p)))(R:au K H p rs rows)(Bf:∀x∈rows,∀(H1:Hp)(R:Bool->Hp->Prop),R (ok x) H1->tt [none,some (.str (tx [x.1])),some (.int (x.2:Nat))] H1 R)(Ap:∀x∈rows,∀(H1:Hp)(Q:VK),(∀H2,Qn H1 H2->Q (val x) H2)->te [none,some (.str (tx [x.1])),some (.int (x.2:Nat))] H1 Q)(hd:∀q H1,Qn H H1->H1 q=none->Q (.ref q) (upd H1 q (.lst ((rows.filter ok).map val)))):Uo NB (yI K (aF i)) (eC K n (bE (QL 1) (bE (QL 2) e7))) tt te σ H Q:=by
 have hz:=zza
 have hl:=R.le;have hlen:=R.len;exists _,hσ,p,Z,⟨_,R.sq⟩;refine Yg (xs:=rs.map V.ref) (λi vs H2=>Qn H H2/\vs=((rows.take i).filter ok).map val) ⟨Qn.refl H,Z⟩ ?_ ?_ ?_ (by lia)
 .rintro i vs H2 hi ⟨S,rfl⟩;exact⟨(R.same S).sq,by rw[tL];exact yao (ybj _ _) (by rw[tY];lia)⟩
 .rintro i x vs H2 hx ⟨S,rfl⟩;rw[lh]at hx;obtain⟨r,hr,rfl⟩:=ybo.mp hx;obtain⟨y,hy,g⟩:=(R.same S).rw.at' hr;subst hn;rw[ir];have hm:=lj hy;have Ps:(rows.take (i+1)).filter ok=(rows.take i).filter ok++if ok y=true then[y]else[]:=by
   rw[yaJ,hy,ybx]
   congr 1
   show List.filter ok [y]=_;rw[ybn];rfl
  exists r,_,Z,aw.of g,Z,_,_,Z,_,_,Z,Z;refine Bf y hm _ _ ?_;rw[Ps];cases ok y with
  |true=>exact Q0 (Ap y hm _ _ λH3 S3=>⟨S.trans S3,by simp⟩)
  |false=>exact QO ⟨S,by simp⟩
 .rintro vs H2 ⟨S,rfl⟩ q hq;rw[yav (by lia)];exact hd q H2 S hq
inductive eU (K:Frag) (vs:List V) (H:Hp) (Q:VK) (ap:XK):Prop
 |mk (p:Addr) (rs:List Addr) (rows:List Rw):vs=[.ref p]->au K H p rs rows->Pos 100 rows->(un rows).length<=1000->(∀H',Qn H H'->Q (.str (tx (un rows))) H')->eU K vs H Q ap
def Qa0(rows:List Rw):rows.filter (λ_=>true)=rows:=by simp
def YF(F:az K "written_out" "written_out" Xy f fd)(O:Own mg):Zz1 P w K mg Y 1 f fd ["rows"] (eU K):=by
 refine okN F YA (by nofun) λam A L s H vs Q E hr h=>?_
 obtain⟨p,rs,rows,rfl,R,hp,hl,k⟩:=h;have hz:=zza
 refine⟨_,(Qg (Qp (JN yaD yck ycl KA Qk (Qa (Xq (NB:=[".0","symbol","many"]) Z ⟨Z,by rfl'⟩ (Z4 (pv 0)) (λ_ _ _=>(KO (K0:=K) (n:=2) Z Z (Qh (Qi (i:=1) (show([".0","symbol","many"]:List Str).Nodup by rfl') Z Zz0 (Or.inr Z)) (Qh (Qi (i:=2) (show([".0","symbol","many"]:List Str).Nodup by rfl') Z Zz0 (Or.inr Z)) Qy)))) (λ_ _ _=>Xo) (λ_ _ _=>(QF Xp (pv 1) (pv 2)))) Qb)))),?_⟩;exists Z;refine Y5 (p:=p) (rs:=rs) (rows:=rows) (λx=>.str (tx (replicate x.2 x.1))) (λ_=>true) rfl rfl rfl R (λx hx H1 R h=>h) (λx hx H1 Q h=>?_) (λq H1 S hq=>?_)
 .obtain⟨h1,h2,h3⟩:=hp x hx;refine⟨_,Z,_,Z,tx [x.1],(x.2:Int),Z,Z,by lia,by rw[Qx,lI,tQ];lia,by lia,?_⟩;rw[lI,vX];exact h _ (Qn.refl _)
 .rw[Qa0];have em:(rows.map λx=>V.str (tx (replicate x.2 x.1)))=((rows.map λx=>replicate x.2 x.1).map tx).map V.str:=by rw[lC,lC];rfl
  have ef:(rows.map λx=>replicate x.2 x.1).flatten=un rows:=by rw[un,List.flatMap_def]
  rw[em];refine⟨"",q,_,Z,Z,aE.of Qf,QaX (by rw[ef];exact hl),?_⟩;rw[z6,ef];exact k _ (S.trans (Qn.new hq))
structure dZ(a l:List Nat)(x:Facts):Prop where
 pc:QZ l=some x
 sh:Sh a l
 no:40∉a
 la:a.length<=100
 ll:l.length<=500
inductive bJ (vs:List V) (H:Hp) (Q:VK) (ap:XK):Prop
 |mk (a l:List Nat) (x:Facts):vs=[.str (tx l)]->dZ a l x->(∀H',Qn H H'->Q (.int ((a.filter Yx).length:Nat)) H')->bJ vs H Q ap
def kB(F:az K "size_of" "size_of" Wp f fd)(O:Own mg)(gK:Def P w K mg Y 6 "understood" ["picture"] (bT K c)):Zz1 P w K mg Y 7 f fd ["picture"] bJ:=by
 refine cT F WO (by nofun) λam A L s H vs Q E hr h=>?_
 obtain⟨a,l,x,rfl,hp,k⟩:=h;have fr:=Jf (P:=P) (w:=w) (K:=K) (mg:=mg) (Y:=Y) (N:=["picture","rows","facts"]) (qual:="size_of") (scope:=Qe Wp) (f:=f) (cd:=am) (A:=A) (L:=L) (s:=s) (H:=H) (E:=E);have hx:=QG fr;have hla:=hp.la;have Hx:("S":Str)=tx [83]:=by rfl'
 have e86:("V":Str)=tx [86]:=by rfl'
 refine⟨_,(Qd (QW (gK.pq hr hx (Qa (pv 0) Qb)) (QM Z (Qh (Qi (i:=1) WO.nd Z Zz0) (Qh (Qi (i:=2) WO.nd Z Zz0) Qy))))
  (Qg (Qp (Qw (zL Z) Z O.sum L2.boot_sum (Qa (Xq (NB:=[".0","symbol","many"]) Z ⟨Z,by rfl'⟩ (Z4 (pv 1)) (λ_ _ _=>(KO (K0:=K) (n:=2) Z Z (Qh (Qi (i:=1) (show([".0","symbol","many"]:List Str).Nodup by rfl') Z Zz0 (Or.inr Z)) (Qh (Qi (i:=2) (show([".0","symbol","many"]:List Str).Nodup by rfl') Z Zz0 (Or.inr Z)) Qy)))) (λ_ _ _=>(VL (PW.pt (Zu (Ql Xe (pv 1) Qk (Qq _)) (JZ (Ql Xe (pv 1) Qk (Qq _))))))) (λ_ _ _=>(pv 2))) Qb))))),?_⟩
 refine⟨_,Z,l,Z,hp.ll,(λz=>by rw[hp.pc]at z;cases z),λx2 e q p rs r H1 S1 g1 g2 R1=>?_⟩;exists q,_,Z,aw.of g1,Z,_,_,Z,_,_,Z,Z;dsimp only[sH,sL,Je,Wy];refine Y5 (p:=p) (rs:=rs) (rows:=rowsOf l) (λx=>.int (x.2:Nat)) (λx=>Yx x.1) rfl rfl rfl R1 (λx hx H1 R h=>?_) (λx hx H1 Q h=>⟨_,Z,h _ (Qn.refl _)⟩) (λq H2 S hq=>?_)
 .have hd:Yx x.1=(!decide (x.1=83)&& !decide (x.1=86)):=by
   unfold Yx
   by_cases z1:x.1=83<;>by_cases z2:x.1=86<;>simp[z1,z2]
  rw[hd]at h;exists _,Z,Z,_,Z;rw[Hx,Zd];cases h1:decide (x.1=83)with
  |true=>rw[h1]at h;exact QO h
  |false=>
   rw[h1]at h;refine Q0 ⟨_,Z,Z,_,Z,?_⟩;rw[e86,Zd];exact h
 .have em:(((rowsOf l).filter λx=>Yx x.1).map λx=>V.int (x.2:Nat))=(((rowsOf l).filter λx=>Yx x.1).map λx=>((x.2:Nat):Int)).map V.int:=by rw[lC];rfl
  have es:∀rows:List Rw,(rows.map λx=>((x.2:Nat):Int)).sum=(((rows.map (·.2)).sum:Nat):Int):=by
   intro rows
   induction rows with
   |nil=>rfl
   |cons y r ih=>rw[lD,List.sum_cons,ih,lD,List.sum_cons];push_cast;rfl
  rw[em];exists q,_,Z,aE.of Qf;rw[es];have:=Tw a;rw[<-jb hp.sh]at this;unfold eK at this;rw[this];exact k _ (S1.trans (S.trans (Qn.new hq)))
def U1(x:Facts):Prop:=x.kind=2/\1<=x.before+x.behind/\x.before+x.behind<=18
def HB(l:List Nat):Prop:=∀x,QZ l=some x->x.kind≠2
inductive c9 (K:Frag) (c:Nat->Addr) (vs:List V) (H:Hp) (Q:VK) (E:XK):Prop
 |mk (l:List Nat) (p:Addr) (u o:Int):vs=[.str (tx l),.ref p]->l.length<=500->dQ K H p u o->(((HB l/\∀H',Qn H H'->E (.ref (c 2)) none H')\/∃x,QZ l=some x/\U1 x/\∀H',Qn H H'->Q (.str (tx (cont x.signed x.before x.behind u o))) H'))->c9 K c vs H Q E
def NA(h:n<10^k)(hk:k<=18):n<10^18:=yan h (ybZ (by lia) hk)
def v4(i:Int):(if i<0 then-i else i)=((i.natAbs:Nat):Int):=by split<;>lia
def U2(F:az K "content_of" "content_of" ZZ f fd)(O:Own mg)(T:Txt K mg tk c kr)(hG:Def P w K mg Y 6 "understood_as" ["kind","picture"] (aP K c))(m8:Def P w K mg Y 3 "fitted" ["amount","before","behind"] (dY K))(gL:Def P w K mg Y 2 "figures_of" ["number"] c8):Zz1 P w K mg Y 7 f fd ["picture","amount"] (c9 K c):=by
 refine cT F Jx (by nofun) λam A L s H vs Q E hr h=>?_
 obtain⟨l,p,u,o,rfl,hl,qMa,hc⟩:=h;have hz:=zza
 have fr:=Jf (P:=P) (w:=w) (K:=K) (mg:=mg) (Y:=Y) (N:=["picture","amount","rows","signed","before","behind","units","figures"]) (qual:="content_of") (scope:=Qe ZZ) (f:=f) (cd:=am) (A:=A) (L:=L) (s:=s) (H:=H) (E:=E);have hx:=QG fr;refine⟨_,(Qd (QW (hG.pq hr hx (Qa Qk (Qa (pv 0) Qb))) (QM Z (Qh (Qi (i:=2) Jx.nd Z Zz0) (Qh (QM Z (Qh (Qi (i:=3) Jx.nd Z Zz0) (Qh (Qi (i:=4) Jx.nd Z Zz0) (Qh (Qi (i:=5) Jx.nd Z Zz0) Qy)))) Qy))))
  (Qd (Qt (i:=6) Jx.nd Z Zz0 (m8.pq hr hx (Qa (pv 1) (Qa (pv 4) (Qa (pv 5) Qb)))))
  (Qd (Qt (i:=7) Jx.nd Z Zz0 (JN yaD slot_str_zfill type_str_zfill Ur (gL.pq hr hx (Qa (Qw Xm Z O.abs yeW (Qa (pv 6) Qb)) Qb)) (Qa (QF Ji (pv 4) (pv 5)) Qb)))
  (Qd (QN (PW.pt (Zu (Jd (pv 3) (λ_=>rfl)) (JZ (Ql Ve (pv 6) Qj (Qq _))))) (Qg (Qp (QF Jg (QR Zb (pv 7) JK (QQ (KZ ZS Qj))) (QB Wa (QK (v:=V.str "pqrstuvwxy") Z T.gx ⟨_,Z⟩) (XV Wf Z O.int boot_int (Qa (QB Wa (pv 7) (KZ ZS Qj) (λ_ _=>rfl)) Qb)) (λ_ _=>rfl))))) Qu)
  (Qg (Qp (pv 7))))))),?_⟩
 rcases hc with⟨SZ,k⟩|⟨x,rc,⟨CS,h1,sf⟩,k⟩
 .exact⟨_,Z,l,2,Z,hl,by lia,λ_=>k,λx hp hk=>absurd hk (SZ x hp)⟩
 refine⟨_,Z,l,2,Z,hl,by lia,(λz=>absurd CS (z x rc).2),λx' hp _ q p1 rs r H1 S1 g1 g2 R1=>?_⟩;obtain rfl:x=x':=tP (rc.symm.trans hp);exists q,_,Z,aw.of g1,Z,_,_,Z,_,_,Z,r,_,Z,aw.of g2,Z,_,_,Z,_,_,Z,_,_,Z,Z,Z;refine⟨_,Z,_,Z,_,Z,p,u,o,x.before,x.behind,Z,qMa.same S1,sf,λH2 S2=>?_⟩;have lV:=Y4 u o x.before x.behind;generalize sO:fit u o x.before x.behind=v at lV;have k:∀H',Qn H H'->Q (.str (tx (if x.signed=true/\v<0 then UZ (pad v.natAbs (x.before+x.behind))else pad v.natAbs (x.before+x.behind)))) H':=λH' S=>by
  have:=k H' S;unfold cont at this;rw[sO]at this;exact this
 have As:x.before+x.behind<=1000:=by lia
 have LE:((x.before:Nat):Int)+((x.behind:Nat):Int)=((x.before+x.behind:Nat):Int):=by lia
 generalize x.before+x.behind=n at h1 sf lV k As LE;have CT:=Uy lV h1;have sj:=Ux v.natAbs n;have CU:=MF v.natAbs n;have ezf:=jd v.natAbs h1;refine⟨_,Z,v,Z,v.natAbs,by rw[v4];rfl,NA lV sf,λH3 S3=>⟨Z,_,Z,_,Z,_,_,Z,Z,tx (dec v.natAbs),((x.before:Nat):Int)+((x.behind:Nat):Int),Z,Z,KP (by lia) (by lia),?_⟩⟩;rw[LE,ezf];generalize pad v.natAbs n=pl at k CT sj CU;have ms:=(S1.trans S2).trans S3;have Gc:=Qx pl;exists _,Z,x.signed,Z;cases HC:x.signed with
 |false=>
  rw[HC]at k;exact QO (QO ⟨_,Z,k _ ms⟩)
 |true=>
  rw[HC]at k;refine Q0 ⟨_,Z,_,_,Z,Z,_,Z,?_⟩
  by_cases hv:v<0
  .rw[tN hv];have k:=k H3 ms;rw[yai ⟨Z,hv⟩]at k;obtain⟨d,fW,hd2⟩:=WH CU;have ie:NumText.AllDigits [d]:=λz hz=>sj z (by rw[fW];exact tT _ hz);have mo:=ie d (yap.mpr Z);refine Q0 ⟨_,Z,_,Z,_,Z,tx pl,Z,by lia,?_⟩;rw[YW];have Op:eG pl (-1)=some d:=by
    rw[fW];exact Ug _ _
   refine⟨_,Z,_,Z,tx pl, -1,d,Z,Z,by lia,Op,tx [d],_,Z,yeY ie (by simp) (by rw[Qx];simp),by rw[Qx];simp,?_⟩;exists "pqrstuvwxy",_,d+64,Z,Z,by rfl',?_,_,_,Z,Z,?_
   .show eG ("pqrstuvwxy":Str).cps.toList ((NumText.digitsVal [d]:Nat):Int)=_;rw[TK ie];exact Zo (TH d (by lia) (by lia))
   .show(tx pl.dropLast).length+(tx [d+64]).length<=sizeLine;rw[Qx,Qx,ybX];simp;lia
   .show Q (.str (tx pl.dropLast++tx [d+64])) H3;rw[XX];have e:UZ pl=pl.dropLast++[d+64]:=by unfold UZ;rw[hd2];rfl
    rw[e]at k;exact k
  .rw[tM hv];have k:=k H3 ms;rw[yah (λz=>hv z.2)]at k;exact QO ⟨_,Z,k⟩
def Qc4{i:Nat}{c:Bool}(hσ:σ[i]? =some (some (.bl c)))(Good:V->Hp->Prop)(hT:c=true->(∀v H',Good v H'->Q v H')->tb σ H Q)(hF:c=false->Good (.bl false) H)(rest:∀v H',Good v H'->Q v H'):FC (aF i) tb σ H Q:=by
 exists _,hσ,c,Z;cases c with
 |true=>rw[yai rfl];exact hT rfl rest
 |false=>rw[yah (by lia)];exact rest _ _ (hF Z)
inductive cB (K:Frag) (c:Nat->Addr) (vs:List V) (H:Hp) (Q:VK) (E:XK):Prop
 |mk (l t:List Nat):vs=[.str (tx l),.str (tx t)]->l.length<=500->t.length<=100->(((HB l/\∀H',Qn H H'->E (.ref (c 2)) none H')\/∃x,QZ l=some x/\U1 x/\(¬ kA x.signed x.before x.behind t->∀H',Qn H H'->E (.ref (c 5)) none H')/\(kA x.signed x.before x.behind t->∀q H',Qn H H'->H q=none->H' q=some (.tup [.int (ZM x.signed t),.int (x.behind:Nat)])->Q (.ref q) H')))->cB K c vs H Q E
def Qa1(h1:112<=d)(h2:d<=121):Txt.find "pqrstuvwxy" (tx [d])=((d-112:Nat):Int):=by
 have key:∀k:Nat,k<10->Txt.find "pqrstuvwxy" (tx [k+112])=((k:Nat):Int):=by rfl'
 have:=key (d-112) (by lia);rw[show d-112+112=d by lia]at this;exact this
def QeO(h:k<10):("0123456789":Str).cps.toList[k]? =some (k+48):=by
 have key:∀k:Nat,k<10->("0123456789":Str).cps.toList[k]? =some (k+48):=by rfl'
 exact key k h
def Qc5(h:([112,113,114,115,116,117,118,119,120,121]:List Nat).contains d=true):112<=d/\d<=121:=(by decide:∀d∈([112,113,114,115,116,117,118,119,120,121]:List Nat),112<=d/\d<=121) d (yaT.mp h)
def js(F:az K "amount_in" "amount_in" XD f fd)(O:Own mg)(T:Txt K mg tk c kr)(hG:Def P w K mg Y 6 "understood_as" ["kind","picture"] (aP K c))(gj:Def P w K mg Y 1 "is_figures" ["text"] bw)(hZ:Def P w K mg Y 2 "number_of" ["text"] cY):Zz1 P w K mg Y 7 f fd ["picture","content"] (cB K c):=by
 refine cT F Jj (by nofun) λam A L s H vs Q E hr h=>?_
 obtain⟨l,t,rfl,hl,htl0,hc⟩:=h;have hz:=zza
 have fr:=Jf (P:=P) (w:=w) (K:=K) (mg:=mg) (Y:=Y) (N:=["picture","content","rows","signed","before","behind","last","is_below","figures","units"]) (qual:="amount_in") (scope:=Qe XD) (f:=f) (cd:=am) (A:=A) (L:=L) (s:=s) (H:=H) (E:=E);have ht:=Jo fr;have hx:=QG fr;refine⟨_,(Qd (QW (hG.pq hr hx (Qa Qk (Qa (pv 0) Qb))) (QM Z (Qh (Qi (i:=2) Jj.nd Z Zz0) (Qh (QM Z (Qh (Qi (i:=3) Jj.nd Z Zz0) (Qh (Qi (i:=4) Jj.nd Z Zz0) (Qh (Qi (i:=5) Jj.nd Z Zz0) Qy)))) Qy))))
  (Qd (QN (Ql Xe (Qw Q9 Z O.len ybg (Qa (pv 1) Qb)) (QF Ji (pv 4) (pv 5)) (Qq _)) (Qg (JD ht Z Z T.mL T.mM (Qa Qk Qb))) Qu)
  (Qd (Qt (i:=6) Jj.nd Z Zz0 (QB Wa (pv 1) (KZ ZS Qj) (λ_ _=>rfl)))
  (Qd (Qt (i:=7) Jj.nd Z Zz0 (YO (pv 3) (YN (JS Zj (pv 6) (QK (v:=V.str "pqrstuvwxy") Z T.gx ⟨_,Z⟩) (by with_unfolding_all rfl)))))
  (Qd (Qt (i:=8) Jj.nd Z Zz0 (Jh (Jd (pv 7) (λ_=>rfl)) (QF Jg (QR Zb (pv 1) JK (QQ (KZ ZS Qj))) (QB Wa (QK (v:=V.str "0123456789") Z T.gU ⟨_,Z⟩) (JN yaD slot_str_find type_str_find Sb (QK (v:=V.str "pqrstuvwxy") Z T.gx ⟨_,Z⟩) (Qa (pv 6) Qb)) (λ_ _=>rfl))) (pv 1)))
  (Qd (QN (KS (XT (gj.pq hr hx (Qa (pv 8) Qb)))) (Qg (JD ht Z Z T.mL T.mM (Qa Qk Qb))) Qu)
  (Qd (Qt (i:=9) Jj.nd Z Zz0 (hZ.pq hr hx (Qa (pv 8) Qb)))
  (Qg (Qp (Qs (Qa (Jh (Jd (pv 7) (λ_=>rfl)) (KZ ZS (pv 9)) (pv 9)) (Qa (pv 5) Qb)))))))))))),?_⟩
 rcases hc with⟨SZ,k⟩|⟨x,rc,⟨CS,h1,sf⟩,kE,kQ⟩
 .exact⟨_,Z,l,2,Z,hl,by lia,λ_=>k,λx hp hk=>absurd hk (SZ x hp)⟩
 refine⟨_,Z,l,2,Z,hl,by lia,(λz=>absurd CS (z x rc).2),λx' hp _ q p1 rs r H1 S1 g1 g2 R1=>?_⟩;obtain rfl:x=x':=tP (rc.symm.trans hp);exists q,_,Z,aw.of g1,Z,_,_,Z,_,_,Z,r,_,Z,aw.of g2,Z,_,_,Z,_,_,Z,_,_,Z,Z,Z;have Gc:=Qx t;have LE:((x.before:Nat):Int)+((x.behind:Nat):Int)=((x.before+x.behind:Nat):Int):=by lia
 exists _,Z,tx t,Z,by lia,_,Z,_,Z,_,_,Z,Z,Z,_,Z;rw[wC,Gc]
 by_cases hlen:t.length=x.before+x.behind
 .rw[tM (by rw[LE];lia)];have HE:t≠[]:=λz=>by rw[z]at hlen;simp at hlen;lia
  obtain⟨d,fW,hd2⟩:=WH HE;have Op:eG t (-1)=some d:=by
   rw[fW];exact Ug _ _
  refine QO ⟨_,Z,_,Z,tx t, -1,d,Z,Z,by lia,Op,?_⟩;have Au:XJ x.signed t=(x.signed&&([112,113,114,115,116,117,118,119,120,121]:List Nat).contains d):=by unfold XJ;rw[hd2];rfl
  dsimp only[QL,J9,Za];refine Qc4 (c:=x.signed) rfl (λv H'=>v=.bl (XJ x.signed t)/\H'=H1) (λz rest=>?_) (λz=>?_) ?_
  .refine⟨_,Z,_,_,Z,Z,rest _ _ ⟨?_,Z⟩⟩;rw[show(⟨#[d]⟩:Str)=tx [d]from rfl,TJ,XQ,Au,z];rfl
  .exact⟨by rw[Au,z];rfl,Z⟩
  rintro v H2 ⟨rfl,rfl⟩;exists _,Z,_,Z;have Cl:(Zn x.signed t).length=t.length:=by
   unfold Zn
   split
   .rw[tK,ybX];simp;lia
   .rfl
  refine Um (λv H'=>v=.str (tx (Zn x.signed t))/\H'=H2) (λz rest=>?_) (λz rest=>?_) ?_
  .have NC:=Qc5 (d:=d) (by rw[Au]at z;exact(Bool.and_eq_true_iff.mp z).2);refine⟨_,Z,_,Z,_,Z,tx t,Z,by lia,?_⟩;rw[YW];exists Z,_,Z,"pqrstuvwxy",tx [d],Z,Z,trivial;exists "0123456789",((d-112:Nat):Int),d-112+48,Z,yaE V.int (Qa1 NC.1 NC.2),by rfl',Zo (QeO (by lia)),_,_,Z,Z,?_
   .show(tx t.dropLast).length+(tx [d-112+48]).length<=sizeLine;rw[Qx,Qx,ybX];simp;lia
   .show _;refine rest _ _ ⟨?_,Z⟩;show V.str (tx t.dropLast++tx [d-112+48])=_;rw[XX];unfold Zn;rw[yai z,hd2];show V.str (tx (t.dropLast++[d-112+48]))=V.str (tx (t.dropLast++[d-64]));rw[show d-112+48=d-64 by lia]
  .exact⟨_,Z,rest _ _ ⟨by unfold Zn;rw[yah (by rw[z];lia)],Z⟩⟩
  rintro v H3 ⟨rfl,rfl⟩;have htf:=Qx (Zn x.signed t);exists _,Z,tx (Zn x.signed t),Z,by lia,_,Z;rw[WC];have HF:Zn x.signed t≠[]:=λz=>by rw[z]at Cl;simp at Cl;lia
  by_cases CV:NumText.AllDigits (Zn x.signed t)
  .rw[tN ⟨HF,CV⟩];refine QO ⟨_,Z,tx (Zn x.signed t),Z,CV,by lia,?_⟩;rw[WC];exists _,Z,_,Z;have fin:∀H',H'=H3->Q=Q->(∀q,H' q=none->Q (.ref q) (upd H' q (.tup [.int (ZM x.signed t),.int (x.behind:Nat)]))):=by
    rintro H' rfl _ q hq;refine kQ ⟨hlen,CV⟩ q _ (S1.trans (Qn.new hq)) ?_ Qf;cases e:H q with
    |none=>rfl
    |some o=>rw[S1 _ _ e]at hq;cases hq
   refine Um (λv H'=>v=.int (ZM x.signed t)/\H'=H3) (λz rest=>?_) (λz rest=>?_) ?_
   .exact⟨_,Z,_,Z,rest _ _ ⟨by unfold ZM;rw[yai z],Z⟩⟩
   .exact⟨_,Z,rest _ _ ⟨by unfold ZM;rw[yah (by rw[z];lia)],Z⟩⟩
   rintro v H4 ⟨rfl,rfl⟩;exact⟨_,Z,bF,fin _ rfl rfl⟩
  .rw[tM λz=>CV z.2];exact Q0 ⟨iL,kE (λz=>CV z.2) _ S1⟩
 .rw[tN (by rw[LE];lia)];exact Q0 ⟨iL,kE (λz=>hlen z.1) _ S1⟩
end
open PySem PySem.Spec PyProof.Rows L2 dB bL iu fV
section
variable {P:Program}{w:World}{K:Frag}{mg:Str->Option Value}{Y:Heap}{f:Addr}{fd:FuncData}{tk:Nat->Tok}{c kr:Nat->Addr}
noncomputable def dv(ps:List (Nat × Nat)):List (Key × V):=ps.map λx=>(Sum.inr (tx [x.1]),V.str (tx [x.2]))
def HG(c:Nat):∀ps:List (Nat × Nat),Vf (dv ps) (Sum.inr (tx [c]):Key)=(ps.lookup c).map λd=>V.str (tx [d]):=by
 intro ps
 induction ps with
 |nil=>rfl
 |cons x r ih=>
  obtain⟨a,b⟩:=x;unfold Vf dv at ih ⊢;rw[lD,ycd,yby]
  by_cases h:a=c
  .subst h;simp
  .have n1:decide ((Sum.inr (tx [a]):Key)=Sum.inr (tx [c]))=false:=tM λz=>h (ycB (qZ (ydM z))).1;have n2:(c==a)=false:=yas.mpr λz=>h z.symm;rw[n1,n2];exact ih
noncomputable def ND:List (Nat × Nat):=[(44,44),(66,32),(48,48),(47,47),(46,46)]
noncomputable def NF:List (Nat × Nat):=[(36,36),(43,43),(45,32),(67,32),(82,32),(68,32),(66,32)]
noncomputable def NG:List (Nat × Nat):=[(36,36),(43,45),(45,45),(67,67),(82,82),(68,68),(66,66)]
noncomputable def Bn:List (Key × V):=[(Sum.inr ",",.str ","),(Sum.inr "B",.str " "),(Sum.inr "0",.str "0"),(Sum.inr "/",.str "/"),(Sum.inr ".",.str ".")]
noncomputable def CW:List (Key × V):=[(Sum.inr "$",.str "$"),(Sum.inr "+",.str "+"),(Sum.inr "-",.str " "),(Sum.inr "C",.str " "),(Sum.inr "R",.str " "),(Sum.inr "D",.str " "),(Sum.inr "B",.str " ")]
noncomputable def CY:List (Key × V):=[(Sum.inr "$",.str "$"),(Sum.inr "+",.str "-"),(Sum.inr "-",.str "-"),(Sum.inr "C",.str "C"),(Sum.inr "R",.str "R"),(Sum.inr "D",.str "D"),(Sum.inr "B",.str "B")]
def QeP:Bn=dv ND:=by rfl'
def Qf4:CW=dv NF:=by rfl'
def Qf5:CY=dv NG:=by rfl'
def z7(c:Nat):Vf Bn (Sum.inr (tx [c]):Key)=(cu c).map λd=>V.str (tx [d]):=by
 rw[QeP,HG]
 congr 1
 unfold ND cu
 by_cases h1:c=44
 .subst h1;rfl
 .by_cases h2:c=66
  .subst h2;rfl
  .by_cases h3:c=48
   .subst h3;rfl
   .by_cases h4:c=47
    .subst h4;rfl
    .by_cases h5:c=46
     .subst h5;rfl
     .have e:∀a:Nat,c≠a->(c==a)=false:=λa h=>yas.mpr h;simp[yby,h1,h2,h3,h4,h5,e 44 h1,e 66 h2,e 48 h3,e 47 h4,e 46 h5]
noncomputable def eV:List Nat:=[36,43,45,67,82,68,66]
def Qf6{c:Nat}(h:c∈eV):Vf CW (Sum.inr (tx [c]):Key)=some (.str (tx [cx false c])):=by
 rw[Qf4,HG];have:∀c∈eV,NF.lookup c=some (cx false c):=by lia
 rw[this c h];rfl
def Qf7{c:Nat}(h:c∈eV):Vf CY (Sum.inr (tx [c]):Key)=some (.str (tx [cx true c])):=by
 rw[Qf5,HG];have:∀c∈eV,NG.lookup c=some (cx true c):=by lia
 rw[this c h];rfl
def WX(h:∀x∈l,x<128):(tx l).cps.all (· <128)=true:=by
 rw[Array.all_eq_true'];intro x hx;have:x∈l:=by simpa using hx
 simpa using h x this
def QeQ{c:Nat}(h:c∈eV):c<128:=by
 have:∀c∈eV,c<128:=by lia
 exact this c h
def Qc7:(" ":Str)=tx [32]:=by rfl'
def NH:("0":Str)=tx [48]:=by rfl'
def NI:("9":Str)=tx [57]:=by rfl'
def v6:("+-$":Str)=tx [43,45,36]:=by rfl'
def QeR:(",B0/":Str)=tx [44,66,48,47]:=by rfl'
def len_signs{tl:TE}{tt:TT}(ok:Nat->Bool)(ir:NB.length=2)(ha:∀x∈l,x<128)(hl:l.length<=900)(h:∀R:VK,R (.str (tx l)) H->tl σ H R)(Bf:∀(y:Nat)(H1:Hp)(R:Bool->Hp->Prop),R (ok y) H1->tt [none,some (.str (tx [y]))] H1 R)(k:∀H',Qn H H'->Q (.int ((l.filter ok).length:Nat)) H'):sL (λxs H Q=>∃p ys,xs=[.ref p]/\(aE K H p ys\/aw K H p ys)/\Q (.int (ys.length:Nat)) H) (Je (Uo NB (Er tl) (QL 1) tt (aF 1)) Wy) σ H Q:=by
 have hz:=zza
 have Gc:=Qx l;dsimp only[sL,Je,Wy];refine Su (z:=tx l) (λm vs H2=>vs=((l.take m).filter ok).map (λc=>V.str (tx [c]))/\H2=H) h (WX ha) ⟨Z,Z⟩ (λm vs H hm⟨e,_⟩=>?_) ?_ ?_ (by show(tx l).length<sizeLine;lia)
 .rw[e,tL];exact yao (ybj _ _) (by rw[tY];lia)
 .rintro m cc vs H1 hx ⟨rfl,rfl⟩;have FM:l[m]? =some cc:=by simpa using hx
  have Ps:l.take (m+1)=l.take m++[cc]:=by rw[yaJ,FM];rfl
  rw[show(⟨#[cc]⟩:Str)=tx [cc]from rfl,ir];refine Bf cc _ _ ?_;rw[Ps,ybx];cases hn:ok cc with
  |true=>
   refine Q0 ⟨_,Z,?_,Z⟩;rw[ybn,yai hn];simp
  |false=>
   refine QO ⟨?_,Z⟩;rw[ybn,yah (by rw[hn];lia)];simp
 .rintro vs H1 ⟨rfl,rfl⟩ pv hpv;rw[yav (show l.length<=(tx l).cps.size by simp)];exists pv,_,Z,.inl (aE.of Qf);rw[tL];exact k _ (Qn.new hpv)
inductive da (vs:List V) (H:Hp) (Q:VK) (ap:XK):Prop
 |mk (l:List Nat) (b:Bool):vs=[.str (tx l),.bl b]->l.length<=100->(∀x∈l,x∈eV)->(∀H',Qn H H'->Q (.str (tx (l.map (cx b)))) H')->da vs H Q ap
def jt(F:az K "sign_text" "sign_text" KI f fd)(T:Txt K mg tk c kr)(KN:aG P w K (kr 4) CW)(KW:aG P w K (kr 5) CY):Zz1 P w K mg Y 1 f fd ["symbols","is_below"] da:=by
 refine okN F jk (by nofun) λam A L s H vs Q E hr h=>?_
 obtain⟨l,b,rfl,hl,hs,k⟩:=h;have hz:=zza
 have Gc:=Qx l;refine⟨_,(Qg (Qp (JN yaD yck ycl KA Qk (Qa (Wi (NB:=[".0","symbol"]) (FR:=["is_below"]) (fi:=[1]) Z ⟨Z,by rfl'⟩ Z Z (wL (pv 0)) (λ_ _ _=>(Qi (i:=1) (show([".0","symbol","is_below"]:List Str).Nodup by rfl') Z Zz0)) (λ_ _ _=>Xo) (λ_ _ _=>(Jh (vb (K0:=K) Z (pv 2) (λ_=>rfl)) (Wh KW (QK (v:=V.ref (kr 5)) Z T.pP Z) (pv 1) (λ_ _=>rfl)) (Wh KN (QK (v:=V.ref (kr 4)) Z T.mh Z) (pv 1) (λ_ _=>rfl))))) Qb)))),?_⟩;exists Z;refine w6 (z:=tx l) (fv:=[.bl b]) (λm vs H2=>vs=((l.take m).map (cx b)).map (λc=>V.str (tx [c]))/\H2=H) (λR h=>⟨_,Z,h⟩) (WX λx hx=>QeQ (hs x hx)) rfl ⟨Z,Z⟩ (λm vs H hm⟨e,_⟩=>?_) ?_ ?_ (by show(tx l).length<sizeLine;lia)
 .rw[e,tL,tL,tY];lia
 .rintro m cc vs H1 hx ⟨rfl,rfl⟩;have FM:l[m]? =some cc:=by simpa using hx
  have hm:=hs cc (lj FM);have Ps:l.take (m+1)=l.take m++[cc]:=by rw[yaJ,FM];rfl
  rw[show(⟨#[cc]⟩:Str)=tx [cc]from rfl];exists Z;dsimp only[oJ];refine Q0 ⟨_,Z,b,Z,?_⟩;have fin:∀bb:Bool,bb=b->((l.take m).map (cx b)).map (λc=>V.str (tx [c]))++[.str (tx [cx bb cc])]=((l.take (m+1)).map (cx b)).map (λc=>V.str (tx [c])):=λbb e=>by rw[Ps,e];simp
  cases b with
  |true=>exact Q0 ⟨_,Z,Sum.inr (tx [cc]),_,Z,Z,Qf7 hm,fin true rfl,Z⟩
  |false=>exact QO ⟨_,Z,Sum.inr (tx [cc]),_,Z,Z,Qf6 hm,fin false rfl,Z⟩
 .rintro vs H1 ⟨rfl,rfl⟩ q hq;rw[yav (show l.length<=(tx l).cps.size by simp)];refine⟨"",q,(l.map (cx b)).map λc=>tx [c],Z,Z,aE.of (by rw[Qf,lC (f:=λc=>tx [c])];rfl),VR (by rw[tL];lia),?_⟩;rw[XZ];exact k _ (Qn.new hq)
inductive cD (vs:List V) (H:Hp) (Q:VK) (ap:XK):Prop
 |mk (d:Nat) (r:List Nat):vs=[.str (tx (d::r))]->r.length<=200->Q (.bl (!(d::r).contains 57&& !fI d)) H->cD vs H Q ap
def Yk(F:az K "hides_nought" "hides_nought" Xb f fd)(T:Txt K mg tk c kr):Zz1 P w K mg Y 1 f fd ["body"] cD:=by
 refine okN F V9 (by nofun) λam A L s H vs Q E hr h=>?_
 obtain⟨d,r,rfl,hl,k⟩:=h;have hz:=zza
 refine⟨_,(Qg (Qp (YO (JS ZT Qk (pv 0) (by with_unfolding_all rfl)) (YN (JS ZT (QB Wa (pv 0) Qj (λ_ _=>rfl)) (QK (v:=V.str "+-$") Z T.gD ⟨_,Z⟩) (by with_unfolding_all rfl)))))),?_⟩;exists _,Z,_,_,Z,Z,_,Z;rw[NI,XQ];cases h1:(d::r).contains 57 with
 |true=>rw[h1]at k;exact QO k
 |false=>
  rw[h1]at k;have h0:(d::r)[0]? =some d:=rfl;refine Q0 ⟨_,Z,tx (d::r),(0:Int),d,Z,Z,by rw[Qx,tR];lia,Zo h0,_,_,Z,Z,?_⟩;rw[show(⟨#[d]⟩:Str)=tx [d]from rfl,v6,XQ];exact k
def U3:Sp:=λ_ _ _ _=>False
def YG(F:az K "nought_text" "nought_text" XC f fd)(O:Own mg):Zz1 P w K mg Y 1 f fd ["symbols"] U3:=by
 refine okN F YB (λvs H Q E h=>h.elim) (λam A L s H vs Q E hr h=>h.elim)
end
end Lw
namespace fV
open dB bL PySem.NumText
def Qc8:∀(l fs:List Nat),(bO l fs).length=l.length:=by
 intro l
 induction l with
 |nil=>intro fs;rfl
 |cons c r ih=>
  intro fs;cases h:cu c with
  |none=>rw[Km h,tR,tR,ih]
  |some d=>rw[Wj h,tR,tR,ih]
def v7{l:List Nat}{i c:Nat}(h:l[i]? =some c):many (l.take (i+1))=many (l.take i)+(if cu c=none then 1 else 0):=by
 rw[yaJ,h,Vk];show _+many [c]=_;rw[VS];rfl
def Qc9(l:List Nat)(i:Nat):many (l.take i)+many (l.drop i)=many l:=by rw[<-Vk,ybT]
def z8{fs:List Nat}(h:fs[k]? =some x)(d:Nat):(fs.drop k).headD d=x/\(fs.drop k).tail=fs.drop (k+1):=by
 have hk:=(yaf.mp h).1;rw[yaH hk];have:fs[k]=x:=(yaf.mp h).2;exact⟨this,Z⟩
def QeS:∀(l s:List Nat),bB l s<=l.length:=by
 intro l
 induction l with
 |nil=>intro s;exact tO _
 |cons c r ih=>
  intro s;rw[bB,tR]
  split
  .exact lG _
  .exact Nat.succ_le_succ (ih _)
def Qda(h:cu c=some d):d<128:=by
 unfold cu at h
 repeat' (split at h)
 all_goals first|(cases h;lia)|cases h
def Qdb:∀(l fs:List Nat),(∀x∈fs,x<128)->∀y∈bO l fs,y<128:=by
 intro l
 induction l with
 |nil=>intro fs _ y hy;cases hy
 |cons c r ih=>
  intro fs hf y hy;cases h:cu c with
  |none=>
   rw[Km h]at hy;rcases yak.mp hy with rfl|hy
   .cases fs with
    |nil=>decide
    |cons a fs=>exact hf a tX
   .exact ih _ (λx hx=>hf x (List.mem_of_mem_tail hx)) y hy
  |some d=>
   rw[Wj h]at hy;rcases yak.mp hy with rfl|hy
   .exact Qda h
   .exact ih _ hf y hy
def Qdc(u k:Nat):∀x∈pad u k,x<128:=λx hx=>by
 have h:=Ux u k x hx;lia
end fV
namespace Lw
open PySem PySem.Spec PyProof.Rows L2 dB bL iu fV
open Builtin Builtin.Str StrLaws
section
variable {P:Program}{w:World}{K:Frag}{mg:Str->Option Value}{Y:Heap}{f:Addr}{fd:FuncData}{tk:Nat->Tok}{c kr:Nat->Addr}
inductive bU (vs:List V) (H:Hp) (Q:VK) (ap:XK):Prop
 |mk (body:List Nat) (u:Nat):vs=[.str (tx body),.int (u:Nat)]->body.length<=200->(∀x∈body,x<128)->u<10^18->1<=many body->u<10^many body->(∀H',Qn H H'->Q (.str (tx (bO body (pad u (many body))))) H')->bU vs H Q ap
def v8(F:az K "spread" "spread" UO f fd)(O:Own mg)(T:Txt K mg tk c kr)(KB:aG P w K (kr 3) Bn)(gL:Def P w K mg Y 2 "figures_of" ["number"] c8):Zz1 P w K mg Y 3 f fd ["body","units"] bU:=by
 refine okN F ZK (by nofun) λam A L s H vs Q E hr h=>?_
 obtain⟨body,u,rfl,hl,ha,hu,o5,Cw,k⟩:=h;have hz:=zza
 have Gc:=Qx body;have Nb:many body<=body.length:=by unfold many;exact ybj _ _
 refine⟨_,(Qd (Qt (i:=3) ZK.nd Z Zz0 (Qw QI Z O.len ybg (Qa (Xq (NB:=[".0","symbol"]) Z ⟨Z,by rfl'⟩ (wL (pv 0)) (λ_ _ _=>(Qi (i:=1) (show([".0","symbol"]:List Str).Nodup by rfl') Z Zz0)) (λ_ _ _=>(VL (JY (WB KB (pv 1) (QK (v:=V.ref (kr 3)) Z T.mf Z)) (by with_unfolding_all rfl)))) (λ_ _ _=>(pv 1))) Qb)))
  (Qd (Qt (i:=4) ZK.nd Z Zz0 (JN yaD slot_str_zfill type_str_zfill Ur (gL.pq hr Qr (Qa (pv 1) Qb)) (Qa (pv 3) Qb)))
  (Qd (Qt (i:=5) ZK.nd Z Zz0 (K9 Qb))
  (Qd (Qt (i:=6) ZK.nd Z Zz0 Qj)
  (Qd (ZR yaz Z (wL (pv 0)) (Qi (i:=2) ZK.nd Z Zz0) (Qg (QN (JY (TC KB (pv 2) (QK (v:=V.ref (kr 3)) Z T.mf Z)) (by with_unfolding_all rfl)) (Qg (Q6 (JN yaA yaB yaC JO (pv 5) (Qa (Wh KB (QK (v:=V.ref (kr 3)) Z T.mf Z) (pv 2) (λ_ _=>rfl)) Qb)))) (Qd (Q6 (JN yaA yaB yaC JO (pv 5) (Qa (QB Wa (pv 4) (pv 6) (λ_ _=>rfl)) Qb)))
  (Qg (KU (i:=6) ZK.nd Z Zz0 Qj W6))))))
  (Qg (Qp (JN yaD yck ycl KA Qk (Qa (pv 5) Qb))))))))),?_⟩
 dsimp only[QL,J9,Za,Q4];refine len_signs (l:=body) place rfl ha (by lia) (λR h=>⟨_,Z,h⟩) (λy H1 R h=>?_) λH1 S1=>?_
 .exists _,Z,Sum.inr (tx [y]),Z,Z,_,Z;rw[z7];unfold place at h;cases e:cu y<;>rw[e]at h<;>exact h
 have so:(body.filter place).length=many body:=rfl;rw[so];refine⟨_,Z,u,Z,hu,λH2 S2=>⟨Z,_,Z,tx (dec u),(many body:Nat),Z,Z,KP (by lia) (by lia),?_⟩⟩;rw[jd u o5];have Cl:=Uy Cw o5;generalize CL:pad u (many body)=re at*;have hfl2:=Qx re;refine⟨Am,λp hp=>?_⟩;have S03:Qn H (upd H2 p (.lst [])):=(S1.trans S2).trans (Qn.new hp);have NJ:=S1.trans S2;refine⟨_,Z,tx body,Z,WX ha,X' (z:=tx body) (λi σ H3=>∃x2 done,σ=[some (.str (tx body)),some (.int (u:Nat)),x2,some (.int (many body:Nat)),some (.str (tx re)),some (.ref p),some (.int (many (body.take i):Nat))]/\H3=upd H2 p (.lst (done.map λc=>.str (tx [c])))/\done.length=i/\done++bO (body.drop i) (re.drop (many (body.take i)))=bO body re)
  ⟨none,[],Z,Z,Z,Z⟩ ?_ ?_⟩
 .rintro i cc σ H3 hx ⟨x2,done,rfl,rfl,NE,hinv⟩;have FM:body[i]? =some cc:=by simpa using hx
  have hi:=(yaf.mp FM).1;have iM:body.drop i=cc::body.drop (i+1):=by
   rw[yaH hi]
   congr 1
   exact(yaf.mp FM).2
  have CZ:=v7 FM;rw[show(⟨#[cc]⟩:Str)=tx [cc]from rfl];exists _,Z,Sum.inr (tx [cc]),Z,Z,_,Z;rw[z7];have app:∀d:Nat,upd (upd H2 p (.lst (done.map λc=>V.str (tx [c])))) p (.lst ((done.map λc=>V.str (tx [c]))++[.str (tx [d])]))=upd H2 p (.lst ((done++[d]).map λc=>V.str (tx [c]))):=λd=>by
   funext b
   by_cases hb:b=p
   .subst hb;rw[Qf,Qf];simp
   .rw[Qo hb,Qo hb,Qo hb]
  cases FB:cu cc with
  |some d=>
   rw[iM,Wj FB]at hinv;refine Q0 ⟨_,Z,.inl ⟨Z,_,.inl (.inl Qf)⟩,_,Z,Sum.inr (tx [cc]),_,Z,Z,by rw[z7,FB];rfl,p,_,_,Z,Z,Qf,by rw[tL];lia,?_⟩;rw[app d];refine⟨some (.str (tx [cc])),done++[d],?_,Z,by rw[tK,NE];rfl,?_⟩
   .rw[CZ,yah (by rw[FB];simp)];rfl
   .rw[CZ,yah (by rw[FB];simp),lu];exact hinv
  |none=>
   have bi:many (body.take i)<re.length:=by
    have:=Qc9 body (i+1);rw[CZ,yai FB]at this;lia
   obtain⟨g,hg⟩:∃g,re[many (body.take i)]? =some g:=⟨_,yad bi⟩;obtain⟨e1,e2⟩:=z8 hg 48;rw[iM,Km FB,e1,e2]at hinv;refine QO ⟨_,Z,.inl ⟨Z,_,.inl (.inl Qf)⟩,_,Z,_,Z,tx re,_,g,Z,Z,by lia,Zo hg,p,_,_,Z,Z,Qf,by rw[tL];lia,?_⟩;rw[show(⟨#[g]⟩:Str)=tx [g]from rfl,app g];refine⟨_,Z,_,_,Z,Z,some (.str (tx [cc])),done++[g],?_,Z,by rw[tK,NE];rfl,?_⟩
   .rw[CZ,yai FB];rfl
   .rw[CZ,yai FB,lu];exact hinv
 .rintro σ H3 ⟨x2,done,rfl,rfl,NE,hinv⟩;have hsz:(tx body).cps.size=body.length:=by simp
  rw[hsz]at hinv NE;rw[ycr (tO _)]at hinv;have hd2:done=bO body re:=by rw[<-hinv];simp[bO]
  refine⟨Z,_,Z,"",p,done.map λc=>tx [c],Z,Z,aE.of (by rw[Qf,lC];rfl),VR (by lia),?_⟩;rw[XZ,hd2];exact k _ (λb o e=>by rw[Qo (QA (NJ _ _ e) hp)];exact NJ _ _ e)
inductive bV (vs:List V) (H:Hp) (Q:VK) (ap:XK):Prop
 |mk (body sg:List Nat):vs=[.str (tx body),.str (tx sg)]->body.length<=200->(∀x∈body,x<128)->sg.length=body.length->(∀H',Qn H H'->Q (.int (bB body sg:Nat)) H')->bV vs H Q ap
def ju(F:az K "hidden_in" "hidden_in" KK f fd)(O:Own mg)(OE:mg "enumerate"=none)(T:Txt K mg tk c kr):Zz1 P w K mg Y 1 f fd ["body","signs"] bV:=by
 refine okN F X8 (by nofun) λam A L s H vs Q E hr h=>?_
 obtain⟨body,sg,rfl,hl,ha,HC,k⟩:=h;have hz:=zza
 have Gc:=Qx body;have hts:=Qx sg;refine⟨_,(Qd (ZR yaz Z (Tz Z OE (Qa (pv 0) Qb)) (QM Z (Qh (Qi (i:=2) X8.nd Z Zz0) (Qh (Qi (i:=3) X8.nd Z Zz0) Qy))) (Qg (QN (PW.pt (ZP (Ql Jl (pv 3) Qk (Qq _)) (JV (PW.pt (Zu (Ql ZT (pv 3) (QK (v:=V.str ",B0/") Z T.gP ⟨_,Z⟩) (by with_unfolding_all rfl)) (JZ (Ql Xe (QB Wa (pv 1) (pv 2) (λ_ _=>rfl)) Qk (Qq _)))))))) (Qg (Qp (pv 2))) Qu)))
  (Qg (Qp (Qw Q9 Z O.len ybg (Qa (pv 0) Qb))))),?_⟩
 refine⟨_,Z,tx body,Z,WX ha,w4 (z:=tx body) (λi σ H2=>∃x2 x3,σ=[some (.str (tx body)),some (.str (tx sg)),x2,x3]/\Qn H H2/\bB body sg=i+bB (body.drop i) (sg.drop i)) ⟨none,none,Z,Qn.refl H,by simp⟩ ?_ ?_⟩
 .rintro i cc σ H2 p hx ⟨x2,x3,rfl,S2,hinv⟩ hp;have FM:body[i]? =some cc:=by simpa using hx
  have hi:=(yaf.mp FM).1;have iM:body.drop i=cc::body.drop (i+1):=by
   rw[yaH hi]
   congr 1
   exact(yaf.mp FM).2
  obtain⟨g,hg⟩:∃g,sg[i]? =some g:=⟨_,yad (by lia)⟩;obtain⟨e1,e2⟩:=z8 hg 0;have S3:=S2.trans (Qn.new (o:=.tup [.int (i:Nat),.str ⟨#[cc]⟩]) hp);rw[iM,bB,e1,e2]at hinv;exists p,_,Z,aw.of Qf,Z,_,_,Z,_,_,Z,Z;generalize upd H2 p (.tup [.int (i:Nat),.str ⟨#[cc]⟩])=H3 at S3;rw[show(⟨#[cc]⟩:Str)=tx [cc]from rfl];exists _,Z,Z,_,Z;rw[NI,Zd]
  by_cases h9:cc=57
  .rw[tN h9];rw[yai (.inl h9)]at hinv;refine Q0 (Q0 ⟨_,Z,?_⟩);have:=k H3 S3;rw[hinv]at this;exact this
  .rw[tM h9];refine QO ⟨_,Z,_,_,Z,Z,_,Z,?_⟩;rw[QeR,XQ];cases GM:([44,66,48,47]:List Nat).contains cc with
   |true=>
    rw[yah (by rintro(q|⟨q,_⟩);exact h9 q;rw[show ins cc=true from GM]at q;cases q)]at hinv;exact QO (QO ⟨_,_,Z,S3,by lia⟩)
   |false=>
    refine Q0 ⟨_,Z,_,Z,tx sg,_,g,Z,Z,by lia,Zo hg,Z,_,Z,?_⟩;rw[show(⟨#[g]⟩:Str)=tx [g]from rfl,NH,Zd]
    by_cases EU:g=48
    .rw[tN EU];rw[yah (by rintro(q|⟨_,q⟩);exact h9 q;exact q EU)]at hinv;exact QO ⟨_,_,Z,S3,by lia⟩
    .rw[tM EU];rw[yai (.inr ⟨GM,EU⟩)]at hinv;refine Q0 ⟨_,Z,?_⟩;have:=k H3 S3;rw[hinv]at this;exact this
 .rintro σ H2 ⟨x2,x3,rfl,S2,hinv⟩;have hsz:(tx body).cps.size=body.length:=by simp
  rw[hsz,ycr (tO _)]at hinv;refine⟨_,Z,tx body,Z,by lia,?_⟩;have:=k H2 S2;rw[hinv]at this;rw[Gc];exact this
inductive cE (vs:List V) (H:Hp) (Q:VK) (ap:XK):Prop
 |mk (d:Nat) (r:List Nat) (u:Nat) (b:Bool):vs=[.str (tx (d::r)),.int (u:Nat),.bl b]->d=45->r.length<=190->(∀x∈d::r,x<128)->u<10^18->1<=many (d::r)->u<10^many (d::r)->(∀H',Qn H H'->Q (.str (tx (Uz (d::r) u b))) H')->cE vs H Q ap
def jv(F:az K "body_text" "body_text" KJ f fd)(T:Txt K mg tk c kr)(rp:Def P w K mg Y 3 "spread" ["body","units"] bU)(nR:Def P w K mg Y 1 "hidden_in" ["body","signs"] bV)(gG:Def P w K mg Y 1 "sign_text" ["symbols","is_below"] da):Zz1 P w K mg Y 4 f fd ["body","units","is_below"] cE:=by
 refine okN F ZY (by nofun) λam A L s H vs Q E hr h=>?_
 obtain⟨d,r,u,b,rfl,hd,hl,ha,hu,o5,Cw,k⟩:=h;have hz:=zza
 have h0:(d::r)[0]? =some d:=rfl;have NK:=Qx (d::r);rw[tR]at NK;refine⟨_,(Qd (Qt (i:=3) ZY.nd Z Zz0 (rp.pq hr Qr (Qa (pv 0) (Qa (pv 1) Qb))))
  (Qd (Qt (i:=4) ZY.nd Z Zz0 (nR.pq hr Qr (Qa (pv 0) (Qa (pv 3) Qb))))
  (Qd (Qt (i:=5) ZY.nd Z Zz0 (QB Wa (pv 0) Qj (λ_ _=>rfl)))
  (Qd (QN (Ql Zj (pv 5) (QK (v:=V.str "+-$") Z T.gD ⟨_,Z⟩) (by with_unfolding_all rfl)) (Qg (Qp (QF Jg (QF Jg (QF Xp Qk (QF Vw (pv 4) Qj)) (gG.pq hr Qr (Qa (pv 5) (Qa (pv 2) Qb)))) (QR Zb (pv 3) (QQ (pv 4)) JK)))) Qu)
  (Qg (Qp (QF Jg (QF Xp (Jh (Ql Jl (pv 5) Qk (Qq _)) Qk Qk) (pv 4)) (QR Zb (pv 3) (QQ (pv 4)) JK)))))))),?_⟩
 refine⟨_,Z,_,Z,d::r,u,Z,by rw[tR];lia,ha,hu,o5,Cw,λH1 S1=>?_⟩;have iD:=Qc8 (d::r) (pad u (many (d::r)));have HH:=QeS (d::r) (bO (d::r) (pad u (many (d::r))));unfold Uz at k;generalize bO (d::r) (pad u (many (d::r)))=sg at iD HH k;have htg:=Qx sg;refine⟨_,Z,_,Z,d::r,sg,Z,by rw[tR];lia,ha,iD,λH2 S2=>?_⟩;generalize bB (d::r) sg=hi at HH k;rw[tR]at iD HH;exists _,Z,tx (d::r),(0:Int),d,Z,Z,by lia,Zo h0;rw[show(⟨#[d]⟩:Str)=tx [d]from rfl];exists _,Z,_,_,Z,Z,_,Z;rw[v6,XQ];rw[show(d::r).headD 0=d from rfl]at k;have HI:=Qx (sg.drop hi);rw[tZ]at HI;have Cl:([43,45,36]:List Nat).contains d=true:=by rw[hd];lia
 rw[Cl];rw[yai (show fI d=true from Cl)]at k;have HJ:d∈eV:=by rw[hd];lia
 rw[Qc7];refine Q0 ⟨_,Z,_,_,Z,Z,tx [32],(hi:Int)-1,Z,Z,by lia,by rw[Qx,tQ];lia,by lia,?_⟩;rw[vX];refine⟨_,Z,_,Z,[d],b,Z,by simp,λx hx=>by rw[yap.mp hx];exact HJ,λH3 S3=>?_⟩;refine⟨_,_,Z,Z,by rw[Qx,Qx,lq,tL,tQ];lia,?_⟩;rw[XX];refine⟨_,Z,_,Z,_,Z,tx sg,Z,by lia,?_⟩;rw[WE];refine⟨_,_,Z,Z,by rw[Qx,HI,tK,lq,tL,tQ];lia,?_⟩;rw[XX,show((hi:Int)-1).toNat=hi-1 by lia];exact k _ ((S1.trans S2).trans S3)
def Qdd(rs:List Addr)(h:a<=b)(hb:b<=rs.length):qx (rs.map V.ref) (some (a:Int)) (some (b:Int))=((rs.drop a).take (b-a)).map V.ref:=by
 unfold qx;rw[HT.Xn,HT.Xn,tL,ybc (yao h hb),ybc hb,yeA,yeB]
def v9:∀l∈([[],[43],[45],[36],[43,36],[45,36]]:List (List Nat)),(∀x∈l,x∈eV)/\l.length<=2:=by lia
def Qde:∀l∈([[],[43],[45],[67,82],[68,66]]:List (List Nat)),(∀x∈l,x∈eV)/\l.length<=2:=by lia
def Qa2:∀x∈MD,x<128:=by lia
def jw(M W N ac tail:List Nat):XR M W N ac tail=M++(W++N++QJ ac)++tail:=by unfold XR;simp[lu]
inductive bj (K:Frag) (vs:List V) (H:Hp) (Q:VK) (ap:XK):Prop
 |mk (p:Addr) (rs:List Addr) (M:List Nat) (first:Nat) (W N ac tail:List Nat):vs=[.ref p]->au K H p rs (eR [] (XR M W N ac tail))->Ed M first W N ac tail->M.length+(W.length+N.length)+ac.length+tail.length<=60->(∀q H',Qn H H'->H' q=some (.tup [.str (tx M),.str (tx (W++N++QJ ac)),.str (tx tail)])->Q (.ref q) H')->bj K vs H Q ap
def Yl(F:az K "edited_parts" "edited_parts" Z8 f fd)(mm:Def P w K mg Y 2 "lead_of" ["rows"] (c5 K))(mn:Def P w K mg Y 3 "body_of" ["rows","at"] (c7 K))(mR:Def P w K mg Y 1 "written_out" ["rows"] (eU K))(mq:Def P w K mg Y 1 "tail_of" ["rows","at"] (c6 K)):Zz1 P w K mg Y 4 f fd ["rows"] (bj K):=by
 refine okN F Q3 (by nofun) λam A L s H vs Q E hr h=>?_
 obtain⟨p,rs,M,first,W,N,ac,tail,rfl,R,Ee,hl,k⟩:=h;have hz:=zza
 cases Ee;obtain⟨R8,sr⟩:∃R8:List Rw,R8=[(45,1),(44,1),(45,3),(44,1),(45,2),(57,1),(46,1),(57,2)]:=⟨_,Z⟩;have hR:eR [] (XR [] [45,44,45,45,45,44,45,45] [57] [57,57] [])=R8:=by rw[sr];rfl'
 have n8:R8.length=8:=by rw[sr];rfl
 have e1:ZG R8=([],R8):=by rw[sr];rfl'
 have e2:QX R8=([45],6,1,R8.drop 6):=by rw[sr];rfl'
 have e3:JA (R8.drop 6) [57]=(some 2,[]):=by rw[sr];rfl'
 have NL:un R8=[45,44,45,45,45,44,45,45,57,46,57,57]:=by rw[sr];rfl'
 have fg:∀x∈R8,1<=x.2/\x.2<=100/\x.1≠40:=by rw[sr];lia
 clear sr;rw[hR]at R;have Cs:rs.length=R8.length:=R.rw.len;have hle:=R.le;refine⟨_,(Qd (QW (mm.pq hr Qr (Qa (pv 0) Qb)) (QM Z (Qh (Qi (i:=1) Q3.nd Z Zz0) (Qh (Qi (i:=2) Q3.nd Z Zz0) Qy))))
  (Qd (QW (mn.pq hr Qr (Qa (pv 0) (Qa (pv 2) Qb))) (QM Z (Qh (Qi (i:=3) Q3.nd Z Zz0) (Qh (Qi (i:=4) Q3.nd Z Zz0) (Qh (Qi (i:=5) Q3.nd Z Zz0) (Qh (Qi (i:=6) Q3.nd Z Zz0) (Qh (Qi (i:=7) Q3.nd Z Zz0) Qy)))))))
  (Qg (Qp (Qs (Qa (pv 1) (Qa (mR.pq hr Qr (Qa (QR jR (pv 0) (QQ (pv 2)) (QQ (pv 7))) Qb)) (Qa (mq.pq hr Qr (Qa (pv 0) (Qa (pv 7) Qb))) Qb)))))))),?_⟩
 refine⟨_,Z,p,rs,R8,Z,R,λld b hb hll1 h1 q1 H1 S1 g1=>⟨q1,_,Z,aw.of g1,Z,_,_,Z,_,_,Z,Z,?_⟩⟩;rw[e1]at h1;obtain⟨rfl,h1b⟩:[]=ld/\R8=R8.drop b:=by injection h1 with a1 a2;exact⟨a1,a2⟩
 obtain rfl:b=0:=by have:=yaE List.length h1b;rw[tZ]at this;lia
 refine⟨_,Z,_,Z,p,rs,R8,0,Z,R.same S1,hb,λpl many bn b2 b3 o Bl h2 h3 q2 H2 S2 g2=>⟨q2,_,Z,aw.of g2,Z,_,_,Z,_,_,Z,_,_,Z,_,_,Z,_,_,Z,Z,?_⟩⟩;rw[ybF,e2]at h2;obtain⟨rfl,rfl,rfl,h2b⟩:[45]=pl/\6=many/\1=bn/\_:=by injection h2 with a1 a2;injection a2 with a2 a3;injection a3 with a3 a4;exact⟨a1,a2,a3,a4⟩
 rw[<-h2b,yah (by lia),e3]at h3;have h3b:[]=R8.drop b3:=by injection h3
 obtain rfl:b3=R8.length:=by have:=yaE List.length h3b;rw[tZ]at this;simp only[yaS]at this;lia
 have db:=S1.trans S2;refine⟨_,Z,_,Z,_,Z,_,Z,_,Z,_,Z,p,_,Z,(R.same db).sq,λp2 ut=>?_⟩;rw[Qdd rs (lG _) (by lia),ybF,Nat.sub_zero,yav (by lia)];have S3:=Qn.new (o:=.lst (rs.map V.ref)) ut;have R2:au K (upd H2 p2 (.lst (rs.map V.ref))) p2 rs R8:=⟨aE.of Qf,(R.same db).rw.keep λx xs h=>S3 _ _ h,hle⟩;refine⟨p2,_,_,Z,R2,fg,by rw[NL];lia,λH4 S4=>?_⟩;rw[NL];have sB:=(db.trans S3).trans S4;refine⟨_,Z,_,Z,p,rs,R8,R8.length,Z,R.same sB,tO _,λH5 S5=>?_⟩;rw[ybO];refine⟨CK,λq hq=>?_⟩;exact k q _ ((sB.trans S5).trans (Qn.new hq)) Qf
inductive bo (K:Frag) (c:Nat->Addr) (vs:List V) (H:Hp) (Q:VK) (E:XK):Prop
 |mk (l:List Nat) (p:Addr) (u:Int) (o:Nat):vs=[.str (tx l),.ref p]->l.length<=500->dQ K H p u o->((((∀x,QZ l=some x->x.kind<=3/\x.kind≠3)/\∀H',Qn H H'->E (.ref (c 2)) none H')\/∃(M:List Nat)(first:Nat)(W N ac tail:List Nat),Ed M first W N ac tail/\M.length+(W.length+N.length)+ac.length+tail.length<=60/\l=XR M W N ac tail/\∀H',Qn H H'->Q (.str (tx (cv M (W++N++QJ ac) tail (fit u o (bC first W N) ac.length)))) H'))->bo K c vs H Q E
def _root_.bL.Ed.small{M:List Nat}{first:Nat}{W N ac tail:List Nat}(E:Ed M first W N ac tail):1<=bC first W N/\bC first W N+ac.length<=17/\W.count first+N.count 57=bC first W N+(if fI first=true then 1 else 0):=by cases E;lia
def Qa3(u:Int):(if u<0 then-u else u)=((u.natAbs:Nat):Int):=by split<;>lia
def ya(F:az K "edited" "edited" Vm f fd)(O:Own mg)(hG:Def P w K mg Y 6 "understood_as" ["kind","picture"] (aP K c))(gs:Def P w K mg Y 4 "edited_parts" ["rows"] (bj K))(m8:Def P w K mg Y 3 "fitted" ["amount","before","behind"] (dY K))(mB:Def P w K mg Y 1 "hides_nought" ["body"] cD)(mS:Def P w K mg Y 1 "nought_text" ["symbols"] U3)(gG:Def P w K mg Y 1 "sign_text" ["symbols","is_below"] da)(nS:Def P w K mg Y 4 "body_text" ["body","units","is_below"] cE):Zz1 P w K mg Y 7 f fd ["picture","amount"] (bo K c):=by
 refine cT F JQ (by nofun) λam A L s H vs Q E hr h=>?_
 obtain⟨l,pa,u,o,rfl,hl,qMa,hw⟩:=h;have hz:=zza
 have fr:=Jf (P:=P) (w:=w) (K:=K) (mg:=mg) (Y:=Y) (N:=["picture","amount","rows","signed","before","behind","lead","body","tail","units","is_below"]) (qual:="edited") (scope:=Qe Vm) (f:=f) (cd:=am) (A:=A) (L:=L) (s:=s) (H:=H) (E:=E);have ht:=Jo fr;have hx:=QG fr;refine⟨_,(Qd (QW (hG.pq hr hx (Qa Qk (Qa (pv 0) Qb))) (QM Z (Qh (Qi (i:=2) JQ.nd Z Zz0) (Qh (QM Z (Qh (Qi (i:=3) JQ.nd Z Zz0) (Qh (Qi (i:=4) JQ.nd Z Zz0) (Qh (Qi (i:=5) JQ.nd Z Zz0) Qy)))) Qy))))
  (Qd (QW (gs.pq hr hx (Qa (pv 2) Qb)) (QM Z (Qh (Qi (i:=6) JQ.nd Z Zz0) (Qh (Qi (i:=7) JQ.nd Z Zz0) (Qh (Qi (i:=8) JQ.nd Z Zz0) Qy)))))
  (Qd (Qt (i:=9) JQ.nd Z Zz0 (m8.pq hr hx (Qa (pv 1) (Qa (pv 4) (Qa (pv 5) Qb)))))
  (Qd (QN (PW.pt (Zu (Ql Jl (pv 9) Qj (Qq _)) (JZ (XT (mB.pq hr hx (Qa (pv 7) Qb)))))) (Qg (Qp (mS.pq hr hx (Qa (QF Jg (QF Jg (pv 6) (pv 7)) (pv 8)) Qb)))) Qu)
  (Qd (Qt (i:=10) JQ.nd Z Zz0 (JS Ve (pv 9) Qj (Qq _)))
  (Qg (Qp (QF Jg (QF Jg (gG.pq hr hx (Qa (pv 6) (Qa (pv 10) Qb))) (nS.pq hr hx (Qa (pv 7) (Qa (Qw Xm Z O.abs yeW (Qa (pv 9) Qb)) (Qa (pv 10) Qb))))) (gG.pq hr hx (Qa (pv 8) (Qa (pv 10) Qb))))))))))),?_⟩
 refine⟨_,Z,l,3,Z,hl,by lia,λh=>?_,λx C3 HK q p rs r H1 S1 g1 g2 R1=>?_⟩
 .rcases hw with⟨_,k1⟩|⟨M,first,W,N,ac,tail,Ee,_,rfl,_⟩
  .exact k1
  .exact absurd rfl (h _ Ee.Ez).2
 rcases hw with⟨SZ,_⟩|⟨M,first,W,N,ac,tail,Ee,hsz,rfl,k⟩
 .exact absurd HK (SZ x C3).2
 have E1:=Ee;cases Ee;obtain rfl:=tP (E1.Ez.symm.trans C3);exists q,_,Z,aw.of g1,Z,_,_,Z,_,_,Z,r,_,Z,aw.of g2,Z,_,_,Z,_,_,Z,_,_,Z,Z,Z;rw[YV E1.ME]at R1;refine⟨_,Z,p,rs,_,_,_,_,_,_,Z,R1,E1,hsz,λq2 H2 S2 g3=>⟨q2,_,Z,aw.of g3,Z,_,_,Z,_,_,Z,_,_,Z,Z,?_⟩⟩;have db:=S1.trans S2;refine⟨_,Z,_,Z,_,Z,pa,u,o,6,2,Z,qMa.same db,by lia,λH3 S3=>?_⟩;have ms:=db.trans S3;have bi:(fit u o 6 2).natAbs<10^8:=Y4 u o 6 2;have k:∀H',Qn H H'->Q (.str (tx (cv [] [45,44,45,45,45,44,45,45,57,46,57,57] [] (fit u o 6 2)))) H':=k;generalize fit u o 6 2=ft at*;have TD:cv [] [45,44,45,45,45,44,45,45,57,46,57,57] [] ft=Uz [45,44,45,45,45,44,45,45,57,46,57,57] ft.natAbs (decide (ft<0)):=by
  unfold cv;rw[yah (λz=>z.2.1 (by lia))];exact(lB _).trans (lA _)
 rw[TD]at k;clear TD g1 g2 g3 R1 qMa;dsimp only[QL,J9,Za];have en:tx ([]:List Nat)="":=by rfl'
 refine UU (λσ' H4=>(∃y0 y1 y2 y3 y4 y5,σ'=[y0,y1,y2,y3,y4,y5,some (.str (tx [])),some (.str (tx [45,44,45,45,45,44,45,45,57,46,57,57])),some (.str (tx [])),some (.int ft),none])/\Qn H H4) ?_ (λrest=>?_)
 .rintro σ' H4 ⟨⟨y0,y1,y2,y3,y4,y5,rfl⟩,S4⟩;exists _,Z,_,_,Z,Z;refine⟨_,Z,_,Z,[],decide (ft<0),Z,by lia,(λ_ h=>nomatch h),λH5 S5=>?_⟩;refine⟨_,Z,_,Z,ft,Z,_,Z,45,_,ft.natAbs,decide (ft<0),by rw[Qa3];rfl,Z,by lia,by lia,ybh bi (by lia),by lia,ybh bi (by lia),λH6 S6=>?_⟩;have hbt:(Uz [45,44,45,45,45,44,45,45,57,46,57,57] ft.natAbs (decide (ft<0))).length<=300:=yao (ych (E1.VT (decide (ft<0)) (by lia) bi)) (by lia);refine⟨_,_,Z,Z,by rw[Qx,Qx,tL];show 0+_<=_;lia,?_⟩;rw[XX];refine⟨_,Z,_,Z,[],decide (ft<0),Z,by lia,(λ_ h=>nomatch h),λH7 S7=>?_⟩;refine⟨_,_,Z,Z,by rw[Qx,Qx,tK,tL];show 0+_+0<=_;lia,?_⟩;rw[XX];show Q (.str (tx (([]++Uz _ _ _)++[]))) H7;rw[lA,lB];exact k _ (((S4.trans S5).trans S6).trans S7)
 .exists _,Z,Z,_,Z;rw[Kz]
  by_cases h0:ft=0
  .rw[tN h0];exact Q0 ⟨_,Z,45,_,Z,by lia,false,Z,QO (rest _ _ ⟨⟨_,_,_,_,_,_,Z⟩,ms⟩)⟩
  .rw[tM h0];exact QO (QO (rest _ _ ⟨⟨_,_,_,_,_,_,Z⟩,ms⟩))
end
end Lw
namespace fV
open dB bL iu PySem.NumText
noncomputable def su(M body tail:List Nat)(a b:Nat)(t:List Nat):Option Int:=
 if cv M body tail (fit ((lK M body t:Nat):Int) b a b)=t then some ((lK M body t:Nat):Int)
 else if cv M body tail (fit (-((lK M body t:Nat):Int)) b a b)=t then some (-((lK M body t:Nat):Int))else none
def Qdf(l t:List Nat):AllDigits (cy l t):=λy hy=>by
 unfold cy at hy;obtain⟨x,_,rfl⟩:=yaZ.mp hy;unfold dg
 split
 .assumption
 .lia
def Qdg(l t:List Nat):(cy l t).length<=l.length:=by
 unfold cy;rw[tL];refine yao (ybj _ _) ?_;rw[ydW];exact Nat.min_le_left _ _
def Qa4:∀(l t:List Nat),(cy l t).length<=many l:=by
 intro l
 induction l with
 |nil=>intro t;exact lG _
 |cons c r ih=>
  intro t;cases t with
  |nil=>exact lG _
  |cons d t=>
   have:=ih t;rw[Xr,VS];unfold place;cases h:cu c with
   |none=>rw[yai (show(none:Option Nat).isNone=true from Z),yai rfl,tR];lia
   |some x=>rw[yah (by simp),yah (by simp)];lia
def Qf8(d:Nat):(([48,49,50,51,52,53,54,55,56,57]:List Nat).contains d)=decide (48<=d/\d<=57):=by
 by_cases h:48<=d/\d<=57
 .rw[tN h,yaT];simp only[yak,yaK,ycC];lia
 .rw[tM h];cases e:([48,49,50,51,52,53,54,55,56,57]:List Nat).contains d with
  |false=>rfl
  |true=>
   have:=yaT.mp e;simp only[yak,yaK,ycC]at this;omega
end fV
namespace Lw
open PySem PySem.Spec PyProof.Rows L2 dB bL iu fV
open Builtin Builtin.Str StrLaws
section
variable {P:Program}{w:World}{K:Frag}{mg:Str->Option Value}{Y:Heap}{f:Addr}{fd:FuncData}{tk:Nat->Tok}{c kr:Nat->Addr}
inductive eM (H:Hp):List Addr->List (Nat × Nat)->Prop
 |nil:eM H [] []
 |cons {a:Addr} {x:Nat × Nat} {as:List Addr} {xs:List (Nat × Nat)}:H a=some (.tup [.str (tx [x.1]),.str (tx [x.2])])->eM H as xs->eM H (a::as) (x::xs)
def eM.keep{as:List Addr}{xs:List (Nat × Nat)}(h:eM H as xs)(S:Qn H H'):eM H' as xs:=by
 induction h with
 |nil=>exact .nil
 |cons e _ ih=>exact .cons (S _ _ e) ih
def eM.app{as:List Addr}{xs:List (Nat × Nat)}(h:eM H as xs)(e:H a=some (.tup [.str (tx [x.1]),.str (tx [x.2])])):eM H (as++[a]) (xs++[x]):=by
 induction h with
 |nil=>exact .cons e .nil
 |cons e1 _ ih=>exact .cons e1 ih
def eM.len{as:List Addr}{xs:List (Nat × Nat)}(h:eM H as xs):as.length=xs.length:=by
 induction h with
 |nil=>rfl
 |cons _ _ ih=>rw[tR,tR,ih]
def eM.at'{as:List Addr}{xs:List (Nat × Nat)}(h:eM H as xs):∀{i:Nat}{a:Addr},as[i]? =some a->∃x,xs[i]? =some x/\H a=some (.tup [.str (tx [x.1]),.str (tx [x.2])]):=by
 induction h with
 |nil=>intro i a e;cases e
 |cons e1 _ ih=>
  intro i a e;cases i with
  |zero=>cases e;exact⟨_,Z,e1⟩
  |succ i=>exact ih (by simpa using e)
def QeT:("0123456789":Str)=tx [48,49,50,51,52,53,54,55,56,57]:=by rfl'
def Qa5{xs:List (Nat × Nat)}(val:Nat × Nat->Nat)(ir:NB.length=3)(hn:n=2)(hσ:σ[i]? =some (some (.ref p)))(hp:aE K H p (ps.map V.ref))(PR:eM H ps xs)(hl:xs.length<=500)(Ap:∀x∈xs,∀Q:VK,Q (.str (tx [val x])) H->te [none,some (.str (tx [x.1])),some (.str (tx [x.2]))] H Q)(hd:∀q,H q=none->Q (.ref q) (upd H q (.lst (xs.map λx=>.str (tx [val x]))))):Uo NB (yI K (aF i)) (eC K n (bE (QL 1) (bE (QL 2) e7))) oJ te σ H Q:=by
 have hz:=zza
 have hlen:=PR.len;exists _,hσ,p,Z,⟨_,hp⟩;refine Yg (xs:=ps.map V.ref) (λi vs H2=>H2=H/\vs=(xs.take i).map λx=>V.str (tx [val x])) ⟨Z,Z⟩ ?_ ?_ ?_ (by rw[tL];lia)
 .rintro i vs H2 hi ⟨rfl,rfl⟩;exact⟨hp,by rw[tL,tY];lia⟩
 .rintro i x vs H2 hx ⟨rfl,rfl⟩;rw[lh]at hx;obtain⟨r,hr,rfl⟩:=ybo.mp hx;obtain⟨y,hy,g⟩:=PR.at' hr;subst hn;rw[ir];exists r,_,Z,aw.of g,Z,_,_,Z,_,_,Z,Z;dsimp only[oJ];rw[yai rfl];refine Ap y (lj hy) _ ⟨Z,?_⟩;rw[yaJ,hy,lr];rfl
 .rintro vs H2 ⟨rfl,rfl⟩ q hq;rw[yav (by rw[tL];lia)];exact hd q hq
inductive dH (K:Frag) (c:Nat->Addr) (vs:List V) (H:Hp) (Q:VK) (E:XK):Prop
 |mk (l t:List Nat):vs=[.str (tx l),.str (tx t)]->l.length<=500->t.length<=200->(∀x∈t,x<128)->((((∀x,QZ l=some x->x.kind<=3/\x.kind≠3)/\∀H',Qn H H'->E (.ref (c 2)) none H')\/∃(M:List Nat)(first:Nat)(W N ac tail:List Nat),Ed M first W N ac tail/\M.length+(W.length+N.length)+ac.length+tail.length<=60/\l=XR M W N ac tail/\(∀v,su M (W++N++QJ ac) tail (bC first W N) ac.length t=some v->∀q H',Qn H H'->H q=none->H' q=some (.tup [.int v,.int (ac.length:Nat)])->Q (.ref q) H')/\(su M (W++N++QJ ac) tail (bC first W N) ac.length t=none->∀H',Qn H H'->E (.ref (c 5)) none H')))->dH K c vs H Q E
def YH(F:az K "read_edited" "read_edited" ZA f fd)(O:Own mg)(OZ:mg "zip"=none)(T:Txt K mg tk c kr)(KB:aG P w K (kr 3) Bn)(hZ:Def P w K mg Y 2 "number_of" ["text"] cY)(hG:Def P w K mg Y 6 "understood_as" ["kind","picture"] (aP K c))(gs:Def P w K mg Y 4 "edited_parts" ["rows"] (bj K))(m9:Def P w K mg Y 7 "edited" ["picture","amount"] (bo K c)):Zz1 P w K mg Y 8 f fd ["picture","text"] (dH K c):=by
 refine cT F QP (by nofun) λam A L s H vs Q E hr h=>?_
 obtain⟨l,t,rfl,hl,Gc,hta,hw⟩:=h;have hz:=zza
 have fr:=Jf (P:=P) (w:=w) (K:=K) (mg:=mg) (Y:=Y) (N:=["picture","text","rows","signed","before","behind","lead","body","tail","pairs","units","choice"]) (qual:="read_edited") (scope:=Qe ZA) (f:=f) (cd:=am) (A:=A) (L:=L) (s:=s) (H:=H) (E:=E);have ht:=Jo fr;have hx:=QG fr;refine⟨_,(Qd (QW (hG.pq hr hx (Qa Qk (Qa (pv 0) Qb))) (QM Z (Qh (Qi (i:=2) QP.nd Z Zz0) (Qh (QM Z (Qh (Qi (i:=3) QP.nd Z Zz0) (Qh (Qi (i:=4) QP.nd Z Zz0) (Qh (Qi (i:=5) QP.nd Z Zz0) Qy)))) Qy))))
  (Qd (QW (gs.pq hr hx (Qa (pv 2) Qb)) (QM Z (Qh (Qi (i:=6) QP.nd Z Zz0) (Qh (Qi (i:=7) QP.nd Z Zz0) (Qh (Qi (i:=8) QP.nd Z Zz0) Qy)))))
  (Qd (zN (NB:=[".0","symbol","sign"]) (iy:=9) Z ⟨Z,by rfl'⟩ (QcE Z OZ (Qa (pv 7) (Qa (QR Zb (pv 1) (QQ (Qw Q9 Z O.len ybg (Qa (pv 6) Qb))) JK) Qb))) (λ_ _ _=>(KO (K0:=K) (n:=2) Z Z (Qh (Qi (i:=1) (show([".0","symbol","sign"]:List Str).Nodup by rfl') Z Zz0 (Or.inr Z)) (Qh (Qi (i:=2) (show([".0","symbol","sign"]:List Str).Nodup by rfl') Z Zz0 (Or.inr Z)) Qy)))) (λ_ _ _=>(VL (JY (WB KB (pv 1) (QK (v:=V.ref (kr 3)) Z T.mf Z)) (by with_unfolding_all rfl)))) (λ_ _ _=>(Qs (Qa (pv 1) (Qa (pv 2) Qb)))) QP.nd Z Zz0 Z)
  (Qd (Qt (i:=10) QP.nd Z Zz0 (hZ.pq hr hx (Qa (JN yaD yck ycl KA Qk (Qa (Xq (NB:=[".0","symbol","sign"]) Z ⟨Z,by rfl'⟩ (Z4 (pv 9)) (λ_ _ _=>(KO (K0:=K) (n:=2) Z Z (Qh (Qi (i:=1) (show([".0","symbol","sign"]:List Str).Nodup by rfl') Z Zz0 (Or.inr Z)) (Qh (Qi (i:=2) (show([".0","symbol","sign"]:List Str).Nodup by rfl') Z Zz0 (Or.inr Z)) Qy)))) (λ_ _ _=>Xo) (λ_ _ _=>(Jh (Ql Zj (pv 2) (QK (v:=V.str "0123456789") Z T.gU ⟨_,Z⟩) (by with_unfolding_all rfl)) (pv 2) Qk))) Qb)) Qb)))
  (Qd (ZR UA Z (qC (Qs (Qa (pv 10) (Qa (KZ ZS (pv 10)) Qb)))) (Qi (i:=11) QP.nd Z Zz0) (Qg (QN (Ql Jl (m9.pq hr hx (Qa (pv 0) (Qa (Qs (Qa (pv 11) (Qa (pv 5) Qb))) Qb))) (pv 1) (Qq _)) (Qg (Qp (Qs (Qa (pv 11) (Qa (pv 5) Qb))))) Qu)))
  (Qg (JD ht Z Z T.mL T.mM (Qa Qk Qb)))))))),?_⟩
 refine⟨_,Z,l,3,Z,hl,by lia,λh=>?_,λx C3 HK q p rs r H1 S1 g1 g2 R1=>?_⟩
 .rcases hw with⟨_,k1⟩|⟨M,first,W,N,ac,tail,Ee,_,rfl,_⟩
  .exact k1
  .exact absurd rfl (h _ Ee.Ez).2
 rcases hw with⟨SZ,_⟩|⟨M,first,W,N,ac,tail,Ee,hsz,rfl,kv,kn⟩
 .exact absurd HK (SZ x C3).2
 obtain rfl:=tP (Ee.Ez.symm.trans C3);obtain⟨Hn,hb11,HL⟩:=Ee.small;exists q,_,Z,aw.of g1,Z,_,_,Z,_,_,Z,r,_,Z,aw.of g2,Z,_,_,Z,_,_,Z,_,_,Z,Z,Z;rw[YV Ee.ME]at R1;refine⟨_,Z,p,rs,M,first,W,N,ac,tail,Z,R1,Ee,hsz,λq2 H2 S2 g3=>⟨q2,_,Z,aw.of g3,Z,_,_,Z,_,_,Z,_,_,Z,Z,?_⟩⟩;have db:=S1.trans S2;have NE:(QJ ac).length<=ac.length+1:=by unfold QJ;split<;>simp
 have NK:(W++N++QJ ac).length<=61:=by rw[tK,tK];lia
 have HM:∀x∈W++N++QJ ac,x<128:=λx hx=>Qa2 x (Ee.sym x (by rw[jw];exact tU _ (tT _ hx)));obtain⟨hls,o7⟩:=v9 M Ee.ld;have so:many (W++N++QJ ac)<=18:=by rw[Vk,Ee.many,Ee.MH,HL];split<;>lia
 clear g1 g2 g3 R1;generalize f8:W++N++QJ ac=body at*;have bi:=Qx M;have Bf:=Qx t;have hbt:=Qx body;have HI:=Qx (t.drop M.length);dsimp only[QL,J9,Za,Q4];refine vg (x:=tx body) (y:=tx (t.drop M.length)) (λi vs H3=>∃ps,vs=ps.map V.ref/\Qn H2 H3/\eM H3 ps (((body.zip (t.drop M.length)).take i).filter λx=>place x.1)) (λR h=>?_) (WX HM) (WX λx hx=>hta x (ybE hx)) ⟨[],Z,Qn.refl _,.nil⟩ ?_ ?_ ?_ ?_
 .refine⟨_,Z,_,Z,_,Z,tx M,Z,by lia,_,Z,tx t,Z,by lia,?_⟩;rw[bi,WE];exact h
 .rintro i vs H3 hi ⟨ps,rfl,S3,PR⟩;rw[tL,PR.len];exact yao (ybj _ _) (by rw[tY];lia)
 .rintro i cc dd vs H3 pp hc hd ⟨ps,rfl,S3,PR⟩ hpp;have iC:body[i]? =some cc:=by simpa using hc
  have Sc:(t.drop M.length)[i]? =some dd:=by simpa using hd
  have hzp:(body.zip (t.drop M.length))[i]? =some (cc,dd):=by rw[List.getElem?_zip_eq_some];exact⟨iC,Sc⟩
  have Ps:(body.zip (t.drop M.length)).take (i+1)=(body.zip (t.drop M.length)).take i++[(cc,dd)]:=by rw[yaJ,hzp];rfl
  have S4:=Qn.new (o:=.tup [.str ⟨#[cc]⟩,.str ⟨#[dd]⟩]) hpp;exists pp,_,Z,aw.of Qf,Z,_,_,Z,_,_,Z,Z;generalize upd H3 pp (.tup [.str ⟨#[cc]⟩,.str ⟨#[dd]⟩])=H4 at S4;rw[show(⟨#[cc]⟩:Str)=tx [cc]from rfl,show(⟨#[dd]⟩:Str)=tx [dd]from rfl];exists _,Z,Sum.inr (tx [cc]),Z,Z,_,Z;rw[z7,Ps,ybx];cases FB:cu cc with
  |some d=>exact QO ⟨ps,Z,S3.trans S4,by rw[ybn,yah (by show ¬ place cc=true;unfold place;rw[FB];simp)];simpa using PR.keep S4⟩
  |none=>
   refine Q0 ⟨_,Z,_,Z,bF,λq hq=>?_⟩;have S5:=Qn.new (o:=.tup [.str (tx [cc]),.str (tx [dd])]) hq;exists ps++[q],by simp,(S3.trans S4).trans S5;rw[ybn,yai (by show place cc=true;unfold place;rw[FB];rfl)];exact(PR.keep (S4.trans S5)).app Qf
 .rintro vs H3 ⟨ps,rfl,S3,PR⟩ pl dL;have HN:(body.zip (t.drop M.length)).length<=min (tx body).cps.size (tx (t.drop M.length)).cps.size:=by rw[ydW];simp
  rw[yav HN]at PR;have S4:=Qn.new (o:=.lst (ps.map V.ref)) dL;have gl:upd H3 pl (.lst (ps.map V.ref)) pl=some (.lst (ps.map V.ref)):=Qf;have HP:=PR.keep S4;generalize upd H3 pl (.lst (ps.map V.ref))=H4 at S4 gl HP;have NM:=S3.trans S4;have hzl:((body.zip (t.drop M.length)).filter λx=>place x.1).length<=61:=yao (ybj _ _) (by rw[ydW];lia);exists Z;refine Qa5 (K:=K) (p:=pl) (λx=>dg x.2) rfl rfl rfl (aE.of gl) HP (by lia) (λx hx Q h=>?_) (λq hq=>?_)
  .exists _,Z,_,_,Z,Z,_,Z;rw[QeT,XQ,Qf8];unfold dg at h
   by_cases hd:48<=x.2/\x.2<=57
   .rw[yai hd]at h;rw[tN hd];exact Q0 ⟨_,Z,h⟩
   .rw[yah hd]at h;rw[tM hd];rw[<-NH]at h;exact QO h
  .have Cs:((body.zip (t.drop M.length)).filter λx=>place x.1).map (λx=>dg x.2)=cy body (t.drop M.length):=rfl;have hrn:=Qdg body (t.drop M.length);have sQ:=Qdf body (t.drop M.length);refine⟨"",q,(cy body (t.drop M.length)).map λc=>tx [c],Z,Z,aE.of (by rw[Qf, <-Cs,lC,lC];rfl),VR (by lia),?_⟩;rw[XZ];have hrt:=Qx (cy body (t.drop M.length));refine⟨tx (cy body (t.drop M.length)),Z,sQ,by lia,?_⟩;have S5:=Qn.new (o:=.lst (((body.zip (t.drop M.length)).filter λx=>place x.1).map λx=>V.str (tx [dg x.2]))) hq;generalize upd H4 q (.lst (((body.zip (t.drop M.length)).filter λx=>place x.1).map λx=>V.str (tx [dg x.2])))=H5 at S5;have hu0:NumText.digitsVal (tx (cy body (t.drop M.length))).cps.toList=lK M body t:=by rw[WC];rfl
   rw[hu0];have lQ:=Qa4 body (t.drop M.length);have hub:lK M body t<10^18:=yan (Mz sQ) (ybZ (by lia) (by lia));unfold su at kv kn;generalize hu1:lK M body t=u at*;have S05:=(db.trans NM).trans S5;clear PR HP Cs sQ hrn hrt gl S1 S2 S3 S4 NM S5 db;refine⟨_,Z,_,Z,_,Z,bF,λtt HQ=>⟨tt,Z,⟨_,aw.of Qf⟩,?_⟩⟩;have S6:=Qn.new (o:=.tup [.int (u:Nat),.int (-(u:Nat))]) HQ;have g6:upd H5 tt (.tup [.int (u:Nat),.int (-(u:Nat))]) tt=some (.tup [.int (u:Nat),.int (-(u:Nat))]):=Qf;generalize upd H5 tt (.tup [.int (u:Nat),.int (-(u:Nat))])=H6 at S6 g6;have NN:=S05.trans S6;refine kP (xs:=[.int (u:Nat),.int (-(u:Nat))]) (λi σ H7=>(∃HS,σ=[some (.str (tx (XR M W N ac tail))),some (.str (tx t)),some (.ref p),some (.bl (sgn M first tail)),some (.int (bC first W N:Nat)),some (.int (ac.length:Nat)),some (.str (tx M)),some (.str (tx body)),some (.str (tx tail)),some (.ref pl),some (.int (u:Nat)),HS])/\Qn H6 H7/\(1<=i->cv M body tail (fit ((u:Nat):Int) ac.length (bC first W N) ac.length)≠t)/\(2<=i->cv M body tail (fit (-((u:Nat):Int)) ac.length (bC first W N) ac.length)≠t)) ⟨⟨none,Z⟩,Qn.refl _,λz=>absurd z (by lia),λz=>absurd z (by lia)⟩ ?_ ?_ ?_
   .rintro i σ H7 hi ⟨_,S7,_⟩;exact aw.of (S7 _ _ g6)
   .rintro i x σ H7 hi ⟨⟨HS,rfl⟩,S7,n1,n2⟩;obtain⟨v,rfl,hvb,hv⟩:∃v:Int,x=.int v/\v.natAbs<10^18/\(v=(u:Nat)/\i=0\/v= -(u:Nat)/\i=1):=by
     have Hv:i<2:=(yaf.mp hi).1
     match i,hi,Hv with
     |0,hi,_=>exact⟨_,(tP hi).symm,by lia,.inl ⟨Z,Z⟩⟩
     |1,hi,_=>exact⟨_,(tP hi).symm,by lia,.inr ⟨Z,Z⟩⟩
    refine⟨_,Z,_,Z,_,Z,bF,λpa fH=>?_⟩;have S8:=Qn.new (o:=.tup [.int v,.int (ac.length:Nat)]) fH;refine⟨XR M W N ac tail,pa,v,ac.length,Z,hl,⟨aw.of Qf,ybh hvb (by lia),by lia,by lia⟩,.inr ⟨M,first,W,N,ac,tail,Ee,hsz,Z,λH9 S9=>?_⟩⟩;rw[f8];exists _,Z,Z,_,Z;rw[VQ];have NO:=((NN.trans S7).trans S8).trans S9
    by_cases he:cv M body tail (fit v ac.length (bC first W N) ac.length)=t
    .rw[tN he];refine Q0 ⟨_,Z,_,Z,bF,λqz NQ=>?_⟩;refine kv v ?_ qz _ (NO.trans (Qn.new NQ)) (Qn.free NO NQ) Qf;rcases hv with⟨rfl,rfl⟩|⟨rfl,rfl⟩
     .rw[yai he]
     .rw[yah (n1 (by lia)),yai he]
    .rw[tM he];refine QO ⟨⟨_,Z⟩,(S7.trans S8).trans S9,λz=>?_,λz=>?_⟩
     .rcases hv with⟨rfl,rfl⟩|⟨rfl,rfl⟩
      .exact he
      .exact n1 (by lia)
     .rcases hv with⟨rfl,rfl⟩|⟨rfl,rfl⟩
      .exact absurd z (by lia)
      .exact he
   .rintro σ H7 ⟨⟨HS,rfl⟩,S7,n1,n2⟩;exact⟨iL,kn (by rw[yah (n1 (show 1<=2 by lia)),yah (n2 (show 2<=2 by lia))]) _ (NN.trans S7)⟩
 .show min (tx body).length _<sizeLine;lia
def Bo:Sp:=λ_ _ _ _=>False
noncomputable def mx(o o':Int):Int:=if o'>o then o' else o
def HU(o o':Int):o<=mx o o':=by unfold mx;split<;>lia
def NR(o o':Int):o'<=mx o o':=by unfold mx;split<;>lia
def HV(h1:o<=n)(h2:o'<=n):mx o o'<=n:=by unfold mx;split<;>lia
inductive bW (K:Frag) (vs:List V) (H:Hp) (Q:VK) (ap:XK):Prop
 |mk (a b:Addr) (u o v o':Int):vs=[.ref a,.ref b]->dQ K H a u o->dQ K H b v o'->(∀q H',Qn H H'->H q=none->H' q=some (.tup [.int (u*ay.aM (mx o o'-o)),.int (v*ay.aM (mx o o'-o')),.int (mx o o')])->Q (.ref q) H')->bW K vs H Q ap
def zk(F:az K "lined_up" "lined_up" WU f fd)(O:Own mg)(nQ:Def P w K mg Y 2 "cut" ["amount","places"] (dD K)):Zz1 P w K mg Y 3 f fd ["one","other"] (bW K):=by
 refine okN F V8 (by nofun) λam A L s H vs Q E hr h=>?_
 obtain⟨a,b,u,o,v,o',rfl,M1,M2,k⟩:=h;have b1:=M1.lo;have b2:=HU o o';have b3:=HV M1.hi M2.hi;refine⟨_,(Qd (Qt (i:=2) V8.nd Z Zz0 (Qw (Vx Z) Z O.max boot_max (Qa (QB JE (pv 0) Qj (λ_ _=>rfl)) (Qa (QB JE (pv 1) Qj (λ_ _=>rfl)) Qb))))
  (Qg (Qp (Qs (Qa (QB JE (nQ.pq hr Qr (Qa (pv 0) (Qa (pv 2) Qb))) Qj (λ_ _=>rfl)) (Qa (QB JE (nQ.pq hr Qr (Qa (pv 1) (Qa (pv 2) Qb))) Qj (λ_ _=>rfl)) (Qa (pv 2) Qb))))))),?_⟩
 exists _,Z,a,_,_,_,Z,Z,M1.sq,Z,_,Z,b,_,_,_,Z,Z,M2.sq,Z,o,o',Z;refine⟨_,Z,_,Z,a,u,o,mx o o',Z,M1,by lia,b3,λq1 h1=>⟨q1,_,_,_,Z,Z,aw.of Qf,Z,?_⟩⟩;refine⟨_,Z,_,Z,b,v,o',mx o o',Z,M2.same (Qn.new h1),by lia,b3,λq2 h2=>⟨q2,_,_,_,Z,Z,aw.of Qf,Z,?_⟩⟩;refine⟨_,Z,by show 3<=sizeLine;lia,λq3 h3=>?_⟩;have NS:Qn H (upd (upd H q1 (.tup [.int (ay.Xj u o (mx o o')),.int (mx o o')])) q2 (.tup [.int (ay.Xj v o' (mx o o')),.int (mx o o')])):=(Qn.new h1).trans (Qn.new h2);refine k q3 _ (NS.trans (Qn.new h3)) (NS.free h3) ?_;rw[Qf,ay.Mx (HU o o'),ay.Mx (NR o o')];rfl
inductive dI (K:Frag) (vs:List V) (H:Hp) (Q:VK) (ap:XK):Prop
 |mk (a b:Addr) (u o v o':Int):vs=[.ref a,.ref b]->dQ K H a u o->dQ K H b v o'->(∀H',Qn H H'->Q (.bl (decide (u*ay.aM (18-o)=v*ay.aM (18-o')))) H')->dI K vs H Q ap
inductive eW (K:Frag) (g:Int->Int->Int) (vs:List V) (H:Hp) (Q:VK) (ap:XK):Prop
 |mk (a b:Addr) (u o v o':Int):vs=[.ref a,.ref b]->dQ K H a u o->dQ K H b v o'->(∀q H' z,Qn H H'->H q=none->H' q=some (.tup [.int z,.int (mx o o')])->z=g (u*ay.aM (mx o o'-o)) (v*ay.aM (mx o o'-o'))->Q (.ref q) H')->eW K g vs H Q ap
def up_eq(h1:o<=18)(h2:o'<=18):(u*ay.aM (mx o o'-o)=v*ay.aM (mx o o'-o'))↔u*ay.aM (18-o)=v*ay.aM (18-o'):=by
 rw[<-ay.zQ (u:=u) (HU o o') (HV h1 h2), <-ay.zQ (u:=v) (NR o o') (HV h1 h2)];exact(ay.SV (ay.JC _)).symm
def Qdi(F:az K "same" "same" s_same f fd)(gX:Def P w K mg Y 3 "lined_up" ["one","other"] (bW K)):Zz1 P w K mg Y 4 f fd ["one","other"] (dI K):=by
 refine okN F UM (by nofun) λam A L s H vs Q E hr h=>?_
 obtain⟨a,b,u,o,v,o',rfl,M1,M2,k⟩:=h;refine⟨_,(Qd (QW (gX.pq hr Qr (Qa (pv 0) (Qa (pv 1) Qb))) (QM Z (Qh (Qi (i:=2) UM.nd Z Zz0) (Qh (Qi (i:=3) UM.nd Z Zz0) (Qh (Qi (i:=4) UM.nd Z Zz0) Qy)))))
  (Qg (Qp (JS Jl (pv 2) (pv 3) (Qq _))))),?_⟩
 refine⟨_,Z,_,Z,a,b,u,o,v,o',Z,M1,M2,λq H' e hq ht=>⟨q,_,Z,aw.of ht,Z,_,_,Z,_,_,Z,_,_,Z,Z,?_⟩⟩;exists _,Z,_,Z,Z;have z:=k H' e;rw[<-decide_eq_decide.mpr (up_eq M1.hi M2.hi), <-Kz]at z;exact z
def Qa6(F:az K "added" "added" zf f fd)(gX:Def P w K mg Y 3 "lined_up" ["one","other"] (bW K)):Zz1 P w K mg Y 4 f fd ["one","other"] (eW K λx y=>x+y):=by
 refine okN F Vl (by nofun) λam A L s H vs Q E hr h=>?_
 obtain⟨a,b,u,o,v,o',rfl,M1,M2,k⟩:=h;refine⟨_,(Qd (QW (gX.pq hr Qr (Qa (pv 0) (Qa (pv 1) Qb))) (QM Z (Qh (Qi (i:=2) Vl.nd Z Zz0) (Qh (Qi (i:=3) Vl.nd Z Zz0) (Qh (Qi (i:=4) Vl.nd Z Zz0) Qy)))))
  (Qg (Qp (Qs (Qa (QF Ji (pv 2) (pv 3)) (Qa (pv 4) Qb)))))),?_⟩
 refine⟨_,Z,_,Z,a,b,u,o,v,o',Z,M1,M2,λq H' e hq ht=>⟨q,_,Z,aw.of ht,Z,_,_,Z,_,_,Z,_,_,Z,Z,?_⟩⟩;refine⟨_,Z,_,Z,_,_,Z,Z,_,Z,by show 2<=sizeLine;lia,λq2 h2=>?_⟩;exact k q2 _ _ (e.trans (Qn.new h2)) (e.free h2) Qf rfl
inductive aR (K:Frag) (c:Nat->Addr) (vs:List V) (H:Hp) (Q:VK) (E:XK):Prop
 |mk (l:List Nat) (p:Addr) (u o:Int):vs=[.str (tx l),.ref p,.bl false]->l.length<=500->dQ K H p u o->(((HB l/\∀H',Qn H H'->E (.ref (c 2)) none H')\/∃x,QZ l=some x/\U1 x/\∀H',Qn H H'->(10^(x.before+x.behind)<=(ay.Xj u o x.behind).natAbs->Q .aq H')/\((ay.Xj u o x.behind).natAbs<10^(x.before+x.behind)->Q (.str (tx (cont x.signed x.before x.behind (ay.Xj u o x.behind) x.behind))) H')))->aR K c vs H Q E
def jx(F:az K "stored" "stored" Vn f fd)(O:Own mg)(gg:Def P w K mg Y 1 "ten_to" ["many"] cp)(hG:Def P w K mg Y 6 "understood_as" ["kind","picture"] (aP K c))(nQ:Def P w K mg Y 2 "cut" ["amount","places"] (dD K))(pA:Def P w K mg Y 2 "rounded" ["amount","places"] Bo)(gy:Def P w K mg Y 7 "content_of" ["picture","amount"] (c9 K c)):Zz1 P w K mg Y 8 f fd ["picture","amount","nearest"] (aR K c):=by
 refine cT F Xg (by nofun) λam A L s H vs Q E hr h=>?_
 obtain⟨l,p,u,o,rfl,hl,qMa,hc⟩:=h;have fr:=Jf (P:=P) (w:=w) (K:=K) (mg:=mg) (Y:=Y) (N:=["picture","amount","nearest","rows","signed","before","behind","result"]) (qual:="stored") (scope:=Qe Vn) (f:=f) (cd:=am) (A:=A) (L:=L) (s:=s) (H:=H) (E:=E);have hx:=QG fr;refine⟨_,(Qd (QW (hG.pq hr hx (Qa Qk (Qa (pv 0) Qb))) (QM Z (Qh (Qi (i:=3) Xg.nd Z Zz0) (Qh (QM Z (Qh (Qi (i:=4) Xg.nd Z Zz0) (Qh (Qi (i:=5) Xg.nd Z Zz0) (Qh (Qi (i:=6) Xg.nd Z Zz0) Qy)))) Qy))))
  (Qd (Qt (i:=7) Xg.nd Z Zz0 (Jh (Jd (pv 2) (λ_=>rfl)) (pA.pq hr hx (Qa (pv 1) (Qa (pv 6) Qb))) (nQ.pq hr hx (Qa (pv 1) (Qa (pv 6) Qb)))))
  (Qd (QN (Ql kW (Qw Xm Z O.abs yeW (Qa (QB JE (pv 7) Qj (λ_ _=>rfl)) Qb)) (gg.pq hr hx (Qa (QF Ji (pv 5) (pv 6)) Qb)) (Qq _)) (Qg (Qp Zt)) Qu)
  (Qg (Qp (gy.pq hr hx (Qa (pv 0) (Qa (pv 7) Qb)))))))),?_⟩
 rcases hc with⟨SZ,k⟩|⟨x,rc,sx,k⟩
 .exact⟨_,Z,l,2,Z,hl,by lia,λ_=>k,λx hp hk=>absurd hk (SZ x hp)⟩
 obtain⟨CS,h1,sf⟩:=id sx;refine⟨_,Z,l,2,Z,hl,by lia,(λz=>absurd CS (z x rc).2),λx' hp _ q p1 rs r H1 S1 g1 g2 R1=>?_⟩;obtain rfl:x=x':=tP (rc.symm.trans hp);exists q,_,Z,aw.of g1,Z,_,_,Z,_,_,Z,r,_,Z,aw.of g2,Z,_,_,Z,_,_,Z,_,_,Z,Z,Z;refine⟨_,Z,false,Z,QO ?_⟩;refine⟨_,Z,_,Z,p,u,o,(x.behind:Int),Z,qMa.same S1,by lia,by lia,λq2 iF=>?_⟩;have S2:=Qn.new (o:=.tup [.int (ay.Xj u o x.behind),.int (x.behind:Nat)]) iF;have g3:upd H1 q2 (.tup [.int (ay.Xj u o x.behind),.int (x.behind:Nat)]) q2=some (.tup [.int (ay.Xj u o x.behind),.int (x.behind:Nat)]):=Qf;generalize upd H1 q2 (.tup [.int (ay.Xj u o x.behind),.int (x.behind:Nat)])=H2 at S2 g3;obtain⟨kN,kS⟩:=k H2 (S1.trans S2);have k:=k;generalize ay.Xj u o x.behind=R at g3 kN kS k;have HW:ay.aM (((x.before:Nat):Int)+((x.behind:Nat):Int))=((10^(x.before+x.behind):Nat):Int):=by
  unfold ay.aM;rw[show(((x.before:Nat):Int)+((x.behind:Nat):Int)).toNat=x.before+x.behind by lia];push_cast;rfl
 exists _,Z,q2,_,_,_,Z,Z,aw.of g3,Z,R,Z,_,Z,_,Z,_,_,Z,Z,_,Z,by lia,by lia,_,_,Z,Z,_,Z;rw[HW,v4];refine cf (λz=>?_) (λz=>?_)
 .exact kN (by have:=ybq z;lia)
 .have bi:R.natAbs<10^(x.before+x.behind):=by have:=ybU z;lia
  refine⟨_,Z,_,Z,l,q2,R,(x.behind:Nat),Z,hl,⟨aw.of g3,ybh (NA bi sf) (by lia),by lia,by lia⟩,.inr ⟨x,rc,sx,λH3 S3=>?_⟩⟩;exact(k H3 ((S1.trans S2).trans S3)).2 bi
inductive Ly where
 |box (nm:Str) (p:Nat)
 |aN (nm:Str) (its:List (Bool × Ly))
 |tab (nm:Str) (k:Nat) (its:List (Bool × Ly))
noncomputable def YI:Nat->Str
 |0=>"S9(3)V99"|1=>"X(3)"|2=>"S9(6)V99"|3=>"X(8)"|4=>"-,---,--9.99"|_=>"9(3)"
noncomputable def aX:Nat->Nat
 |0=>5|1=>3|2=>8|3=>8|4=>12|_=>3
mutual
noncomputable def Ly.dv:Ly->Dv
 | .box nm p=>.tup [.str "box",.str nm,.str (YI p)]
 | .aN nm its=>.tup [.str "group",.str nm,.tup (cb its)]
 | .tab nm k its=>.tup [.str "table",.str nm,.int (k:Nat),.tup (cb its)]
noncomputable def cb:List (Bool × Ly)->List Dv
 |[]=>[]
 |x::xs=>d5 x::cb xs
noncomputable def d5:Bool × Ly->Dv
 |(ov,y)=>if ov=true then .tup [.str "over",y.dv]else y.dv
end
mutual
noncomputable def Ly.sz:Ly->Nat
 | .box _ p=>aX p
 | .aN _ its=>aH its
 | .tab _ k its=>aH its*k
noncomputable def aH:List (Bool × Ly)->Nat
 |[]=>0
 |x::xs=>fm x+aH xs
noncomputable def fm:Bool × Ly->Nat
 |(ov,y)=>if ov=true then 0 else y.sz
end
mutual
noncomputable def Ly.cn:Ly->Nat
 | .box _ _=>1
 | .aN _ its=>1+cF its
 | .tab _ _ its=>1+cF its
noncomputable def cF:List (Bool × Ly)->Nat
 |[]=>0
 |x::xs=>iw x+cF xs
noncomputable def iw:Bool × Ly->Nat
 |(_,y)=>y.cn
end
mutual
def Ly.dk:Ly->Prop
 | .box _ _=>True
 | .aN _ its=>bK its
 | .tab _ k its=>k<=1000/\bK its
def bK:List (Bool × Ly)->Prop
 |[]=>True
 |x::xs=>iz x/\bK xs
def iz:Bool × Ly->Prop
 |(_,y)=>y.dk
end
theorem Ym:∀{its:List (Bool × Ly)}{j:Nat}{x:Bool × Ly},bK its->its[j]? =some x->iz x
 |[],_,_,_,h=>by simp at h
 |y::ys,0,x,o,h=>by
  rw[bK]at o;have:y=x:=by simpa using h
  subst this;exact o.1
 |y::ys,j+1,x,o,h=>by
  rw[bK]at o;exact Ym (its:=ys) (j:=j) o.2 (by simpa using h)
theorem ZN:∀its:List (Bool × Ly),cb its=its.map d5
 |[]=>rfl
 |x::xs=>by rw[cb,ZN xs];rfl
def Ly.QeU(y:Ly):1<=y.cn:=by cases y<;>rw[Ly.cn]<;>lia
def Qdj(x:Bool × Ly):1<=iw x:=by obtain⟨o,y⟩:=x;rw[iw];exact y.QeU
def Qa7(e:z=tx l)(h1:QZ l=some x)(h2:40∉l)(h3:l.length<=100)(h4:(l.filter Yx).length=n):∃(a l:List Nat)(x:Facts),z=tx l/\dZ a l x/\(a.filter Yx).length=n:=
 ⟨l,l,x,e,⟨h1,wX l h2,h2,h3,by lia⟩,h4⟩
def zl{c d m:Nat}{z:Str}(e:z=tx [c,40,d,41])(h1:QZ [c,40,d,41]=some x)(hc:c≠40)(hn:Num [d] (m+1))(hm:m<=50)(h4:Yx c=true):∃(a l:List Nat)(x:Facts),z=tx l/\dZ a l x/\(a.filter Yx).length=m+1:=by
 refine⟨replicate (m+1) c,_,x,e,⟨h1,?_,?_,by rw[lq];lia,(show 4<=500 by lia)⟩,?_⟩
 .exact Sh.brk m Sh.nil hc hn
 .intro h;exact hc (yax h).symm
 .rw[List.filter_eq_self.mpr (λy hy=>by rw[yax hy];exact h4),lq]
def Yn(h:[d].head?≠some 48/\48<=d/\d<=57/\NumText.digitsVal [d]=m):Num [d] m:=⟨by simp,λx hx=>by obtain rfl:=yap.mp hx;exact⟨h.2.1,h.2.2.1⟩,h.1,h.2.2.2⟩
def yb(e:z=tx [83,57,40,d,41,86,57,57])(h1:QZ [83,57,40,d,41,86,57,57]=some x)(hn:Num [d] (m+1))(hm:m<=20):∃(a l:List Nat)(x:Facts),z=tx l/\dZ a l x/\(a.filter Yx).length=m+3:=by
 have hs:Sh ((([83]++replicate (m+1) 57)++[86])++[57,57]) [83,57,40,d,41,86,57,57]:=Sh.out (c:=57) 1 (Sh.out (c:=86) 0 (Sh.brk (c:=57) m (Sh.out (a:=[]) (b:=[]) (c:=83) 0 Sh.nil (by lia)) (by lia) hn) (by lia)) (by lia);refine⟨_,_,x,e,⟨h1,hs,?_,by simp;lia,(show 8<=500 by lia)⟩,?_⟩
 .simp
 .have e2:(replicate (m+1) 57).filter Yx=replicate (m+1) 57:=List.filter_eq_self.mpr λy hy=>by rw[yax hy];lia
  rw[ybx,ybx,ybx,tK,tK,tK,e2,lq,show([83].filter Yx)=[] by lia,show([86].filter Yx)=[] by lia,show([57,57].filter Yx).length=2 by lia];simp only[yaS];lia
def Vp(p:Nat):∃(a l:List Nat)(x:Facts),YI p=tx l/\dZ a l x/\(a.filter Yx).length=aX p:=by
 unfold YI aX
 split
 .exact yb (d:=51) (m:=2) (by rfl') (by first|rfl|rfl') (Yn (by lia)) (by lia)
 .exact zl (c:=88) (d:=51) (m:=2) (by rfl') (by first|rfl|rfl') (by lia) (Yn (by lia)) (by lia) (by lia)
 .exact yb (d:=54) (m:=5) (by rfl') (by first|rfl|rfl') (Yn (by lia)) (by lia)
 .exact zl (c:=88) (d:=56) (m:=7) (by rfl') (by first|rfl|rfl') (by lia) (Yn (by lia)) (by lia) (by lia)
 .exact Qa7 (l:=[45,44,45,45,45,44,45,45,57,46,57,57]) (by rfl') (by first|rfl|rfl') (by lia) (by lia) (by lia)
 .exact zl (c:=57) (d:=51) (m:=2) (by rfl') (by first|rfl|rfl') (by lia) (Yn (by lia)) (by lia) (by lia)
structure LsSt(Hb H:Hp)(q:Addr)(xs:List V)(acc:List Dv):Prop where
 S:Qn Hb H
 f:Hb q=none
 g:H q=some (.lst xs)
 t:aj H xs acc
def U4(S:Qn H H2)(h:H l=none):Qn H (upd H2 l o):=λb o' e=>by rw[Qo (QA e h)];exact S _ _ e
theorem LsSt.same{q:Addr}{xs:List V}{acc:List Dv}(B:LsSt Hb H q xs acc)(S:Qn H H'):LsSt Hb H' q xs acc:=⟨B.S.trans S,B.f,S _ _ B.g,B.t.same S⟩
def LsSt.put{xs ys:List V}{acc Ch:List Dv}(B:LsSt Hb H q xs acc)(t:aj H ys Ch):LsSt Hb (upd H q (.lst ys)) q ys Ch:=⟨U4 B.S B.f,B.f,Qf,t.xX B.g (λzs z=>nomatch z)⟩
noncomputable def Ly.word:Ly->Str
 | .box _ _=>"box"
 | .aN _ _=>"group"
 | .tab _ _ _=>"table"
noncomputable def Ly.name:Ly->Str
 | .box nm _=>nm
 | .aN nm _=>nm
 | .tab nm _ _=>nm
def Yo{nm:Str}(h:ag H v (Ly.box nm p).dv):∃a,v=.ref a/\H a=some (.tup [.str "box",.str nm,.str (YI p)]):=by
 rw[Ly.dv]at h;obtain⟨a,xs,rfl,g,t⟩:=ag.YX h;cases t with
 |cons p1 t=>cases t with
  |cons p2 t=>cases t with
   |cons p3 t=>
    cases t;obtain rfl:=p1.zU;obtain rfl:=p2.zU;obtain rfl:=p3.zU;exact⟨a,Z,g⟩
def Kw{nm:Str}(h:ag H v (Ly.aN nm its).dv):∃a x,v=.ref a/\H a=some (.tup [.str "group",.str nm,x])/\ag H x (.tup (cb its)):=by
 rw[Ly.dv]at h;obtain⟨a,xs,rfl,g,t⟩:=ag.YX h;cases t with
 |cons p1 t=>cases t with
  |cons p2 t=>cases t with
   |cons p3 t=>
    cases t;obtain rfl:=p1.zU;obtain rfl:=p2.zU;exact⟨a,_,Z,g,p3⟩
def Vc{nm:Str}(h:ag H v (Ly.tab nm k its).dv):∃a x,v=.ref a/\H a=some (.tup [.str "table",.str nm,.int (k:Nat),x])/\ag H x (.tup (cb its)):=by
 rw[Ly.dv]at h;obtain⟨a,xs,rfl,g,t⟩:=ag.YX h;cases t with
 |cons p1 t=>cases t with
  |cons p2 t=>cases t with
   |cons p3 t=>cases t with
    |cons p4 t=>
     cases t;obtain rfl:=p1.zU;obtain rfl:=p2.zU;obtain rfl:=p3.Ae;exact⟨a,_,Z,g,p4⟩
def U5(h:ag H v (d5 (true,y))):∃a x,v=.ref a/\H a=some (.tup [.str "over",x])/\ag H x y.dv:=by
 rw[d5,yai rfl]at h;obtain⟨a,xs,rfl,g,t⟩:=ag.YX h;cases t with
 |cons p1 t=>cases t with
  |cons p2 t=>
   cases t;obtain rfl:=p1.zU;exact⟨a,_,Z,g,p2⟩
def HX{H:Hp}{v:V}{y:Ly}(h:ag H v y.dv):∃a xs,v=.ref a/\H a=some (.tup (.str y.word:: .str y.name::xs)):=by
 cases y with
 |box nm p=>obtain⟨a,rfl,g⟩:=Yo h;exact⟨a,_,Z,g⟩
 |aN nm its=>obtain⟨a,x,rfl,g,_⟩:=Kw h;exact⟨a,_,Z,g⟩
 |tab nm k its=>obtain⟨a,x,rfl,g,_⟩:=Vc h;exact⟨a,_,Z,g⟩
def Qhc:decide (V.str "box"=V.str "over")=false:=by rfl'
def Qhd:decide (V.str "group"=V.str "over")=false:=by rfl'
def Qhe:decide (V.str "table"=V.str "over")=false:=by rfl'
def Bp:decide (V.str "group"=V.str "box")=false:=by rfl'
def Bq:decide (V.str "table"=V.str "box")=false:=by rfl'
def HY:decide (V.str "table"=V.str "group")=false:=by rfl'
def NT:decide (V.str "over"=V.str "box")=false:=by rfl'
def NU:decide (V.str "over"=V.str "group")=false:=by rfl'
def NV:decide (V.str "over"=V.str "table")=false:=by rfl'
def Qhf:decide (V.str "box"=V.str "table")=false:=by rfl'
def Qhg:decide (V.str "group"=V.str "table")=false:=by rfl'
def jy(y:Ly):decide (V.str y.word=V.str "over")=false:=by
 cases y with
 |box nm p=>exact Qhc
 |aN nm its=>exact Qhd
 |tab nm k its=>exact Qhe
inductive de (vs:List V) (H:Hp) (Q:VK) (ap:XK):Prop
 |mk (v:V) (o:Bool) (y:Ly):vs=[v]->ag H v (d5 (o,y))->(∀u,ag H u y.dv->Q u H)->de vs H Q ap
def Qdl(F:az K "bare" "bare" vL f fd):Zz1 P w K mg Y 1 f fd ["item"] de:=by
 refine yC F QcY (by nofun) λam A L s H vs Q E hr h=>?_
 obtain⟨v,o,y,rfl,D,k⟩:=h;refine⟨_,(Jb (Jq (QeE (Ql Jl (QB QD (pv 0) Qj (λ_ _=>rfl)) Qk (Qq _)) (aA.mk (QB QD (pv 0) Qj (λ_ _=>rfl))) (aA.mk (pv 0))))),?_⟩;cases o with
 |true=>
  obtain⟨a,x,rfl,g,D2⟩:=U5 D;exact⟨_,Z,a,_,0,_,Z,Z,.inl g,Z,Z,true,Z,Q0 ⟨_,Z,a,_,1,_,Z,Z,.inl g,Z,k _ D2⟩⟩
 |false=>
  have D:ag H v y.dv:=by rw[d5,yah (by lia)]at D;exact D
  obtain⟨a,xs,rfl,g⟩:=HX D;exact⟨_,Z,a,_,0,_,Z,Z,.inl g,Zo (j:=0) rfl,Z,false,by rw[jy],QO ⟨_,Z,k _ D⟩⟩
noncomputable def iP(x:List (Bool × Ly) × Nat):Dv:=.tup [.tup (cb x.1),.int (x.2:Nat)]
noncomputable def wS:List (List (Bool × Ly) × Nat)->Nat
 |[]=>0
 |x::xs=>aH x.1*x.2+wS xs
noncomputable def cS:List (List (Bool × Ly) × Nat)->Nat
 |[]=>0
 |x::xs=>(1+cF x.1)+cS xs
theorem xa:∀a b,wS (a++b)=wS a+wS b
 |[],b=>by rw[lA,wS];lia
 |x::a,b=>by rw[lz,wS,wS,xa a b];lia
theorem xb:∀a b,cS (a++b)=cS a+cS b
 |[],b=>by rw[lA,cS];lia
 |x::a,b=>by rw[lz,cS,cS,xb a b];lia
theorem yc:∀st,st.length<=cS st
 |[]=>lG _
 |x::xs=>by
  have:=yc xs;rw[tR,cS];lia
inductive bz (vs:List V) (H:Hp) (Q:VK) (ap:XK):Prop
 |mk (v:V) (its:List (Bool × Ly)):vs=[v]->ag H v (.tup (cb its))->cF its<=10000->bK its->(∀H',Qn H H'->Q (.int (aH its:Nat)) H')->bz vs H Q ap
def QeV{its:List (Bool × Ly)}{j:Nat}(h:its[j]? =some x):aH (its.drop j)=fm x+aH (its.drop (j+1))/\cF (its.drop j)=iw x+cF (its.drop (j+1)):=by
 have hl:=(yaf.mp h).1;rw[yaH hl,(yaf.mp h).2,aH,cF];exact⟨Z,Z⟩
def zm(F:az K "signs_in" "signs_in" WR f fd)(gr:Def P w K mg Y 7 "size_of" ["picture"] bJ):Zz1 P w K mg Y 8 f fd ["layout"] bz:=by
 refine yC F JU (by nofun) λam A L s H vs Q E hr h=>?_
 obtain⟨v,its,rfl,D,hc,ao,k⟩:=h;have hz:100000<=sizeLine:=by rw[yaF];lia
 refine⟨_,(QC (JL (i:=1) JU.nd Z Zz0 (aA.mk Qj) Z Z)
  (QC (JL (i:=2) JU.nd Z Zz0 (jX (JP (X0 (JP (aA.mk (pv 0)) (JP (aA.mk Qj) JB Z) Z)) JB Z)) Z Z)
  (QC (dP.mk (Xl yaz (Jd (pv 2) (λ_=>rfl)) (Qd (QW (zD yaA yeC yeD zF (pv 2)) (QM Z (Qh (Qi (i:=3) JU.nd Z Zz0) (Qh (Qi (i:=4) JU.nd Z Zz0) Qy))))
  (Qg (ZR yaz Z (qC (pv 3)) (Qi (i:=5) JU.nd Z Zz0) (Qg (QN (Ql Jl (QB QD (pv 5) Qj (λ_ _=>rfl)) Qk (Qq _)) (Qg (KU (i:=1) JU.nd Z Zz0 (QF K7 (pv 4) (gr.pq hr Qr (Qv (QB QD (pv 5) Qj (λ_ _=>rfl)) Qb))) W6)) (Qg (QN (Ql Jl (QB QD (pv 5) Qj (λ_ _=>rfl)) Qk (Qq _)) (Qg (Q6 (JN yaA yaB yaC JO (pv 2) (Qv (Qs (Qv (QB QD (pv 5) Qj (λ_ _=>rfl)) (Qv (pv 4) Qb))) Qb)))) (Qg (QN (Ql Jl (QB QD (pv 5) Qj (λ_ _=>rfl)) Qk (Qq _)) (Qg (Q6 (JN yaA yaB yaC JO (pv 2) (Qv (Qs (Qv (QB QD (pv 5) Qj (λ_ _=>rfl)) (Qv (QF K7 (pv 4) (QB QD (pv 5) Qj (λ_ _=>rfl))) Qb))) Qb)))) Qu)))))))))))
  (Jb (Jq (aA.mk (pv 1))))))),?_⟩
 dsimp only[QL,J9,Za,Q4];refine⟨_,Z,bF,λp hp=>⟨iL,λlf LT=>?_⟩⟩;have S1:=Qn.new (o:=.tup [v,.int 1]) hp;have NW:H lf=none:=by
  cases e:H lf with
  |none=>rfl
  |some o=>rw[S1 _ _ e]at LT;cases LT
 have B1:LsSt H (upd (upd H p (.tup [v,.int 1])) lf (.lst [.ref p])) lf [.ref p] ([(its,1)].map iP):=by
  have S2:=Qn.new (o:=.lst [V.ref p]) LT;exact⟨S1.trans S2,NW,Qf,.cons ((ag.tup Qf (.cons (D.same S1) (.cons .int .nil))).same S2) .nil⟩
 generalize upd (upd H p (.tup [v,.int 1])) lf (.lst [.ref p])=H1 at B1;clear S1 LT hp;refine⟨λm σ H2=>∃(n:Nat)(xs:List V)(st:List (List (Bool × Ly) × Nat))(y3 y4 y5:Option V),σ=[some v,some (.int (n:Nat)),some (.ref lf),y3,y4,y5]/\LsSt H H2 lf xs (st.map iP)/\n+wS st=aH its/\cS st<=m/\m<=20000/\∀e∈st,bK e.1,⟨20000,0,_,_,none,none,none,Z,B1,by simp[wS],by simp only[cS];lia,tO _,λe he=>by rw[yap.mp he];exact ao⟩,?_⟩;clear B1;rintro m σ H2 ⟨n,xs,st,y3,y4,y5,rfl,B,hw,SL,hm,lm⟩;have lW:=B.t.length;rw[tL]at lW;have lst:=yc st;rcases ybi st with rfl|⟨pr,e0,rfl⟩
 .have e:xs=[]:=ybA (by simpa using lW);subst e;refine⟨_,Z,false,.inl ⟨_,.inl (.inl B.g),Z⟩,QO ⟨_,Z,?_⟩⟩;rw[wS,yfg]at hw;rw[hw];exact k _ B.S
 rw[yaU]at B hw SL lW lst;rw[yaU]at lm;obtain⟨Fa,t0⟩:=e0;have HZ:bK Fa:=lm _ (tT _ tX);have Ia:∀e∈pr,bK e.1:=λe he=>lm e (tU _ he);rw[xa]at hw;rw[xb]at SL;have hw:n+(wS pr+(aH Fa*t0+0))=aH its:=hw;have SL:cS pr+((1+cF Fa)+0)<=m:=SL;rw[lr]at B;obtain⟨cr,xl,rfl,t1,Dl⟩:∃cr xl,xs=cr++[xl]/\aj H2 cr (pr.map iP)/\ag H2 xl (iP (Fa,t0)):=by
  rcases ybi xs with rfl|⟨cr,xl,rfl⟩
  .simp at lW
  .rw[yaU]at B ⊢;have l0:cr.length=(pr.map iP).length:=by
    have:=B.t.length;rw[tK,tK]at this;simpa using this
   have ht:=B.t.take cr.length;have hd:=B.t.drop cr.length;rw[ycw rfl,l0,ycw rfl]at ht;rw[ycx rfl,l0,ycx rfl]at hd;cases hd with
   |cons h t=>exact⟨cr,xl,Z,ht,h⟩
 refine⟨_,Z,true,.inl ⟨_,.inl (.inl B.g),by simp⟩,Q0 ?_⟩;refine⟨λσ' H'=>∃m',m'<m/\∃(n:Nat)(xs:List V)(st:List (List (Bool × Ly) × Nat))(y3 y4 y5:Option V),σ'=[some v,some (.int (n:Nat)),some (.ref lf),y3,y4,y5]/\LsSt H H' lf xs (st.map iP)/\n+wS st=aH its/\cS st<=m'/\m'<=20000/\∀e∈st,bK e.1,λ_ _ h=>h,?_⟩;exists _,Z,.inl ⟨Z,_,.inl (.inl B.g)⟩;refine⟨lf,_,xl,Z,Z,B.g,by simp,?_⟩;have B3:LsSt H (upd H2 lf (.lst (cr++[xl]).dropLast)) lf cr (pr.map iP):=by
  rw[yca];exact B.put t1
 have lX:=Dl.xX (o':=.lst (cr++[xl]).dropLast) B.g (λzs z=>nomatch z);generalize upd H2 lf (.lst (cr++[xl]).dropLast)=H3 at B3 lX;clear B Dl t1 lW;obtain⟨pa,px,rfl,gp,tp⟩:=ag.YX (show ag H3 xl (.tup [.tup (cb Fa),.int (t0:Nat)])from lX);obtain⟨xi,rfl,Di⟩:∃xi,px=[xi,.int (t0:Nat)]/\ag H3 xi (.tup (cb Fa)):=by
  cases tp with
  |cons p1 t=>cases t with
   |cons p2 t=>
    cases t;obtain rfl:=p2.Ae;exact⟨_,Z,p1⟩
 exists pa,_,Z,.inl (.inl gp),Z,_,_,Z,_,_,Z,Z;obtain⟨ia,ix,rfl,gi,ti⟩:=ag.YX Di;rw[ZN]at ti;have Ib:=ti.length;rw[tL]at Ib;dsimp only[QL,J9,Za,Q4];exists _,Z,ia,Z,⟨_,.inl (.inl gi)⟩;refine WJ (M0 (K:=K) (a:=ia) (xs:=ix)) (λj σ H4=>∃(n':Nat)(xs:List V)(st:List (List (Bool × Ly) × Nat))(y5:Option V),σ=[some v,some (.int (n':Nat)),some (.ref lf),some (.ref ia),some (.int (t0:Nat)),y5]/\LsSt H H4 lf xs (st.map iP)/\n'+wS st+aH (Fa.drop j)*t0=aH its/\cS st+cF (Fa.drop j)+1<=m/\H4 ia=some (.tup ix)/\aj H4 ix (Fa.map d5)/\∀e∈st,bK e.1) ⟨n,cr,pr,y5,Z,B3,by rw[ybF];lia,by rw[ybF];lia,gi,ti,Ia⟩ ?_ ?_ ?_
 .rintro j σ H4 _ ⟨n',xs,st,y5,rfl,_,_,_,g4,_,_⟩;exact .inl (.inl g4)
 .rintro j x σ H40 H4 hj ⟨n',xs,st,y5,rfl,B4,iQ,sy,g4,t4,fo⟩ ⟨rfl,hx⟩;obtain⟨d,hd,Dx⟩:=t4.j6 hx;rw[lh]at hd;cases eo:Fa[j]? with
  |none=>rw[eo]at hd;cases hd
  |some oy=>
   rw[eo]at hd;obtain rfl:=tP hd;obtain⟨q1,q2⟩:=QeV eo;rw[q1]at iQ;rw[q2]at sy;have fg:=Qdj oy;have lW:=B4.t.length;rw[tL]at lW;have lst4:=yc st;have lY:=Ym HZ eo;have NX:ia≠lf:=λz=>by rw[z,B4.g]at g4;cases g4
   obtain⟨ov,y⟩:=oy;cases ov with
   |true=>
    obtain⟨a,x2,rfl,g,_⟩:=U5 Dx;rw[fm,yai rfl,yci]at iQ;refine⟨_,Z,a,_,0,_,Z,Z,.inl g,Z,Z,false,by rw[NT],QO ?_⟩;refine⟨_,Z,a,_,0,_,Z,Z,.inl g,Z,Z,false,by rw[NU],QO ?_⟩;refine⟨_,Z,a,_,0,_,Z,Z,.inl g,Z,Z,false,by rw[NV],QO ?_⟩;exact⟨n',xs,st,_,Z,B4,by lia,by lia,g4,t4,fo⟩
   |false=>
    rw[d5,yah (by lia)]at Dx;rw[fm,yah (by lia)]at iQ;rw[Nat.add_mul]at iQ;rw[iw]at sy fg;cases y with
    |box nm p=>
     obtain⟨a,rfl,g⟩:=Yo Dx;obtain⟨pa2,pl,px2,ep,hp,es⟩:=Vp p;rw[Ly.sz]at iQ;refine⟨_,Z,a,_,0,_,Z,Z,.inl g,Z,Z,true,Z,Q0 ?_⟩;refine⟨_,Z,_,Z,_,Z,a,_,2,_,Z,Z,.inl g,Z,pa2,pl,px2,(by rw[ep];rfl),hp,λH5 S5=>?_⟩;rw[es];have hszp:aX p<=12:=by unfold aX;split<;>lia
     refine⟨_,_,Z,Z,.inr ⟨by lia,by lia⟩,?_⟩;exists _,_,Z,Z;refine⟨n'+aX p*t0,xs,st,some (.ref a),?_,B4.same S5,by lia,by rw[Ly.cn]at sy;lia,S5 _ _ g4,t4.same S5,fo⟩;have e:((n':Nat):Int)+((t0:Nat):Int)*((aX p:Nat):Int)=((n'+aX p*t0:Nat):Int):=by push_cast;rw[Int.mul_comm]
     rw[<-e];rfl
    |aN nm tz=>
     obtain⟨a,x2,rfl,g,D2⟩:=Kw Dx;rw[Ly.sz]at iQ;rw[Ly.cn]at sy;have Av:bK tz:=by rw[iz,Ly.dk]at lY;exact lY
     refine⟨_,Z,a,_,0,_,Z,Z,.inl g,Z,Z,false,by rw[Bp],QO ?_⟩;refine⟨_,Z,a,_,0,_,Z,Z,.inl g,Z,Z,true,Z,Q0 ?_⟩;exists _,Z,.inl ⟨Z,_,.inl (.inl B4.g)⟩;refine⟨_,Z,a,_,2,_,Z,Z,.inl g,Z,_,Z,bF,λp5 se=>?_⟩;have S5:=Qn.new (o:=.tup [x2,.int (t0:Nat)]) se;have B5:=B4.same S5;have D5:ag (upd H4 p5 (.tup [x2,.int (t0:Nat)])) (.ref p5) (iP (tz,t0)):=.tup Qf (.cons (D2.same S5) (.cons .int .nil));have g5:=S5 _ _ g4;have t5:=t4.same S5;generalize upd H4 p5 (.tup [x2,.int (t0:Nat)])=H5 at B5 D5 g5 t5;refine⟨lf,xs,.ref p5,Z,Z,B5.g,by lia,?_⟩;refine⟨n',xs++[.ref p5],st++[(tz,t0)],_,Z,?_,?_,?_,by rw[Qo NX];exact g5,t5.xX B5.g (λzs z=>nomatch z),?_⟩
     .rw[lr];exact B5.put (B5.t.append (.cons D5 .nil))
     .rw[xa];show n'+(wS st+(aH tz*t0+0))+_=_;lia
     .rw[xb];show cS st+((1+cF tz)+0)+_+1<=m;lia
     .intro e he;rcases yat.mp he with he|he
      .exact fo e he
      .rw[yap.mp he];exact Av
    |tab nm k1 tz=>
     obtain⟨a,x2,rfl,g,D2⟩:=Vc Dx;rw[Ly.sz]at iQ;rw[Ly.cn]at sy;obtain⟨Hq,Av⟩:k1<=1000/\bK tz:=by rw[iz,Ly.dk]at lY;exact lY
     refine⟨_,Z,a,_,0,_,Z,Z,.inl g,Z,Z,false,by rw[Bq],QO ?_⟩;refine⟨_,Z,a,_,0,_,Z,Z,.inl g,Z,Z,false,by rw[HY],QO ?_⟩;refine⟨_,Z,a,_,0,_,Z,Z,.inl g,Z,Z,true,Z,Q0 ?_⟩;exists _,Z,.inl ⟨Z,_,.inl (.inl B4.g)⟩;refine⟨_,Z,a,_,3,_,Z,Z,.inl g,Z,_,Z,_,Z,a,_,2,_,Z,Z,.inl g,Z,_,_,Z,Z,.inr ⟨by lia,by lia⟩,bF,λp5 se=>?_⟩;have e:((t0:Nat):Int)*((k1:Nat):Int)=((t0*k1:Nat):Int):=by push_cast;rfl
     dsimp only;rw[e];have S5:=Qn.new (o:=.tup [x2,.int (t0*k1:Nat)]) se;have B5:=B4.same S5;have D5:ag (upd H4 p5 (.tup [x2,.int (t0*k1:Nat)])) (.ref p5) (iP (tz,t0*k1)):=.tup Qf (.cons (D2.same S5) (.cons .int .nil));have g5:=S5 _ _ g4;have t5:=t4.same S5;generalize upd H4 p5 (.tup [x2,.int (t0*k1:Nat)])=H5 at B5 D5 g5 t5;refine⟨lf,xs,.ref p5,Z,Z,B5.g,by lia,?_⟩;refine⟨n',xs++[.ref p5],st++[(tz,t0*k1)],_,Z,?_,?_,?_,by rw[Qo NX];exact g5,t5.xX B5.g (λzs z=>nomatch z),?_⟩
     .rw[lr];exact B5.put (B5.t.append (.cons D5 .nil))
     .rw[xa];show n'+(wS st+(aH tz*(t0*k1)+0))+_=_;have e2:aH tz*k1*t0=aH tz*(t0*k1):=by rw[yex,ybP k1 t0]
      lia
     .rw[xb];show cS st+((1+cF tz)+0)+_+1<=m;lia
     .intro e he;rcases yat.mp he with he|he
      .exact fo e he
      .rw[yap.mp he];exact Av
 .rintro σ H4 ⟨n',xs,st,y5,rfl,B4,iQ,sy,_,_,fo⟩;rw[yaw (by lia)]at iQ sy;simp only[aH,cF]at iQ sy;exact⟨m-1,by lia,n',xs,st,_,_,_,Z,B4,by lia,by lia,by lia,fo⟩
structure lZ(K:Frag):Prop where
 st:kitOne K (.type "str") (.type "tuple")=some false
 tt:kitOne K (.type "tuple") (.type "tuple")=some true
 ii:kitOne K (.type "int") (.type "int")=some true
 ib:kitOne K (.type "int") (.type "bool")=some false
noncomputable abbrev Step:=Str × Option Nat
noncomputable def WY:Step->Dv
 |(nm,none)=>.str nm
 |(nm,some i)=>.tup [.str nm,.int (i:Nat)]
noncomputable def EV:Option Nat->V
 |none=>.aq
 |some i=>.int (i:Nat)
inductive bX (vs:List V) (H:Hp) (Q:VK) (ap:XK):Prop
 |mk (i:Int):vs=[.int i]->Q (.bl true) H->bX vs H Q ap
def zn(F:az K "is_whole" "is_whole" WS f fd)(O:Own mg)(KT:lZ K):Zz1 P w K mg Y 1 f fd ["thing"] bX:=by
 refine yC F ze (by nofun) λam A L s H vs Q E hr h=>?_
 obtain⟨i,rfl,k⟩:=h;exists _,(Jb (Jq (aA.mk (YO (Qw Wg Z O.sU ydi (Qv (pv 0) (Qv (Vu (v:=V.ty "int") Z O.int boot_int Z) Qb))) (YN (Pz (Qw Wg Z O.sU ydi (Qv (pv 0) (Qv (Vu (v:=V.ty "bool") Z O.bool boot_bool Z) Qb)))))))));refine⟨_,Z,_,_,true,Z,Z,.inl ⟨_,.int _,KT.ii⟩,true,Z,Q0 ?_⟩;exact⟨_,Z,_,_,false,Z,Z,.inl ⟨_,.int _,KT.ib⟩,_,Z,k⟩
inductive cG (vs:List V) (H:Hp) (Q:VK) (ap:XK):Prop
 |mk (v:V) (st:Step):vs=[v]->ag H v (WY st)->(∀q H',Qn H H'->H' q=some (.tup [.str st.1,EV st.2])->Q (.ref q) H')->cG vs H Q ap
def U6(F:az K "step_parts" "step_parts" X6 f fd)(O:Own mg)(OT:mg "tuple"=none)(KT:lZ K)(pD:Def P w K mg Y 1 "is_whole" ["thing"] bX):Zz1 P w K mg Y 2 f fd ["step"] cG:=by
 refine yC F UL (by nofun) λam A L s H vs Q E hr h=>?_
 obtain⟨v,⟨nm,o⟩,rfl,D,k⟩:=h;have hz:=zza
 refine⟨_,(QC (M6 (PW.pt (Zu (XT (Qw Wg Z O.sU ydi (Qv (pv 0) (Qv (Vu (v:=V.ty "tuple") Z OT boot_tuple Z) Qb)))) (Zu (Ql Jl (Qw QI Z O.len ybg (Qv (pv 0) Qb)) Qj (Qq _)) (JZ (XT (pD.pq hr Qr (Qv (QB QD (pv 0) Qj (λ_ _=>rfl)) Qb))))))) (Jb (Jq (aA.mk (pv 0)))) ZH)
  (Jb (Jq (X0 (JP (aA.mk (pv 0)) (JP (aA.mk Zt) JB Z) Z))))),?_⟩
 cases o with
 |none=>
  obtain rfl:=ag.zU (show ag H v (.str nm)from D);refine⟨_,Z,_,_,false,Z,Z,.inl ⟨_,.str _,KT.st⟩,_,Z,QO ?_⟩;exact⟨_,Z,bF,λp hp=>k _ _ (Qn.new hp) Qf⟩
 |some i=>
  obtain⟨a,xs,rfl,g,t⟩:=ag.YX (show ag H v (.tup [.str nm,.int (i:Nat)])from D);obtain rfl:xs=[.str nm,.int (i:Nat)]:=by
   cases t with
   |cons p1 t=>cases t with
    |cons p2 t=>cases t;rw[p1.zU,p2.Ae]
  refine⟨_,Z,_,_,true,Z,Z,.inl ⟨_,D.ty,KT.tt⟩,_,Z,Q0 ?_⟩;refine⟨_,Z,a,_,Z,.inr (.inl (.inl g)),Z,true,Z,Q0 ?_⟩;refine⟨_,Z,a,_,1,_,Z,Z,.inl g,Z,_,Z,true,Z,Q0 ⟨_,Z,k _ _ (Qn.refl _) g⟩⟩
noncomputable def pairD(path:Dv)(y:Ly):Dv:=.tup [path,y.dv]
inductive dJ (vs:List V) (H:Hp) (Q:VK) (ap:XK):Prop
 |mk (wv iv:V) (pd:Dv) (its:List (Bool × Ly)):vs=[wv,iv]->ag H wv pd->ag H iv (.tup (cb its))->its.length<=10000->(∀q xs H',Qn H H'->H q=none->H' q=some (.lst xs)->aj H' xs ((its.map λx=>pairD pd x.2).reverse)->Q (.ref q) H')->dJ vs H Q ap
def U7(F:az K "last_first" "last_first" X5 f fd)(O:Own mg)(nU:Def P w K mg Y 1 "bare" ["item"] de):Zz1 P w K mg Y 2 f fd ["path","items"] dJ:=by
 refine yC F UK (by nofun) λam A L s H vs Q E hr h=>?_
 obtain⟨wv,iv,pd,its,rfl,DP,DI,hl,k⟩:=h;have hz:100000<=sizeLine:=by rw[yaF];lia
 refine⟨_,(Jb (Jq (aA.mk (Wi (NB:=[".0","item"]) (FR:=["path"]) (fi:=[0]) Z ⟨Z,by rfl'⟩ Z Z (QcO Z O.reversed (Qv (pv 1) Qb) Z) (λ_ _ _=>(Qi (i:=1) (show([".0","item","path"]:List Str).Nodup by rfl') Z Zz0)) (λ_ _ _=>Xo) (λ_ _ _=>(Qs (Qv (pv 2) (Qv (nU.pq hr Qr (Qv (pv 1) Qb)) Qb)))))))),?_⟩;obtain⟨a,xs,rfl,g,t⟩:=ag.YX DI;rw[ZN]at t;have lx:=t.length;rw[tL]at lx;refine QeC ?_;refine Wk ?_;exists _,Z,a,xs,Z,.inl (.inl g);refine WK (fv:=[wv]) (QfW (K:=K) (a:=a) (xs:=xs)) ((its.map λx=>pairD pd x.2).reverse) (by rw[lg,tL];lia) (λR h=>h H (Qn.refl _)) rfl (λH1 S=>.inl (.inl (S _ _ g))) ?_ ?_ (by lia)
 .rintro i v H1 H2 d R hd S ⟨rfl,hv⟩ kk;obtain⟨dv,C4,ddv⟩:=t.j6 hv;rw[lh]at C4;cases e:its[xs.length-1-i]? with
  |none=>rw[e]at C4;cases C4
  |some oy=>
   rw[e]at C4;obtain rfl:=tP C4;obtain⟨o,y⟩:=oy;have FS:i<its.length:=by
    have:=(yaf.mp hd).1;rw[lg,tL]at this;exact this
   have ed:d=pairD pd y:=by
    rw[ydv (by rw[tL];exact FS),tL,lh, <-lx,e]at hd;exact(tP hd).symm
   refine⟨Z,_,Z,_,Z,v,o,y,Z,ddv.same S,λu Du=>⟨bF,λp hp=>kk _ _ (Qn.new hp) ?_⟩⟩;rw[ed];exact .tup Qf (.cons ((DP.same S).same (Qn.new hp)) (.cons (Du.same (Qn.new hp)) .nil))
 .rintro ys H1 p S t2 hp;refine k _ _ _ (S.trans (Qn.new hp)) ?_ Qf (t2.same (Qn.new hp));cases e:H p with
  |none=>rfl
  |some o=>rw[S _ _ e]at hp;cases hp
noncomputable def yd:Ly->Option Nat->Option Nat
 | .box _ _,none=>some 0
 | .aN _ _,none=>some 0
 | .tab _ k its,some i=>if i<k then some (i*aH its)else none
 |_,_=>none
def Ly.cnt(y:Ly):Prop:=y.cn<=10000/\y.dk
inductive cH (vs:List V) (H:Hp) (Q:VK) (ap:XK):Prop
 |mk (v:V) (y:Ly) (o:Option Nat) (n:Nat):vs=[v,EV o]->ag H v y.dv->y.cnt->yd y o=some n->(∀H',Qn H H'->Q (.int (n:Nat)) H')->cH vs H Q ap
def WZ(F:az K "ahead_in_table" "ahead_in_table" JR f fd)(T:Txt K mg tk c kr)(gz:Def P w K mg Y 8 "signs_in" ["layout"] bz):Zz1 P w K mg Y 9 f fd ["item","number"] cH:=by
 refine cT F WT (by nofun) λam A L s H vs Q E hr h=>?_
 obtain⟨v,y,o,n,rfl,D,⟨EW,ao⟩,ha,k⟩:=h;have fr:=Jf (P:=P) (w:=w) (K:=K) (mg:=mg) (Y:=Y) (N:=["item","number"]) (qual:="ahead_in_table") (scope:=Qe JR) (f:=f) (cd:=am) (A:=A) (L:=L) (s:=s) (H:=H) (E:=E);have ht:=Jo fr;have hx:=QG fr;refine⟨_,(Qd (QN (PW.pt (Zu (Ql Xe (QB QD (pv 0) Qj (λ_ _=>rfl)) Qk (Qq _)) (JZ (JY (XN (pv 1)))))) (Qg (Qp Qj)) Qu)
  (Qd (QN (PW.pt (ZP (Ql Xe (QB QD (pv 0) Qj (λ_ _=>rfl)) Qk (Qq _)) (ZP (JY (XN (pv 1))) (JV (KS (yL PY Ve Qj (pv 1) (QB QD (pv 0) Qj (λ_ _=>rfl)))))))) (Qg (JD ht Z Z T.rl T.rn (Qv Qk Qb))) Qu)
  (Qg (Qp (QF K7 (pv 1) (gz.pq hr hx (Qv (QB QD (pv 0) Qj (λ_ _=>rfl)) Qb))))))),?_⟩
 cases y with
 |box nm p=>
  cases o with
  |some i=>cases ha
  |none=>
   obtain⟨a,rfl,g⟩:=Yo D;have:n=0:=(tP ha).symm;subst this;exact⟨_,Z,a,_,0,_,Z,Z,.inl g,Z,Z,true,by rw[Qhf];rfl,Q0 ⟨_,Z,true,Z,Q0 (k _ (Qn.refl _))⟩⟩
 |aN nm its=>
  cases o with
  |some i=>cases ha
  |none=>
   obtain⟨a,x,rfl,g,_⟩:=Kw D;have:n=0:=(tP ha).symm;subst this;exact⟨_,Z,a,_,0,_,Z,Z,.inl g,Z,Z,true,by rw[Qhg];rfl,Q0 ⟨_,Z,true,Z,Q0 (k _ (Qn.refl _))⟩⟩
 |tab nm k1 its=>
  cases o with
  |none=>cases ha
  |some i=>
   obtain⟨a,x,rfl,g,D2⟩:=Vc D;rw[Ly.cn]at EW;rw[Ly.dk]at ao;have ha:(if i<k1 then some (i*aH its)else none)=some n:=ha
   by_cases NY:i<k1
   .rw[yai NY]at ha;have:n=i*aH its:=(tP ha).symm;subst this;refine⟨_,Z,a,_,0,_,Z,Z,.inl g,Z,Z,false,by rfl',QO ?_⟩;refine⟨_,Z,a,_,0,_,Z,Z,.inl g,Z,Z,false,by rfl',QO ?_⟩;refine⟨_,Z,false,Z,QO ?_⟩;refine⟨_,Z,_,_,Z,Z,true,?_,Q0 ?_⟩
    .show V.bl (decide ((0:Int)<=(i:Nat)))=_;rw[tN (by lia)]
    refine⟨_,Z,a,_,2,_,Z,Z,.inl g,Z,_,_,Z,Z,true,?_,QO ?_⟩
    .show V.bl (decide (((i:Nat):Int)<((k1:Nat):Int)))=_;rw[tN (by lia)]
    refine⟨_,Z,_,Z,a,_,3,_,Z,Z,.inl g,Z,x,its,Z,D2,by lia,ao.2,λH1 S1=>⟨_,_,Z,Z,.inl ⟨by lia,by lia⟩,?_⟩⟩;have e:((i:Nat):Int)*((aH its:Nat):Int)=((i*aH its:Nat):Int):=by push_cast;rfl
    dsimp only;rw[e];exact k _ S1
   .rw[yah NY]at ha;cases ha
noncomputable def Ic:Bool × Ly:=(false,.box "" 0)
noncomputable def under(its:List (Bool × Ly)):Nat->Nat
 |0=>0
 |j+1=>if(its.getD (j+1) Ic).1=true then under its j else j+1
noncomputable def xc(its:List (Bool × Ly)):Nat->Nat
 |0=>0
 |j+1=>under its j
def kC(its:List (Bool × Ly))(j:Nat):under its j=if(its.getD j Ic).1=true then xc its j else j:=by
 cases j with
 |zero=>show 0=_;rw[xc];split<;>rfl
 |succ j=>rfl
structure fq(its:List (Bool × Ly))(st:Step)(j:Nat)(o:Bool)(y:Ly)(n:Nat):Prop where
 at_:its[j]? =some (o,y)
 nm:y.name=st.1
 no:∀(i:Nat)(x:Bool × Ly),i<j->its[i]? =some x->x.2.name≠st.1
 ah:yd y st.2=some n
theorem xf:∀(its:List (Bool × Ly))(n:Nat),cF (its.take n)<=cF its
 |[],n=>by rw[ydJ];exact tO _
 |x::xs,0=>by rw[ycI,cF];exact lG _
 |x::xs,n+1=>by
  have:=xf xs n;rw[ycm,cF,cF];lia
theorem xg:∀(its:List (Bool × Ly))(n:Nat),bK its->bK (its.take n)
 |[],n,h=>by rw[ydJ];exact h
 |x::xs,0,h=>by rw[ycI];rw[bK];trivial
 |x::xs,n+1,h=>by
  rw[bK]at h;rw[ycm,bK];exact⟨h.1,xg xs n h.2⟩
theorem ye:∀{its:List (Bool × Ly)}{j:Nat}{x:Bool × Ly},its[j]? =some x->iw x<=cF its
 |[],_,_,h=>by simp at h
 |y::ys,0,x,h=>by
  have:y=x:=by simpa using h
  subst this;rw[cF];lia
 |y::ys,j+1,x,h=>by
  have:=ye (its:=ys) (j:=j) (x:=x) (by simpa using h);rw[cF];lia
inductive bY (vs:List V) (H:Hp) (Q:VK) (ap:XK):Prop
 |mk (iv sv:V) (its:List (Bool × Ly)) (st:Step) (j:Nat) (o:Bool) (y:Ly) (n:Nat):vs=[iv,sv]->ag H iv (.tup (cb its))->ag H sv (WY st)->cF its<=10000->bK its->fq its st j o y n->(∀q u H',Qn H H'->H' q=some (.tup [.int ((aH (its.take (under its j))+n:Nat)),u])->ag H' u y.dv->Q (.ref q) H')->bY vs H Q ap
def Qhh(Good:L2.St->Hp->Prop)(rest:∀σ' H',Good σ' H'->u D σ' H')(h:(∀σ' H',Good σ' H'->u D σ' H')->t {D with nx:=u D} σ H):Za t u D σ H:=h rest
def kD(F:az K "item_at" "item_at" Wq f fd)(O:Own mg)(OE:mg "enumerate"=none)(T:Txt K mg tk c kr)(ni:Def P w K mg Y 2 "step_parts" ["step"] cG)(nU:Def P w K mg Y 1 "bare" ["item"] de)(gz:Def P w K mg Y 8 "signs_in" ["layout"] bz)(gY:Def P w K mg Y 9 "ahead_in_table" ["item","number"] cH):Zz1 P w K mg Y 10 f fd ["items","step"] bY:=by
 refine cT F Zg (by nofun) λam A L s H vs Q E hr h=>?_
 obtain⟨iv,sv,its,st,j,o,y,n,rfl,DI,DS,hc,ao,HA,k⟩:=h;have fr:=Jf (P:=P) (w:=w) (K:=K) (mg:=mg) (Y:=Y) (N:=["items","step","name","number","under","at","item"]) (qual:="item_at") (scope:=Qe Wq) (f:=f) (cd:=am) (A:=A) (L:=L) (s:=s) (H:=H) (E:=E);have ht:=Jo fr;have hx:=QG fr;have hz:100000<=sizeLine:=by rw[yaF];lia
 refine⟨_,(Qd (QW (ni.pq hr hx (Qv (pv 1) Qb)) (QM Z (Qh (Qi (i:=2) Zg.nd Z Zz0) (Qh (Qi (i:=3) Zg.nd Z Zz0) Qy))))
  (Qd (Qt (i:=4) Zg.nd Z Zz0 Qj)
  (Qd (ZR UA Z (Qaw .tp Z OE (Qv (pv 0) Qb)) (QM Z (Qh (Qi (i:=5) Zg.nd Z Zz0) (Qh (Qi (i:=6) Zg.nd Z Zz0) Qy))) (Qd (QN (Ql Xe (QB QD (pv 6) Qj (λ_ _=>rfl)) Qk (Qq _)) (Qg (Qt (i:=4) Zg.nd Z Zz0 (pv 5))) Qu)
  (Qg (QN (Ql Jl (QB QD (nU.pq hr hx (Qv (pv 6) Qb)) Qj (λ_ _=>rfl)) (pv 2) (Qq _)) (Qg (Qp (Qs (Qv (QF Ji (gz.pq hr hx (Qv (QR QcN (pv 0) JK (QQ (pv 4))) Qb)) (gY.pq hr hx (Qv (nU.pq hr hx (Qv (pv 6) Qb)) (Qv (pv 3) Qb)))) (Qv (nU.pq hr hx (Qv (pv 6) Qb)) Qb))))) Qu))))
  (Qg (JD ht Z Z T.rl T.rn (Qv Qk Qb)))))),?_⟩
 refine⟨_,Z,sv,st,Z,DS,λq0 H1 S1 g0=>?_⟩;exists q0,_,Z,.inl (.inl g0),Z,_,_,Z,_,_,Z,Z;obtain⟨ia,ix,rfl,gi,ti⟩:=ag.YX DI;have Ie:=ti;rw[ZN]at Ie;have Ib:=Ie.length;rw[tL]at Ib;have ES:j<its.length:=(yaf.mp HA.at_).1;dsimp only[QL,J9,Za,Q4];exists _,Z,ia,Z,⟨_,.inl (.inl (S1 _ _ gi))⟩;refine WJ (Qg8 (k:=.tp) (K:=K) (a:=ia) (xs:=ix)) (λi σ H2=>∃(y5 y6:Option V),σ=[some (.ref ia),some sv,some (.str st.1),some (EV st.2),some (.int (xc its i:Nat)),y5,y6]/\Qn H1 H2/\i<=j) ⟨none,none,Z,Qn.refl _,lG _⟩ ?_ ?_ ?_
 .rintro i σ H2 _ ⟨y5,y6,rfl,S2,_⟩;exact .inl (.inl (S2 _ _ (S1 _ _ gi)))
 .rintro i x σ H2 H3 hi ⟨y5,y6,rfl,S2,FH⟩ ⟨p,x,hp,rfl,si,rfl⟩;obtain⟨d,hd,Dx⟩:=Ie.j6 si;rw[lh]at hd;cases eo:its[i]? with
  |none=>rw[eo]at hd;cases hd
  |some oy=>
   rw[eo]at hd;obtain rfl:=tP hd;obtain⟨ov,yi⟩:=oy;have S3:=(S1.trans S2).trans (Qn.new (o:=.tup [.int ((i:Nat):Int),x]) hp);have ms:=S2.trans (Qn.new (o:=.tup [.int ((i:Nat):Int),x]) hp);exists p,_,Z,.inl (.inl Qf),Z,_,_,Z,_,_,Z,Z;generalize upd H2 p (.tup [.int ((i:Nat):Int),x])=H3 at S3 ms;clear S2 hp;have Br:=Dx.same S3;have eg:its.getD i Ic=(ov,yi):=by rw[List.getD_eq_getElem?_getD,eo];rfl
   have eu:(if ov=true then xc its i else i)=under its i:=by rw[kC,eg]
   dsimp only[QL,J9,Q4];refine Qhh (λσ' H4=>σ'=[some (.ref ia),some sv,some (.str st.1),some (EV st.2),some (.int (under its i:Nat)),some (.int (i:Nat)),some x]/\H4=H3) ?_ (λrest=>?_);rotate_left
   .cases ov with
    |true=>
     obtain⟨a,x2,rfl,g,_⟩:=U5 Br;rw[yai rfl]at eu;refine⟨_,Z,a,_,0,_,Z,Z,.inl g,Z,Z,false,by rfl',QO (rest _ _ ⟨by rw[<-eu];rfl,Z⟩)⟩
    |false=>
     rw[yah (by lia)]at eu;have D:ag H3 x yi.dv:=by rw[d5,yah (by lia)]at Br;exact Br
     obtain⟨a,xs,rfl,g⟩:=HX D;refine⟨_,Z,a,_,0,_,Z,Z,.inl g,Zo (j:=0) rfl,Z,true,by rw[jy];rfl,Q0 ⟨_,Z,rest _ _ ⟨by rw[<-eu];rfl,Z⟩⟩⟩
   rintro σ4 H4 ⟨rfl,rfl⟩;refine⟨_,Z,x,ov,yi,Z,Br,λu Du=>?_⟩;obtain⟨ua,uxs,rfl,gu⟩:=HX Du;exists ua,_,1,_,Z,Z,.inl gu,Zo (j:=1) rfl,_,Z,Z,_,Z
   by_cases Ig:i=j
   .subst Ig;obtain⟨rfl,rfl⟩:ov=o/\yi=y:=by
     have:=HA.at_;rw[eo]at this;have:=tP this;exact⟨yaE (·.1) this,yaE (·.2) this⟩
    rw[tN (by rw[HA.nm])];refine Q0 ?_;exists _,Z,_,Z,_,Z;refine dX.QfU (hi:=under its i) (ds:=cb its) ((ag.tup gi ti).same S3) λv5 H5 S5 D5=>?_;have et:(cb its).take (under its i)=cb (its.take (under its i)):=by rw[ZN,ZN,yeA]
    rw[et]at D5;refine⟨v5,its.take (under its i),Z,D5,yao (xf _ _) hc,xg _ _ ao,λH6 S6=>?_⟩;have Ih:=S5.trans S6;refine⟨_,Z,x,ov,yi,Z,Br.same Ih,λu7 Du7=>⟨_,Z,u7,yi,st.2,n,Z,Du7,⟨?_,?_⟩,HA.ah,λH8 S8=>?_⟩⟩
    .have:=ye eo;rw[iw]at this;lia
    .have:=Ym ao eo;rw[iz]at this;exact this
    refine⟨_,_,Z,Z,_,Z,x,ov,yi,Z,(Br.same Ih).same S8,λu9 Du9=>⟨bF,λp10 Ii=>?_⟩⟩;have sA:=Qn.new (o:=.tup [.int (((aH (its.take (under its i)):Nat):Int)+((n:Nat):Int)),u9]) Ii;refine k _ u9 _ ((S3.trans Ih).trans (S8.trans sA)) ?_ (Du9.same sA);rw[Qf]
    congr 3
   .have sw:yi.name≠st.1:=HA.no i (ov,yi) (by lia) eo;rw[tM (λz=>sw (V.str.inj z))];exact QO ⟨some (.int (i:Nat)),some x,Z,ms,by lia⟩
 .rintro σ H2 ⟨y5,y6,rfl,S2,FH⟩;lia
inductive Res:List (Bool × Ly)->List Step->Nat->Ly->Prop where
 |one {its:List (Bool × Ly)} {st:Step} {j:Nat} {o:Bool} {y:Ly} {n:Nat} (h:fq its st j o y n):Res its [st] (aH (its.take (under its j))+n) y
 |aN {its bv:List (Bool × Ly)} {st Do:Step} {ss:List Step} {j:Nat} {o:Bool} {nm:Str} {n m:Nat} {y:Ly} (h:fq its st j o (.aN nm bv) n) (r:Res bv (Do::ss) m y):Res its (st::Do::ss) (aH (its.take (under its j))+n+m) y
 |tab {its bv:List (Bool × Ly)} {st Do:Step} {ss:List Step} {j k:Nat} {o:Bool} {nm:Str} {n m:Nat} {y:Ly} (h:fq its st j o (.tab nm k bv) n) (r:Res bv (Do::ss) m y):Res its (st::Do::ss) (aH (its.take (under its j))+n+m) y
noncomputable def Jz(ss:List Step):Dv:=.tup (ss.map WY)
def Res.ne{ss:List Step}(h:Res its ss n y):ss≠[]:=by cases h<;>exact λz=>nomatch z
structure bD(its:List (Bool × Ly)):Prop where
 cn:cF its<=10000
 ok:bK its
theorem bD.aN{its bv:List (Bool × Ly)}{j:Nat}{nm:Str}(h:bD its)(e:its[j]? =some (o,.aN nm bv)):bD bv:=by
 have h1:=ye e;have h2:=Ym h.ok e;have h3:=h.cn;rw[iw,Ly.cn]at h1;rw[iz,Ly.dk]at h2;exact⟨by lia,h2⟩
theorem bD.tab{its bv:List (Bool × Ly)}{j k:Nat}{o:Bool}{nm:Str}(h:bD its)(e:its[j]? =some (o,.tab nm k bv)):bD bv:=by
 have h1:=ye e;have h2:=Ym h.ok e;have h3:=h.cn;rw[iw,Ly.cn]at h1;rw[iz,Ly.dk]at h2;exact⟨by lia,h2.2⟩
inductive bZ (vs:List V) (H:Hp) (Q:VK) (ap:XK):Prop
 |mk (iv wv:V) (its:List (Bool × Ly)) (ss:List Step) (n:Nat) (y:Ly):vs=[iv,wv]->ag H iv (.tup (cb its))->ag H wv (Jz ss)->bD its->Res its ss n y->ss.length<=1000->(∀q u H',Qn H H'->H' q=some (.tup [.int (n:Nat),u])->ag H' u y.dv->Q (.ref q) H')->bZ vs H Q ap
def Qa8(F:az K "found" "found" UJ f fd)(O:Own mg)(OT:mg "tuple"=none)(KT:lZ K)(T:Txt K mg tk c kr)(pS:Def P w K mg Y 10 "item_at" ["items","step"] bY):Zz1 P w K mg Y 11 f fd ["layout","path"] bZ:=by
 refine cT F Zz (by nofun) λam A L s H vs Q E hr h=>?_
 obtain⟨iv,wv,its,ss,n,y,rfl,DI,DW,hb,HR,hl,k⟩:=h;have fr:=Jf (P:=P) (w:=w) (K:=K) (mg:=mg) (Y:=Y) (N:=["layout","path","start","items","item","step","ahead"]) (qual:="found") (scope:=Qe UJ) (f:=f) (cd:=am) (A:=A) (L:=L) (s:=s) (H:=H) (E:=E);have ht:=Jo fr;have hx:=QG fr;have hz:100000<=sizeLine:=by rw[yaF];lia
 refine⟨_,(Qd (QN (PW.pt (ZP (KS (XT (Qw Wg Z O.sU ydi (Qv (pv 1) (Qv (Vu (v:=V.ty "tuple") Z OT boot_tuple Z) Qb))))) (JV (Ql Jl (Qw QI Z O.len ybg (Qv (pv 1) Qb)) Qj (Qq _))))) (Qg (JD ht Z Z T.rl T.rn (Qv Qk Qb))) Qu)
  (Qd (Qt (i:=2) Zz.nd Z Zz0 Qj)
  (Qd (Qt (i:=3) Zz.nd Z Zz0 (pv 0))
  (Qd (Qt (i:=4) Zz.nd Z Zz0 Zt)
  (Qd (ZR UA Z (qC (pv 1)) (Qi (i:=5) Zz.nd Z Zz0) (Qd (QW (pS.pq hr hx (Qv (pv 3) (Qv (pv 5) Qb))) (QM Z (Qh (Qi (i:=6) Zz.nd Z Zz0) (Qh (Qi (i:=4) Zz.nd Z Zz0) Qy))))
  (Qd (KU (i:=2) Zz.nd Z Zz0 (pv 6) W6)
  (Qg (Qt (i:=3) Zz.nd Z Zz0 (Jh (Ql Jl (QB QD (pv 4) Qj (λ_ _=>rfl)) Qk (Qq _)) (Qs Qb) (QB QD (pv 4) (KZ ZS Qj) (λ_ _=>rfl))))))))
  (Qg (Qp (Qs (Qv (pv 2) (Qv (pv 4) Qb)))))))))),?_⟩
 obtain⟨wa,wx,rfl,gw,tw⟩:=ag.YX (show ag H wv (.tup (ss.map WY))from DW);have NZ:=tw.length;rw[tL]at NZ;have hss:=HR.ne;refine⟨_,Z,_,_,true,Z,Z,.inl ⟨_,DW.ty,KT.tt⟩,_,Z,QO ?_⟩;refine⟨_,Z,wa,_,Z,.inr (.inl (.inl gw)),Z,false,?_,QO ?_⟩
 .show V.bl (decide (V.int ((wx.length:Nat):Int)=V.int 0))=_;rw[tM (λz=>by injection z with z;exact hss (ybA (by lia)))]
 dsimp only[QL,J9,Za,Q4];exists _,Z;exists _,Z,wa,Z,⟨_,.inl (.inl gw)⟩;refine WJ (M0 (K:=K) (a:=wa) (xs:=wx)) (λi σ H2=>∃(s0:Nat)(cur:V)(it:V)(y5 y6:Option V),σ=[some iv,some (.ref wa),some (.int (s0:Nat)),some cur,some it,y5,y6]/\Qn H H2/\((ss.drop i=[]/\s0=n/\ag H2 it y.dv)\/∃(bv:List (Bool × Ly))(m:Nat),ag H2 cur (.tup (cb bv))/\bD bv/\Res bv (ss.drop i) m y/\s0+m=n)) ⟨0,iv,.aq,none,none,Z,Qn.refl _,.inr ⟨its,n,DI,hb,by rw[ybF];exact HR,yci _⟩⟩ ?_ ?_ ?_
 .rintro i σ H2 _ ⟨s0,cur,it,y5,y6,rfl,S2,_⟩;exact .inl (.inl (S2 _ _ gw))
 .rintro i x σ N0 H2 hi ⟨s0,cur,it,y5,y6,rfl,S2,ul⟩ ⟨rfl,BT⟩;obtain⟨d,hd,Dx⟩:=tw.j6 BT;have FS:i<ss.length:=by lia
  have iM:ss.drop i=ss[i]::ss.drop (i+1):=yaH FS;have ed:d=WY ss[i]:=by
   rw[lh,yad FS]at hd;exact(tP hd).symm
  subst ed;rcases ul with⟨h1,_⟩|⟨bv,m,Dc,EX,fu,hsum⟩
  .rw[iM]at h1;cases h1
  rw[iM]at fu;generalize ss[i]=st at fu Dx;generalize hgo:ss.drop (i+1)=rest at fu;dsimp only[QL,J9,Za,Q4];obtain⟨j,o,y1,n1,HA,De⟩:∃(j:Nat)(o:Bool)(y1:Ly)(n1:Nat),fq bv st j o y1 n1/\((rest=[]/\y1=y/\aH (bv.take (under bv j))+n1=m)\/∃(nm:Str)(l4:List (Bool × Ly))(m2:Nat),(y1=.aN nm l4\/∃k2,y1=.tab nm k2 l4)/\bD l4/\Res l4 rest m2 y/\aH (bv.take (under bv j))+n1+m2=m):=by
   cases fu with
   |one h=>exact⟨_,_,_,_,h,.inl ⟨Z,Z,Z⟩⟩
   |aN h r=>exact⟨_,_,_,_,h,.inr ⟨_,_,_,.inl rfl,EX.aN h.at_,r,Z⟩⟩
   |tab h r=>exact⟨_,_,_,_,h,.inr ⟨_,_,_,.inr ⟨_,Z⟩,EX.tab h.at_,r,Z⟩⟩
  refine⟨_,Z,_,Z,cur,x,bv,st,j,o,y1,n1,Z,Dc,Dx.same S2,EX.cn,EX.ok,HA,λq u H3 S3 g3 Du=>?_⟩;exists q,_,Z,.inl (.inl g3),Z,_,_,Z,_,_,Z,Z;dsimp only[QL,J9,Za,Q4];exists _,Z,_,Z,_,_,Z,Z;have es:((s0:Nat):Int)+((aH (bv.take (under bv j))+n1:Nat):Int)=((s0+(aH (bv.take (under bv j))+n1):Nat):Int):=by push_cast;rfl
  dsimp only;rw[es];rcases De with⟨rfl,rfl,hm⟩|⟨nm,l4,m2,hy,Fr,ic,hm⟩
  .
   cases y1 with
   |box nm p=>
    obtain⟨a,rfl,g⟩:=Yo Du;refine⟨_,Z,a,_,0,_,Z,Z,.inl g,Z,Z,true,Z,Q0 ⟨Am,λp4 ip=>?_⟩⟩;exact⟨_,_,_,_,_,Z,(S2.trans S3).trans (Qn.new ip),.inl ⟨Z,by lia,Du.same (Qn.new ip)⟩⟩
   |aN nm l4=>
    obtain⟨a,x2,rfl,g,D2⟩:=Kw Du;refine⟨_,Z,a,_,0,_,Z,Z,.inl g,Z,Z,false,by rw[Bp],QO ⟨_,Z,_,Z,a,_,_,_,Z,Z,.inl g,Z,?_⟩⟩;exact⟨_,_,_,_,_,Z,S2.trans S3,.inl ⟨Z,by lia,Du⟩⟩
   |tab nm k2 l4=>
    obtain⟨a,x2,rfl,g,D2⟩:=Vc Du;refine⟨_,Z,a,_,0,_,Z,Z,.inl g,Z,Z,false,by rw[Bq],QO ⟨_,Z,_,Z,a,_,_,_,Z,Z,.inl g,Z,?_⟩⟩;exact⟨_,_,_,_,_,Z,S2.trans S3,.inl ⟨Z,by lia,Du⟩⟩
  .rcases hy with rfl|⟨k2,rfl⟩
   .obtain⟨a,x2,rfl,g,D2⟩:=Kw Du;refine⟨_,Z,a,_,0,_,Z,Z,.inl g,Z,Z,false,by rw[Bp],QO ⟨_,Z,_,Z,a,_,_,_,Z,Z,.inl g,Z,?_⟩⟩;exact⟨_,_,_,_,_,Z,S2.trans S3,.inr ⟨l4,m2,D2,Fr,ic,by lia⟩⟩
   .obtain⟨a,x2,rfl,g,D2⟩:=Vc Du;refine⟨_,Z,a,_,0,_,Z,Z,.inl g,Z,Z,false,by rw[Bq],QO ⟨_,Z,_,Z,a,_,_,_,Z,Z,.inl g,Z,?_⟩⟩;exact⟨_,_,_,_,_,Z,S2.trans S3,.inr ⟨l4,m2,D2,Fr,ic,by lia⟩⟩
 .rintro σ H2 ⟨s0,cur,it,y5,y6,rfl,S2,ul⟩;rw[NZ,ybO]at ul;rcases ul with⟨_,rfl,Dit⟩|⟨bv,m,_,_,fu,_⟩
  .refine⟨_,Z,_,Z,bF,λp hp=>?_⟩;exact k _ _ _ (S2.trans (Qn.new hp)) Qf (Dit.same (Qn.new hp))
  .exact absurd rfl fu.ne
noncomputable def Jm:Ly->Nat
 | .box _ p=>aX p
 | .aN _ its=>aH its
 | .tab _ _ its=>aH its
noncomputable def U8:Ly->Dv
 | .box _ p=>.str (YI p)
 |_=>.aq
noncomputable def N1(n:Nat)(y:Ly):Dv:=.tup [.int (n:Nat),.int (Jm y:Nat),U8 y]
def Res.bd{ss:List Step}(h:Res its ss n y):bD its->y.cnt:=by
 induction h with
 |one h=>
  intro hb;have h1:=ye h.at_;have h2:=Ym hb.ok h.at_;have h3:=hb.cn;rw[iw]at h1;rw[iz]at h2;exact⟨by lia,h2⟩
 |aN h r ih=>exact λhb=>ih (hb.aN h.at_)
 |tab h r ih=>exact λhb=>ih (hb.tab h.at_)
inductive aD (vs:List V) (H:Hp) (Q:VK) (ap:XK):Prop
 |mk (iv wv:V) (its:List (Bool × Ly)) (ss:List Step) (n:Nat) (y:Ly):vs=[iv,wv]->ag H iv (.tup (cb its))->ag H wv (Jz ss)->bD its->Res its ss n y->ss.length<=1000->(∀u H',Qn H H'->ag H' u (N1 n y)->Q u H')->aD vs H Q ap
def Qa9(F:az K "where" "where" zd f fd)(nj:Def P w K mg Y 11 "found" ["layout","path"] bZ)(gr:Def P w K mg Y 7 "size_of" ["picture"] bJ)(gz:Def P w K mg Y 8 "signs_in" ["layout"] bz):Zz1 P w K mg Y 12 f fd ["layout","path"] aD:=by
 refine yC F UI (by nofun) λam A L s H vs Q E hr h=>?_
 obtain⟨iv,wv,its,ss,n,y,rfl,DI,DW,hb,HR,hl,k⟩:=h;have hz:100000<=sizeLine:=by rw[yaF];lia
 obtain⟨EW,ao⟩:=HR.bd hb;refine⟨_,(QC (dP.mk (QW (nj.pq hr Qr (Qv (pv 0) (Qv (pv 1) Qb))) (QM Z (Qh (Qi (i:=2) UI.nd Z Zz0) (Qh (Qi (i:=3) UI.nd Z Zz0) Qy)))))
  (QC (M6 (Ql Jl (QB QD (pv 3) Qj (λ_ _=>rfl)) Qk (Qq _)) (Jb (Jq (X0 (JP (aA.mk (pv 2)) (JP (aA.mk (gr.pq hr Qr (Qv (QB QD (pv 3) Qj (λ_ _=>rfl)) Qb))) (JP (aA.mk (QB QD (pv 3) Qj (λ_ _=>rfl))) JB Z) Z) Z)))) ZH)
  (Jb (Jq (X0 (JP (aA.mk (pv 2)) (JP (aA.mk (gz.pq hr Qr (Qv (QB QD (pv 3) (KZ ZS Qj) (λ_ _=>rfl)) Qb))) (JP (aA.mk Zt) JB Z) Z) Z)))))),?_⟩
 refine⟨_,Z,_,Z,iv,wv,its,ss,n,y,Z,DI,DW,hb,HR,hl,λq u H1 S1 g1 Du=>?_⟩;exists q,_,Z,.inl (.inl g1),Z,_,_,Z,_,_,Z,Z;dsimp only[QL,J9,Za,Q4];cases y with
 |box nm p=>
  obtain⟨a,rfl,g⟩:=Yo Du;obtain⟨pa,pl,px,ep,hp,es⟩:=Vp p;refine⟨_,Z,a,_,0,_,Z,Z,.inl g,Z,Z,true,Z,Q0 ?_⟩;refine⟨_,Z,_,Z,a,_,2,_,Z,Z,.inl g,Z,pa,pl,px,(by rw[ep];rfl),hp,λH2 S2=>?_⟩;rw[es];refine⟨_,Z,a,_,2,_,Z,Z,.inl (S2 _ _ g),Z,CK,λp3 iN=>?_⟩;exact k _ _ ((S1.trans S2).trans (Qn.new iN)) (.tup Qf (.cons .int (.cons .int (.cons .str .nil))))
 |aN nm bv=>
  obtain⟨a,x,rfl,g,D2⟩:=Kw Du;rw[Ly.cn]at EW;rw[Ly.dk]at ao;refine⟨_,Z,a,_,0,_,Z,Z,.inl g,Z,Z,false,by rw[Bp],QO ?_⟩;refine⟨_,Z,_,Z,_,Z,a,_,_,_,Z,Z,.inl g,Z,x,bv,Z,D2,by lia,ao,λH2 S2=>⟨CK,λp3 iN=>?_⟩⟩;exact k _ _ ((S1.trans S2).trans (Qn.new iN)) (.tup Qf (.cons .int (.cons .int (.cons .aq .nil))))
 |tab nm k2 bv=>
  obtain⟨a,x,rfl,g,D2⟩:=Vc Du;rw[Ly.cn]at EW;rw[Ly.dk]at ao;refine⟨_,Z,a,_,0,_,Z,Z,.inl g,Z,Z,false,by rw[Bq],QO ?_⟩;refine⟨_,Z,_,Z,_,Z,a,_,_,_,Z,Z,.inl g,Z,x,bv,Z,D2,by lia,ao.2,λH2 S2=>⟨CK,λp3 iN=>?_⟩⟩;exact k _ _ ((S1.trans S2).trans (Qn.new iN)) (.tup Qf (.cons .int (.cons .int (.cons .aq .nil))))
mutual
noncomputable def Ly.bx:Ly->List Step->List (List Step)
 | .box nm _,pre=>[pre++[(nm,none)]]
 | .aN nm its,pre=>bA its (pre++[(nm,none)])
 | .tab _ _ _,_=>[]
noncomputable def bA:List (Bool × Ly)->List Step->List (List Step)
 |[],_=>[]
 |x::xs,pre=>Ij x pre++bA xs pre
noncomputable def Ij:Bool × Ly->List Step->List (List Step)
 |(_,y),pre=>y.bx pre
end
mutual
noncomputable def Ly.wt:Ly->Nat
 | .box _ _=>1
 | .aN _ its=>1+aY its
 | .tab _ k its=>1+k*aY its
noncomputable def aY:List (Bool × Ly)->Nat
 |[]=>0
 |x::xs=>Bs x+aY xs
noncomputable def Bs:Bool × Ly->Nat
 |(_,y)=>y.wt
end
def Ly.xh(y:Ly):1<=y.wt:=by cases y<;>rw[Ly.wt]<;>lia
theorem KQ:∀its:List (Bool × Ly),its.length<=aY its
 |[]=>lG _
 |(o,y)::xs=>by
  have:=KQ xs;have:=y.xh;rw[tR,aY,Bs];lia
noncomputable abbrev Pt:=List Step × Ly
noncomputable def l9(x:Pt):Dv:=.tup [Jz x.1,x.2.dv]
noncomputable def dR:List Pt->Nat
 |[]=>0
 |x::xs=>x.2.wt+dR xs
theorem U9:∀a b,dR (a++b)=dR a+dR b
 |[],b=>by rw[lA,dR];lia
 |x::a,b=>by rw[lz,dR,dR,U9 a b];lia
theorem yf:∀st,st.length<=dR st
 |[]=>lG _
 |x::xs=>by
  have:=yf xs;have:=x.2.xh;rw[tR,dR];lia
noncomputable def iR(st:List Pt):List (List Step):=st.reverse.flatMap λx=>x.2.bx x.1
def yg(a b:List Pt):iR (a++b)=iR b++iR a:=by unfold iR;rw[ycT,List.flatMap_append]
noncomputable def er(pre:List Step)(its:List (Bool × Ly)):List Pt:=(its.map λx=>(pre,x.2)).reverse
theorem Ik(pre:List Step):∀its:List (Bool × Ly),iR (er pre its)=bA its pre
 |[]=>rfl
 |(o,y)::xs=>by
  have ih:=Ik pre xs;unfold iR er at ih ⊢;rw[ydF]at ih ⊢;rw[lD,List.flatMap_cons,ih,bA,Ij]
def N2(pre:List Step)(its:List (Bool × Ly)):dR (er pre its)=aY its:=by
 have rev:∀l:List Pt,dR l.reverse=dR l:=by
  intro l
  induction l with
  |nil=>rfl
  |cons x xs ih=>
   rw[ybI,U9,ih];simp only[dR];lia
 unfold er;rw[rev]
 induction its with
 |nil=>rfl
 |cons x xs ih=>
  obtain⟨o,y⟩:=x;rw[lD,dR,ih,aY,Bs]
def N3(pre:List Step)(its:List (Bool × Ly)):(its.map λx=>pairD (Jz pre) x.2).reverse=(er pre its).map l9:=by
 unfold er;rw[<-ycQ, <-ycQ,lC];rfl
def N4{xs ys:List V}{ds es:List Dv}(ga:H a=some (.tup xs))(gb:H b=some (.tup ys))(ta:aj H xs ds)(tb:aj H ys es)(hl:xs.length+ys.length<=sizeLine)(k:∀u H',Qn H H'->ag H' u (.tup (ds++es))->Q u H'):bP (.ref a) (.ref b) H Q:=by
 refine⟨a,b,xs,ys,Z,Z,.inl ga,.inl gb,hl,λz=>?_,λ_ z=>?_,λ_ _ p hp=>?_⟩
 .subst z;cases ta;exact k _ _ (Qn.refl _) (.tup gb tb)
 .subst z;cases tb;rw[lB]at k;exact k _ _ (Qn.refl _) (.tup ga ta)
 .exact k _ _ (Qn.new hp) (QaC (ta.append tb) hp)
structure bq(Hb H:Hp)(a1 a2:Addr)(x1 x2:List V)(d1 d2:List Dv):Prop where
 S:Qn Hb H
 f1:Hb a1=none
 f2:Hb a2=none
 Df:a1≠a2
 g1:H a1=some (.lst x1)
 g2:H a2=some (.lst x2)
 t1:aj H x1 d1
 t2:aj H x2 d2
def Y6:∀zs:List V,(HO.lst x)≠ .tup zs:=λzs z=>nomatch z
theorem bq.same{a1 a2:Addr}{x1 x2:List V}{d1 d2:List Dv}(B:bq Hb H a1 a2 x1 x2 d1 d2)(S:Qn H H'):bq Hb H' a1 a2 x1 x2 d1 d2:=⟨B.S.trans S,B.f1,B.f2,B.Df,S _ _ B.g1,S _ _ B.g2,B.t1.same S,B.t2.same S⟩
def bq.N5{a1 a2:Addr}{d1 d2 d:List Dv}(B:bq Hb H a1 a2 x1 x2 d1 d2)(t:aj H x d):bq Hb (upd H a1 (.lst x)) a1 a2 x x2 d d2:=⟨U4 B.S B.f1,B.f1,B.f2,B.Df,Qf,by rw[Qo B.Df.symm];exact B.g2,t.xX B.g1 Y6,B.t2.xX B.g1 Y6⟩
def bq.put2{a1 a2:Addr}{d1 d2 d:List Dv}(B:bq Hb H a1 a2 x1 x2 d1 d2)(t:aj H x d):bq Hb (upd H a2 (.lst x)) a1 a2 x1 x d1 d:=⟨U4 B.S B.f2,B.f1,B.f2,B.Df,by rw[Qo B.Df];exact B.g1,Qf,B.t1.xX B.g2 Y6,t.xX B.g2 Y6⟩
def jz{pre:List Step}{st:Step}:(pre.map WY)++[WY st]=(pre++[st]).map WY:=by rw[lr];rfl
theorem N6:∀{its:List (Bool × Ly)}{x:Bool × Ly},x∈its->x.2.wt<=aY its
 |[],_,h=>nomatch h
 |(o,y)::ys,x,h=>by
  rcases yak.mp h with rfl|h
  .rw[aY,Bs];show y.wt<=_;lia
  .have:=N6 (its:=ys) h;rw[aY];lia
def qa(h:bK its)(hx:x∈its):x.2.dk:=by
 obtain⟨j,hj⟩:=ybS.mp hx;have:=Ym h hj;obtain⟨o,y⟩:=x;rw[iz]at this;exact this
def Dg(e:Pt):Prop:=e.2.dk/\e.1.length+e.2.wt<=10000
def N7{pre:List Step}(h:bK its)(hl:pre.length+aY its<=10000):∀e∈er pre its,Dg e:=by
 intro e he;unfold er at he;obtain⟨x,hx,rfl⟩:=yaZ.mp (ydz.mp he);have:=N6 hx;exact⟨qa h hx,by show pre.length+x.2.wt<=10000;lia⟩
inductive cJ (vs:List V) (H:Hp) (Q:VK) (ap:XK):Prop
 |mk (iv:V) (its:List (Bool × Ly)):vs=[iv,.bl false]->ag H iv (.tup (cb its))->aY its<=10000->bK its->(∀q xs H',Qn H H'->H' q=some (.lst xs)->aj H' xs ((bA its []).map Jz)->Q (.ref q) H')->cJ vs H Q ap
def W0(F:az K "paths_of_boxes" "paths_of_boxes" Zr f fd)(O:Own mg)(gS:Def P w K mg Y 2 "last_first" ["path","items"] dJ):Zz1 P w K mg Y 3 f fd ["items","with_tables"] cJ:=by
 refine yC F Ja (by nofun) λam A L s H vs Q E hr h=>?_
 obtain⟨iv,its,rfl,DI,hw,ao,k⟩:=h;have hz:100000<=sizeLine:=by rw[yaF];lia
 refine⟨_,(QC (JL (i:=2) Ja.nd Z Zz0 (jX JB) Z Z)
  (QC (JL (i:=3) Ja.nd Z Zz0 (aA.mk (gS.pq hr Qr (Qv (Qs Qb) (Qv (pv 0) Qb)))) Z Z)
  (QC (dP.mk (Xl yaz (Jd (pv 3) (λ_=>rfl)) (Qd (QW (zD yaA yeC yeD zF (pv 3)) (QM Z (Qh (Qi (i:=4) Ja.nd Z Zz0) (Qh (Qi (i:=5) Ja.nd Z Zz0) Qy))))
  (Qg (QN (Ql Jl (QB QD (pv 5) Qj (λ_ _=>rfl)) Qk (Qq _)) (Qg (Q6 (JN yaA yaB yaC JO (pv 2) (Qv (QF VX (pv 4) (Qs (Qv (QB QD (pv 5) Qj (λ_ _=>rfl)) Qb))) Qb)))) (Qg (QN (Ql Jl (QB QD (pv 5) Qj (λ_ _=>rfl)) Qk (Qq _)) (Qg (Q6 (JN yaA ydA ydB Wc (pv 3) (Qv (gS.pq hr Qr (Qv (QF VX (pv 4) (Qs (Qv (QB QD (pv 5) Qj (λ_ _=>rfl)) Qb))) (Qv (QB QD (pv 5) Qj (λ_ _=>rfl)) Qb))) Qb)))) (Qg (QN (Jd (pv 1) (λ_=>rfl)) (Qg (ZR yaz Z (QcP Z O.reversed Z O.range (Qv (QB QD (pv 5) Qj (λ_ _=>rfl)) Qb) Z) (Qi (i:=6) Ja.nd Z Zz0) (Qg (Q6 (JN yaA ydA ydB Wc (pv 3) (Qv (gS.pq hr Qr (Qv (QF VX (pv 4) (Qs (Qv (Qs (Qv (QB QD (pv 5) Qj (λ_ _=>rfl)) (Qv (pv 6) Qb))) Qb))) (Qv (QB QD (pv 5) Qj (λ_ _=>rfl)) Qb))) Qb)))))) Qu)))))))))
  (Jb (Jq (aA.mk (pv 2))))))),?_⟩
 dsimp only[QL,J9,Za,Q4];refine⟨Am,λpa fH=>?_⟩;have S1:=Qn.new (o:=.lst []) fH;have g1:upd H pa (.lst []) pa=some (.lst []):=Qf;generalize upd H pa (.lst [])=H1 at S1 g1;refine⟨Am,λe0 EK=>?_⟩;have S2:=Qn.new (o:=.tup []) EK;refine⟨_,Z,.ref e0,iv,Jz [],its,Z,.tup Qf .nil,(DI.same S1).same S2,yao (KQ its) hw,λlf xs H3 S3 LT gl tl=>?_⟩;rw[N3]at tl;have ms:=S2.trans S3;have T3:bq H H3 pa lf [] xs [] ((er [] its).map l9):=by
  refine⟨S1.trans ms,fH,?_,?_,ms _ _ g1,gl,.nil,tl⟩
  .cases e:H lf with
   |none=>rfl
   |some o=>rw[S2 _ _ (S1 _ _ e)]at LT;cases LT
  .intro z;rw[<-z,S2 _ _ g1]at LT;cases LT
 clear S1 g1 S2 S3 ms LT gl tl EK fH;have hB:([]:List (List Step))++iR (er [] its)=bA its []:=by rw[Ik];rfl
 have hW:dR (er [] its)<=10000:=by rw[N2];exact hw
 have hO:∀e∈er [] its,Dg e:=N7 ao (by simpa using hw);generalize er [] its=pr at T3 hB hW hO;refine⟨λm σ H4=>∃(x1 x2:List V)(acc:List (List Step))(st:List Pt)(y4 y5 y6:Option V),σ=[some iv,some (.bl false),some (.ref pa),some (.ref lf),y4,y5,y6]/\bq H H4 pa lf x1 x2 (acc.map Jz) (st.map l9)/\acc++iR st=bA its []/\dR st<=m/\acc.length+m<=10000/\∀e∈st,Dg e,⟨10000,[],xs,[],pr,none,none,none,Z,T3,hB,hW,by simp,hO⟩,?_⟩;clear T3 hB hW hO;rintro m σ H4 ⟨x1,x2,acc,st,y4,y5,y6,rfl,T4,hB,hW,hm,hO⟩;have l1:=T4.t1.length;have l2:=T4.t2.length;rw[tL]at l1 l2;rcases ybi st with rfl|⟨pr,e0,rfl⟩
 .have e:x2=[]:=ybA (by simpa using l2);subst e;refine⟨_,Z,false,.inl ⟨_,.inl (.inl T4.g2),Z⟩,QO ⟨_,Z,?_⟩⟩;have hB:acc++[]=bA its []:=hB;rw[lB]at hB;rw[<-hB]at k;exact k _ _ _ T4.S T4.g1 T4.t1
 rw[yaU]at T4 hB hW l2 hO;obtain⟨pre,y⟩:=e0;rw[yg]at hB;rw[U9]at hW;have hB:acc++(y.bx pre++[]++iR pr)=bA its []:=hB;rw[lB]at hB;have hW:dR pr+(y.wt+0)<=m:=hW;obtain⟨l',N8⟩:y.dk/\pre.length+y.wt<=10000:=hO _ (tT _ tX);have sC:∀e∈pr,Dg e:=λe he=>hO e (tU _ he);have hyw:=y.xh;have Il:=yf pr;rw[lr]at T4;obtain⟨cr,xl,rfl,t1,Dl⟩:∃cr xl,x2=cr++[xl]/\aj H4 cr (pr.map l9)/\ag H4 xl (l9 (pre,y)):=by
  rcases ybi x2 with rfl|⟨cr,xl,rfl⟩
  .simp at l2
  .rw[yaU]at T4 ⊢;have l0:cr.length=(pr.map l9).length:=by
    have:=T4.t2.length;rw[tK,tK]at this;simpa using this
   have ht:=T4.t2.take cr.length;have hd:=T4.t2.drop cr.length;rw[ycw rfl,l0,ycw rfl]at ht;rw[ycx rfl,l0,ycx rfl]at hd;cases hd with
   |cons h t=>exact⟨cr,xl,Z,ht,h⟩
 refine⟨_,Z,true,.inl ⟨_,.inl (.inl T4.g2),by simp⟩,Q0 ?_⟩;refine⟨λσ' H'=>∃m',m'<m/\∃(x1 x2:List V)(acc:List (List Step))(st:List Pt)(y4 y5 y6:Option V),σ'=[some iv,some (.bl false),some (.ref pa),some (.ref lf),y4,y5,y6]/\bq H H' pa lf x1 x2 (acc.map Jz) (st.map l9)/\acc++iR st=bA its []/\dR st<=m'/\acc.length+m'<=10000/\∀e∈st,Dg e,λ_ _ h=>h,?_⟩;exists _,Z,.inl ⟨Z,_,.inl (.inl T4.g2)⟩;refine⟨lf,_,xl,Z,Z,T4.g2,by simp,?_⟩;have T5:bq H (upd H4 lf (.lst (cr++[xl]).dropLast)) pa lf x1 cr (acc.map Jz) (pr.map l9):=by
  rw[yca];exact T4.put2 t1
 have N9:=Dl.xX (o':=.lst (cr++[xl]).dropLast) T4.g2 Y6;generalize upd H4 lf (.lst (cr++[xl]).dropLast)=H5 at T5 N9;clear T4 Dl t1 l2;obtain⟨pb,px,rfl,gp,tp⟩:=ag.YX (show ag H5 xl (.tup [Jz pre,y.dv])from N9);obtain⟨vp,vy,rfl,DP,DY⟩:∃vp vy,px=[vp,vy]/\ag H5 vp (.tup (pre.map WY))/\ag H5 vy y.dv:=by
  cases tp with
  |cons p1 t=>cases t with
   |cons p2 t=>cases t;exact⟨_,_,Z,p1,p2⟩
 exists pb,_,Z,.inl (.inl gp),Z,_,_,Z,_,_,Z,Z;obtain⟨va,vx,rfl,gv,tv⟩:=ag.YX DP;have lvx:=tv.length;rw[tL]at lvx;dsimp only[QL,J9,Za,Q4];cases y with
 |box nm p=>
  obtain⟨a,rfl,g⟩:=Yo DY;refine⟨_,Z,a,_,0,_,Z,Z,.inl g,Z,Z,true,Z,Q0 ?_⟩;exists _,Z,.inl ⟨Z,_,.inl (.inl T5.g1)⟩;refine⟨_,Z,_,Z,a,_,1,_,Z,Z,.inl g,Z,iL,λp6 Bt=>?_⟩;have S6:=Qn.new (o:=.tup [.str nm]) Bt;refine N4 (S6 _ _ gv) Qf (tv.same S6) (ds:=pre.map WY) (es:=[WY (nm,none)]) (.cons .str .nil) (by show vx.length+1<=sizeLine;lia) λu7 H7 S7 D7=>?_;rw[jz]at D7;have T7:=(T5.same S6).same S7;refine⟨pa,x1,u7,Z,Z,T7.g1,by lia,?_⟩;rw[Ly.wt]at hW;rw[Ly.bx]at hB;refine⟨m-1,by lia,x1++[u7],cr,acc++[pre++[(nm,none)]],pr,_,_,_,Z,?_,by rw[lu];exact hB,by lia,by rw[tK,tQ];lia,sC⟩;rw[lr];exact T7.N5 (T7.t1.append (.cons D7 .nil))
 |aN nm bv=>
  obtain⟨a,x3,rfl,g,D3⟩:=Kw DY;rw[Ly.wt]at hW N8;rw[Ly.bx]at hB;rw[Ly.dk]at l';have hlen:=KQ bv;refine⟨_,Z,a,_,0,_,Z,Z,.inl g,Z,Z,false,by rw[Bp],QO ?_⟩;refine⟨_,Z,a,_,0,_,Z,Z,.inl g,Z,Z,true,Z,Q0 ?_⟩;exists _,Z,.inl ⟨Z,_,.inl (.inl T5.g2)⟩;refine⟨_,Z,_,Z,a,_,1,_,Z,Z,.inl g,Z,iL,λp6 Bt=>?_⟩;have S6:=Qn.new (o:=.tup [.str nm]) Bt;refine N4 (S6 _ _ gv) Qf (tv.same S6) (ds:=pre.map WY) (es:=[WY (nm,none)]) (.cons .str .nil) (by show vx.length+1<=sizeLine;lia) λu7 H7 S7 D7=>?_;rw[jz]at D7;have Im:=S6.trans S7;refine⟨_,Z,a,_,2,_,Z,Z,.inl (Im _ _ g),Z,u7,x3,Jz (pre++[(nm,none)]),bv,Z,D7,D3.same Im,by lia,λq8 N' H8 S8 Bu g8 t8=>?_⟩;rw[N3]at t8;have T8:=(T5.same Im).same S8;have lx0:=T8.t2.length;rw[tL]at lx0;have lx8:=t8.length;have lp8:((er (pre++[(nm,none)]) bv).map l9).length=bv.length:=by unfold er;simp
  refine⟨lf,q8,cr,N',Z,Z,T8.g2,g8,by lia,?_⟩;refine⟨m-1,by lia,x1,cr++N',acc,pr++er (pre++[(nm,none)]) bv,_,_,_,Z,?_,?_,?_,by lia,?_⟩
  .rw[lr];exact T8.put2 (T8.t2.append t8)
  .rw[yg,Ik];exact hB
  .rw[U9,N2];lia
  .intro e he;rcases yat.mp he with he|he
   .exact sC e he
   .exact N7 l' (by rw[tK,tQ];lia) e he
 |tab nm k1 bv=>
  obtain⟨a,x3,rfl,g,D3⟩:=Vc DY;rw[Ly.wt]at hW N8;rw[Ly.bx]at hB;rw[Ly.dk]at l';have hlen:=KQ bv;refine⟨_,Z,a,_,0,_,Z,Z,.inl g,Z,Z,false,by rw[Bq],QO ?_⟩;refine⟨_,Z,a,_,0,_,Z,Z,.inl g,Z,Z,false,by rw[HY],QO ?_⟩;refine⟨_,Z,false,Z,QO ?_⟩;exact⟨m-1,by lia,x1,cr,acc,pr,_,_,_,Z,T5,hB,by lia,by lia,sC⟩
end
end Lw
namespace iu
open dB bL PySem.NumText
def Qdn(h:48<=d/\d<=57):([112,113,114,115,116,117,118,119,120,121]:List Nat).contains d=false:=by
 simp;lia
def Z3(s:Bool)(u o:Int)(h1:1<=a+b):kA s a b (cont s a b u o)/\(ZM s (cont s a b u o)=if s=true/\fit u o a b<0 then-((fit u o a b).natAbs:Int)else((fit u o a b).natAbs:Int))/\(cont s a b u o).length=a+b/\(s=false->AllDigits (cont s a b u o))/\(∀x∈cont s a b u o,x<128):=by
 have bi:=Y4 u o a b;unfold cont;generalize (fit u o a b).natAbs=n at bi;have hl:=Uy bi h1;have hd:=Ux n (a+b);have sw:=MF n (a+b);have hv:=wZ n (a+b);generalize pad n (a+b)=pl at hl hd sw hv;obtain⟨d,fW,hd2⟩:=WH sw;have mo:=hd d (by rw[fW];exact tT _ (yap.mpr Z))
 by_cases hc:s=true/\fit u o a b<0
 .rw[yai hc,yai hc];have e:UZ pl=pl.dropLast++[d+64]:=by unfold UZ;rw[hd2];rfl
  have GM:([112,113,114,115,116,117,118,119,120,121]:List Nat).contains (d+64)=true:=(by decide:∀d:Nat,d<58->48<=d->([112,113,114,115,116,117,118,119,120,121]:List Nat).contains (d+64)=true) d (Nat.lt_succ_of_le mo.2) mo.1
  have hb:XJ s (UZ pl)=true:=by
   unfold XJ;rw[e,ybD,hc.1];exact GM
  have hf:Zn s (UZ pl)=pl:=by
   unfold Zn;rw[yai hb,e,yca,ybD];show pl.dropLast++[d+64-64]=pl;rw[Nat.add_sub_cancel];exact fW.symm
  have o7:(UZ pl).length=a+b:=by
   rw[e,tK,ybX];simp;lia
  refine⟨⟨o7,by rw[hf];exact hd⟩,?_,o7,(λz=>by rw[z]at hc;exact absurd hc.1 (by lia)),λx hx=>?_⟩
  .unfold ZM;rw[yai hb,hf,hv]
  .rw[e]at hx;rcases yat.mp hx with hx|hx
   .have:=hd x (List.dropLast_subset _ hx);lia
   .have:=yap.mp hx;lia
 .rw[yah hc,yah hc];have hb:XJ s pl=false:=by
   unfold XJ;rw[hd2];show(s&&List.contains _ d)=false;rw[Qdn mo,yen]
  have hf:Zn s pl=pl:=by unfold Zn;rw[yah (by rw[hb];lia)]
  refine⟨⟨hl,by rw[hf];exact hd⟩,?_,hl,λ_=>hd,λx hx=>?_⟩
  .unfold ZM;rw[yah (by rw[hb];lia),hf,hv]
  .have:=hd x hx;lia
def yh(ho:o<=18)(hp:p<=18):u*10^(18-o)/10^(18-p)=u*10^p/10^o:=by
 have h1:u*10^(18-o)/10^(18-p)=(u*10^(18-o)*10^o)/(10^(18-p)*10^o):=(yeV _ _ (Nat.pow_pos (by lia))).symm;have h2:u*10^p/10^o=(u*10^p*10^(18-p))/(10^o*10^(18-p)):=(yeV _ _ (Nat.pow_pos (by lia))).symm;have e1:u*10^(18-o)*10^o=u*10^18:=by rw[yex, <-Nat.pow_add,show 18-o+o=18 by lia]
 have e2:u*10^p*10^(18-p)=u*10^18:=by rw[yex, <-Nat.pow_add,show p+(18-p)=18 by lia]
 rw[h1,h2,e1,e2,ybP (10^(18-p)) (10^o)]
def zo{k:Nat}:ay.aM (k:Int)=((10^k:Nat):Int):=by
 unfold ay.aM;rw[lI];push_cast;rfl
def Oa(u:Int){o p:Nat}(ho:o<=18)(hp:p<=18):ay.Xj u o p=if u<0 then-((u.natAbs*10^p/10^o:Nat):Int)else((u.natAbs*10^p/10^o:Nat):Int):=by
 rw[ay.SU (by lia) (by lia) (by lia) (by lia),ay.qX (ay.JC _) (ay.JC _)];have e1:ay.aM (18-(o:Int))=((10^(18-o):Nat):Int):=by
  rw[show(18-(o:Int))=((18-o:Nat):Int) by lia];exact zo
 have e2:ay.aM (18-(p:Int))=((10^(18-p):Nat):Int):=by
  rw[show(18-(p:Int))=((18-p:Nat):Int) by lia];exact zo
 have e3:ay.XW u=((u.natAbs:Nat):Int):=by unfold ay.XW;split<;>lia
 have e4:ay.XW u*ay.aM (18-(o:Int))/ay.aM (18-(p:Int))=((u.natAbs*10^p/10^o:Nat):Int):=by
  rw[e1,e2,e3, <-yh ho hp];push_cast;rfl
 rw[e4]
def yj(u:Int){o a b:Nat}(ho:o<=18)(hb:b<=18):(fit u o a b).natAbs=(u.natAbs*10^b/10^o) % 10^(a+b)/\(fit u o a b<0↔u<0/\(u.natAbs*10^b/10^o) % 10^(a+b)≠0):=by
 have hc:=Oa u ho hb;generalize u.natAbs*10^b/10^o=X at hc;have e:ay.aM ((a:Int)+b)=((10^(a+b):Nat):Int):=by
  rw[show(a:Int)+b=((a+b:Nat):Int) by lia];exact zo
 have ha:ay.XW (ay.Xj u o b)=(X:Int):=by
  rw[hc];unfold ay.XW
  split<;>split<;>lia
 have hm:(X:Int) % ((10^(a+b):Nat):Int)=((X % 10^(a+b):Nat):Int):=by push_cast;rfl
 unfold fit;rw[ha,e,hm];have bi:X % 10^(a+b)≠0->X≠0:=λh z=>h (by rw[z];exact Nat.zero_mod _);generalize X % 10^(a+b)=qYa at bi;rw[hc]
 by_cases hu:u<0
 .rw[yai hu]
  by_cases hX:X=0
  .have hY:qYa=0:=yep λz=>bi z hX;subst hX hY;exact⟨by simp,by simp⟩
  .rw[yai (by lia)];exact⟨by lia,by lia⟩
 .rw[yah hu,yah (by lia)];exact⟨by lia,by lia⟩
end iu
namespace Io
open dB bL iu fV PySem.NumText
end Io
namespace Lw
open PySem PySem.Spec PyProof.Rows L2 dB bL iu fV Io
open Builtin Builtin.Str StrLaws
section
variable {P:Program}{w:World}{K:Frag}{mg:Str->Option Value}{Y:Heap}{f:Addr}{fd:FuncData}{c:Nat->Addr}
def Wr{v:Int}{a b:Nat}(hb:b<=18)(h:v.natAbs<10^(a+b)):fit v b a b=v:=by
 obtain⟨h1,h2⟩:=yj v (o:=b) (a:=a) (b:=b) hb hb;rw[Nat.mul_div_cancel _ (Nat.pow_pos (by lia)),Nat.mod_eq_of_lt h]at h1 h2;lia
def _root_.bL.Ed.told{M:List Nat}{first:Nat}{W N ac tail:List Nat}(E:Ed M first W N ac tail)(u:Int){o:Nat}(ho:o<=18):su M (W++N++QJ ac) tail (bC first W N) ac.length (cv M (W++N++QJ ac) tail (fit u o (bC first W N) ac.length))=some (if sgn M first tail=true/\u<0 then 0-((fit u o (bC first W N) ac.length).natAbs:Int)else((fit u o (bC first W N) ac.length).natAbs:Int)):=by
 obtain⟨h1,GK,_⟩:=E.small;have hf:=Y4 u o (bC first W N) ac.length;obtain⟨w1,w2⟩:=yj u (o:=o) (a:=bC first W N) (b:=ac.length) ho (by lia);rw[<-w1]at w2;generalize fit u o (bC first W N) ac.length=ff at hf w1 w2;unfold su;rw[E.read h1 hf];have hn:((ff.natAbs:Nat):Int).natAbs<10^(bC first W N+ac.length):=by rw[yel];exact hf
 rw[Wr (by lia) hn,Wr (by lia) (by rw[Int.natAbs_neg];exact hn)]
 by_cases Dh:ff<0
 .obtain⟨hu,iK⟩:=w2.mp Dh;have e:ff= -((ff.natAbs:Nat):Int):=by lia
  cases hs:sgn M first tail with
  |true=>
   rw[yah,yai,yai ⟨Z,hu⟩]
   .congr 1;lia
   .rw[<-e]
   .intro z;refine E.W' h1 hf iK hs ?_;rw[<-e];exact z
  |false=>
   rw[yai,yah (λz=>absurd z.1 (by lia))];rw[<-E.Wx hs, <-e]
 .have e:ff=((ff.natAbs:Nat):Int):=by lia
  rw[yai (by rw[<-e])]
  by_cases hc:sgn M first tail=true/\u<0
  .have h0:ff.natAbs=0:=yep λz=>Dh (w2.mpr ⟨hc.2,z⟩);rw[yai hc,h0];rfl
  .rw[yah hc]
def Ob:∀c∈eV,∀b,cx b c<128:=by lia
def yk{l:List Nat}{b:Bool}(h:∀x∈l,x∈eV):∀x∈l.map (cx b),x<128:=λx hx=>by
 obtain⟨y,hy,rfl⟩:=yaZ.mp hx;exact Ob y (h y hy) b
def _root_.bL.Ed.Qgb{M:List Nat}{first:Nat}{W N ac tail:List Nat}(E:Ed M first W N ac tail){f:Int}(hf:f.natAbs<10^(bC first W N+ac.length)):∀x∈cv M (W++N++QJ ac) tail f,x<128:=by
 intro x hx;unfold cv at hx
 split at hx
 .unfold zS at hx
  split at hx
  .obtain⟨y,_,rfl⟩:=yaZ.mp hx
   split<;>lia
  .rw[yax hx];lia
 .rcases yat.mp hx with hx|hx
  .rcases yat.mp hx with hx|hx
   .exact yk (v9 M E.ld).1 x hx
   .obtain⟨s,pre,hs,e,_,_,_,_,Id⟩:=E.shape (decide (f<0)) E.small.1 hf;rw[e]at hx;rcases yat.mp hx with hx|hx
    .rw[Id]at hx
     split at hx
     .rename_i Cl;rcases yat.mp hx with hx|hx
      .rw[yax hx];lia
      .have hm:first∈eV:=by
        have:∀d∈([43,45,36]:List Nat),d∈eV:=by lia
        exact this first (yaT.mp Cl)
       rw[yap.mp hx];exact Ob first hm _
     .rw[yax hx]
      split<;>lia
    .rw[hs]at hx;exact Qdb _ _ (Qdc _ _) x (ybE hx)
  .exact yk (Qde tail E.tl).1 x hx
def _root_.bL.Ed.Qgc{M:List Nat}{first:Nat}{W N ac tail:List Nat}(E:Ed M first W N ac tail){f:Int}(hf:f.natAbs<10^(bC first W N+ac.length)):(cv M (W++N++QJ ac) tail f).length=(XR M W N ac tail).length:=by
 have hb:=E.VT (decide (f<0)) E.small.1 hf;rw[jw];unfold cv zS
 split
 .split<;>simp
 .simp only[tK,tL]at hb ⊢;lia
noncomputable def kK:Nat->List Nat
 |0=>[83,57,40,51,41,86,57,57]|1=>[88,40,51,41]|2=>[83,57,40,54,41,86,57,57]|3=>[88,40,56,41]|4=>[45,44,45,45,45,44,45,45,57,46,57,57]|_=>[57,40,51,41]
theorem Yp:∀p:Nat,YI p=tx (kK p)
 |0=>by rfl'
 |1=>by rfl'
 |2=>by rfl'
 |3=>by rfl'
 |4=>by rfl'
 |n+5=>by show("9(3)":Str)=tx [57,40,51,41];rfl'
def XL(p:Nat):(kK p).length<=500:=by unfold kK;split<;>lia
noncomputable def aZ:Nat->Nat
 |0=>2|1=>0|2=>2|3=>0|4=>3|_=>2
noncomputable def iS(p:Nat):Bool:=p==0||p==2
noncomputable def eN(p:Nat):Nat:=if p=2 then 6 else 3
noncomputable def b0(p:Nat):Nat:=if p=0\/p=2 then 2 else 0
def Ke(p:Nat):∃x,QZ (kK p)=some x/\x.kind=aZ p/\(aZ p=2->U1 x/\x.signed=iS p/\x.before=eN p/\x.behind=b0 p):=by
 unfold kK aZ
 split
 .exact⟨⟨2,true,3,2⟩,by first|rfl|rfl',rfl,λ_=>⟨⟨Z,by lia,by lia⟩,Z,Z,Z⟩⟩
 .obtain⟨x,h⟩:∃x,QZ [88,40,51,41]=some x:=⟨_,by first|rfl|rfl'⟩;have e:(QZ [88,40,51,41]).map (·.kind)=some 0:=by rfl'
  rw[h]at e;exact⟨x,h,tP e,λz=>by cases z⟩
 .exact⟨⟨2,true,6,2⟩,by first|rfl|rfl',rfl,λ_=>⟨⟨Z,by lia,by lia⟩,Z,Z,Z⟩⟩
 .obtain⟨x,h⟩:∃x,QZ [88,40,56,41]=some x:=⟨_,by first|rfl|rfl'⟩;have e:(QZ [88,40,56,41]).map (·.kind)=some 0:=by rfl'
  rw[h]at e;exact⟨x,h,tP e,λz=>by cases z⟩
 .obtain⟨x,h⟩:∃x,QZ [45,44,45,45,45,44,45,45,57,46,57,57]=some x:=⟨_,by first|rfl|rfl'⟩;have e:(QZ [45,44,45,45,45,44,45,45,57,46,57,57]).map (·.kind)=some 3:=by rfl'
  rw[h]at e;exact⟨x,h,tP e,λz=>by cases z⟩
 .rename_i h0 h1 h2 h3 h4;refine⟨⟨2,false,3,0⟩,by first|rfl|rfl',rfl,λ_=>⟨⟨Z,by lia,by lia⟩,?_,?_,?_⟩⟩
  .show false=(p==0||p==2);rw[yas.mpr h0,yas.mpr h2];rfl
  .show 3=if p=2 then 6 else 3;rw[yah h2]
  .show 0=if p=0\/p=2 then 2 else 0;rw[yah (by rintro(z|z);exact h0 z;exact h2 z)]
def Dj:Ed [] 45 [45,44,45,45,45,44,45,45] [57] [57,57] []:=.mk
noncomputable def zp:List Nat:=[45,44,45,45,45,44,45,45,57,46,57,57]
noncomputable def putL(p:Nat)(u o:Int):List Nat:=if p=4 then cv [] zp [] (fit u o 6 2)else cont (iS p) (eN p) (b0 p) u o
theorem ZO:∀p:Nat,(aZ p=2/\p≠4/\aX p=eN p+b0 p/\1<=eN p+b0 p)\/(aZ p=3/\p=4)\/aZ p=0\/aZ p=1
 |0=>.inl ⟨Z,by lia,by lia,by lia⟩
 |1=>.inr (.inr (.inl Z))
 |2=>.inl ⟨Z,by lia,by lia,by lia⟩
 |3=>.inr (.inr (.inl Z))
 |4=>.inr (.inl ⟨Z,Z⟩)
 |n+5=>by
  have hb:eN (n+5)=3:=by unfold eN;rw[yah (by lia)]
  have hh:b0 (n+5)=0:=by unfold b0;rw[yah (by lia)]
  exact .inl ⟨Z,by lia,by rw[hb,hh];rfl,by rw[hb,hh];lia⟩
def xj(u o:Int)(h:aZ p=2\/aZ p=3):(putL p u o).length=aX p:=by
 unfold putL;rcases ZO p with⟨h1,h2,h3,h4⟩|⟨h1,rfl⟩|h1|h1
 .rw[yah h2,h3];exact(Z3 (iS p) u o h4).2.2.1
 .rw[yai rfl];exact Dj.Qgc (Y4 u o 6 2)
 .lia
 .lia
def Vq(p:Nat):aX p<=12/\1<=aX p:=by unfold aX;split<;>lia
inductive dE (K:Frag) (vs:List V) (H:Hp) (Q:VK) (ap:XK):Prop
 |mk (p:Nat) (a:Addr) (u:Int) (o:Nat):vs=[.str (YI p),.ref a]->dQ K H a u o->(aZ p=2\/aZ p=3)->(∀H',Qn H H'->Q (.str (tx (putL p u o))) H')->dE K vs H Q ap
def Kp(p:Nat):decide (V.str (kindS (aZ p))=V.str "number")=decide (aZ p=2):=by
 have h:aZ p<=3:=by rcases ZO p with h|h|h|h<;>lia
 rw[show V.str "number"=V.str (kindS 2)from rfl,Vo _ h 2 (by lia)]
def Yq(p:Nat):decide (V.str (kindS (aZ p))=V.str "edited")=decide (aZ p=3):=by
 have h:aZ p<=3:=by rcases ZO p with h|h|h|h<;>lia
 rw[show V.str "edited"=V.str (kindS 3)from rfl,Vo _ h 3 (by lia)]
def W1(he:∀R:VK,R (.str (YI p)) H->te σ H R)(k:∀H',Qn H H'->Q (.str (kindS (aZ p))) H'):XS (aT c) [] E (Je te Wy) σ H Q:=by
 refine he _ ?_;obtain⟨x,hp,hk,_⟩:=Ke p;refine⟨kK p,by rw[Yp];rfl,XL p,(λz=>by rw[hp]at z;cases z),λy hy H' S=>?_⟩;obtain rfl:=tP (hp.symm.trans hy);rw[hk];exact k H' S
def Qe1(F:az K "put" "put" EL f fd)(hV:Def P w K mg Y 7 "kind_of" ["picture"] (aT c))(gy:Def P w K mg Y 7 "content_of" ["picture","amount"] (c9 K c))(m9:Def P w K mg Y 7 "edited" ["picture","amount"] (bo K c)):Zz1 P w K mg Y 8 f fd ["picture","amount"] (dE K):=by
 refine cT F QeI (by nofun) λam A L s H vs Q E hr h=>?_
 obtain⟨p,a,u,o,rfl,qMa,hk,k⟩:=h;have fr:=Jf (P:=P) (w:=w) (K:=K) (mg:=mg) (Y:=Y) (N:=["picture","amount"]) (qual:="put") (scope:=Qe EL) (f:=f) (cd:=am) (A:=A) (L:=L) (s:=s) (H:=H) (E:=E);have hx:=QG fr;refine⟨_,(Qd (QN (Ql Jl (hV.pq hr hx (Qa (pv 0) Qb)) Qk (Qq _)) (Qg (Qp (gy.pq hr hx (Qa (pv 0) (Qa (pv 1) Qb))))) Qu)
  (Qg (Qp (m9.pq hr hx (Qa (pv 0) (Qa (pv 1) Qb)))))),?_⟩
 refine W1 (p:=p) (λR h=>⟨_,Z,h⟩) λH1 S1=>?_;exists Z,_,Z;rw[Kp];unfold putL at k;obtain⟨x,hp,Ip,BT⟩:=Ke p;rcases ZO p with⟨h1,h2,h3,h4⟩|⟨h1,rfl⟩|h1|h1
 .rw[yah h2]at k;rw[tN h1];obtain⟨nr,e1,e2,e3⟩:=BT h1;refine Q0 ⟨_,Z,_,Z,kK p,a,u,o,by rw[Yp];rfl,XL p,qMa.same S1,.inr ⟨x,hp,nr,λH2 S2=>?_⟩⟩;rw[e1,e2,e3];exact k _ (S1.trans S2)
 .rw[yai rfl]at k;rw[tM (by rw[h1];lia)];exact QO ⟨_,Z,_,Z,_,a,u,o,by rw[Yp];rfl,XL 4,qMa.same S1,.inr ⟨[],45,[45,44,45,45,45,44,45,45],[57],[57,57],[],Dj,by lia,Z,λH2 S2=>k _ (S1.trans S2)⟩⟩
 .lia
 .lia
noncomputable def og(p:Nat):List Nat:=if aZ p=2\/aZ p=3 then putL p 0 0 else replicate (aX p) 32
def Qdo(p:Nat):(og p).length=aX p:=by
 unfold og
 split
 .exact xj 0 0 ‹_›
 .exact lq
inductive cK (vs:List V) (H:Hp) (Q:VK) (ap:XK):Prop
 |mk (p:Nat):vs=[.str (YI p)]->(∀H',Qn H H'->Q (.str (tx (og p))) H')->cK vs H Q ap
def Qba:(" ":Str)=tx [32]:=by rfl'
def Qbb(F:az K "blank" "blank" zg f fd)(hV:Def P w K mg Y 7 "kind_of" ["picture"] (aT c))(rK:Def P w K mg Y 8 "put" ["picture","amount"] (dE K))(gr:Def P w K mg Y 7 "size_of" ["picture"] bJ):Zz1 P w K mg Y 9 f fd ["picture"] cK:=by
 refine okN F z5 (by nofun) λam A L s H vs Q E hr h=>?_
 obtain⟨p,rfl,k⟩:=h;have hz:=zza
 refine⟨_,(Qd (Qt (i:=1) z5.nd Z Zz0 (hV.pq hr Qr (Qa (pv 0) Qb)))
  (Qd (QN (PW.pt (ZP (Ql Jl (pv 1) Qk (Qq _)) (JV (Ql Jl (pv 1) Qk (Qq _))))) (Qg (Qp (rK.pq hr Qr (Qa (pv 0) (Qa (Qs (Qa Qj (Qa Qj Qb))) Qb))))) Qu)
  (Qg (Qp (QF Xp Qk (gr.pq hr Qr (Qa (pv 0) Qb))))))),?_⟩
 refine W1 (p:=p) (λR h=>⟨_,Z,h⟩) λH1 S1=>?_;dsimp only[QL,J9,Za,Q4];exists _,Z,Z,_,Z;rw[Kp];obtain⟨pa,pl,px,ep,hp,es⟩:=Vp p;have sz:=Vq p;unfold og at k;rcases ZO p with⟨h1,_⟩|⟨h1,_⟩|h1|h1
 .rw[yai (.inl h1)]at k;rw[tN h1];refine Q0 (Q0 ⟨_,Z,bF,λq hq=>?_⟩);exact⟨p,q,0,0,Z,⟨.inl (.inl Qf),by lia,by lia,by lia⟩,.inl h1,λH2 S2=>k _ ((S1.trans (Qn.new hq)).trans S2)⟩
 .rw[yai (.inr h1)]at k;rw[tM (by rw[h1];lia)];refine QO ⟨_,Z,Z,_,Z,?_⟩;rw[Yq,tN h1];refine Q0 ⟨_,Z,bF,λq hq=>?_⟩;exact⟨p,q,0,0,Z,⟨.inl (.inl Qf),by lia,by lia,by lia⟩,.inr h1,λH2 S2=>k _ ((S1.trans (Qn.new hq)).trans S2)⟩
 all_goals
  rw[yah (by lia)]at k;rw[tM (by lia)];refine QO ⟨_,Z,Z,_,Z,?_⟩;rw[Yq,tM (by lia)];refine QO ⟨_,Z,pa,pl,px,(by rw[ep];rfl),hp,λH2 S2=>?_⟩;rw[es,Qba];refine⟨tx [32],(aX p:Nat),Z,Z,by lia,by rw[Qx,lI,tQ];lia,by lia,?_⟩;rw[lI,vX];exact k _ (S1.trans S2)
theorem W2:∀a b:List (Bool × Ly),aY (a++b)=aY a+aY b
 |[],b=>by rw[lA,aY,yci]
 |x::a,b=>by rw[lz,aY,aY,W2 a b];lia
def zq(l:List (Bool × Ly)):aY l.reverse=aY l:=by
 induction l with
 |nil=>rfl
 |cons x r ih=>rw[ybI,W2,ih,aY,aY,aY];lia
theorem yl(l:List (Bool × Ly)):∀k,aY (replicate k l).flatten=k*aY l
 |0=>by rw[List.replicate_zero,List.flatten_nil,aY];lia
 |k+1=>by rw[yar,yaI,W2,yl l k,Nat.succ_mul];lia
theorem Ws:∀{xs:List V}{ds:List Dv},aj H xs ds->aj H xs.reverse ds.reverse
 |_,_,.nil=>.nil
 |_,_,.cons h t=>by rw[ybI,ybI];exact(Ws t).append (.cons h .nil)
theorem jA{xs:List V}{ds:List Dv}(h:aj H xs ds):∀k,aj H (replicate k xs).flatten (replicate k ds).flatten
 |0=>.nil
 |k+1=>by rw[yar,yar,yaI,yaI];exact h.append (jA h k)
theorem jB:∀{ps:List (List Nat)}{xs:List V},aj H xs (ps.map λl=>Dv.str (tx l))->xs=(ps.map tx).map V.str
 |[],_,h=>by cases h;rfl
 |p::ps,_,h=>by
  cases h with
  |cons h t=>
   obtain rfl:=h.zU;rw[jB t];rfl
def Qbc{ls:List (List Nat)}(h:ls.flatten.length<=100000):JoinOk "" (ls.map tx)=true:=by
 unfold JoinOk;rw[<-yek,ydS,jr];unfold tooLong;have hz:100000<=sizeLine:=by rw[yaF];lia
 rw[tM (by lia)];rfl
mutual
noncomputable def Ly.bg:Ly->List Nat
 | .box _ p=>og p
 | .aN _ its=>bc its
 | .tab _ k its=>(replicate k (bc its)).flatten
noncomputable def bc:List (Bool × Ly)->List Nat
 |[]=>[]
 |x::xs=>oh x++bc xs
noncomputable def oh:Bool × Ly->List Nat
 |(ov,y)=>if ov=true then[]else y.bg
end
mutual
theorem Ly.Qe2:∀y:Ly,y.bg.length=y.sz
 | .box _ p=>by rw[Ly.bg,Ly.sz,Qdo]
 | .aN _ its=>by rw[Ly.bg,Ly.sz,Yr its]
 | .tab _ k its=>by rw[Ly.bg,Ly.sz,len_rep,Yr its,ybP]
theorem Yr:∀its:List (Bool × Ly),(bc its).length=aH its
 |[]=>by rw[bc,aH];rfl
 |x::xs=>by rw[bc,aH,tK,Qdp x,Yr xs]
theorem Qdp:∀x:Bool × Ly,(oh x).length=fm x
 |(ov,y)=>by
  have h:=Ly.Qe2 y;rw[oh,fm];cases ov
  .exact h
  .rfl
end
theorem qc:∀a b:List (Bool × Ly),bc (a++b)=bc a++bc b
 |[],b=>by rw[lA,bc,lA]
 |x::a,b=>by rw[lz,bc,bc,qc a b,lu]
def Qdq(l:List (Bool × Ly)):∀k,bc ((replicate k l.reverse).flatten).reverse=(replicate k (bc l)).flatten:=by
 intro k;rw[List.reverse_flatten,ydc,ydF,List.reverse_replicate]
 induction k with
 |zero=>rfl
 |succ k ih=>rw[yar,yar,yaI,yaI,qc,ih]
inductive cM (vs:List V) (H:Hp) (Q:VK) (ap:XK):Prop
 |mk (v:V) (its:List (Bool × Ly)):vs=[v]->ag H v (.tup (cb its))->aY its<=10000->aH its<=10000->bK its->(∀H',Qn H H'->Q (.str (tx (bc its))) H')->cM vs H Q ap
def Kf(F:az K "signs_at_beginning" "signs_at_beginning" JM f fd)(O:Own mg)(OL:mg "list"=none)(rL:Def P w K mg Y 9 "blank" ["picture"] cK):Zz1 P w K mg Y 10 f fd ["layout"] cM:=by
 refine yC F Jk (by nofun) λam A L s H vs Q E hr h=>?_
 obtain⟨v,its,rfl,D,hw,hs,ao,k⟩:=h;have hz:100000<=sizeLine:=by rw[yaF];lia
 refine⟨_,(QC (JL (i:=1) Jk.nd Z Zz0 (jX JB) Z Z)
  (QC (JL (i:=2) Jk.nd Z Zz0 (aA.mk (WL Z Z OL Z O.reversed (Qv (pv 0) Qb) Z)) Z Z)
  (QC (dP.mk (Xl yaz (Jd (pv 2) (λ_=>rfl)) (Qd (Qt (i:=3) Jk.nd Z Zz0 (zD yaA yeC yeD zF (pv 2)))
  (Qg (QN (Ql Jl (QB QD (pv 3) Qj (λ_ _=>rfl)) Qk (Qq _)) (Qg (Q6 (JN yaA yaB yaC JO (pv 1) (Qv (rL.pq hr Qr (Qv (QB QD (pv 3) Qj (λ_ _=>rfl)) Qb)) Qb)))) (Qg (QN (Ql Jl (QB QD (pv 3) Qj (λ_ _=>rfl)) Qk (Qq _)) (Qg (Q6 (JN yaA ydA ydB Wc (pv 2) (Qv (WL Z Z OL Z O.reversed (Qv (QB QD (pv 3) Qj (λ_ _=>rfl)) Qb) Z) Qb)))) (Qg (QN (Ql Jl (QB QD (pv 3) Qj (λ_ _=>rfl)) Qk (Qq _)) (Qg (Q6 (JN yaA ydA ydB Wc (pv 2) (Qv (QF Rr (WL Z Z OL Z O.reversed (Qv (QB QD (pv 3) Qj (λ_ _=>rfl)) Qb) Z) (QB QD (pv 3) Qj (λ_ _=>rfl))) Qb)))) Qu)))))))))
  (Jb (Jq (vt (JP (aA.mk (pv 1)) JB Z) Z Z)))))),?_⟩
 dsimp only[QL,J9,Za,Q4];refine⟨Am,λpa fH=>?_⟩;obtain⟨va,vx,rfl,gv,tv⟩:=ag.YX D;have S1:=Qn.new (o:=.lst []) fH;refine⟨_,Z,va,vx,Z,.inl (.inl (S1 _ _ gv)),λlf LT=>?_⟩;have S2:=Qn.new (o:=.lst vx.reverse) LT;have T1:bq H (upd (upd H pa (.lst [])) lf (.lst vx.reverse)) pa lf [] vx.reverse (([]:List (List Nat)).map λl=>Dv.str (tx l)) (its.reverse.map d5):=by
  exists S1.trans S2,fH,?_,?_,S2 _ _ Qf,Qf,.nil
  .cases e:H lf with
   |none=>rfl
   |some o=>rw[S1 _ _ e]at LT;cases LT
  .intro z;rw[<-z,Qf]at LT;cases LT
  .rw[ZN]at tv;rw[ycQ];exact Ws (tv.same (S1.trans S2))
 generalize upd (upd H pa (.lst [])) lf (.lst vx.reverse)=H1 at T1;clear S1 S2 LT fH;refine⟨λm σ H2=>∃(x1 x2:List V)(ps:List (List Nat))(st:List (Bool × Ly))(y3:Option V),σ=[some (.ref va),some (.ref pa),some (.ref lf),y3]/\bq H H2 pa lf x1 x2 (ps.map λl=>Dv.str (tx l)) (st.map d5)/\ps.flatten++bc st.reverse=bc its/\aY st<=m/\ps.length+m<=10000/\∀x∈st,x.2.dk,
  ⟨10000,[],vx.reverse,[],its.reverse,none,Z,T1,by simp,by rw[zq];exact hw,by simp,λx hx=>qa ao (ydz.mp hx)⟩,?_⟩
 clear T1;rintro m σ H2 ⟨x1,x2,ps,st,y3,rfl,T2,hsz,Bv,hm,hO⟩;have l1:=T2.t1.length;have l2:=T2.t2.length;rw[tL]at l1 l2;rcases ybi st with rfl|⟨pr,e0,rfl⟩
 .have e:x2=[]:=ybA (by simpa using l2);subst e;refine⟨_,Z,false,.inl ⟨_,.inl (.inl T2.g2),Z⟩,QO ?_⟩
  replace hsz:ps.flatten++[]=bc its:=hsz
  rw[lB]at hsz;obtain rfl:=jB T2.t1;refine⟨Z,_,Z,_,pa,_,Z,Z,.inl (.inl T2.g1),Qbc (by rw[hsz,Yr];lia),?_⟩;rw[z6,hsz];exact k _ T2.S
 rw[yaU]at T2 hsz Bv l2 hO;obtain⟨ov,y⟩:=e0;rw[ycT]at hsz;rw[W2]at Bv
 replace hsz:ps.flatten++(oh (ov,y)++bc pr.reverse)=bc its:=hsz
 replace Bv:aY pr+(y.wt+0)<=m:=Bv
 have l':y.dk:=hO _ (tT _ tX);have sC:∀x∈pr,x.2.dk:=λe he=>hO e (tU _ he);have hyw:=y.xh;rw[lr]at T2;obtain⟨cr,xl,rfl,t1,Dl⟩:∃cr xl,x2=cr++[xl]/\aj H2 cr (pr.map d5)/\ag H2 xl (d5 (ov,y)):=by
  rcases ybi x2 with rfl|⟨cr,xl,rfl⟩
  .simp at l2
  .rw[yaU]at T2 ⊢;have l0:cr.length=(pr.map d5).length:=by
    have:=T2.t2.length;rw[tK,tK]at this;simpa using this
   have ht:=T2.t2.take cr.length;have hd:=T2.t2.drop cr.length;rw[ycw rfl,l0,ycw rfl]at ht;rw[ycx rfl,l0,ycx rfl]at hd;cases hd with
   |cons h t=>exact⟨cr,xl,Z,ht,h⟩
 refine⟨_,Z,true,.inl ⟨_,.inl (.inl T2.g2),by simp⟩,Q0 ?_⟩;refine⟨λσ' H'=>∃m',m'<m/\∃(x1 x2:List V)(ps:List (List Nat))(st:List (Bool × Ly))(y3:Option V),σ'=[some (.ref va),some (.ref pa),some (.ref lf),y3]/\bq H H' pa lf x1 x2 (ps.map λl=>Dv.str (tx l)) (st.map d5)/\ps.flatten++bc st.reverse=bc its/\aY st<=m'/\ps.length+m'<=10000/\∀x∈st,x.2.dk,λ_ _ h=>h,?_⟩;exists _,Z,.inl ⟨Z,_,.inl (.inl T2.g2)⟩;refine⟨lf,_,xl,Z,Z,T2.g2,by simp,?_⟩;have T3:bq H (upd H2 lf (.lst (cr++[xl]).dropLast)) pa lf x1 cr (ps.map λl=>Dv.str (tx l)) (pr.map d5):=by
  rw[yca];exact T2.put2 t1
 have lX:=Dl.xX (o':=.lst (cr++[xl]).dropLast) T2.g2 Y6;generalize upd H2 lf (.lst (cr++[xl]).dropLast)=H3 at T3 lX;clear T2 Dl t1 l2;have l0:=T3.t2.length;rw[tL]at l0;have Il:=KQ pr;dsimp only[QL,J9,Za,Q4];cases ov with
 |true=>
  obtain⟨a,x2,rfl,g,_⟩:=U5 lX;rw[oh,yai rfl,lA]at hsz;refine⟨_,Z,a,_,0,_,Z,Z,.inl g,Z,Z,false,by rw[NT],QO ?_⟩;refine⟨_,Z,a,_,0,_,Z,Z,.inl g,Z,Z,false,by rw[NU],QO ?_⟩;refine⟨_,Z,a,_,0,_,Z,Z,.inl g,Z,Z,false,by rw[NV],QO ?_⟩;exact⟨m-1,by lia,x1,cr,ps,pr,_,Z,T3,hsz,by lia,by lia,sC⟩
 |false=>
  rw[d5,yah (by lia)]at lX;rw[oh,yah (by lia)]at hsz;cases y with
  |box nm p=>
   obtain⟨a,rfl,g⟩:=Yo lX;rw[Ly.bg]at hsz;refine⟨_,Z,a,_,0,_,Z,Z,.inl g,Z,Z,true,Z,Q0 ?_⟩;exists _,Z,.inl ⟨Z,_,.inl (.inl T3.g1)⟩;refine⟨_,Z,a,_,2,_,Z,Z,.inl g,Z,p,Z,λH4 S4=>?_⟩;have T4:=T3.same S4;refine⟨pa,x1,_,Z,Z,T4.g1,by lia,?_⟩;refine⟨m-1,by lia,x1++[.str (tx (og p))],cr,ps++[og p],pr,_,Z,?_,?_,by lia,by rw[tK,tQ];lia,sC⟩
   .rw[lr];exact T4.N5 (T4.t1.append (.cons .str .nil))
   .rw[List.flatten_append,List.flatten_singleton,lu];exact hsz
  |aN nm bv=>
   obtain⟨a,x3,rfl,g,D3⟩:=Kw lX;rw[Ly.bg]at hsz;rw[Ly.wt]at Bv;rw[Ly.dk]at l';have hlen:=KQ bv;refine⟨_,Z,a,_,0,_,Z,Z,.inl g,Z,Z,false,by rw[Bp],QO ?_⟩;refine⟨_,Z,a,_,0,_,Z,Z,.inl g,Z,Z,true,Z,Q0 ?_⟩;exists _,Z,.inl ⟨Z,_,.inl (.inl T3.g2)⟩;obtain⟨ia,ix,rfl,gi,ti⟩:=ag.YX D3;have li:=ti.length;rw[ZN]at ti;rw[ZN,tL]at li;refine⟨_,Z,a,_,2,_,Z,Z,.inl g,Z,ia,ix,Z,.inl (.inl gi),λq8 Bu=>?_⟩;have S8:=Qn.new (o:=.lst ix.reverse) Bu;have T8:=T3.same S8;refine⟨lf,q8,cr,ix.reverse,Z,Z,T8.g2,Qf,by rw[lg];lia,?_⟩;refine⟨m-1,by lia,x1,cr++ix.reverse,ps,pr++bv.reverse,_,Z,?_,?_,?_,by lia,?_⟩
   .rw[lr,ycQ];exact T8.put2 (T8.t2.append (Ws (ti.same S8)))
   .rw[ycT,ydF,qc];exact hsz
   .rw[W2,zq];lia
   .intro x hx;rcases yat.mp hx with hx|hx
    .exact sC x hx
    .exact qa l' (ydz.mp hx)
  |tab nm k1 bv=>
   obtain⟨a,x3,rfl,g,D3⟩:=Vc lX;rw[Ly.bg]at hsz;rw[Ly.wt]at Bv;rw[Ly.dk]at l';have hlen:=KQ bv;have Hq:=l'.1;refine⟨_,Z,a,_,0,_,Z,Z,.inl g,Z,Z,false,by rw[Bq],QO ?_⟩;refine⟨_,Z,a,_,0,_,Z,Z,.inl g,Z,Z,false,by rw[HY],QO ?_⟩;refine⟨_,Z,a,_,0,_,Z,Z,.inl g,Z,Z,true,Z,Q0 ?_⟩;exists _,Z,.inl ⟨Z,_,.inl (.inl T3.g2)⟩;obtain⟨ia,ix,rfl,gi,ti⟩:=ag.YX D3;have li:=ti.length;rw[ZN]at ti;rw[ZN,tL]at li;have hmul:k1*bv.length<=k1*aY bv:=Nat.mul_le_mul_left _ hlen;have Iq:ix.length*k1<=10000:=by rw[li,ybP];lia
   refine⟨_,Z,a,_,3,_,Z,Z,.inl g,Z,ia,ix,Z,.inl (.inl gi),λq8 Bu=>?_⟩;have S8:=Qn.new (o:=.lst ix.reverse) Bu;refine⟨_,Z,a,_,2,_,Z,Z,.inl (S8 _ _ g),Z,q8,(k1:Nat),_,Z,Z,Qf,by lia,by lia,by rw[lI,lg];lia,λq9 Ar=>?_⟩;rw[lI];have S9:=Qn.new (o:=.lst (replicate k1 ix.reverse).flatten) Ar;have T9:=(T3.same S8).same S9;have lrep:(replicate k1 ix.reverse).flatten.length<=10000:=by rw[len_rep,lg,ybP];exact Iq
   refine⟨lf,q9,cr,_,Z,Z,T9.g2,Qf,by lia,?_⟩;refine⟨m-1,by lia,x1,cr++(replicate k1 ix.reverse).flatten,ps,pr++(replicate k1 bv.reverse).flatten,_,Z,?_,?_,?_,by lia,?_⟩
   .rw[lr,List.map_flatten,ydc,ycQ];exact T9.put2 (T9.t2.append (jA (Ws (ti.same (S8.trans S9))) k1))
   .rw[ycT,qc,Qdq];exact hsz
   .rw[W2,yl,zq];lia
   .intro x hx;rcases yat.mp hx with hx|hx
    .exact sC x hx
    .obtain⟨l,hl,hx⟩:=List.mem_flatten.mp hx;rw[yax hl]at hx;exact qa l'.2 (ydz.mp hx)
noncomputable def Aw(t:List Nat)(n:Nat):List Nat:=t.take n++replicate (n-t.length) 32
def Qgd(l:List Nat)(n:Nat):Txt.ljust (tx l) (n:Int)=tx (l++replicate (n-l.length) 32):=by
 unfold Txt.ljust;have h:=Qx l
 split
 .rename_i hc;rw[show n-l.length=0 by lia];simp
 .rw[lI,h];unfold padded tx;simp
structure fw(p:Nat)(t:List Nat)(u:Int)(o:Nat):Prop where
 ex:(aZ p=2/\kA (iS p) (eN p) (b0 p) t/\u=ZM (iS p) t/\o=b0 p)\/(p=4/\su [] zp [] 6 2 t=some u/\o=2/\∀x∈t,x<128)
 ln:t.length<=100
noncomputable def EY(r0 r1 r2 r3:Addr):List (Key × V):=[(Sum.inr "number",.ref r0),(Sum.inr "edited",.ref r1),(Sum.inr "text",.ref r2),(Sum.inr "letters",.ref r3)]
noncomputable def EZ:Nat->List V
 |0=>[.str "number",.str "edited",.str "text",.str "letters"]
 |1=>[.str "text",.str "letters"]
 |_=>[.str "number",.str "edited",.str "text"]
theorem Qdr:∀k,(EZ k).all VA=true
 |0=>rfl
 |1=>rfl
 |_+2=>rfl
inductive Mv (p p2:Nat) (t:List Nat):List Nat->Prop
 |E2 {u:Int} {o:Nat} (h:fw p t u o) (hu:u.natAbs<10^18) (h2:aZ p2=2\/aZ p2=3):Mv p p2 t (putL p2 u o)
 |txt (h:aZ p=0) (h2:aZ p2=0) (hl:t.length<=200):Mv p p2 t (Aw t (aX p2))
def ym(p:Nat):aZ p<=3:=by rcases ZO p with h|h|h|h<;>lia
def Oc:∀a≤3,∀b≤3,a≠1->b≠1->(if true=true then !i5 (V.str (kindS b)) (EZ a)else i5 (V.str (kindS b)) (EZ a))=false:=by rfl'
theorem Qge(T:Txt K mg tk c kr):∀k≤3,∃ra,Vf (EY (kr 8) (kr 9) (kr 10) (kr 11)) (Sum.inr (kindS k):Key)=some (.ref ra)/\∀H,aw K H ra (EZ k)
 |0,_=>⟨kr 10,Z,T.uB⟩
 |1,_=>⟨kr 11,Z,T.uC⟩
 |2,_=>⟨kr 8,Z,T.uz⟩
 |3,_=>⟨kr 9,Z,T.uA⟩
inductive d6 (vs:List V) (H:Hp) (Q:VK) (ap:XK):Prop
 |mk (t:List Nat) (n:Nat):vs=[.str (tx t),.int (n:Nat),.bl false]->t.length<=200->n<=200->Q (.str (tx (Aw t n))) H->d6 vs H Q ap
def kF(F:az K "as_text" "as_text" Yc f fd)(O:Own mg):Zz1 P w K mg Y 1 f fd ["text","size","right"] d6:=by
 refine okN F ki (by nofun) λam A L s H vs Q E hr h=>?_
 obtain⟨t,n,rfl,ht,hn,k⟩:=h;have hz:=zza
 have Gc:=Qx t;refine⟨_,(Qd (QN (Jd (pv 2) (λ_=>rfl)) (Qg (Qp (JN yaD slot_str_rjust type_str_rjust Qar (QR Zb (pv 0) (QQ (Qw (Vx Z) Z O.max boot_max (Qa (QF Vw (Qw Q9 Z O.len ybg (Qa (pv 0) Qb)) (pv 1)) (Qa Qj Qb)))) JK) (Qa (pv 1) Qb)))) Qu)
  (Qg (Qp (JN yaD slot_str_ljust type_str_ljust Qaq (QR Zb (pv 0) JK (QQ (pv 1))) (Qa (pv 1) Qb))))),?_⟩
 refine⟨_,Z,false,Z,QO ?_⟩;refine⟨_,Z,_,Z,_,Z,tx t,Z,by lia,?_⟩;have e:StrLaws.sliceText (tx t) none (some ((n:Nat):Int))=tx (t.take n):=by
  have e2:sliceText (tx t) none (some ((n:Nat):Int))=sliceText (tx t) (some ((0:Nat):Int)) (some ((n:Nat):Int)):=by
   unfold sliceText;rw[sliceIdx_none_lo];rfl
  rw[e2,J1 t (lG _) (lG _)];simp
 rw[e];refine⟨Z,_,Z,tx (t.take n),(n:Nat),Z,Z,KP (by lia) (by lia),?_⟩;rw[Qgd,tY,show n-min n t.length=n-t.length by lia];exact k
inductive ck (vs:List V) (H:Hp) (Q:VK) (ap:XK):Prop
 |mk (t:List Nat) (p:Nat) (u:Int) (o:Nat):vs=[.str (tx t),.str (YI p)]->fw p t u o->(∀q H',Qn H H'->H q=none->H' q=some (.tup [.int u,.int (o:Nat)])->Q (.ref q) H')->ck vs H Q ap
def YJ(F:az K "amount_from" "amount_from" ZB f fd)(O:Own mg)(T:Txt K mg tk c kr)(hV:Def P w K mg Y 7 "kind_of" ["picture"] (aT c))(nV:Def P w K mg Y 7 "amount_in" ["picture","content"] (cB K c))(mT:Def P w K mg Y 8 "read_edited" ["picture","text"] (dH K c))(gj:Def P w K mg Y 1 "is_figures" ["text"] bw)(hZ:Def P w K mg Y 2 "number_of" ["text"] cY):Zz1 P w K mg Y 9 f fd ["content","picture"] ck:=by
 refine cT F Xc (by nofun) λam A L s H vs Q E hr h=>?_
 obtain⟨t,p,u,o,rfl,ha,k⟩:=h;have fr:=Jf (P:=P) (w:=w) (K:=K) (mg:=mg) (Y:=Y) (N:=["content","picture","kind","figures"]) (qual:="amount_from") (scope:=Qe ZB) (f:=f) (cd:=am) (A:=A) (L:=L) (s:=s) (H:=H) (E:=E);have hx:=QG fr;have ht:=Jo fr;have hl:=ha.ln;refine⟨_,(Qd (Qt (i:=2) Xc.nd Z Zz0 (hV.pq hr hx (Qa (pv 1) Qb)))
  (Qd (QN (Ql Jl (pv 2) Qk (Qq _)) (Qg (Qp (nV.pq hr hx (Qa (pv 1) (Qa (pv 0) Qb))))) Qu)
  (Qd (QN (Ql Jl (pv 2) Qk (Qq _)) (Qg (Qp (mT.pq hr hx (Qa (pv 1) (Qa (pv 0) Qb))))) Qu)
  (Qd (Qt (i:=3) Xc.nd Z Zz0 (JN yaD slot_str_strip type_str_strip Up (pv 0) (Qa Qk Qb)))
  (Qd (QN (PW.pt (ZP (KS (XT (gj.pq hr hx (Qa (pv 3) Qb)))) (JV (Ql Uc (Qw Q9 Z O.len ybg (Qa (pv 3) Qb)) (QK (v:=V.int 18) Z T.gm ⟨_,Z⟩) (Qq _))))) (Qg (JD ht Z Z T.mL T.mM (Qa Qk Qb))) Qu)
  (Qg (Qp (Qs (Qa (hZ.pq hr hx (Qa (pv 3) Qb)) (Qa Qj Qb)))))))))),?_⟩
 refine W1 (p:=p) (λR h=>⟨_,Z,h⟩) λH1 S1=>?_;dsimp only[QL,J9,Za,Q4];exists _,Z,Z,_,Z;rw[Kp];obtain⟨x,hp,Ip,BT⟩:=Ke p;rcases ha.ex with⟨hk,ao,rfl,rfl⟩|⟨rfl,sQ,rfl,Ir⟩
 .rw[tN hk];obtain⟨nr,e1,e2,e3⟩:=BT hk;refine Q0 ⟨_,Z,_,Z,kK p,t,by rw[Yp];rfl,XL p,by lia,.inr ⟨x,hp,nr,?_,?_⟩⟩
  .rw[e1,e2,e3];exact λz=>absurd ao z
  .rw[e1,e2,e3];exact λ_ q H2 S2 hq g=>k q H2 (S1.trans S2) (S1.free hq) g
 .rw[tM (by lia)];refine QO ⟨_,Z,Z,_,Z,?_⟩;rw[Yq,tN (show aZ 4=3 from Z)];refine Q0 ⟨_,Z,_,Z,kK 4,t,by rw[Yp];rfl,XL 4,by lia,Ir,.inr ⟨[],45,[45,44,45,45,45,44,45,45],[57],[57,57],[],Dj,by lia,Z,λv hv q H2 S2 hq g=>?_,λz=>?_⟩⟩
  .obtain rfl:u=v:=tP (sQ.symm.trans hv);exact k q H2 (S1.trans S2) (S1.free hq) g
  .have z2:su [] zp [] 6 2 t=none:=z;rw[sQ]at z2;cases z2
def Ys(F:az K "figures_from" "figures_from" Xd f fd):Zz1 P w K mg Y 1 f fd ["content","picture"] Bo:=by
 refine okN F Yb (λvs H Q E h=>h.elim) (λam A L s H vs Q E hr h=>h.elim)
def kG(F:az K "rounded" "rounded" V6 f fd):Zz1 P w K mg Y 2 f fd ["amount","places"] Bo:=by
 refine okN F kh (λvs H Q E h=>h.elim) (λam A L s H vs Q E hr h=>h.elim)
def Qbd(p:Nat):decide (V.str (kindS (aZ p))=V.str "letters")=decide (aZ p=1):=by
 rw[show V.str "letters"=V.str (kindS 1)from rfl,Vo _ (ym p) 1 (by lia)]
inductive dM (vs:List V) (H:Hp) (Q:VK) (ap:XK):Prop
 |mk (t:List Nat) (p p2:Nat) (r:List Nat):vs=[.str (tx t),.str (YI p),.str (YI p2),.bl false]->Mv p p2 t r->(∀H',Qn H H'->Q (.str (tx r)) H')->dM vs H Q ap
def Qds(F:az K "move" "move" zZ f fd)(T:Txt K mg tk c kr)(KM:aG P w K (kr 7) (EY (kr 8) (kr 9) (kr 10) (kr 11)))(hV:Def P w K mg Y 7 "kind_of" ["picture"] (aT c))(rK:Def P w K mg Y 8 "put" ["picture","amount"] (dE K))(gC:Def P w K mg Y 9 "amount_from" ["content","picture"] ck)(mC:Def P w K mg Y 1 "figures_from" ["content","picture"] Bo)(gr:Def P w K mg Y 7 "size_of" ["picture"] bJ)(mv:Def P w K mg Y 1 "as_text" ["text","size","right"] d6):Zz1 P w K mg Y 10 f fd ["content","picture","other","right"] dM:=by
 refine cT F Ya (by nofun) λam A L s H vs Q E hr h=>?_
 obtain⟨t,p,p2,r,rfl,qMa,k⟩:=h;have hz:=zza
 have fr:=Jf (P:=P) (w:=w) (K:=K) (mg:=mg) (Y:=Y) (N:=["content","picture","other","right","source","target","text","moved"]) (qual:="move") (scope:=Qe zZ) (f:=f) (cd:=am) (A:=A) (L:=L) (s:=s) (H:=H) (E:=E);have hx:=QG fr;have ht:=Jo fr;have kp:=ym p;have Od:=ym p2;refine⟨_,(Qd (Qt (i:=4) Ya.nd Z Zz0 (hV.pq hr hx (Qa (pv 1) Qb)))
  (Qd (Qt (i:=5) Ya.nd Z Zz0 (hV.pq hr hx (Qa (pv 2) Qb)))
  (Qd (QN (Ql ZU (pv 5) (Wh KM (QK (v:=V.ref (kr 7)) Z T.pQ Z) (pv 4) (λ_ _=>rfl)) (by with_unfolding_all rfl)) (Qg (JD ht Z Z T.uy T.uE (Qa Qk Qb))) Qu)
  (Qd (QN (PW.pt (ZP (Ql Jl (pv 5) Qk (Qq _)) (JV (Ql Jl (pv 5) Qk (Qq _))))) (Qg (Qp (rK.pq hr hx (Qa (pv 2) (Qa (gC.pq hr hx (Qa (pv 0) (Qa (pv 1) Qb))) Qb))))) Qu)
  (Qd (Qt (i:=6) Ya.nd Z Zz0 (Jh (Ql Jl (pv 4) Qk (Qq _)) (mC.pq hr hx (Qa (pv 0) (Qa (pv 1) Qb))) (pv 0)))
  (Qd (Qt (i:=7) Ya.nd Z Zz0 (mv.pq hr hx (Qa (pv 6) (Qa (gr.pq hr hx (Qa (pv 2) Qb)) (Qa (pv 3) Qb)))))
  (Qd (QN (PW.pt (Zu (Ql Jl (pv 5) Qk (Qq _)) (JZ (Ql Xe (JN yaD slot_str_strip type_str_strip Up (pv 7) (Qa (QK (v:=V.str "abcdefghijklmnopqrstuvwxyzABCDEFGHIJKLMNOPQRSTUVWXYZ ") Z T.gh ⟨_,Z⟩) Qb)) Qk (Qq _))))) (Qg (JD ht Z Z T.rZ T.r8 (Qa Qk Qb))) Qu)
  (Qg (Qp (pv 7)))))))))),?_⟩
 refine W1 (p:=p) (λR h=>⟨_,Z,h⟩) λH1 S1=>?_;dsimp only[QL,J9,Za,Q4];refine W1 (p:=p2) (λR h=>⟨_,Z,h⟩) λH2 S2=>?_;have db:=S1.trans S2;obtain⟨ra,Nw,hqa⟩:=Qge T (aZ p) kp;exists _,Z,_,Z,Sum.inr (kindS (aZ p)),_,Z,Z,Nw,ra,_,Z,.inr (hqa _),Z,Qdr _,_,Z;cases qMa with
 |@E2 u o h hu h2=>
  have o8:aZ p≠1:=by
   rcases h.ex with⟨h,_⟩|⟨rfl,_⟩
   .lia
   .decide
  have ho:o<=2:=by
   rcases h.ex with⟨_,_,_,rfl⟩|⟨_,_,rfl,_⟩
   .unfold b0;split<;>lia
   .exact tO _
  rw[Oc _ kp _ Od o8 (by lia)];refine QO ⟨_,Z,Z,_,Z,?_⟩;have go:∀{σ:L2.St}{RR:VK},σ[0]? =some (some (.str (tx t)))->σ[1]? =some (some (.str (YI p)))->σ[2]? =some (some (.str (YI p2)))->(∀H',Qn H H'->RR (.str (tx (putL p2 u o))) H')->XS (dE K) [] E (Je (aF 2) (Je (XS ck [] E (Je (aF 0) (Je (aF 1) Wy))) Wy)) σ H2 RR:=λe0 e1 e2 Dk=>
   ⟨_,e2,_,e0,_,e1,t,p,u,o,Z,h,λq H3 S3 hq g=>⟨p2,q,u,o,Z,⟨aw.of g,yan hu (by lia),by lia,by lia⟩,h2,λH4 S4=>Dk _ ((db.trans S3).trans S4)⟩⟩
  rw[Kp]
  by_cases e2:aZ p2=2
  .rw[tN e2];exact Q0 (Q0 (go Z Z Z k))
  .rw[tM e2];refine QO ⟨_,Z,Z,_,Z,?_⟩;rw[Yq,tN (by lia)];exact Q0 (go Z Z Z k)
 |txt h h2 hl=>
  rw[Oc _ kp _ Od (by lia) (by lia)];refine QO ⟨_,Z,Z,_,Z,?_⟩;rw[Kp,tM (by lia)];refine QO ⟨_,Z,Z,_,Z,?_⟩;rw[Yq,tM (by lia)];refine QO ⟨_,Z,Z,_,Z,?_⟩;rw[Kp,tM (by lia)];obtain⟨pa,pl,px,ep,hp,es⟩:=Vp p2;have sz:=Vq p2;refine QO ⟨_,Z,?_⟩;dsimp only[QL,J9,Za,Q4];refine⟨_,Z,_,Z,pa,pl,px,by rw[ep];rfl,hp,λH3 S3=>⟨_,Z,t,aX p2,by rw[es];rfl,hl,by lia,?_⟩⟩;exists _,Z,Z,_,Z;rw[Qbd,tM (by lia)];refine QO (QO ⟨_,Z,?_⟩);exact k _ (db.trans S3)
def Kx(dq:Addr)(H H':Hp):Prop:=∀b o,H b=some o->b≠dq->(∀C dx fs,o≠ .ins C dx fs)->H' b=some o
def Kx.of{dq:Addr}(S:Qn H H'):Kx dq H H':=λb o e _ _=>S b o e
def Kx.trans{H H1 H2:Hp}(a:Kx dq H H1)(b:Kx dq H1 H2):Kx dq H H2:=λc o e n1 n2=>b c o (a c o e n1 n2) n1 n2
def Kx.xX:Kx q H (upd H q o):=λb o' e n1 _=>by
 rw[Qo n1];exact e
def Kx.Oe{fs:List (Str × V)}(h:H q=some (.ins C dx fs)):Kx dq H (upd H q o):=λb o' e _ n2=>by
 rw[Qo (λz=>by rw[z,h]at e;exact n2 C dx fs (tP e).symm)];exact e
def Kx.qe{ds:List V}(a:Kx dq H H')(hd:H dq=some (.lst ds)):∀b ys,H b=some (.tup ys)->H' b=some (.tup ys):=λb ys e=>a b _ e (λz=>by rw[z,hd]at e;cases e) (λ_ _ _ z=>nomatch z)
def Of:¬ (("layout":Str)="held"):=by rfl'
def Qhi:¬ (("layout":Str)="done"):=by rfl'
def Og:¬ (("layout":Str)="undone"):=by rfl'
def Oh:¬ (("held":Str)="done"):=by rfl'
def Oi:¬ (("held":Str)="undone"):=by rfl'
def Oj:¬ (("done":Str)="undone"):=by rfl'
structure Ax(fs:List (Str × V))(lv:V)(h:Str)(dq uq:Addr)(n:Nat):Prop where
 ly:fs.lookup ("layout":Str)=some lv
 hd:fs.lookup ("held":Str)=some (.str h)
 dn:fs.lookup ("done":Str)=some (.ref dq)
 un:fs.lookup ("undone":Str)=some (.ref uq)
 no:∀m:Str,m≠"layout"->m≠"held"->m≠"done"->m≠"undone"->fs.lookup m=none
 ln:fs.length<=n
def Ax.mk0(lv:V)(h:Str)(dq uq:Addr):Ax (Zv "undone" (.ref uq) (Zv "done" (.ref dq) (Zv "held" (.str h) (Zv "layout" lv [])))) lv h dq uq 4:=by
 refine⟨?_,?_,?_,?_,λm h1 h2 h3 h4=>?_,?_⟩
 .rw[Qz,yah Og,Qz,yah Qhi,Qz,yah Of,Qz,yai rfl]
 .rw[Qz,yah Oi,Qz,yah Oh,Qz,yai rfl]
 .rw[Qz,yah Oj,Qz,yai rfl]
 .rw[Qz,yai rfl]
 .rw[Qz,yah h4,Qz,yah h3,Qz,yah h2,Qz,yah h1];rfl
 .have a:=Q5 "undone" (.ref uq) (Zv "done" (.ref dq) (Zv "held" (.str h) (Zv "layout" lv [])));have b:=Q5 "done" (.ref dq) (Zv "held" (.str h) (Zv "layout" lv []));have c:=Q5 "held" (.str h) (Zv "layout" lv []);have d:=Q5 "layout" lv [];simp only[yaS]at d;lia
def Ax.change{fs:List (Str × V)}{lv:V}(F:Ax fs lv h dq uq n):Ax (Zv "held" (.str h2) (Zv "undone" (.ref q) fs)) lv h2 dq q (n+2):=by
 refine⟨?_,?_,?_,?_,λm h1 h2 h3 h4=>?_,?_⟩
 .rw[Qz,yah Of,Qz,yah Og];exact F.ly
 .rw[Qz,yai rfl]
 .rw[Qz,yah (λz=>Oh z.symm),Qz,yah Oj];exact F.dn
 .rw[Qz,yah (λz=>Oi z.symm),Qz,yai rfl]
 .rw[Qz,yah h2,Qz,yah h4];exact F.no m h1 h2 h3 h4
 .have a:=Q5 "held" (.str h2) (Zv "undone" (.ref q) fs);have b:=Q5 "undone" (.ref q) fs;have:=F.ln;lia
structure dN(K:Frag)(C:Addr):Prop where
 cl:eh K C
 nl:Kr K C "layout"
 nh:Kr K C "held"
 nd:Kr K C "done"
 nu:Kr K C "undone"
structure aB(C:Addr)(H:Hp)(x:Addr)(lv:V)(s:List Nat)(n:Nat)(dq:Addr):Prop where
 ob:∃dx fs uq ds,H x=some (.ins C dx fs)/\Ax fs lv (tx s) dq uq n/\H dq=some (.lst ds)/\ds.length<=n
def aB.same{lv:V}{n:Nat}(R:aB C H x lv s n dq)(S:Qn H H'):aB C H' x lv s n dq:=by
 obtain⟨dx,fs,uq,ds,h,F,g,l⟩:=R.ob;exact⟨dx,fs,uq,ds,S _ _ h,F,S _ _ g,l⟩
noncomputable def lay(s:List Nat)(n:Nat)(t:List Nat):List Nat:=s.take n++t++s.drop (n+t.length)
inductive cm (vs:List V) (H:Hp) (Q:VK) (ap:XK):Prop
 |mk (s t:List Nat) (n:Nat):vs=[.str (tx s),.int (n:Nat),.str (tx t)]->n<=s.length->s.length<=10000->t.length<=10000->Q (.str (tx (lay s n t))) H->cm vs H Q ap
def qf(F:az K "with_signs" "with_signs" Ka f fd)(O:Own mg):Zz1 P w K mg Y 1 f fd ["held","start","text"] cm:=by
 refine okN F UQ (by nofun) λam A L s H vs Q E hr h=>?_
 obtain⟨s,t,n,rfl,hn,hs,ht,k⟩:=h;have hz:100000<=sizeLine:=by rw[yaF];lia
 have ls:=Qx s;have lt:=Qx t;exists _,(Qg (Qp (QF Jg (QF Jg (QR Zb (pv 0) JK (QQ (pv 1))) (pv 2)) (QR Zb (pv 0) (QQ (QF Ji (pv 1) (Qw Q9 Z O.len ybg (Qa (pv 2) Qb)))) JK))));refine⟨_,Z,_,Z,_,Z,tx s,Z,by lia,?_⟩;rw[WD s hn];refine⟨_,Z,_,_,Z,Z,by rw[Qx,tY];lia,?_⟩;rw[XX];refine⟨_,Z,_,Z,_,Z,tx t,Z,by lia,_,_,Z,Z,_,Z,tx s,Z,by lia,?_⟩;rw[lt,show((n:Nat):Int)+((t.length:Nat):Int)=((n+t.length:Nat):Int) by lia,WE];refine⟨_,_,Z,Z,by rw[Qx,Qx,tK,tY,tZ];lia,?_⟩;rw[XX];exact k
inductive b7 (K:Frag) (vs:List V) (H:Hp) (Q:VK) (ap:XK):Prop
 |mk (p:Nat) (a:Addr) (ks:List V):vs=[.str (YI p),.ref a]->aw K H a ks->ks.all VA=true->i5 (.str (kindS (aZ p))) ks=true->(∀H',Qn H H'->Q .aq H')->b7 K vs H Q ap
def qg(F:az K "check_kind" "check_kind" Z2 f fd)(T:Txt K mg tk c kr)(hV:Def P w K mg Y 7 "kind_of" ["picture"] (aT c)):Zz1 P w K mg Y 8 f fd ["picture","kinds"] (b7 K):=by
 refine cT F UP (by nofun) λam A L s H vs Q E hr h=>?_
 obtain⟨p,a,ks,rfl,hs,hf,e,k⟩:=h;have fr:=Jf (P:=P) (w:=w) (K:=K) (mg:=mg) (Y:=Y) (N:=["picture","kinds"]) (qual:="check_kind") (scope:=Qe Z2) (f:=f) (cd:=am) (A:=A) (L:=L) (s:=s) (H:=H) (E:=E);have ht:=Jo fr;have hx:=QG fr;refine⟨_,(Qg (QN (PW.pt (ZP (JY (XN (pv 0))) (JV (Ql ZU (hV.pq hr hx (Qa (pv 0) Qb)) (pv 1) (by with_unfolding_all rfl))))) (Qg (JD ht Z Z T.uc T.ud (Qa Qk Qb))) Qu)),?_⟩;refine⟨_,Z,false,Z,QO ?_⟩;refine W1 (p:=p) (λR h=>⟨_,Z,h⟩) λH1 S1=>?_;exists _,Z,a,_,Z,.inr (hs.same S1),Z,hf;exists _,Z;rw[yai rfl,e];exact QO (k _ S1)
inductive dO (C:Addr) (vs:List V) (H:Hp) (Q:VK) (ap:XK):Prop
 |mk (x dx:Addr) (lv:V) (its:List (Bool × Ly)):vs=[.ref x,lv]->H x=some (.ins C dx [])->ag H lv (.tup (cb its))->aY its<=10000->aH its<=10000->bK its->(∀(dq:Addr)(H':Hp),H dq=none->aB C H' x lv (bc its) 4 dq->(∀b o,H b=some o->b≠x->H' b=some o)->Q .aq H')->dO C vs H Q ap
def Vi(F:az K "__init__" "Area.__init__" ZL f fd)(R:dN K C)(gH:Def P w K mg Y 10 "signs_at_beginning" ["layout"] cM):Zz1 P w K mg Y 11 f fd ["self","layout"] (dO C):=by
 refine okN F Vg (by nofun) λam A L s H vs Q E hr h=>?_
 obtain⟨x,dx,lv,its,rfl,hx,D,hw,hs,ao,k⟩:=h;refine⟨_,(Qd (YR (pv 0) (pv 1) Z)
  (Qd (YR (pv 0) (gH.pq hr Qr (Qv (pv 1) Qb)) Z)
  (Qd (YR (pv 0) (K9 Qb) Z)
  (Qg (YR (pv 0) (K9 Qb) Z))))),?_⟩
 refine⟨_,Z,_,Z,x,C,dx,_,Z,hx,R.cl,R.nl,by show 0<1000;lia,?_⟩;have l1:=Q5 "layout" lv [];have K1:∀b o,H b=some o->b≠x->upd H x (.ins C dx (Zv "layout" lv [])) b=some o:=λb o e n=>by rw[Qo n];exact e
 have D1:ag (upd H x (.ins C dx (Zv "layout" lv []))) lv (.tup (cb its)):=D.keep λb ys e=>by rw[Qo (λz=>by rw[z,hx]at e;cases e)];exact e
 have g1:upd H x (.ins C dx (Zv "layout" lv [])) x=some (.ins C dx (Zv "layout" lv [])):=Qf;generalize upd H x (.ins C dx (Zv "layout" lv []))=H1 at K1 D1 g1;refine⟨_,Z,lv,its,Z,D1,hw,hs,ao,λH2 S2=>?_⟩;generalize bc its=s2 at k ⊢;have l2:=Q5 "held" (.str (tx s2)) (Zv "layout" lv []);simp only[yaS]at l1;refine⟨_,Z,x,C,dx,_,Z,S2 _ _ g1,R.cl,R.nh,by lia,?_⟩;have K3:∀b o,H b=some o->b≠x->upd H2 x (.ins C dx (Zv "held" (.str (tx s2)) (Zv "layout" lv []))) b=some o:=λb o e n=>by rw[Qo n];exact S2 _ _ (K1 b o e n)
 have g3:upd H2 x (.ins C dx (Zv "held" (.str (tx s2)) (Zv "layout" lv []))) x=some (.ins C dx (Zv "held" (.str (tx s2)) (Zv "layout" lv []))):=Qf;generalize upd H2 x (.ins C dx (Zv "held" (.str (tx s2)) (Zv "layout" lv [])))=H3 at K3 g3;refine⟨by show 0<=sizeLine;exact lG _,λdq oi=>?_⟩;have lT:H dq=none:=by
  cases e:H dq with
  |none=>rfl
  |some o=>
   by_cases z:dq=x
   .rw[z,g3]at oi;cases oi
   .rw[K3 _ _ e z]at oi;cases oi
 have nx:x≠dq:=λz=>by rw[<-z,g3]at oi;cases oi
 have l3:=Q5 "done" (.ref dq) (Zv "held" (.str (tx s2)) (Zv "layout" lv []));refine⟨_,Z,x,C,dx,_,Z,by rw[Qo nx];exact g3,R.cl,R.nd,by lia,?_⟩;refine⟨by show 0<=sizeLine;exact lG _,λuq Bw=>?_⟩;have Ol:x≠uq:=λz=>by rw[<-z,Qf]at Bw;cases Bw
 have Om:dq≠uq:=λz=>by rw[<-z,Qo nx.symm,Qf]at Bw;cases Bw
 have hu3:H3 uq=none:=by rw[Qo Ol.symm,Qo Om.symm]at Bw;exact Bw
 refine⟨_,Z,x,C,dx,_,Z,by rw[Qo Ol,Qf],R.cl,R.nu,by lia,?_⟩;refine k dq _ lT ⟨dx,_,uq,[],Qf,Ax.mk0 lv (tx s2) dq uq,?_,lG _⟩ λb o e n=>?_
 .rw[Qo nx.symm,Qo Om,Qo nx.symm,Qf]
 .have e3:=K3 b o e n;rw[Qo n,Qo (QA e3 hu3),Qo n,Qo (QA e3 oi)];exact e3
inductive aO (C:Addr) (vs:List V) (H:Hp) (Q:VK) (ap:XK):Prop
 |mk (x:Addr) (wd:Str) (s2:List Nat) (lv:V) (s:List Nat) (n:Nat) (dq:Addr):vs=[.ref x,.str wd,.str (tx s2)]->aB C H x lv s n dq->n<=900->(∀H',Kx dq H H'->aB C H' x lv s2 (n+2) dq->Q .aq H')->aO C vs H Q ap
def YK(F:az K "change" "Area.change" XH f fd)(R:dN K C):Zz1 P w K mg Y 1 f fd ["self","word","held"] (aO C):=by
 refine okN F YC (by nofun) λam A L s H vs Q E hr h=>?_
 obtain⟨x,wd,s2,lv,s1,n,dq,rfl,AA,hn,k⟩:=h;have hz:100000<=sizeLine:=by rw[yaF];lia
 obtain⟨dx,fs,uq,ds,hx,F1,g,l⟩:=AA.ob;have lf:=F1.ln;refine⟨_,(Qd (Q6 (JN yaA yaB yaC JO (J0 (pv 0) Z) (Qv (Qs (Qv (pv 1) (Qv (J0 (pv 0) Z) Qb))) Qb)))
  (Qd (YR (pv 0) (K9 Qb) Z)
  (Qg (YR (pv 0) (pv 2) Z)))),?_⟩
 exists _,Z,x,C,dx,fs,_,Z,hx,R.cl,R.nd,F1.dn,.inl ⟨Z,_,.inl (.inl g)⟩;refine⟨_,Z,_,Z,x,C,dx,fs,_,Z,hx,R.cl,R.nh,F1.hd,bF,λp hp=>?_⟩;have S1:=Qn.new (o:=.tup [.str wd,.str (tx s1)]) hp;refine⟨dq,ds,.ref p,Z,Z,S1 _ _ g,by lia,?_⟩;have Iu:x≠dq:=λz=>by rw[z,g]at hx;cases hx
 have k2:Kx dq H (upd (upd H p (.tup [.str wd,.str (tx s1)])) dq (.lst (ds++[.ref p]))):=(Kx.of S1).trans Kx.xX;have g2:upd (upd H p (.tup [.str wd,.str (tx s1)])) dq (.lst (ds++[.ref p])) dq=some (.lst (ds++[.ref p])):=Qf;have BT:upd (upd H p (.tup [.str wd,.str (tx s1)])) dq (.lst (ds++[.ref p])) x=some (.ins C dx fs):=by rw[Qo Iu];exact S1 _ _ hx
 generalize upd (upd H p (.tup [.str wd,.str (tx s1)])) dq (.lst (ds++[.ref p]))=H2 at k2 g2 BT;refine⟨by show 0<=sizeLine;exact lG _,λq hq=>?_⟩;have S3:=Qn.new (o:=.lst []) hq;refine⟨_,Z,x,C,dx,fs,Z,S3 _ _ BT,R.cl,R.nu,by lia,?_⟩;have l2:=Q5 "undone" (.ref q) fs;have si:upd (upd H2 q (.lst [])) x (.ins C dx (Zv "undone" (.ref q) fs)) x=some (.ins C dx (Zv "undone" (.ref q) fs)):=Qf;have g3:upd (upd H2 q (.lst [])) x (.ins C dx (Zv "undone" (.ref q) fs)) dq=some (.lst (ds++[.ref p])):=by rw[Qo Iu.symm];exact S3 _ _ g2
 have k3:=(k2.trans (Kx.of S3)).trans (Kx.Oe (o:=.ins C dx (Zv "undone" (.ref q) fs)) (S3 _ _ BT));generalize upd (upd H2 q (.lst [])) x (.ins C dx (Zv "undone" (.ref q) fs))=H3 at si g3 k3;refine⟨_,Z,_,Z,x,C,dx,_,Z,si,R.cl,R.nh,by lia,?_⟩;exact k _ (k3.trans (Kx.Oe si)) ⟨dx,_,q,_,Qf,F1.change,by rw[Qo Iu.symm];exact g3,by rw[tK,tQ];lia⟩
def Yt(D:ag H u (N1 n y)):∃q z,u=.ref q/\H q=some (.tup [.int (n:Nat),.int (Jm y:Nat),z])/\ag H z (U8 y):=by
 obtain⟨a,xs,rfl,g,t⟩:=ag.YX (show ag H u (.tup [.int (n:Nat),.int (Jm y:Nat),U8 y])from D);cases t with
 |cons p1 t=>cases t with
  |cons p2 t=>cases t with
   |cons p3 t=>
    cases t;obtain rfl:=p1.Ae;obtain rfl:=p2.Ae;exact⟨a,_,Z,g,p3⟩
structure Led(H:Hp)(lv wv:V)(s:List Nat)(its:List (Bool × Ly))(ss:List Step)(n:Nat)(y:Ly):Prop where
 dl:ag H lv (.tup (cb its))
 dp:ag H wv (Jz ss)
 bd:bD its
 rs:Res its ss n y
 ls:ss.length<=1000
 len:s.length<=10000
 rm:n+Jm y<=s.length
theorem Led.same{lv wv:V}{ss:List Step}{n:Nat}(A:Led H lv wv s its ss n y)(S:Qn H H'):Led H' lv wv s its ss n y:=⟨A.dl.same S,A.dp.same S,A.bd,A.rs,A.ls,A.len,A.rm⟩
noncomputable def part(s:List Nat)(n k:Nat):List Nat:=(s.drop n).take k
def Xh{lv wv:V}{ss:List Step}(A:Led H lv wv s its ss n y)(he:∀R:VK,R lv H->te σ H R)(hf:∀R:VK,R wv H->tf σ H R)(kk:∀q z H',Qn H H'->H' q=some (.tup [.int (n:Nat),.int (Jm y:Nat),z])->ag H' z (U8 y)->Q (.ref q) H'):XS aD [] E (Je te (Je tf Wy)) σ H Q:=by
 refine he _ (hf _ ?_);refine⟨lv,wv,its,ss,n,_,Z,A.dl,A.dp,A.bd,A.rs,A.ls,λu H' S D=>?_⟩;obtain⟨q,z,rfl,g,Dz⟩:=Yt D;exact kk q z H' S g Dz
def qh{lv wv:V}{ss:List Step}{nm:Str}(A:Led H lv wv s its ss n (.box nm p))(he:∀R:VK,R lv H->te σ H R)(hf:∀R:VK,R wv H->tf σ H R)(kk:∀q H',Qn H H'->H' q=some (.tup [.int (n:Nat),.int (aX p:Nat),.str (YI p)])->Q (.ref q) H'):XS aD [] E (Je te (Je tf Wy)) σ H Q:=
 Xh A he hf λq z H' S g Dz=>by
  obtain rfl:=ag.zU (show ag H' z (.str (YI p))from Dz);exact kk q H' S g
inductive d7 (C:Addr) (vs:List V) (H:Hp) (Q:VK) (ap:XK):Prop
 |mk (x:Addr) (lv wv:V) (s:List Nat) (k:Nat) (dq:Addr) (its:List (Bool × Ly)) (ss:List Step) (n:Nat) (y:Ly):vs=[.ref x,wv]->aB C H x lv s k dq->Led H lv wv s its ss n y->(∀H',Qn H H'->Q (.str (tx (part s n (Jm y)))) H')->d7 C vs H Q ap
def zr(F:az K "get" "Area.get" WV f fd)(R:dN K C)(gc:Def P w K mg Y 12 "where" ["layout","path"] aD):Zz1 P w K mg Y 13 f fd ["self","path"] (d7 C):=by
 refine okN F XE (by nofun) λam A L s H vs Q E hr h=>?_
 obtain⟨x,lv,wv,s1,k,dq,its,ss,n,y,rfl,AA,A1,kk⟩:=h;have hz:100000<=sizeLine:=by rw[yaF];lia
 obtain⟨dx,fs,uq,ds,hx,F1,g,l⟩:=AA.ob;have hl:=A1.len;have lQ:=A1.rm;refine⟨_,(Qd (QW (gc.pq hr Qr (Qv (J0 (pv 0) Z) (Qv (pv 1) Qb))) (QM Z (Qh (Qi (i:=2) XE.nd Z Zz0) (Qh (Qi (i:=3) XE.nd Z Zz0) (Qh (Qi (i:=4) XE.nd Z Zz0) Qy)))))
  (Qg (Qp (QR Zb (J0 (pv 0) Z) (QQ (pv 2)) (QQ (QF Ji (pv 2) (pv 3))))))),?_⟩
 refine Xh A1 (λR' h=>⟨_,Z,x,C,dx,fs,_,Z,hx,R.cl,R.nl,F1.ly,h⟩) (λR' h=>⟨_,Z,h⟩) λq z H1 S1 gq _=>?_;exists q,_,Z,.inl (.inl gq),Z,_,_,Z,_,_,Z,_,_,Z,Z;dsimp only[QL,J9,Za,Q4];refine⟨_,Z,x,C,dx,fs,_,Z,S1 _ _ hx,R.cl,R.nh,F1.hd,_,Z,_,Z,_,Z,_,Z,_,_,Z,Z,_,Z,tx s1,Z,by rw[Qx];lia,?_⟩;rw[show((n:Nat):Int)+((Jm y:Nat):Int)=((n+Jm y:Nat):Int) by lia,J1 s1 (by lia) (by lia),show n+Jm y-n=Jm y by lia];exact kk _ S1
inductive df (C:Addr) (vs:List V) (H:Hp) (Q:VK) (ap:XK):Prop
 |mk (x:Addr) (lv wv:V) (s:List Nat) (k:Nat) (dq:Addr) (its:List (Bool × Ly)) (ss:List Step) (n:Nat) (nm:Str) (p:Nat) (u:Int) (o:Nat):vs=[.ref x,wv]->aB C H x lv s k dq->Led H lv wv s its ss n (.box nm p)->fw p (part s n (aX p)) u o->(∀q H',Qn H H'->H q=none->H' q=some (.tup [.int u,.int (o:Nat)])->Q (.ref q) H')->df C vs H Q ap
def Qdt:∀k,k=2\/k=3->i5 (.str (kindS k)) [.str "number",.str "edited"]=true:=by
 rintro k (rfl|rfl)<;>rfl'
def YL(F:az K "amount" "Area.amount" ZC f fd)(R:dN K C)(T:Txt K mg tk c kr)(gc:Def P w K mg Y 12 "where" ["layout","path"] aD)(gM:Def P w K mg Y 8 "check_kind" ["picture","kinds"] (b7 K))(gC:Def P w K mg Y 9 "amount_from" ["content","picture"] ck):Zz1 P w K mg Y 13 f fd ["self","path"] (df C):=by
 refine cT F Zh (by nofun) λam A L s H vs Q E hr h=>?_
 obtain⟨x,lv,wv,s1,k,dq,its,ss,n,nm,p,u,o,rfl,AA,A1,ha,kk⟩:=h;have fr:=Jf (P:=P) (w:=w) (K:=K) (mg:=mg) (Y:=Y) (N:=["self","path","start","size","picture"]) (qual:="Area.amount") (scope:=Qe ZC) (f:=f) (cd:=am) (A:=A) (L:=L) (s:=s) (H:=H) (E:=E);have hx:=QG fr;have hz:100000<=sizeLine:=by rw[yaF];lia
 obtain⟨dx,fs,uq,ds,u8,F1,g,l⟩:=AA.ob;have hl:=A1.len;have lQ:n+aX p<=s1.length:=A1.rm;have E3:aZ p=2\/aZ p=3:=by
  rcases ha.ex with⟨h,_⟩|⟨rfl,_⟩
  .exact .inl h
  .exact .inr rfl
 refine⟨_,(Qd (QW (gc.pq hr hx (Qv (J0 (pv 0) Z) (Qv (pv 1) Qb))) (QM Z (Qh (Qi (i:=2) Zh.nd Z Zz0) (Qh (Qi (i:=3) Zh.nd Z Zz0) (Qh (Qi (i:=4) Zh.nd Z Zz0) Qy)))))
  (Qd (Q6 (gM.pq hr hx (Qv (pv 4) (Qv (QK (v:=V.ref (kr 6)) Z T.gE Z) Qb))))
  (Qg (Qp (gC.pq hr hx (Qv (QR Zb (J0 (pv 0) Z) (QQ (pv 2)) (QQ (QF Ji (pv 2) (pv 3)))) (Qv (pv 4) Qb))))))),?_⟩
 refine qh A1 (λR' h=>⟨_,Z,x,C,dx,fs,_,Z,u8,R.cl,R.nl,F1.ly,h⟩) (λR' h=>⟨_,Z,h⟩) λq H1 S1 gq=>?_;exists q,_,Z,.inl (.inl gq),Z,_,_,Z,_,_,Z,_,_,Z,Z;dsimp only[QL,J9,Za,Q4];refine⟨_,Z,p,kr 6,_,Z,T.u5 H1,Z,Qdt _ E3,λH2 S2=>?_⟩;have db:=S1.trans S2;refine⟨_,Z,x,C,dx,fs,_,Z,db _ _ u8,R.cl,R.nh,F1.hd,_,Z,_,Z,_,Z,_,Z,_,_,Z,Z,_,Z,tx s1,Z,by rw[Qx];lia,?_⟩;rw[show((n:Nat):Int)+((aX p:Nat):Int)=((n+aX p:Nat):Int) by lia,J1 s1 (by lia) (by lia),show n+aX p-n=aX p by lia];refine⟨_,Z,part s1 n (aX p),p,u,o,Z,ha,λq3 H3 S3 hq g3=>kk q3 H3 (db.trans S3) (db.free hq) g3⟩
def jK:("change":Str)≠"layout"/\("change":Str)≠"held"/\("change":Str)≠"done"/\("change":Str)≠"undone":=by rfl'
inductive dh (C:Addr) (vs:List V) (H:Hp) (Q:VK) (ap:XK):Prop
 |mk (x:Addr) (lv wv:V) (s:List Nat) (k:Nat) (dq:Addr) (its:List (Bool × Ly)) (ss:List Step) (n:Nat) (nm:Str) (p:Nat) (t:List Nat):vs=[.ref x,wv,.str (tx t)]->aB C H x lv s k dq->Led H lv wv s its ss n (.box nm p)->k<=900->t.length=aX p->(∀H',Kx dq H H'->aB C H' x lv (lay s n t) (k+2) dq->Q .aq H')->dh C vs H Q ap
def jC(F:az K "load" "Area.load" XF f fd)(R:dN K C)(O:Own mg)(T:Txt K mg tk c kr)(gc:Def P w K mg Y 12 "where" ["layout","path"] aD)(gf:Def P w K mg Y 1 "with_signs" ["held","start","text"] cm)(hJ:bf P w K mg Y C 1 "change" ["self","word","held"] (aO C)):Zz1 P w K mg Y 13 f fd ["self","path","text"] (dh C):=by
 refine cT F Z0 (by nofun) λam A L s H vs Q E hr h=>?_
 obtain⟨x,lv,wv,s1,k,dq,its,ss,n,nm,p,t,rfl,AA,A1,Ay,bi,kk⟩:=h;have fr:=Jf (P:=P) (w:=w) (K:=K) (mg:=mg) (Y:=Y) (N:=["self","path","text","start","size","picture"]) (qual:="Area.load") (scope:=Qe XF) (f:=f) (cd:=am) (A:=A) (L:=L) (s:=s) (H:=H) (E:=E);have hx:=QG fr;have ht:=Jo fr;have hz:100000<=sizeLine:=by rw[yaF];lia
 obtain⟨dx,fs,uq,ds,u8,F1,g,l⟩:=AA.ob;have hl:=A1.len;have lQ:n+aX p<=s1.length:=A1.rm;have hsz:=Vq p;refine⟨_,(Qd (QW (gc.pq hr hx (Qv (J0 (pv 0) Z) (Qv (pv 1) Qb))) (QM Z (Qh (Qi (i:=3) Z0.nd Z Zz0) (Qh (Qi (i:=4) Z0.nd Z Zz0) (Qh (Qi (i:=5) Z0.nd Z Zz0) Qy)))))
  (Qd (QN (Ql Xe (Qw Q9 Z O.len ybg (Qv (pv 2) Qb)) (pv 4) (Qq _)) (Qg (JD ht Z Z T.uu T.uw (Qv Qk Qb))) Qu)
  (Qg (Q6 (hJ.pe hr (by lia) hx (pv 0) (Qv Qk (Qv (gf.pq hr hx (Qv (J0 (pv 0) Z) (Qv (pv 3) (Qv (pv 2) Qb)))) Qb))))))),?_⟩
 refine qh A1 (λR' h=>⟨_,Z,x,C,dx,fs,_,Z,u8,R.cl,R.nl,F1.ly,h⟩) (λR' h=>⟨_,Z,h⟩) λq H1 S1 gq=>?_;exists q,_,Z,.inl (.inl gq),Z,_,_,Z,_,_,Z,_,_,Z,Z;dsimp only[QL,J9,Za,Q4];exists _,Z,tx t,Z,by rw[Qx];lia,_,Z,Z,_,Z;rw[Qx,bi,tN rfl];refine QO ?_;exists _,Z,x,dx,fs,Z,S1 _ _ u8,F1.no _ jK.1 jK.2.1 jK.2.2.1 jK.2.2.2;refine⟨_,Z,x,C,dx,fs,_,Z,S1 _ _ u8,R.cl,R.nh,F1.hd,_,Z,_,Z,s1,t,n,Z,by lia,by lia,by lia,?_⟩;exact⟨x,"load",_,lv,s1,k,dq,Z,AA.same S1,Ay,λH2 K2 A2=>kk H2 ((Kx.of S1).trans K2) A2⟩
inductive br (K:Frag) (C:Addr) (vs:List V) (H:Hp) (Q:VK) (ap:XK):Prop
 |mk (x:Addr) (lv wv:V) (s:List Nat) (k:Nat) (dq:Addr) (its:List (Bool × Ly)) (ss:List Step) (n:Nat) (nm:Str) (p:Nat) (a:Addr) (u o:Int):vs=[.ref x,wv,.ref a,.bl false]->aB C H x lv s k dq->Led H lv wv s its ss n (.box nm p)->k<=900->dQ K H a u o->aZ p=2->((10^(eN p+b0 p)<=(ay.Xj u o (b0 p)).natAbs->∀H',Qn H H'->Q (.bl false) H'))->(((ay.Xj u o (b0 p)).natAbs<10^(eN p+b0 p)->∀H',Kx dq H H'->aB C H' x lv (lay s n (cont (iS p) (eN p) (b0 p) (ay.Xj u o (b0 p)) (b0 p))) (k+2) dq->Q (.bl true) H'))->br K C vs H Q ap
def Qe4:i5 (.str (kindS 2)) [.str "number"]=true:=by rfl'
def qi(F:az K "store" "Area.store" Z1 f fd)(R:dN K C)(T:Txt K mg tk c kr)(gc:Def P w K mg Y 12 "where" ["layout","path"] aD)(gM:Def P w K mg Y 8 "check_kind" ["picture","kinds"] (b7 K))(pT:cV P w K mg Y 8 "stored" ["picture","amount","nearest"] ["nearest"] (aR K c))(gf:Def P w K mg Y 1 "with_signs" ["held","start","text"] cm)(hJ:bf P w K mg Y C 1 "change" ["self","word","held"] (aO C)):Zz1 P w K mg Y 13 f fd ["self","path","amount","nearest"] (br K C):=by
 refine cT F J8 (by nofun) λam A L s H vs Q E hr h=>?_
 obtain⟨x,lv,wv,s1,k,dq,its,ss,n,nm,p,a,u,o,rfl,AA,A1,Ay,qMa,E3,kN,kS⟩:=h;have fr:=Jf (P:=P) (w:=w) (K:=K) (mg:=mg) (Y:=Y) (N:=["self","path","amount","nearest","start","size","picture","content"]) (qual:="Area.store") (scope:=Qe Z1) (f:=f) (cd:=am) (A:=A) (L:=L) (s:=s) (H:=H) (E:=E);have hx:=QG fr;have hz:100000<=sizeLine:=by rw[yaF];lia
 obtain⟨dx,fs,uq,ds,u8,F1,g,l⟩:=AA.ob;have hl:=A1.len;have lQ:n+aX p<=s1.length:=A1.rm;have hsz:=Vq p;obtain⟨px,hp,Ip,BT⟩:=Ke p;obtain⟨nr,e1,e2,e3⟩:=BT E3;refine⟨_,(Qd (QW (gc.pq hr hx (Qv (J0 (pv 0) Z) (Qv (pv 1) Qb))) (QM Z (Qh (Qi (i:=4) J8.nd Z Zz0) (Qh (Qi (i:=5) J8.nd Z Zz0) (Qh (Qi (i:=6) J8.nd Z Zz0) Qy)))))
  (Qd (Q6 (gM.pq hr hx (Qv (pv 6) (Qv (Qs (Qv Qk Qb)) Qb))))
  (Qd (Qt (i:=7) J8.nd Z Zz0 (pT.pe hr (by lia) Z hx (Qv (pv 6) (Qv (pv 2) Qb)) (k9 (pv 3) LM)))
  (Qd (QN (JY (XN (pv 7))) (Qg (Qp Xk)) Qu)
  (Qd (Q6 (hJ.pe hr (by lia) hx (pv 0) (Qv Qk (Qv (gf.pq hr hx (Qv (J0 (pv 0) Z) (Qv (pv 4) (Qv (pv 7) Qb)))) Qb))))
  (Qg (Qp Xk))))))),?_⟩
 refine qh A1 (λR' h=>⟨_,Z,x,C,dx,fs,_,Z,u8,R.cl,R.nl,F1.ly,h⟩) (λR' h=>⟨_,Z,h⟩) λq H1 S1 gq=>?_;exists q,_,Z,.inl (.inl gq),Z,_,_,Z,_,_,Z,_,_,Z,Z;dsimp only[QL,J9,Za,Q4];refine⟨_,Z,iL,λq1 AZ=>?_⟩;have S2:=Qn.new (o:=.tup [.str "number"]) AZ;refine⟨p,q1,_,Z,aw.of Qf,Z,by rw[E3];exact Qe4,λH2 S3=>?_⟩;have ms:=(S1.trans S2).trans S3;refine⟨_,Z,_,Z,_,Z,kK p,a,u,o,by rw[Yp];rfl,XL p,qMa.same ms,.inr ⟨px,hp,nr,λH4 S4=>?_⟩⟩;have sB:=ms.trans S4;rw[e1,e2,e3];refine⟨λz=>?_,λz=>?_⟩
 .exact⟨_,Z,true,Z,Q0 (kN z _ sB)⟩
 .have lc:(cont (iS p) (eN p) (b0 p) (ay.Xj u o (b0 p)) (b0 p)).length=aX p:=by
   rcases ZO p with⟨h1,h2,h3,h4⟩|⟨h1,_⟩|h1|h1
   .rw[h3];exact(Z3 (iS p) _ _ h4).2.2.1
   all_goals lia
  have kS:=kS z;generalize cont (iS p) (eN p) (b0 p) (ay.Xj u o (b0 p)) (b0 p)=t at lc kS ⊢;refine⟨_,Z,false,Z,QO ?_⟩;exists _,Z,x,dx,fs,Z,sB _ _ u8,F1.no _ jK.1 jK.2.1 jK.2.2.1 jK.2.2.2;refine⟨_,Z,x,C,dx,fs,_,Z,sB _ _ u8,R.cl,R.nh,F1.hd,_,Z,_,Z,s1,t,n,Z,by lia,by lia,by lia,?_⟩;exact⟨x,"store",_,lv,s1,k,dq,Z,AA.same sB,Ay,λH2 K2 A2=>kS H2 ((Kx.of sB).trans K2) A2⟩
inductive d8 (vs:List V) (H:Hp) (Q:VK) (ap:XK):Prop
 |mk (s:List Nat) (q1 q2:Addr) (n1 k1 n2 k2:Nat) (z1 z2:V) (r:List Nat):vs=[.str (tx s),.ref q1,.ref q2,.bl false]->H q1=some (.tup [.int (n1:Nat),.int (k1:Nat),z1])->H q2=some (.tup [.int (n2:Nat),.int (k2:Nat),z2])->n1+k1<=s.length->n2<=s.length->s.length<=10000->r.length<=200->((z1=.aq/\z2=.aq/\k1<=200/\k2<=200/\r=Aw (part s n1 k1) k2)\/∃p1 p2,z1=.str (YI p1)/\z2=.str (YI p2)/\Mv p1 p2 (part s n1 k1) r)->(∀H',Qn H H'->Q (.str (tx (lay s n2 r))) H')->d8 vs H Q ap
def jD(F:az K "with_move" "with_move" XI f fd)(mv:Def P w K mg Y 1 "as_text" ["text","size","right"] d6)(gf:Def P w K mg Y 1 "with_signs" ["held","start","text"] cm)(rM:cU P w K mg Y 10 "move" ["content","picture","other","right"] ["right"] dM):Zz1 P w K mg Y 11 f fd ["held","source","target","right"] d8:=by
 refine cT F Js (by nofun) λam A L s H vs Q E hr h=>?_
 obtain⟨s1,q1,q2,n1,k1,n2,k2,z1,z2,r,rfl,g1,g2,h1,h2,h3,h4,hc,kk⟩:=h;have fr:=Jf (P:=P) (w:=w) (K:=K) (mg:=mg) (Y:=Y) (N:=["held","source","target","right","start","size","picture","other_start","other_size","other_picture","content"]) (qual:="with_move") (scope:=Qe XI) (f:=f) (cd:=am) (A:=A) (L:=L) (s:=s) (H:=H) (E:=E);have hx:=QG fr;have hz:100000<=sizeLine:=by rw[yaF];lia
 refine⟨_,(Qd (QW (pv 1) (QM Z (Qh (Qi (i:=4) Js.nd Z Zz0) (Qh (Qi (i:=5) Js.nd Z Zz0) (Qh (Qi (i:=6) Js.nd Z Zz0) Qy)))))
  (Qd (QW (pv 2) (QM Z (Qh (Qi (i:=7) Js.nd Z Zz0) (Qh (Qi (i:=8) Js.nd Z Zz0) (Qh (Qi (i:=9) Js.nd Z Zz0) Qy)))))
  (Qd (Qt (i:=10) Js.nd Z Zz0 (QR Zb (pv 0) (QQ (pv 4)) (QQ (QF Ji (pv 4) (pv 5)))))
  (Qd (QN (PW.pt (ZP (JY (XN (pv 6))) (JV (JY (XN (pv 9)))))) (Qg (Qp (gf.pq hr hx (Qa (pv 0) (Qa (pv 7) (Qa (mv.pq hr hx (Qa (pv 10) (Qa (pv 8) (Qa (pv 3) Qb)))) Qb)))))) Qu)
  (Qg (Qp (gf.pq hr hx (Qa (pv 0) (Qa (pv 7) (Qa (rM.pe hr (by lia) Z hx (Qa (pv 10) (Qa (pv 6) (Qa (pv 9) Qb))) (k9 (pv 3) LM)) Qb)))))))))),?_⟩
 exists _,Z,q1,_,Z,.inl (.inl g1),Z,_,_,Z,_,_,Z,_,_,Z,Z;dsimp only[QL,J9,Za,Q4];exists _,Z,q2,_,Z,.inl (.inl g2),Z,_,_,Z,_,_,Z,_,_,Z,Z;dsimp only[QL,J9,Za,Q4];refine⟨_,Z,_,Z,_,Z,_,Z,_,Z,_,_,Z,Z,_,Z,tx s1,Z,by rw[Qx];lia,?_⟩;rw[show((n1:Nat):Int)+((k1:Nat):Int)=((n1+k1:Nat):Int) by lia,J1 s1 (by lia) (by lia),show n1+k1-n1=k1 by lia];have lp:(part s1 n1 k1).length<=k1:=by unfold part;rw[tY];lia
 rcases hc with⟨rfl,rfl,c1,c2,rfl⟩|⟨p1,p2,rfl,rfl,qMa⟩
 .refine⟨_,Z,true,Z,Q0 (Q0 ?_)⟩;refine⟨_,Z,_,Z,_,Z,_,Z,_,Z,part s1 n1 k1,k2,Z,by lia,by lia,?_⟩;exact⟨s1,_,n2,Z,by lia,by lia,by lia,kk _ (Qn.refl _)⟩
 .refine⟨_,Z,false,Z,QO ⟨_,Z,false,Z,QO ?_⟩⟩;refine⟨_,Z,_,Z,_,Z,_,Z,_,Z,_,Z,part s1 n1 k1,p1,p2,r,Z,qMa,λH1 S1=>?_⟩;exact⟨s1,r,n2,Z,by lia,by lia,by lia,kk _ S1⟩
def oj(y1 y2:Ly)(s:List Nat)(n1:Nat)(r:List Nat):Prop:=r.length<=200/\((∃a b i j,y1=.aN a i/\y2=.aN b j/\aH i<=200/\aH j<=200/\r=Aw (part s n1 (aH i)) (aH j))\/∃a b p1 p2,y1=.box a p1/\y2=.box b p2/\Mv p1 p2 (part s n1 (aX p1)) r)
def Oo(qMa:oj y1 y2 s n1 r)(g1:H q1=some (.tup [.int (n1:Nat),.int (Jm y1:Nat),z1]))(d1:ag H z1 (U8 y1))(g2:H q2=some (.tup [.int (n2:Nat),.int (Jm y2:Nat),z2]))(d2:ag H z2 (U8 y2))(h1:n1+Jm y1<=s.length)(h2:n2<=s.length)(h3:s.length<=10000)(k:∀H',Qn H H'->Q (.str (tx (lay s n2 r))) H'):d8 [.str (tx s),.ref q1,.ref q2,.bl false] H Q E:=by
 obtain⟨hr,⟨a,b,i,j,rfl,rfl,c1,c2,rfl⟩|⟨a,b,p1,p2,rfl,rfl,qMa⟩⟩:=qMa
 .have d1:ag H z1 .aq:=d1;have d2:ag H z2 .aq:=d2;cases d1;cases d2;exact⟨s,q1,q2,n1,_,n2,_,_,_,_,Z,g1,g2,h1,h2,h3,hr,.inl ⟨Z,Z,c1,c2,Z⟩,k⟩
 .obtain rfl:=ag.zU (show ag H z1 (.str (YI p1))from d1);obtain rfl:=ag.zU (show ag H z2 (.str (YI p2))from d2);exact⟨s,q1,q2,n1,_,n2,_,_,_,_,Z,g1,g2,h1,h2,h3,hr,.inr ⟨p1,p2,Z,Z,qMa⟩,k⟩
def Qgf(ha:∀R:VK,R (.str (tx s)) H->ta σ H R)(hb:∀R:VK,R (.ref q1) H->tb σ H R)(hc:∀R:VK,R (.ref q2) H->tc σ H R)(hd:∀R:VK,R (.bl false) H->td σ H R)(qMa:oj y1 y2 s n1 r)(g1:H q1=some (.tup [.int (n1:Nat),.int (Jm y1:Nat),z1]))(d1:ag H z1 (U8 y1))(g2:H q2=some (.tup [.int (n2:Nat),.int (Jm y2:Nat),z2]))(d2:ag H z2 (U8 y2))(h1:n1+Jm y1<=s.length)(h2:n2<=s.length)(h3:s.length<=10000)(k:∀H',Qn H H'->Q (.str (tx (lay s n2 r))) H'):XS d8 [] E (Je ta (Je tb (Je tc (Je td Wy)))) σ H Q:=
 ha _ (hb _ (hc _ (hd _ (Oo (E:=E) qMa g1 d1 g2 d2 h1 h2 h3 k))))
inductive b8 (C:Addr) (vs:List V) (H:Hp) (Q:VK) (ap:XK):Prop
 |mk (x:Addr) (lv wv At:V) (s:List Nat) (k:Nat) (dq:Addr) (its:List (Bool × Ly)) (ss im:List Step) (n n2:Nat) (y y2:Ly) (r:List Nat):vs=[.ref x,wv,At,.bl false]->aB C H x lv s k dq->Led H lv wv s its ss n y->Led H lv At s its im n2 y2->k<=900->oj y y2 s n r->(∀H',Kx dq H H'->aB C H' x lv (lay s n2 r) (k+2) dq->Q .aq H')->b8 C vs H Q ap
def jE(F:az K "move" "Area.move" XG f fd)(R:dN K C)(gc:Def P w K mg Y 12 "where" ["layout","path"] aD)(gQ:Def P w K mg Y 11 "with_move" ["held","source","target","right"] d8)(hJ:bf P w K mg Y C 1 "change" ["self","word","held"] (aO C)):Zz1 P w K mg Y 13 f fd ["self","path","other","right"] (b8 C):=by
 refine cT F X9 (by nofun) λam A L s H vs Q E hr h=>?_
 obtain⟨x,lv,wv,At,s1,k,dq,its,ss,im,n,n2,y,y2,r,rfl,AA,A1,A2,Ay,qMa,kk⟩:=h;have fr:=Jf (P:=P) (w:=w) (K:=K) (mg:=mg) (Y:=Y) (N:=["self","path","other","right","source","target"]) (qual:="Area.move") (scope:=Qe XG) (f:=f) (cd:=am) (A:=A) (L:=L) (s:=s) (H:=H) (E:=E);have hx:=QG fr;obtain⟨dx,fs,uq,ds,u8,F1,g,l⟩:=AA.ob;have hl:=A1.len;have lQ:=A1.rm;have hrm2:=A2.rm;refine⟨_,(Qd (Qt (i:=4) X9.nd Z Zz0 (gc.pq hr hx (Qv (J0 (pv 0) Z) (Qv (pv 1) Qb))))
  (Qd (Qt (i:=5) X9.nd Z Zz0 (gc.pq hr hx (Qv (J0 (pv 0) Z) (Qv (pv 2) Qb))))
  (Qg (Q6 (hJ.pe hr (by lia) hx (pv 0) (Qv Qk (Qv (gQ.pq hr hx (Qv (J0 (pv 0) Z) (Qv (pv 4) (Qv (pv 5) (Qv (pv 3) Qb))))) Qb))))))),?_⟩
 refine Xh A1 (λR' h=>⟨_,Z,x,C,dx,fs,_,Z,u8,R.cl,R.nl,F1.ly,h⟩) (λR' h=>⟨_,Z,h⟩) λq z H1 S1 gq dz=>?_;dsimp only[QL,J9,Za,Q4];refine Xh (A2.same S1) (λR' h=>⟨_,Z,x,C,dx,fs,_,Z,S1 _ _ u8,R.cl,R.nl,F1.ly,h⟩) (λR' h=>⟨_,Z,h⟩) λq2 z2 H2 S2 Iv Dm=>?_;have db:=S1.trans S2;exists _,Z,x,dx,fs,Z,db _ _ u8,F1.no _ jK.1 jK.2.1 jK.2.2.1 jK.2.2.2;refine Qgf (λR' h=>⟨_,Z,x,C,dx,fs,_,Z,db _ _ u8,R.cl,R.nh,F1.hd,h⟩) (λR' h=>⟨_,Z,h⟩) (λR' h=>⟨_,Z,h⟩) (λR' h=>⟨_,Z,h⟩) qMa (S2 _ _ gq) (dz.same S2) Iv Dm lQ (by lia) hl λH3 S3=>?_;exact⟨x,"move",_,lv,s1,k,dq,Z,AA.same (db.trans S3),Ay,λH4 K4 A4=>kk H4 ((Kx.of (db.trans S3)).trans K4) A4⟩
inductive cN (vs:List V) (H:Hp) (Q:VK) (ap:XK):Prop
 |mk (lv wv At:V) (s:List Nat) (its:List (Bool × Ly)) (ss im:List Step) (n n2:Nat) (nm iA:Str) (bv:List (Bool × Ly)):vs=[lv,wv,At]->Led H lv wv s its ss n (.aN nm bv)->Led H lv At s its im n2 (.aN iA bv)->aY bv<=10000->bK bv->(bA bv []).length<=4->jj ((bA bv []).map Jz)->(∀q xs H',Qn H H'->H q=none->H' q=some (.lst xs)->aj H' xs ((bA bv []).map Jz)->Q (.ref q) H')->cN vs H Q ap
def YM(F:az K "boxes_alike" "boxes_alike" J7 f fd)(O:Own mg)(OS:mg "set"=none)(nj:Def P w K mg Y 11 "found" ["layout","path"] bZ)(gO:Def P w K mg Y 3 "paths_of_boxes" ["items","with_tables"] cJ):Zz1 P w K mg Y 12 f fd ["layout","path","other"] cN:=by
 refine yC F Kv (by nofun) λam A L s H vs Q E hr h=>?_
 obtain⟨lv,wv,At,s1,its,ss,im,n,n2,nm,iA,bv,rfl,A1,A2,hw,ao,Az,Dq,kk⟩:=h;have hz:100000<=sizeLine:=by rw[yaF];lia
 have Iw:(A.deeper (envOfC "boxes_alike" (Qe J7) s.heap.objs.size f am)).units+64<cLine:=by have:=hr.units;lia
 have Iy:(A.deeper (envOfC "boxes_alike" (Qe J7) s.heap.objs.size f am)).units+32<cLine:=by lia
 refine⟨_,(QC (JL (i:=3) Kv.nd Z (Or.inr Z) (aA.mk (XV (ke Z Iw) Z OS boot_set (Qv (gO.pq hr Qr (Qv (QB QD (QB QD (nj.pq hr Qr (Qv (pv 0) (Qv (pv 2) Qb))) Qj (λ_ _=>rfl)) (KZ ZS Qj) (λ_ _=>rfl)) (Qv Xk Qb))) Qb))) Z Z)
  (Jb (Jq (aA.mk (Wi (NB:=[".0","way"]) (FR:=["others"]) (fi:=[3]) Z ⟨Z,by rfl'⟩ Z Z (Z4 (gO.pq hr Qr (Qv (QB QD (QB QD (nj.pq hr Qr (Qv (pv 0) (Qv (pv 1) Qb))) Qj (λ_ _=>rfl)) (KZ ZS Qj) (λ_ _=>rfl)) (Qv Xk Qb)))) (λ_ _ _=>(Qi (i:=1) (show([".0","way","others"]:List Str).Nodup by rfl') Z Zz0)) (λ_ _ _=>(VL (Ql (QaN (w0:=w) Z Iy) (pv 1) (pv 2) (by with_unfolding_all rfl)))) (λ_ _ _=>(pv 1))))))),?_⟩
 refine⟨_,Z,_,Z,lv,At,its,im,n2,_,Z,A2.dl,A2.dp,A2.bd,A2.rs,A2.ls,λq u H1 S1 g1 Du=>?_⟩;obtain⟨a,x,rfl,g,D2⟩:=Kw Du;exists q,_,1,_,Z,Z,.inl g1,Z;refine⟨_,Z,a,_,_,_,Z,Z,.inl g,Z,x,bv,Z,D2,hw,ao,λp xs H2 S2 gp Dp=>?_⟩;refine⟨p,xs,_,Z,.inl (.inl gp),Dp,Dq,by rw[Dp.length,tL];exact Az,λqs hqs=>?_⟩;have S3:=Qn.new (o:=o6 w qs xs ((bA bv []).map Jz)) hqs;have g3:upd H2 qs (o6 w qs xs ((bA bv []).map Jz)) qs=some (o6 w qs xs ((bA bv []).map Jz)):=Qf;have ms:=(S1.trans S2).trans S3;have Oq:=Dp.same S3;dsimp only[QL,J9,Za,Q4]
 change sH _ _ _ (upd H2 qs (o6 w qs xs ((bA bv []).map Jz)))
 generalize upd H2 qs (o6 w qs xs ((bA bv []).map Jz))=H3 at S3 g3 ms Oq ⊢;refine Wk ?_;have B1:=A1.same ms;refine⟨_,Z,_,Z,lv,wv,its,ss,n,_,Z,B1.dl,B1.dp,B1.bd,B1.rs,B1.ls,λq4 u4 H4 S4 g4 Du4=>?_⟩;obtain⟨a4,x4,rfl,ga4,D4⟩:=Kw Du4;exists q4,_,1,_,Z,Z,.inl g4,Z;refine⟨_,Z,a4,_,_,_,Z,Z,.inl ga4,Z,x4,bv,Z,D4,hw,ao,λp5 Dr H5 S5 Ot Iz=>?_⟩;have E4:=S4.trans S5;have l5:Dr.length<=4:=by rw[Iz.length,tL];exact Az
 exists p5,Z,⟨_,.inl (.inl Ot)⟩;refine je (fv:=[.ref qs]) (GZ (K:=K) (a:=p5) (xs:=Dr)) (λi vs H6=>H6=H5/\vs=Dr.take i) (λR h=>h H5 ⟨Z,Z⟩) rfl ?_ ?_ ?_ (by lia)
 .rintro i vs H6 hi ⟨rfl,rfl⟩;exact⟨.inl (.inl Ot),by rw[tY];lia⟩
 .rintro i v vs H6 H7 hi ⟨rfl,rfl⟩ ⟨rfl,hv⟩;obtain⟨d,hd,Dd⟩:=Iz.j6 hv;have hm:=lj hd;refine⟨Z,_,Z,_,Z,qs,xs,_,d,Z,E4 _ _ g3,Oq.same E4,Dq,Dd,λe he=>Dq e (by rw[yap.mp he];exact hm),λb hb=>⟨_,Z,?_⟩⟩;rw[hb.mpr hm];refine Q0 ⟨_,Z,Z,?_⟩;rw[yaJ,hv];rfl
 .rintro vs H6 ⟨rfl,rfl⟩ p6 Bt;have S6:=Qn.new (o:=.lst (Dr.take Dr.length)) Bt;exact kk p6 _ _ (ms.trans (E4.trans S6)) ((ms.trans E4).free Bt) (by rw[Qf,ycp]) (Iz.same S6)
inductive Chain (its:List (Bool × Ly)) (ss im:List Step):List (List Step)->List Nat->List Nat->Prop
 |nil {s:List Nat}:Chain its ss im [] s s
 |cons {w:List Step} {ws:List (List Step)} {s s2 r:List Nat} {n n2:Nat} {y y2:Ly} (h1:Res its (ss++w) n y) (h2:Res its (im++w) n2 y2) (l1:n+Jm y<=s.length) (l2:n2+Jm y2<=s.length) (m:oj y y2 s n r) (e:(lay s n2 r).length=s.length) (c:Chain its ss im ws (lay s n2 r) s2):Chain its ss im (w::ws) s s2
def jF{lv wv v:V}{ss wy:List Step}(dl:ag H lv (.tup (cb its)))(bd:bD its)(rs:Res its (ss++wy) n y)(ls:(ss++wy).length<=1000)(d1:ag H wv (Jz ss))(d2:ag H v (Jz wy))(he:∀R:VK,R lv H->te σ H R)(hp:∀R:VK,R wv H->tp σ H R)(hw:∀R:VK,R v H->tw σ H R)(kk:∀q z H',Qn H H'->H' q=some (.tup [.int (n:Nat),.int (Jm y:Nat),z])->ag H' z (U8 y)->Q (.ref q) H'):XS aD [] E (Je te (Je (dS bP tp tw) Wy)) σ H Q:=by
 have hz:100000<=sizeLine:=by rw[yaF];lia
 have e:(ss++wy).length=ss.length+wy.length:=tK;refine he _ (hp _ (hw _ (bP.deep d1 d2 (by rw[tL,tL];lia) λu H1 S1 D1=>?_)));rw[<-lr]at D1;refine⟨lv,u,its,ss++wy,n,y,Z,dl.same S1,D1,bd,rs,ls,λu2 H' S D=>?_⟩;obtain⟨q,z,rfl,g,Dz⟩:=Yt D;exact kk q z H' (S1.trans S) g Dz
def Qgg{lv wv At v:V}{ss im wy:List Step}(dl:ag H lv (.tup (cb its)))(bd:bD its)(rs:Res its (ss++wy) n y)(eT:Res its (im++wy) n2 y2)(ls:(ss++wy).length<=1000)(Ds:(im++wy).length<=1000)(d1:ag H wv (Jz ss))(d2:ag H At (Jz im))(dw:ag H v (Jz wy))(qMa:oj y y2 s n r)(h1:n+Jm y<=s.length)(h2:n2+Jm y2<=s.length)(h3:s.length<=10000)(ha:∀R:VK,R (.str (tx s)) H->ta σ H R)(he:∀R:VK,R lv H->te σ H R)(hp:∀R:VK,R wv H->tp σ H R)(hw:∀R:VK,R v H->tw σ H R)(Cu:∀(R:VK) H',Qn H H'->R lv H'->GX σ H' R)(ut:∀(R:VK) H',R At H'->AB σ H' R)(hw2:∀(R:VK) H',R v H'->Ou σ H' R)(hb:∀(R:VK) H',R (.bl false) H'->tb σ H' R)(k:∀H',Qn H H'->Q (.str (tx (lay s n2 r))) H'):XS d8 [] E (Je ta (Je (XS aD [] E (Je te (Je (dS bP tp tw) Wy))) (Je (XS aD [] E (Je GX (Je (dS bP AB Ou) Wy))) (Je tb Wy)))) σ H Q:=
 ha _ (jF dl bd rs ls d1 dw he hp hw λq z H1 S1 g1 Dz=>jF (dl.same S1) bd eT Ds (d2.same S1) (dw.same S1) (λR h=>Cu R H1 S1 h) (λR h=>ut R H1 h) (λR h=>hw2 R H1 h) λq2 z2 H2 S2 g2 Dz2=>hb _ _ (Oo (E:=E) qMa (S2 _ _ g1) (Dz.same S2) g2 Dz2 h1 (by lia) h3 λH3 S3=>k H3 ((S1.trans S2).trans S3)))
inductive bt (C:Addr) (vs:List V) (H:Hp) (Q:VK) (ap:XK):Prop
 |mk (x:Addr) (lv wv At:V) (s s2:List Nat) (k:Nat) (dq:Addr) (its:List (Bool × Ly)) (ss im:List Step) (n n2:Nat) (nm iA:Str) (bv:List (Bool × Ly)):vs=[.ref x,wv,At]->aB C H x lv s k dq->Led H lv wv s its ss n (.aN nm bv)->Led H lv At s its im n2 (.aN iA bv)->k<=900->aY bv<=10000->bK bv->(bA bv []).length<=4->jj ((bA bv []).map Jz)->(∀w∈bA bv [],(ss++w).length<=1000/\(im++w).length<=1000)->Chain its ss im (bA bv []) s s2->(∀H',Kx dq H H'->aB C H' x lv s2 (k+2) dq->Q (.int ((bA bv []).length:Nat)) H')->bt C vs H Q ap
def Wt(F:az K "move_alike" "Area.move_alike" JH f fd)(R:dN K C)(O:Own mg)(T:Txt K mg tk c kr)(gc:Def P w K mg Y 12 "where" ["layout","path"] aD)(gQ:Def P w K mg Y 11 "with_move" ["held","source","target","right"] d8)(mU:Def P w K mg Y 12 "boxes_alike" ["layout","path","other"] cN)(hJ:bf P w K mg Y C 1 "change" ["self","word","held"] (aO C)):Zz1 P w K mg Y 13 f fd ["self","path","other"] (bt C):=by
 refine cT F QT (by nofun) λam A L s H vs Q E hr h=>?_
 obtain⟨x,lv,wv,At,s1,s2,k,dq,its,ss,im,n,n2,nm,iA,bv,rfl,AA,A1,A2,Ay,hw,ao,Az,Dq,hlw,hc,kk⟩:=h;have fr:=Jf (P:=P) (w:=w) (K:=K) (mg:=mg) (Y:=Y) (N:=["self","path","other","source","target","ways","held","way"]) (qual:="Area.move_alike") (scope:=Qe JH) (f:=f) (cd:=am) (A:=A) (L:=L) (s:=s) (H:=H) (E:=E);have hx:=QG fr;have ht:=Jo fr;have hz:100000<=sizeLine:=by rw[yaF];lia
 obtain⟨dx,fs,uq,ds,u8,F1,g,l⟩:=AA.ob;refine⟨_,(Qd (Qt (i:=3) QT.nd Z Zz0 (gc.pq hr hx (Qv (J0 (pv 0) Z) (Qv (pv 1) Qb))))
  (Qd (Qt (i:=4) QT.nd Z Zz0 (gc.pq hr hx (Qv (J0 (pv 0) Z) (Qv (pv 2) Qb))))
  (Qd (QN (PW.pt (ZP (JY (jN (QB QD (pv 3) Qj (λ_ _=>rfl)))) (JV (JY (jN (QB QD (pv 4) Qj (λ_ _=>rfl))))))) (Qg (JD ht Z Z T.ur T.uv (Qv Qk Qb))) Qu)
  (Qd (Qt (i:=5) QT.nd Z Zz0 (mU.pq hr hx (Qv (J0 (pv 0) Z) (Qv (pv 1) (Qv (pv 2) Qb)))))
  (Qd (Qt (i:=6) QT.nd Z Zz0 (J0 (pv 0) Z))
  (Qd (ZR UA Z (Z4 (pv 5)) (Qi (i:=7) QT.nd Z Zz0) (Qg (Qt (i:=6) QT.nd Z Zz0 (gQ.pq hr hx (Qv (pv 6) (Qv (gc.pq hr hx (Qv (J0 (pv 0) Z) (Qv (QF VX (pv 1) (pv 7)) Qb))) (Qv (gc.pq hr hx (Qv (J0 (pv 0) Z) (Qv (QF VX (pv 2) (pv 7)) Qb))) (Qv Xk Qb))))))))
  (Qd (Q6 (hJ.pe hr (by lia) hx (pv 0) (Qv Qk (Qv (pv 6) Qb))))
  (Qg (Qp (Qw QI Z O.len ybg (Qv (pv 5) Qb))))))))))),?_⟩
 refine Xh A1 (λR' h=>⟨_,Z,x,C,dx,fs,_,Z,u8,R.cl,R.nl,F1.ly,h⟩) (λR' h=>⟨_,Z,h⟩) λq z H1 S1 gq dz=>?_;dsimp only[QL,J9,Za,Q4];refine Xh (A2.same S1) (λR' h=>⟨_,Z,x,C,dx,fs,_,Z,S1 _ _ u8,R.cl,R.nl,F1.ly,h⟩) (λR' h=>⟨_,Z,h⟩) λq2 z2 H2 S2 Iv Dm=>?_;have db:=S1.trans S2
 try dsimp only[QL,J9,Za,Q4]
 have dz:ag H1 z .aq:=dz;have Dm:ag H2 z2 .aq:=Dm;cases dz;cases Dm;refine⟨_,Z,q,_,2,_,Z,Z,.inl (S2 _ _ gq),Z,false,Z,QO ?_⟩;refine⟨_,Z,q2,_,2,_,Z,Z,.inl Iv,Z,false,Z,QO ?_⟩;refine⟨_,Z,x,C,dx,fs,_,Z,db _ _ u8,R.cl,R.nl,F1.ly,_,Z,_,Z,lv,wv,At,s1,its,ss,im,n,n2,nm,iA,bv,Z,A1.same db,A2.same db,hw,ao,Az,Dq,λq3 xs H3 S3 Bm g3 D3=>?_⟩;have ms:=db.trans S3
 try dsimp only[QL,J9,Za,Q4]
 exists _,Z,x,C,dx,fs,_,Z,ms _ _ u8,R.cl,R.nh,F1.hd
 try dsimp only[QL,J9,Za,Q4]
 exists _,Z,q3,Z,⟨_,.inl (.inl g3)⟩;refine WJ (GZ (K:=K) (a:=q3) (xs:=xs)) (λi σ H4=>∃(t:List Nat)(y7:Option V),σ=[some (.ref x),some wv,some At,some (.ref q),some (.ref q2),some (.ref q3),some (.str (tx t)),y7]/\Qn H3 H4/\t.length=s1.length/\Chain its ss im ((bA bv []).drop i) t s2) ⟨s1,none,Z,Qn.refl _,Z,hc⟩ ?_ ?_ ?_
 .rintro i σ H4 hi ⟨t,y7,rfl,S4,_,_⟩;exact .inl (.inl (S4 _ _ g3))
 .rintro i v σ H4 H5 hi ⟨t,y7,rfl,S4,lt,hc⟩ ⟨rfl,hv⟩;obtain⟨d,hd,Dd⟩:=D3.j6 hv;rw[lh]at hd;cases hb:(bA bv [])[i]? with
  |none=>rw[hb]at hd;cases hd
  |some wy=>
   rw[hb]at hd;obtain rfl:Jz wy=d:=tP hd;have lb:=(yaf.mp hb).1;rw[yaH lb,(yaf.mp hb).2]at hc;have hm:=hlw wy (lj hb);cases hc with
   |@cons _ _ _ _ r m1 m2 y1 y2 h1 h2 l1 l2 m e hc=>
    have sB:=ms.trans S4;refine Qgg (A1.dl.same sB) A1.bd h1 h2 hm.1 hm.2 (A1.dp.same sB) (A2.dp.same sB) (Dd.same S4) m l1 l2 (by have:=A1.len;lia) (λR' h=>⟨_,Z,h⟩) (λR' h=>⟨_,Z,x,C,dx,fs,_,Z,sB _ _ u8,R.cl,R.nl,F1.ly,h⟩) (λR' h=>⟨_,Z,h⟩) (λR' h=>⟨_,Z,h⟩) (λR' H' S' h=>⟨_,Z,x,C,dx,fs,_,Z,S' _ _ (sB _ _ u8),R.cl,R.nl,F1.ly,h⟩) (λR' H' h=>⟨_,Z,h⟩) (λR' H' h=>⟨_,Z,h⟩) (λR' H' h=>h) λH6 S6=>?_;exact⟨_,_,Z,S4.trans S6,by lia,hc⟩
 .rintro σ H4 ⟨t,y7,rfl,S4,lt,hc⟩;have sB:=ms.trans S4;rw[D3.length,tL,ybO]at hc;cases hc;exists _,Z,x,dx,fs,Z,sB _ _ u8,F1.no _ jK.1 jK.2.1 jK.2.2.1 jK.2.2.2;refine⟨_,Z,x,"move_alike",s2,lv,s1,k,dq,Z,AA.same sB,Ay,λH5 K5 A5=>?_⟩;have n3:q3≠dq:=λz=>by rw[z,db _ _ g]at Bm;cases Bm
  refine⟨_,Z,q3,xs,Z,.inl (.inl (.inl (K5 _ _ (S4 _ _ g3) n3 (λ_ _ _ z=>nomatch z)))),?_⟩;rw[D3.length,tL];exact kk _ ((Kx.of sB).trans K5) A5
section
variable {P:Program}{w:World}{K:Frag}{mg:Str->Option Value}{Y:Heap}{f:Addr}{fd:FuncData}
def qj{ns:List Int}(h:aE K H a (ns.map V.int)):Ei K (.ref a) H (!ns.isEmpty):=.inl ⟨_,h,by cases ns<;>rfl⟩
def jG(F:az K "_law_draw" "_law_draw" KL f fd)(O:Own mg):Zz1 P w K mg Y 1 f fd ["_law_script","_law_town","_law_many"] (cg K):=by
 refine okN F Zm (by nofun) λam A L s H vs Q E hr h=>?_
 obtain⟨a,t,r,ns,c,many,rs,rfl,hS,T,nat,eQ,hl,hc,eY,o5,k⟩:=h;have hu:=RK hr;have T1:aK (upd H t (.dK [(Sum.inr "count",.int (c+1)),(Sum.inr "rests",.ref r)])) t r (c+1) rs:=⟨Qf,by rw[Qo T.ne.symm];exact T.rt,T.vs,by have:=T.c0;lia,by have:=T.ln;lia,T.ne⟩;have Dt:=hS.upd (o:=.dK [(Sum.inr "count",.int (c+1)),(Sum.inr "rests",.ref r)]) nat;have A1:Apart t r H (upd H t (.dK [(Sum.inr "count",.int (c+1)),(Sum.inr "rests",.ref r)])):=λb o e n1 n2=>by rw[Qo n1];exact e
 refine⟨_,(Qd (wq hu (pv 1) Qk (QF Ji (VD hu (pv 1) Qk (λ_ _=>rfl)) Qj) Z)
  (Qd (Qt (i:=3) Zm.nd Z Zz0 (Jh (Jd (pv 0) (λ_=>rfl)) (QF W7 (VD hu (pv 1) Qk (λ_ _=>rfl)) (Qw QI Z O.len ybg (Qa (pv 0) Qb))) Qj))
  (Qd (Qt (i:=4) Zm.nd Z Zz0 (yS hu (VD hu (pv 1) Qk (λ_ _=>rfl)) (pv 3) (Jh (Jd (pv 0) (λ_=>rfl)) (QB Jv (pv 0) (pv 3) (λ_ _=>rfl)) Qj) ⟨Z,Z,Z,Z⟩))
  (Qd (QN (Ql kW (pv 4) (QF LC Qj Qj) (Qq _)) (Qd (wq hu (VD hu (pv 1) Qk (λ_ _=>rfl)) (pv 3) (QF Ua (pv 4) (pv 2)) Z)
  (Qg (Qp (QF W7 (pv 4) (pv 2))))) Qu)
  (Qd (Qt (i:=5) Zm.nd Z Zz0 (QF W7 (QF Ji (pv 4) (QF K7 Qj (VD hu (pv 1) Qk (λ_ _=>rfl)))) Qj))
  (Qd (Qt (i:=5) Zm.nd Z Zz0 (QF W7 (QF LC (pv 5) Qj) Qj))
  (Qg (Qp (QF W7 (QF Ua (QF W7 (QF Ji (QF K7 (QF Ua (pv 5) Qj) Qj) (pv 5)) Qj) Qj) (pv 2)))))))))),?_⟩
 exists _,Z,t,_,Z,Ki T.tw,_,_,Z,Z,_,Z,t,_,Z,xO _ T.tw;exists _,Z,_,qj Dt;refine cf (λhz=>?_) (λhz=>?_)
 .have hp:0<ns.length:=by cases ns with|nil=>cases hz|cons a r=>exact yff _
  have Ai:(0:Int)<((ns.map V.int).length:Int):=by rw[tL];lia
  exists _,Z,t,_,Z,Ki T1.tw,_,Z,a,_,Z,.inl Dt,_,_,Z,Z,Ai;have m1:=ybu (c+1) (ybQ Ai);have m2:=ybb (c+1) Ai;obtain⟨j,hj⟩:=ydd m1;have ES:j<ns.length:=by rw[hj,tL]at m2;lia
  exists _,Z,t,_,Z,Kj T1.tw,r,Z,.inl ⟨rs,.inl T1.rt⟩,_,Z,_,Z,_,qj Dt;rw[hz];refine Q0 ⟨_,Z,_,Z,a,_,_,V.int ns[j],Z,Z,Dt,?_,_,xK.k (k:=Sum.inl ((c+1) % ((ns.map V.int).length:Int))) T1.rt,?_⟩
  .show eG (ns.map V.int) ((c+1) % ((ns.map V.int).length:Int))=_;rw[hj];refine Zo ?_;rw[lh,yad ES];rfl
  obtain⟨z,hz⟩:=qR T1.vs ((c+1) % ((ns.map V.int).length:Int)) (ns[j]);rw[hz];exists _,Z,_,_,Z,Z,⟨by lia,by lia,by lia⟩,_,_,Z,Z,_,Z;refine cf (λg=>?_) (λg=>?_)
  .have P2:=qS T1.vs ((c+1) % ((ns.map V.int).length:Int)) (z/many);refine⟨_,Z,_,Z,_,_,Z,Z,⟨eY,by lia⟩,_,Z,t,_,Z,Kj T1.tw,_,Z,r,_,Z,oG.k (k:=Sum.inl ((c+1) % ((ns.map V.int).length:Int))) T1.rt (yan (m:=100001) (by have:=T.ln;lia) (by lia)),?_⟩;exists _,Z,_,Z,_,_,Z,Z,eY;refine k _ (putK rs (Sum.inl ((c+1) % ((ns.map V.int).length:Int))) (.int (z/many))) _ (ybu _ (ybQ eY)) (ybb _ eY) ⟨?_,Qf,P2.1,T1.c0,?_,T.ne⟩ (A1.trans λb o e n1 n2=>by rw[Qo n2];exact e)
   .rw[Qo T.ne];exact T1.tw
   .have:=P2.2;have:=T.ln;lia
  .refine⟨_,Z,_,Z,t,_,Z,Ki T1.tw,_,_,Z,Z,.inl ⟨by lia,by lia⟩,_,_,Z,Z,_,_,Z,Z,(show(0:Int)<4294967291 by lia),?_⟩;have n1:=ybu (z+104729*(c+1)) (show(4294967291:Int)≠0 by lia);have n2:=ybb (z+104729*(c+1)) (show(0:Int)<4294967291 by lia);refine⟨_,Z,_,_,Z,Z,⟨by lia,by lia,by show Int.natAbs _<2^64;lia⟩,_,_,Z,Z,(show(0:Int)<4294967279 by lia),?_⟩;exists _,Z,_,_,Z,Z,⟨by lia,by lia⟩,_,_,Z,Z,.inr ⟨by lia,by lia⟩,_,Z,_,_,Z,Z,_,_,Z,Z,(show(0:Int)<4294967231 by lia),_,_,Z,Z,⟨by lia,by lia⟩,_,Z,_,_,Z,Z,eY;exact k _ rs _ (ybu _ (ybQ eY)) (ybb _ eY) T1 A1
 .exists _,Z,t,_,Z,Kj T1.tw,r,Z,.inl ⟨rs,.inl T1.rt⟩,_,Z,_,Z,_,qj Dt;rw[hz];refine QO ⟨_,xK.k (k:=Sum.inl (0:Int)) T1.rt,?_⟩;obtain⟨z,hz⟩:=qR T1.vs ((0:Int)) (0);rw[hz];exists _,Z,_,_,Z,Z,⟨by lia,by lia,by lia⟩,_,_,Z,Z,_,Z;refine cf (λg=>?_) (λg=>?_)
  .have P2:=qS T1.vs ((0:Int)) (z/many);refine⟨_,Z,_,Z,_,_,Z,Z,⟨eY,by lia⟩,_,Z,t,_,Z,Kj T1.tw,_,Z,r,_,Z,oG.k (k:=Sum.inl ((0:Int))) T1.rt (yan (m:=100001) (by have:=T.ln;lia) (by lia)),?_⟩;exists _,Z,_,Z,_,_,Z,Z,eY;refine k _ (putK rs (Sum.inl ((0:Int))) (.int (z/many))) _ (ybu _ (ybQ eY)) (ybb _ eY) ⟨?_,Qf,P2.1,T1.c0,?_,T.ne⟩ (A1.trans λb o e n1 n2=>by rw[Qo n2];exact e)
   .rw[Qo T.ne];exact T1.tw
   .have:=P2.2;have:=T.ln;lia
  .refine⟨_,Z,_,Z,t,_,Z,Ki T1.tw,_,_,Z,Z,.inl ⟨by lia,by lia⟩,_,_,Z,Z,_,_,Z,Z,(show(0:Int)<4294967291 by lia),?_⟩;have n1:=ybu (z+104729*(c+1)) (show(4294967291:Int)≠0 by lia);have n2:=ybb (z+104729*(c+1)) (show(0:Int)<4294967291 by lia);refine⟨_,Z,_,_,Z,Z,⟨by lia,by lia,by show Int.natAbs _<2^64;lia⟩,_,_,Z,Z,(show(0:Int)<4294967279 by lia),?_⟩;exists _,Z,_,_,Z,Z,⟨by lia,by lia⟩,_,_,Z,Z,.inr ⟨by lia,by lia⟩,_,Z,_,_,Z,Z,_,_,Z,Z,(show(0:Int)<4294967231 by lia),_,_,Z,Z,⟨by lia,by lia⟩,_,Z,_,_,Z,Z,eY;exact k _ rs _ (ybu _ (ybQ eY)) (ybb _ eY) T1 A1
def qk(F:az K "_law_begun" "_law_begun" Kb f fd):Zz1 P w K mg Y 1 f fd [] cw:=by
 refine yC F UR (λvs H Q E h=>?_) (λam A L s H vs Q E hr h=>?_)
 .obtain⟨rfl,_⟩:=h;rfl
 .obtain⟨rfl,k⟩:=h;exists _,xN;intro p hp d hd;have E5:d≠p:=λz=>by rw[z,Qf]at hd;cases hd
  have lT:H d=none:=by rw[Qo E5]at hd;exact hd
  exists by rw[Qo E5.symm,Qf],[(Sum.inr "count",.int 0),(Sum.inr "rests",.ref d)],Z,yae rfl;have e:VE [] [((Sum.inr "count":Key),V.int 0),((Sum.inr "rests":Key),V.ref d)]=[((Sum.inr "count":Key),V.int 0),((Sum.inr "rests":Key),V.ref d)]:=by
   have h:¬ ((Sum.inr "count":Key)=(Sum.inr "rests":Key)):=wD;unfold VE putK;simp[h]
  rw[e];refine k p d _ hp lT ⟨Qf,by rw[Qo E5,Qf],(λkv hm=>nomatch hm),by lia,by lia,E5.symm⟩ λb o z=>?_;rw[Qo (QA z hp),Qo (QA z lT),Qo (QA z hp)];exact z
def jH{c:Int}{rs:List (Key × V)}(A:Apart t r H H')(T:aK H' t r c rs)(h:H' q=none):H q=none:=by
 cases e:H q with
 |none=>rfl
 |some o=>
  by_cases z1:q=t
  .rw[z1,T.tw]at h;cases h
  .by_cases z2:q=r
   .rw[z2,T.rt]at h;cases h
   .rw[A q o e z1 z2]at h;cases h
end
inductive b9 (K:Frag) (vs:List V) (H:Hp) (Q:VK) (ap:XK):Prop
 |mk (a t r:Addr) (ns:List Int) (c re AD:Int) (rs:List (Key × V)):vs=[.ref a,.ref t,.int re,.int AD]->aE K H a (ns.map V.int)->aK H t r c rs->a≠t->a≠r->ns.length<=63->c<90000->0<=re->re<=9->0<=AD->AD<=9->(∀(u o c':Int)(Ix:List (Key × V))(H':Hp)(q:Addr),u.natAbs<10^9->0<=o->o<=AD->H q=none->H' q=some (.tup [.int u,.int o])->aK H' t r c' Ix->c'<=c+20->Apart t r H H'->Q (.ref q) H')->b9 K vs H Q ap
def W3(F:az K "_law_an_amount" "_law_an_amount" Zs f fd)(O:Own mg)(gk:Def P w K mg Y 1 "_law_draw" ["_law_script","_law_town","_law_many"] (cg K)):Zz1 P w K mg Y 2 f fd ["_law_script","_law_town","_law_figures","_law_far"] (b9 K):=by
 refine okN F JI (by nofun) λam A L s H vs Q E hr h=>?_
 obtain⟨a,t,r,ns,c,re,AD,rs,rfl,hS,T,nat,eQ,hl,hc,NW,hf1,hg0,hg1,k⟩:=h;refine⟨_,(Qd (Ls (i:=4) (j:=5) Z JI.nd Z Z (by lia) Z Z (Qa Qj (Qa (gk.pq hr Qr (Qa (pv 0) (Qa (pv 1) (Qa (QF Ji (pv 3) Qj) Qb)))) Qb)) Z)
  (Qd (ZR yaz Z (XU Z O.range (Qa (gk.pq hr Qr (Qa (pv 0) (Qa (pv 1) (Qa (QF Ji (pv 2) Qj) Qb)))) Qb)) (Qi (i:=6) JI.nd Z Zz0) (Qg (Qt (i:=4) JI.nd Z Zz0 (QF Ji (QF K7 (pv 4) Qj) (gk.pq hr Qr (Qa (pv 0) (Qa (pv 1) (Qa Qj Qb))))))))
  (Qg (Qp (Qs (Qa (Jh (Ql Jl (gk.pq hr Qr (Qa (pv 0) (Qa (pv 1) (Qa Qj Qb)))) Qj (Qq _)) (pv 4) (QF Vw Qj (pv 4))) (Qa (pv 5) Qb))))))),?_⟩
 refine⟨_,Z,_,Z,_,Z,_,_,Z,Z,a,t,r,ns,c,_,rs,Z,hS,T,nat,eQ,hl,by lia,by lia,by lia,λo sd H1 o0 o1 T1 A1=>⟨_,_,Z,?_⟩⟩;refine⟨_,Z,_,Z,_,Z,_,_,Z,Z,a,t,r,ns,_,_,sd,Z,A1.seq hS nat eQ,T1,nat,eQ,hl,by lia,by lia,by lia,λn eT H2 n0 n1 T2 A2=>?_⟩;refine⟨n,Z,by lia,by lia,qE (n:=n.toNat) (λi σ H3=>∃z x c3 Dy,σ=[some (.ref a),some (.ref t),some (.int re),some (.int AD),some (.int z),some (.int o),x]/\0<=z/\z<10^i/\aK H3 t r c3 Dy/\c3<=c+2+i/\Apart t r H H3)
  ⟨0,none,_,eT,Z,by lia,by lia,T2,by lia,A1.trans A2⟩ ?_ ?_⟩
 .rintro i σ H3 hi ⟨z,x,c3,Dy,rfl,z0,z1,T3,hc3,A3⟩;refine⟨_,Z,_,_,Z,Z,.inr ⟨by lia,by lia⟩,_,Z,_,Z,a,t,r,ns,c3,_,Dy,Z,A3.seq hS nat eQ,T3,nat,eQ,hl,by lia,by lia,by lia,λd E6 H4 d0 d1 T4 A4=>?_⟩;refine⟨_,_,Z,Z,_,_,_,E6,Z,by lia,?_,T4,by lia,A3.trans A4⟩;rw[Int.pow_succ];lia
 .rintro σ H3 ⟨z,x,c3,Dy,rfl,z0,z1,T3,hc3,A3⟩;have zb:z<10^9:=Int.lt_of_lt_of_le z1 (by
   have:n.toNat<=9:=by lia
   have h:=ybZ (n:=10) (by lia) this
   exact_mod_cast h)
  refine⟨_,Z,_,Z,a,t,r,ns,c3,_,Dy,Z,A3.seq hS nat eQ,T3,nat,eQ,hl,by lia,by lia,by lia,λd E6 H4 d0 d1 T4 A4=>?_⟩;exists Z,_,Z;refine cf (λg=>?_) (λg=>?_)
  .refine⟨_,Z,_,Z,by show 2<=sizeLine;lia,λq hq=>?_⟩;exact k z o _ E6 _ q (by lia) o0 (by lia) (jH (A3.trans A4) T4 hq) Qf (T4.same (Qn.new hq)) (by lia) ((A3.trans A4).trans (.of (Qn.new hq)))
  .refine⟨_,Z,_,_,Z,Z,_,Z,by show 2<=sizeLine;lia,λq hq=>?_⟩;exact k (0-z) o _ E6 _ q (by lia) o0 (by lia) (jH (A3.trans A4) T4 hq) Qf (T4.same (Qn.new hq)) (by lia) ((A3.trans A4).trans (.of (Qn.new hq)))
noncomputable def qA:List (Bool × Ly):=[(false,.box "part" 0),(false,.box "note" 1)]
noncomputable def aQ(N:Nat):List (Bool × Ly):=[(false,.tab "rows" N qA),(false,.box "sum" 2),(true,.box "bits" 3)]
noncomputable def aU(N:Nat):List (Bool × Ly):=[(false,.aN "old" (aQ N)),(false,.aN "new" (aQ N)),(false,.box "seen" 4),(false,.box "short" 5)]
def E7(σ:L2.St)(H:Hp)(ta:TA)(ds:List Dv):Prop:=∀H1,Qn H H1->∀R:List V->Hp->Prop,(∀xs H2,Qn H1 H2->aj H2 xs ds->R xs H2)->ta σ H1 R
def fK(σ:L2.St)(H:Hp)(te:TE)(d:Dv):Prop:=∀H1,Qn H H1->∀R:VK,(∀x H2,Qn H1 H2->ag H2 x d->R x H2)->te σ H1 R
section
variable {ds:List Dv}
def QU:E7 σ H Wy []:=λH1 S R h=>h [] H1 (Qn.refl _) .nil
def Qm(h1:fK σ H te d)(h2:E7 σ H ta ds):E7 σ H (Je te ta) (d::ds):=λH1 S R h=>h1 H1 S _ λx H2 S2 D=>h2 H2 (S.trans S2) _ λxs H3 S3 t=>h _ _ (S2.trans S3) (.cons (D.same S3) t)
def QE:fK σ H (tC (.str x)) (.str x):=λH1 S R h=>h _ H1 (Qn.refl _) .str
def QV(h1:E7 σ H ta ds)(hl:Nat.ble ds.length 1000=true):fK σ H (FT ta) (.tup ds):=λH1 S R h=>h1 H1 S _ λxs H2 S2 t=>⟨by rw[t.length];exact yao (yae hl) (by lia),λp hp=>h _ _ (S2.trans (Qn.new hp)) (.tup Qf (t.same (Qn.new hp)))⟩
def Xi(e:σ[i]? =some (some x))(D:ag H x d):fK σ H (aF i) d:=λH1 S R h=>⟨x,e,h x H1 (Qn.refl _) (D.same S)⟩
end
inductive cO (vs:List V) (H:Hp) (Q:VK) (ap:XK):Prop
 |mk (N:Nat):vs=[.int (N:Nat)]->(∀u H',Qn H H'->ag H' u (.tup (cb (aU N)))->Q u H')->cO vs H Q ap
def ql(F:az K "_law_items" "_law_items" Kc f fd):Zz1 P w K mg Y 1 f fd ["_law_many"] cO:=by
 refine okN F ZD (by nofun) λam A L s H vs Q E hr h=>?_
 obtain⟨N,rfl,k⟩:=h;have hz:=zza
 refine⟨_,(Qd (Qt (i:=1) ZD.nd Z Zz0 (Qs (Qa (Qs (Qa Qk (Qa Qk (Qa Qk Qb)))) (Qa (Qs (Qa Qk (Qa Qk (Qa Qk Qb)))) Qb))))
  (Qd (Qt (i:=2) ZD.nd Z Zz0 (Qs (Qa (Qs (Qa Qk (Qa Qk (Qa (pv 0) (Qa (pv 1) Qb))))) (Qa (Qs (Qa Qk (Qa Qk (Qa Qk Qb)))) (Qa (Qs (Qa Qk (Qa (Qs (Qa Qk (Qa Qk (Qa Qk Qb)))) Qb))) Qb)))))
  (Qd (Qt (i:=3) ZD.nd Z Zz0 (Qs (Qa Qk (Qa Qk (Qa Qk Qb)))))
  (Qg (Qp (Qs (Qa (Qs (Qa Qk (Qa Qk (Qa (pv 2) Qb)))) (Qa (Qs (Qa Qk (Qa Qk (Qa (pv 2) Qb)))) (Qa (pv 3) (Qa (Qs (Qa Qk (Qa Qk (Qa Qk Qb)))) Qb)))))))))),?_⟩
 dsimp only[QL,J9,Za,Q4];refine QV (Qm (QV (Qm QE (Qm QE (Qm QE QU))) Z) (Qm (QV (Qm QE (Qm QE (Qm QE QU))) Z) QU)) rfl H (Qn.refl _) _ λx1 H1 S1 D1=>?_;refine QV (Qm (QV (Qm QE (Qm QE (Qm (Xi Z .int) (Qm (Xi Z D1) QU)))) Z) (Qm (QV (Qm QE (Qm QE (Qm QE QU))) Z) (Qm (QV (Qm QE (Qm (QV (Qm QE (Qm QE (Qm QE QU))) Z) QU)) Z) QU))) rfl H1 (Qn.refl _) _ λx2 H2 S2 D2=>?_;refine QV (Qm QE (Qm QE (Qm QE QU))) rfl H2 (Qn.refl _) _ λx3 H3 S3 D3=>?_;refine QV (Qm (QV (Qm QE (Qm QE (Qm (Xi Z (D2.same S3)) QU))) Z) (Qm (QV (Qm QE (Qm QE (Qm (Xi Z (D2.same S3)) QU))) Z) (Qm (Xi Z D3) (Qm (QV (Qm QE (Qm QE (Qm QE QU))) Z) QU)))) rfl H3 (Qn.refl _) _ λx4 H4 S4 D4=>?_;exact k _ _ (S1.trans (S2.trans (S3.trans S4))) D4
def Res.cast{ss:List Step}(h:Res its ss n y)(e:n=m):Res its ss m y:=e▸h
def qm:("part":Str)≠"note"/\("rows":Str)≠"sum"/\("rows":Str)≠"bits"/\("sum":Str)≠"bits"/\("old":Str)≠"new"/\("old":Str)≠"seen"/\("new":Str)≠"seen"/\("old":Str)≠"short"/\("new":Str)≠"short"/\("seen":Str)≠"short":=by rfl'
def yn:aH qA=8:=by
 unfold qA;simp only[aH,fm,Ly.sz,yam,yaL];rfl
def W4(N:Nat):aH (aQ N)=8*N+8:=by
 unfold aQ;simp only[aH,fm,Ly.sz,yam,yaL,ybM,yn];rfl
def Ov(N:Nat):aH (aU N)=16*N+31:=by
 unfold aU;simp only[aH,fm,Ly.sz,yam,yaL,W4];show 8*N+8+(8*N+8+(12+(3+0)))=_;lia
def Qdu:fq qA ("part",none) 0 false (.box "part" 0) 0:=⟨Z,Z,λi x h=>by lia,Z⟩
def Qdv(h:i<N):fq (aQ N) ("rows",some i) 0 false (.tab "rows" N qA) (8*i):=⟨Z,Z,λi x h=>by lia,by
 show(if i<N then some (i*aH qA)else none)=_;rw[yai h,yn,ybP]⟩
def Qe7:fq (aQ N) ("sum",none) 1 false (.box "sum" 2) 0:=⟨Z,Z,λi x h e=>by
 obtain rfl:i=0:=by lia
 cases e;exact qm.2.1,Z⟩
def Qdw:fq (aQ N) ("bits",none) 2 true (.box "bits" 3) 0:=⟨Z,Z,λi x h e=>by
 match i,h with
 |0,_=>cases e;exact qm.2.2.1
 |1,_=>cases e;exact qm.2.2.2.1,Z⟩
def Ow:fq (aU N) ("old",none) 0 false (.aN "old" (aQ N)) 0:=⟨Z,Z,λi x h=>by lia,Z⟩
def Ox:fq (aU N) ("new",none) 1 false (.aN "new" (aQ N)) 0:=⟨Z,Z,λi x h e=>by
 obtain rfl:i=0:=by lia
 cases e;exact qm.2.2.2.2.1,Z⟩
def Qdx:fq (aU N) ("seen",none) 2 false (.box "seen" 4) 0:=⟨Z,Z,λi x h e=>by
 match i,h with
 |0,_=>cases e;exact qm.2.2.2.2.2.1
 |1,_=>cases e;exact qm.2.2.2.2.2.2.1,Z⟩
def Qbe:fq (aU N) ("short",none) 3 false (.box "short" 5) 0:=⟨Z,Z,λi x h e=>by
 match i,h with
 |0,_=>cases e;exact qm.2.2.2.2.2.2.2.1
 |1,_=>cases e;exact qm.2.2.2.2.2.2.2.2.1
 |2,_=>cases e;exact qm.2.2.2.2.2.2.2.2.2,Z⟩
def E8(its:List (Bool × Ly)):aH (its.take (under its 0))=0:=by
 rw[under,ycI,aH]
def Oy(N:Nat):aH ((aQ N).take (under (aQ N) 1))=8*N:=by
 have e:(aQ N).take (under (aQ N) 1)=[(false,.tab "rows" N qA)]:=rfl;rw[e];simp only[aH,fm,Ly.sz,yam,yaL,yn]
 try rfl
def Qe8(N:Nat):aH ((aQ N).take (under (aQ N) 2))=8*N:=Oy N
def Oz(N:Nat):aH ((aU N).take (under (aU N) 1))=8*N+8:=by
 have e:(aU N).take (under (aU N) 1)=[(false,.aN "old" (aQ N))]:=rfl;rw[e];simp only[aH,fm,Ly.sz,yam,yaL,W4]
 try rfl
def Qe9(N:Nat):aH ((aU N).take (under (aU N) 2))=16*N+16:=by
 have e:(aU N).take (under (aU N) 2)=[(false,.aN "old" (aQ N)),(false,.aN "new" (aQ N))]:=rfl;rw[e];simp only[aH,fm,Ly.sz,yam,yaL,W4];lia
def Qfa(N:Nat):aH ((aU N).take (under (aU N) 3))=16*N+28:=by
 have e:(aU N).take (under (aU N) 3)=[(false,.aN "old" (aQ N)),(false,.aN "new" (aQ N)),(false,.box "seen" 4)]:=rfl;rw[e];simp only[aH,fm,Ly.sz,yam,yaL,W4];show 8*N+8+(8*N+8+(12+0))=_;lia
noncomputable def gN:Bool->Str
 |false=>"old"
 |true=>"new"
noncomputable def gB(N:Nat):Bool->Nat
 |false=>0
 |true=>8*N+8
theorem jI(N:Nat):∀b,Res (aU N) [(gN b,none)] (gB N b) (.aN (gN b) (aQ N))
 |false=>(Res.one Ow).cast (by rw[E8];rfl)
 |true=>(Res.one Ox).cast (by rw[Oz];rfl)
theorem IA{st:Step}{ss:List Step}(r:Res (aQ N) (st::ss) m y):∀b,Res (aU N) ((gN b,none)::st::ss) (gB N b+m) y
 |false=>(Res.aN Ow r).cast (by rw[E8];rfl)
 |true=>(Res.aN Ox r).cast (by rw[Oz];rfl)
def xk(h:i<N)(b:Bool):Res (aU N) [(gN b,none),("rows",some i),("part",none)] (gB N b+8*i) (.box "part" 0):=
 IA ((Res.tab (Qdv h) (Res.one Qdu)).cast (by rw[E8,E8];lia)) b
def yo(N:Nat)(b:Bool):Res (aU N) [(gN b,none),("sum",none)] (gB N b+8*N) (.box "sum" 2):=IA ((Res.one Qe7).cast (by rw[Oy];rfl)) b
def xm(N:Nat)(b:Bool):Res (aU N) [(gN b,none),("bits",none)] (gB N b+8*N) (.box "bits" 3):=IA ((Res.one Qdw).cast (by rw[Qe8];rfl)) b
def yp(N:Nat):Res (aU N) [("seen",none)] (16*N+16) (.box "seen" 4):=(Res.one Qdx).cast (by rw[Qe9])
def yq(N:Nat):Res (aU N) [("short",none)] (16*N+28) (.box "short" 5):=(Res.one Qbe).cast (by rw[Qfa])
def IC(h:N<=5):bD (aU N):=⟨by
 unfold aU aQ qA;simp only[cF,iw,Ly.cn]
 decide,by
 unfold aU aQ qA;simp only[bK,iz,Ly.dk,and_true,true_and];lia⟩
def Qgi(h:N<=5):aY (aU N)<=10000:=by
 unfold aU aQ qA;simp only[aY,Bs,Ly.wt];lia
def yr(N:Nat):bA (aQ N) []=[[(("sum":Str),none)],[(("bits":Str),none)]]:=by
 unfold aQ;simp only[bA,Ij,Ly.bx];rfl
def Qgj(N:Nat):jj ((bA (aQ N) []).map Jz):=by
 rw[yr];intro d hd;simp only[lD,ydt,yak,yaK,ycC]at hd;rcases hd with rfl|rfl<;>exact⟨⟨_,Z⟩,by rfl',by rfl'⟩
def Kq(h:n<=s.length):part (lay s n t) n t.length=t:=by
 unfold part lay;rw[lu,ydy (by rw[tY];lia),yaw (by rw[tY];lia),lA,List.take_left]
def Kg(h:n+t.length<=s.length):(lay s n t).length=s.length:=by
 unfold lay;rw[tK,tK,tY,tZ];lia
def qo(h:n+t.length<=s.length)(i:Nat):(lay s n t)[i]? =if i<n then s[i]? else if i<n+t.length then t[i-n]? else s[i]? :=by
 unfold lay;have l1:(s.take n).length=n:=by rw[tY];lia
 have l2:(s.take n++t).length=n+t.length:=by rw[tK,l1]
 by_cases h1:i<n
 .rw[yai h1,ybV (by lia),ybV (by lia),yer h1]
 .rw[yah h1]
  by_cases h2:i<n+t.length
  .rw[yai h2,ybV (by lia),ybL (by lia),l1]
  .rw[yah h2,ybL (by lia),l2,ycs]
   congr 1
   lia
def XM(s:List Nat)(n k i:Nat):(part s n k)[i]? =if i<k then s[n+i]? else none:=by
 unfold part;rw[yem]
 split
 .rw[ycs]
 .rfl
def Zi(h:n+t.length<=s.length)(o:m+k<=n\/n+t.length<=m):part (lay s n t) m k=part s m k:=by
 apply ybG;intro i;rw[XM,XM]
 split
 .rw[qo h];rcases o with o|o
  .rw[yai (by lia)]
  .rw[yah (by lia),yah (by lia)]
 .rfl
def Qdz(h:n+t.length<=s.length)(o:m+k<=t.length):part (lay s n t) (n+m) k=part t m k:=by
 apply ybG;intro i;rw[XM,XM]
 split
 .rw[qo h,yah (by lia),yai (by lia)]
  congr 1
  lia
 .rfl
def yt(o:m+j<=k):part (part s n k) m j=part s (n+m) j:=by
 apply ybG;intro i;rw[XM,XM,XM]
 split
 .rw[yai (by lia),yfc]
 .rfl
def qp(h:n+k<=s.length):(part s n k).length=k:=by
 unfold part;rw[tY,tZ];lia
def xn(h:t.length=n):Aw t n=t:=by
 unfold Aw;rw[h,Nat.sub_self, <-h,ycp];exact lB _
def jJ(h1:1<=a+b)(hb:b<=18)(h:u.natAbs<10^(a+b)):kA true a b (cont true a b u b)/\ZM true (cont true a b u b)=u/\(cont true a b u b).length=a+b:=by
 obtain⟨h1,h2,h3,_⟩:=Z3 true u b h1;rw[Wr hb h]at h2;refine⟨h1,?_,h3⟩;rw[h2]
 split
 .lia
 .rename_i z;simp only[true_and]at z;lia
def Yu(e:t=cont true 3 2 u 2)(h:u.natAbs<10^5):fw 0 t u 2:=by
 obtain⟨h1,h2,h3⟩:=jJ (a:=3) (b:=2) (u:=u) (by lia) (by lia) h;have h3:(cont true 3 2 u 2).length=5:=h3;subst e;exact⟨.inl ⟨Z,h1,h2.symm,Z⟩,by rw[h3];lia⟩
def yu(e:t=cont true 6 2 u 2)(h:u.natAbs<10^8):fw 2 t u 2:=by
 obtain⟨h1,h2,h3⟩:=jJ (a:=6) (b:=2) (u:=u) (by lia) (by lia) h;have h3:(cont true 6 2 u 2).length=8:=h3;subst e;exact⟨.inl ⟨Z,h1,h2.symm,Z⟩,by rw[h3];lia⟩
noncomputable def Jy(us:Nat->Int):Nat->Int
 |0=>0
 |n+1=>Jy us n+us n
theorem xo(us:Nat->Int)(i:Nat)(v:Int):∀N,Jy (λj=>if j=i then v else us j) N=if i<N then Jy us N+v-us i else Jy us N
 |0=>rfl
 |n+1=>by
  have ih:=xo us i v n;show Jy (λj=>if j=i then v else us j) n+(if n=i then v else us n)=if i<n+1 then Jy us n+us n+v-us i else Jy us n+us n;rw[ih]
  by_cases h:i<n
  .rw[yai h,yah (show ¬ n=i by lia),yai (show i<n+1 by lia)];lia
  .rw[yah h]
   by_cases e:n=i
   .subst e;rw[yai rfl,yai (show n<n+1 by lia)];lia
   .rw[yah e,yah (show ¬ i<n+1 by lia)]
def qr{us:Nat->Int}(h:∀i<N,(us i).natAbs<10^5):(Jy us N).natAbs<=N*10^5:=by
 induction N with
 |zero=>exact ych rfl
 |succ n ih=>
  have h1:=ih λi hi=>h i (by lia);have h2:=h n (by lia);rw[Jy];lia
structure Cells(N:Nat)(s:List Nat)(us:Nat->Int)(d:Int):Prop where
 len:s.length=16*N+31
 pt:∀i<N,part s (8*i) 5=cont true 3 2 (us i) 2
 bd:∀i<N,(us i).natAbs<10^5
 sm:part s (8*N) 8=cont true 6 2 d 2
def Cells.part{us:Nat->Int}(h:Cells N s us d)(hi:i<N)(hv:v.natAbs<10^5):Cells N (lay s (8*i) (cont true 3 2 v 2)) (λj=>if j=i then v else us j) d:=by
 have l5:(cont true 3 2 v 2).length=5:=(Z3 true v 2 (by lia)).2.2.1;have hl:=h.len;refine⟨by rw[Kg (by lia)];exact hl,λj hj=>?_,λj hj=>?_,?_⟩
 .by_cases e:j=i
  .subst e;rw[yai rfl];have:=Kq (s:=s) (t:=cont true 3 2 v 2) (n:=8*j) (by lia);rw[l5]at this;exact this
  .rw[yah e,Zi (by lia) (by lia)];exact h.pt j hj
 .show(if j=i then v else us j).natAbs<10^5
  split
  .exact hv
  .exact h.bd j hj
 .rw[Zi (by lia) (by lia)];exact h.sm
def Cells.sum{us:Nat->Int}(h:Cells N s us d):Cells N (lay s (8*N) (cont true 6 2 v 2)) us v:=by
 have l8:(cont true 6 2 v 2).length=8:=(Z3 true v 2 (by lia)).2.2.1;have hl:=h.len;exists by rw[Kg (by lia)];exact hl,λj hj=>?_,h.bd
 .rw[Zi (by lia) (by lia)];exact h.pt j hj
 .have:=Kq (s:=s) (t:=cont true 6 2 v 2) (n:=8*N) (by lia);rw[l8]at this;exact this
def OA(s r:List Nat)(h:k<=s.length):part (s++r) 0 k=s.take k:=by
 unfold part;rw[ybF,List.take_append_of_le_length h]
def xp:part (l++s) (l.length+n) k=part s n k:=by
 unfold part;rw[List.drop_append,yaw (by lia),lA,show l.length+n-l.length=n by lia]
theorem xq(h:l.length=8):∀(i N:Nat)(r:List Nat),i<N->part ((replicate N l).flatten++r) (8*i) 5=l.take 5
 |0,N+1,r,_=>by
  rw[yar,yaI,lu,Nat.mul_zero];exact OA _ _ (by lia)
 |i+1,N+1,r,hi=>by
  rw[yar,yaI,lu,show 8*(i+1)=l.length+8*i by lia,xp];exact xq h i N r (by lia)
def QdA{l:List Nat}(h:l.length=8)(N:Nat):(replicate N l).flatten.length=8*N:=by
 induction N with
 |zero=>rfl
 |succ n ih=>
  rw[yar,yaI,tK,ih,h];lia
def OB:bc qA=cont true 3 2 0 2++[32,32,32]:=by
 unfold qA;simp only[bc,oh,Ly.bg,yam,yaL]
 rfl'
def Qgk(N:Nat):bc (aQ N)=(replicate N (bc qA)).flatten++cont true 6 2 0 2:=by
 unfold aQ;simp only[bc,oh,Ly.bg,yam,yaL,ybM,lB]
 congr 1
def Qfb(N:Nat):Cells N (bc (aU N)) (λ_=>0) 0:=by
 have h8:(bc qA).length=8:=by rw[OB];rfl'
 have e:bc (aU N)=(replicate N (bc qA)).flatten++(cont true 6 2 0 2++(bc (aQ N)++(og 4++og 5))):=by
  unfold aU;simp only[bc,oh,Ly.bg,yam,yaL,lB];rw[Qgk,lu]
 refine⟨by rw[Yr,Ov],λi hi=>?_,λi hi=>by lia,?_⟩
 .rw[e,xq h8 i N _ hi,OB]
  rfl'
 .have:=QdA h8 N;rw[e,show 8*N=(replicate N (bc qA)).flatten.length+0 by lia,xp,OA _ _ (by rfl')]
  rfl'
def qt(h:d.natAbs<10^8):fw 4 (putL 4 d 2) d 2/\(putL 4 d 2).length=12:=by
 have fs:fit d 2 6 2=d:=Wr (a:=6) (b:=2) (by lia) h;have hs:sgn [] 45 []=true:=by lia
 have e:su [] zp [] 6 2 (cv [] zp [] (fit d 2 6 2))=some (if sgn [] 45 []=true/\d<0 then 0-((fit d 2 6 2).natAbs:Int)else((fit d 2 6 2).natAbs:Int)):=Dj.told d (by lia);have ep:putL 4 d 2=cv [] zp [] (fit d 2 6 2):=rfl;have hl:(putL 4 d 2).length=12:=xj (p:=4) d 2 (.inr Z);have ha:∀x∈cv [] zp [] (fit d 2 6 2),x<128:=Dj.Qgb (Y4 d 2 6 2);refine⟨⟨.inr ⟨Z,?_,Z,ep▸ha⟩,by lia⟩,hl⟩;rw[ep,e,fs,hs]
 congr 1
 split
 .lia
 .rename_i z;simp only[true_and]at z;lia
def qu(d:Int):fw 5 (putL 5 d 2) ((d.natAbs/100 % 1000:Nat):Int) 0/\(putL 5 d 2).length=3:=by
 have e:putL 5 d 2=cont false 3 0 d 2:=rfl;obtain⟨h1,h2,h3,_⟩:=Z3 false (a:=3) (b:=0) d 2 (by lia);have hf:=(yj d (o:=2) (a:=3) (b:=0) (by lia) (by lia)).1;rw[e];refine⟨⟨.inl ⟨Z,h1,?_,Z⟩,by rw[h3];lia⟩,h3⟩;show _=ZM false _;rw[h2,yah (by rintro⟨z,_⟩;cases z)];have hf:(fit d 2 3 0).natAbs=d.natAbs*10^0/10^2 % 10^(3+0):=hf;rw[hf];simp
def Qbf:fw 2 [48,48,48,48,48,48,48,113] (-1) 2:=⟨.inl ⟨Z,by rfl',by rfl',Z⟩,by lia⟩
def QdB{us:Nat->Int}(h:Cells N s us d)(hd:d.natAbs<10^8):oj (.box "sum" 2) (.box "seen" 4) s (8*N) (putL 4 d 2):=
 ⟨by rw[(qt hd).2];lia,.inr ⟨_,_,2,4,Z,Z,.E2 (yu h.sm hd) (ybh hd (by lia)) (.inr Z)⟩⟩
def Qbg(hd:d.natAbs<10^8)(e:part s n 12=putL 4 d 2):oj (.box "seen" 4) (.box "short" 5) s n (putL 5 d 2):=
 ⟨by rw[(qu d).2];lia,.inr ⟨_,_,4,5,Z,Z,.E2 (show fw 4 (part s n 12) d 2 from e▸(qt hd).1) (ybh hd (by lia)) (.inl Z)⟩⟩
def Qbh(hN:N<=5)(hl:s.length=16*N+31):oj (.aN "old" (aQ N)) (.aN "new" (aQ N)) s 0 (part s 0 (8*N+8)):=by
 have lp:(part s 0 (8*N+8)).length=8*N+8:=qp (by lia);refine⟨by lia,.inl ⟨_,_,aQ N,aQ N,Z,Z,by rw[W4];lia,by rw[W4];lia,?_⟩⟩;rw[W4,xn lp]
def alike(hN:N<=5)(hl:s.length=16*N+31)(hd:d.natAbs<10^8)(e:part s (8*N) 8=cont true 6 2 d 2):Chain (aU N) [("old",none)] [("new",none)] (bA (aQ N) []) s (lay s (16*N+8) (cont true 6 2 d 2)):=by
 have l8:(cont true 6 2 d 2).length=8:=(Z3 true d 2 (by lia)).2.2.1;have fs:fit d 2 6 2=d:=Wr (a:=6) (b:=2) (by lia) hd;rw[yr];have e1:gB N true+8*N=16*N+8:=by show 8*N+8+8*N=_;lia
 have e0:gB N false+8*N=8*N:=by show 0+8*N=_;lia
 have q1:(lay s (16*N+8) (cont true 6 2 d 2)).length=s.length:=Kg (by lia);have pp:part (lay s (16*N+8) (cont true 6 2 d 2)) (8*N) 8=cont true 6 2 d 2:=by rw[Zi (by lia) (by lia),e]
 have ll:lay (lay s (16*N+8) (cont true 6 2 d 2)) (16*N+8) (cont true 6 2 d 2)=lay s (16*N+8) (cont true 6 2 d 2):=by
  apply ybG;intro i;rw[qo (by lia),qo (by lia)]
  by_cases h1:i<16*N+8
  .simp only[yai h1]
  .by_cases h2:i<16*N+8+(cont true 6 2 d 2).length
   .simp only[yah h1,yai h2]
   .simp only[yah h1,yah h2]
 refine .cons (n:=8*N) (n2:=16*N+8) (y:=.box "sum" 2) (y2:=.box "sum" 2) (r:=cont true 6 2 d 2) ((yo N false).cast e0) ((yo N true).cast e1) (by show 8*N+8<=_;lia) (by show 16*N+8+8<=_;lia) ⟨by lia,.inr ⟨_,_,2,2,Z,Z,?_⟩⟩ q1 ?_
 .have:=Mv.E2 (p:=2) (p2:=2) (t:=part s (8*N) 8) (yu e hd) (ybh hd (by lia)) (.inl Z);exact this
 .refine .cons (n:=8*N) (n2:=16*N+8) (y:=.box "bits" 3) (y2:=.box "bits" 3) (r:=cont true 6 2 d 2) ((xm N false).cast e0) ((xm N true).cast e1) (by show 8*N+8<=_;lia) (by show 16*N+8+8<=_;lia) ⟨by lia,.inr ⟨_,_,3,3,Z,Z,?_⟩⟩ (by rw[ll]) ?_
  .have:=Mv.txt (p:=3) (p2:=3) (t:=part (lay s (16*N+8) (cont true 6 2 d 2)) (8*N) 8) rfl rfl (by rw[pp,l8];lia);have e8:Aw (part (lay s (16*N+8) (cont true 6 2 d 2)) (8*N) 8) (aX 3)=cont true 6 2 d 2:=by
    rw[pp];exact xn l8
   rw[e8]at this;exact this
  .rw[ll];exact .nil
structure aL(C:Addr)(H0 H:Hp)(a t r:Addr)(ns:List Int)(c:Int)(x:Addr)(lv:V)(s:List Nat)(k:Nat)(dq:Addr):Prop where
 fz:∃o,H a=some (.dA o (.lst (ns.map V.int)))
 tw:∃rs,aK H t r c rs
 ln:ns.length<=63
 kt:∀b ys,H0 b=some (.tup ys)->H b=some (.tup ys)
 ar:aB C H x lv s k dq
section
variable {K:Frag}{C:Addr}{H0 H H':Hp}{a t r:Addr}{ns:List Int}{c:Int}{x:Addr}{lv:V}{s:List Nat}{k:Nat}{dq:Addr}
def aL.bag(S:aL C H0 H a t r ns c x lv s k dq):oN K H a t r ns c:=by
 obtain⟨o,h⟩:=S.fz;obtain⟨rs,T⟩:=S.tw;exact⟨.inl (.inr ⟨o,h⟩),S.tw,(λz=>by rw[z,T.tw]at h;cases h),(λz=>by rw[z,T.rt]at h;cases h),S.ln⟩
theorem aL.same(S:aL C H0 H a t r ns c x lv s k dq)(e:Qn H H'):aL C H0 H' a t r ns c x lv s k dq:=by
 obtain⟨o,h⟩:=S.fz;obtain⟨rs,T⟩:=S.tw;exact⟨⟨o,e _ _ h⟩,⟨rs,T.same e⟩,S.ln,λb ys q=>e _ _ (S.kt b ys q),S.ar.same e⟩
def aL.OC(S:aL C H0 H a t r ns c x lv s k dq)(A:Apart t r H H'){Ix:List (Key × V)}(T':aK H' t r c' Ix):aL C H0 H' a t r ns c' x lv s k dq:=by
 obtain⟨o,h⟩:=S.fz;obtain⟨rs,T⟩:=S.tw;have keep:∀b o,H b=some o->(∀al,o≠ .dK al)->H' b=some o:=λb o e n=>A b o e (λz=>by rw[z,T.tw]at e;exact n _ (tP e).symm) (λz=>by rw[z,T.rt]at e;exact n _ (tP e).symm);obtain⟨dx,fs,uq,ds,hx,F1,g,l⟩:=S.ar.ob;exact⟨⟨o,keep _ _ h (λ_ z=>nomatch z)⟩,⟨Ix,T'⟩,S.ln,λb ys q=>keep _ _ (S.kt b ys q) (λ_ z=>nomatch z),⟨dx,fs,uq,ds,keep _ _ hx (λ_ z=>nomatch z),F1,keep _ _ g (λ_ z=>nomatch z),l⟩⟩
def aL.kx(S:aL C H0 H a t r ns c x lv s k dq)(e:Kx dq H H')(A:aB C H' x lv s' k' dq):aL C H0 H' a t r ns c x lv s' k' dq:=by
 obtain⟨o,h⟩:=S.fz;obtain⟨rs,T⟩:=S.tw;obtain⟨dx,fs,uq,ds,hx,F1,g,l⟩:=S.ar.ob;have d1:=e _ _ T.tw (λz=>by have q:=T.tw;rw[z,g]at q;cases q) (λ_ _ _ z=>nomatch z);have d2:=e _ _ T.rt (λz=>by have q:=T.rt;rw[z,g]at q;cases q) (λ_ _ _ z=>nomatch z);exact⟨⟨o,e _ _ h (λz=>by rw[z,g]at h;cases h) (λ_ _ _ z=>nomatch z)⟩,⟨rs,⟨d1,d2,T.vs,T.c0,T.ln,T.ne⟩⟩,S.ln,λb ys q=>e.qe g _ _ (S.kt b ys q),A⟩
end
def Bx:∀m∈([("get":Str),"amount","load","store","move","move_alike"]:List Str),m≠"layout"/\m≠"held"/\m≠"done"/\m≠"undone":=by rfl'
section
variable {K:Frag}{C:Addr}{H0 H:Hp}{a t r:Addr}{ns:List Int}{c:Int}{x:Addr}{lv:V}{s:List Nat}{k:Nat}{dq:Addr}{σ:L2.St}{i:Nat}{tp:TE}{its:List (Bool × Ly)}{ss im:List Step}{n:Nat}{nm:Str}{p:Nat}{Q:VK}{E:XK}
structure Hand(H0:Hp)(lv:V)(s:List Nat)(its:List (Bool × Ly)):Prop where
 dl:ag H0 lv (.tup (cb its))
 bd:bD its
 len:s.length<=10000
def Vd(qLa:aL C H0 H a t r ns c x lv s k dq)(Hd:Hand H0 lv s its)(rs:Res its ss n y)(ls:ss.length<=1000)(rm:n+Jm y<=s.length){wv:V}{H1:Hp}(S:Qn H H1)(D:ag H1 wv (Jz ss)):Led H1 lv wv s its ss n y:=⟨(Hd.dl.keep qLa.kt).same S,D,Hd.bd,rs,ls,Hd.len,rm⟩
def Wu(qLa:aL C H0 H a t r ns c x lv s k dq)(Hd:Hand H0 lv s its)(hi:σ[i]? =some (some (.ref x)))(hp:fK σ H tp (Jz ss))(rs:Res its ss n (.box nm p))(ls:ss.length<=1000)(rm:n+aX p<=s.length)(ha:fw p (part s n (aX p)) u o)(kk:∀q H',Qn H H'->H q=none->H' q=some (.tup [.int u,.int (o:Nat)])->Q (.ref q) H'):Ue C "amount" (df C) [] E (aF i) (Je tp Wy) σ H Q:=by
 obtain⟨dx,fs,uq,ds,hx,F1,g,l⟩:=qLa.ar.ob;have nn:=Bx "amount" (by rfl');exists _,hi,x,dx,fs,Z,hx,F1.no _ nn.1 nn.2.1 nn.2.2.1 nn.2.2.2;refine hp H (Qn.refl _) _ λwv H1 S1 D1=>?_;exact⟨x,lv,wv,s,k,dq,its,ss,n,nm,p,u,o,Z,qLa.ar.same S1,Vd qLa Hd rs ls rm S1 D1,ha,λq H' S2 hq g=>kk q H' (S1.trans S2) (S1.free hq) g⟩
def Y7(qLa:aL C H0 H a t r ns c x lv s k dq)(Hd:Hand H0 lv s its)(hi:σ[i]? =some (some (.ref x)))(hp:fK σ H tp (Jz ss))(rs:Res its ss n y)(ls:ss.length<=1000)(rm:n+Jm y<=s.length)(kk:∀H',Qn H H'->Q (.str (tx (part s n (Jm y)))) H'):Ue C "get" (d7 C) [] E (aF i) (Je tp Wy) σ H Q:=by
 obtain⟨dx,fs,uq,ds,hx,F1,g,l⟩:=qLa.ar.ob;have nn:=Bx "get" (by rfl');exists _,hi,x,dx,fs,Z,hx,F1.no _ nn.1 nn.2.1 nn.2.2.1 nn.2.2.2;refine hp H (Qn.refl _) _ λwv H1 S1 D1=>?_;exact⟨x,lv,wv,s,k,dq,its,ss,n,y,Z,qLa.ar.same S1,Vd qLa Hd rs ls rm S1 D1,λH' S2=>kk H' (S1.trans S2)⟩
def qv(qLa:aL C H0 H a t r ns c x lv s k dq)(Hd:Hand H0 lv s its)(hk:k<=900)(hi:σ[i]? =some (some (.ref x)))(hp:fK σ H tp (Jz ss))(hj:σ[j]? =some (some (.ref b)))(qMa:dQ K H b u o)(rs:Res its ss n (.box nm p))(ls:ss.length<=1000)(rm:n+aX p<=s.length)(h2:aZ p=2)(kN:10^(eN p+b0 p)<=(ay.Xj u o (b0 p)).natAbs->∀H',Qn H H'->Q (.bl false) H')(kS:(ay.Xj u o (b0 p)).natAbs<10^(eN p+b0 p)->∀H',aL C H0 H' a t r ns c x lv (lay s n (cont (iS p) (eN p) (b0 p) (ay.Xj u o (b0 p)) (b0 p))) (k+2) dq->Kx dq H H'->Q (.bl true) H'):Ue C "store" (br K C) [.bl false] E (aF i) (Je tp (Je (aF j) Wy)) σ H Q:=by
 obtain⟨dx,fs,uq,ds,hx,F1,g,l⟩:=qLa.ar.ob;have nn:=Bx "store" (by rfl');exists _,hi,x,dx,fs,Z,hx,F1.no _ nn.1 nn.2.1 nn.2.2.1 nn.2.2.2;refine hp H (Qn.refl _) _ λwv H1 S1 D1=>?_;refine⟨_,hj,x,lv,wv,s,k,dq,its,ss,n,nm,p,b,u,o,Z,qLa.ar.same S1,Vd qLa Hd rs ls rm S1 D1,hk,qMa.same S1,h2,λz H' S2=>kN z H' (S1.trans S2),λz H' K2 A2=>?_⟩;exact kS z H' (qLa.kx ((Kx.of S1).trans K2) A2) ((Kx.of S1).trans K2)
def zt(qLa:aL C H0 H a t r ns c x lv s k dq)(Hd:Hand H0 lv s its)(hk:k<=900)(hi:σ[i]? =some (some (.ref x)))(hp:fK σ H tp (Jz ss))(ut:fK σ H AB (Jz im))(rs:Res its ss n y)(ls:ss.length<=1000)(rm:n+Jm y<=s.length)(eT:Res its im n2 y2)(Ds:im.length<=1000)(ID:n2+Jm y2<=s.length){tt:List Nat}(qMa:oj y y2 s n tt)(kk:∀H',aL C H0 H' a t r ns c x lv (lay s n2 tt) (k+2) dq->Kx dq H H'->Q .aq H'):Ue C "move" (b8 C) [.bl false] E (aF i) (Je tp (Je AB Wy)) σ H Q:=by
 obtain⟨dx,fs,uq,ds,hx,F1,g,l⟩:=qLa.ar.ob;have nn:=Bx "move" (by rfl');exists _,hi,x,dx,fs,Z,hx,F1.no _ nn.1 nn.2.1 nn.2.2.1 nn.2.2.2;refine hp H (Qn.refl _) _ λwv H1 S1 D1=>ut H1 S1 _ λAt H2 S2 D2=>?_;have db:=S1.trans S2;exact⟨x,lv,wv,At,s,k,dq,its,ss,im,n,n2,y,y2,tt,Z,qLa.ar.same db,Vd qLa Hd rs ls rm db (D1.same S2),Vd qLa Hd eT Ds ID db D2,hk,qMa,λH' K2 A2=>kk H' (qLa.kx ((Kx.of db).trans K2) A2) ((Kx.of db).trans K2)⟩
def QdC(qLa:aL C H0 H a t r ns c x lv s k dq)(Hd:Hand H0 lv s its)(hk:k<=900)(hi:σ[i]? =some (some (.ref x)))(hp:fK σ H tp (Jz ss))(rs:Res its ss n (.box nm p))(ls:ss.length<=1000)(rm:n+aX p<=s.length){tt:List Nat}(ht:∀H1,∀R:VK,R (.str (tx tt)) H1->ta σ H1 R)(hl:tt.length=aX p)(kk:∀H',aL C H0 H' a t r ns c x lv (lay s n tt) (k+2) dq->Kx dq H H'->Q .aq H'):Ue C "load" (dh C) [] E (aF i) (Je tp (Je ta Wy)) σ H Q:=by
 obtain⟨dx,fs,uq,ds,hx,F1,g,l⟩:=qLa.ar.ob;have nn:=Bx "load" (by rfl');exists _,hi,x,dx,fs,Z,hx,F1.no _ nn.1 nn.2.1 nn.2.2.1 nn.2.2.2;refine hp H (Qn.refl _) _ λwv H1 S1 D1=>ht H1 _ ?_;exact⟨x,lv,wv,s,k,dq,its,ss,n,nm,p,tt,Z,qLa.ar.same S1,Vd qLa Hd rs ls rm S1 D1,hk,hl,λH' K2 A2=>kk H' (qLa.kx ((Kx.of S1).trans K2) A2) ((Kx.of S1).trans K2)⟩
def Qbi{bv:List (Bool × Ly)}(qLa:aL C H0 H a t r ns c x lv s k dq)(Hd:Hand H0 lv s its)(hk:k<=900)(hi:σ[i]? =some (some (.ref x)))(hp:fK σ H tp (Jz ss))(ut:fK σ H AB (Jz im))(rs:Res its ss n (.aN nm bv))(ls:ss.length<=1000)(rm:n+aH bv<=s.length)(eT:Res its im n2 (.aN iA bv))(Ds:im.length<=1000)(ID:n2+aH bv<=s.length){s2:List Nat}(h1:aY bv<=10000)(h2:bK bv)(h3:(bA bv []).length<=4)(h4:jj ((bA bv []).map Jz))(h5:∀w∈bA bv [],(ss++w).length<=1000/\(im++w).length<=1000)(h6:Chain its ss im (bA bv []) s s2)(kk:∀H',aL C H0 H' a t r ns c x lv s2 (k+2) dq->Kx dq H H'->Q (.int ((bA bv []).length:Nat)) H'):Ue C "move_alike" (bt C) [] E (aF i) (Je tp (Je AB Wy)) σ H Q:=by
 obtain⟨dx,fs,uq,ds,hx,F1,g,l⟩:=qLa.ar.ob;have nn:=Bx "move_alike" (by rfl');exists _,hi,x,dx,fs,Z,hx,F1.no _ nn.1 nn.2.1 nn.2.2.1 nn.2.2.2;refine hp H (Qn.refl _) _ λwv H1 S1 D1=>ut H1 S1 _ λAt H2 S2 D2=>?_;have db:=S1.trans S2;exact⟨x,lv,wv,At,s,s2,k,dq,its,ss,im,n,n2,nm,iA,bv,Z,qLa.ar.same db,Vd qLa Hd rs ls rm db (D1.same S2),Vd qLa Hd eT Ds ID db D2,hk,h1,h2,h3,h4,h5,h6,λH' K2 A2=>kk H' (qLa.kx ((Kx.of db).trans K2) A2) ((Kx.of db).trans K2)⟩
end
def OD(u:Int):ay.Xj u 2 2=u:=by
 have h:=Oa u (o:=2) (p:=2) (by lia) (by lia);have h:ay.Xj u 2 2=if u<0 then-((u.natAbs*10^2/10^2:Nat):Int)else((u.natAbs*10^2/10^2:Nat):Int):=h;rw[h,Nat.mul_div_cancel _ (by lia)]
 split<;>lia
def xr:part s n (k+j)=part s n k++part s (n+k) j:=by
 unfold part;rw[List.take_add,ycJ]
def yw{ds:List Dv}(h:∀d∈ds,d.depth<=n):Dv.JX ds<=n:=by
 induction ds with
 |nil=>exact lG _
 |cons d ds ih=>
  unfold Dv.JX;exact Nat.max_le.mpr ⟨h d (tX ..),ih λe he=>h e (tW _ he)⟩
def Qbj(t:List Nat)(n:Nat):StrLaws.sliceText (tx t) none (some ((n:Nat):Int))=tx (t.take n):=by
 have e2:sliceText (tx t) none (some ((n:Nat):Int))=sliceText (tx t) (some ((0:Nat):Int)) (some ((n:Nat):Int)):=by
  unfold sliceText;rw[sliceIdx_none_lo];rfl
 rw[e2,J1 t (lG _) (lG _)];simp
theorem yx:∀N,Jy (λ_=>0) N=0
 |0=>rfl
 |n+1=>by rw[Jy,yx n];rfl
def aL.mono{ns:List Int}{c:Int}{lv:V}(S:aL C H0 H a t r ns c x lv s k dq)(h:k<=k2):aL C H0 H a t r ns c x lv s k2 dq:=by
 obtain⟨dx,fs,uq,ds,hx,F1,g,l⟩:=S.ar.ob;exact⟨S.fz,S.tw,S.ln,S.kt,⟨dx,fs,uq,ds,hx,⟨F1.ly,F1.hd,F1.dn,F1.un,F1.no,yao F1.ln h⟩,g,yao l h⟩⟩
section
variable {P:Program}{w:World}{K:Frag}{mg:Str->Option Value}{Y:Heap}{f:Addr}{fd:FuncData}{c:Nat->Addr}{ca:Value}{C:Addr}
inductive eZ (vs:List V) (H:Hp) (Q:VK) (ap:XK):Prop
 |mk (a:Addr) (ns:List Int):vs=[.ref a]->ns.length<=63->(∃o,H a=some (.dA o (.lst (ns.map V.int))))->(∀H',Q (.bl true) H')->eZ vs H Q ap
def Qfc(F:sV K "law" "law" US f fd ca)(O:Own mg)(nk:Def P w K mg Y 1 "_law_begun" [] cw)(gk:Def P w K mg Y 1 "_law_draw" ["_law_script","_law_town","_law_many"] (cg K))(nt:Def P w K mg Y 1 "_law_items" ["_law_many"] cO)(gZ:Def P w K mg Y 2 "_law_an_amount" ["_law_script","_law_town","_law_figures","_law_far"] (b9 K))(rq:fY P w K mg Y 8 "stored" ["picture","amount","nearest"] (.bl false) (aR K c))(rN:Def P w K mg Y 4 "same" ["one","other"] (dI K))(pR:Def P w K mg Y 4 "added" ["one","other"] (eW K λx y=>x+y))(ue:fZ P w K mg Y C 11 "Area" ["self","layout"] (dO C))(gI:bf P w K mg Y C 13 "get" ["self","path"] (d7 C))(hU:bf P w K mg Y C 13 "amount" ["self","path"] (df C))(nW:bf P w K mg Y C 13 "load" ["self","path","text"] (dh C))(ml:cX P w K mg Y C 13 "store" ["self","path","amount","nearest"] (.bl false) (br K C))(mi:cX P w K mg Y C 13 "move" ["self","path","other","right"] (.bl false) (b8 C))(gT:bf P w K mg Y C 13 "move_alike" ["self","path","other"] (bt C)):Zz1 P w K mg Y 15 f fd ["_law_script"] eZ:=by
 refine Sl F Zx (by nofun) λA L s H vs Q E hr h=>?_
 obtain⟨a,ns,rfl,Az,⟨oa,E9⟩,k⟩:=h;have hz:100000<=sizeLine:=by rw[yaF];lia
 have hn9:(A.deeper (envOfC "law" (Qe US) s.heap.objs.size f ca)).units+1+8<cLine:=by have:=hr.units;lia
 refine⟨_,(QC (JL (i:=1) Zx.nd Z Zz0 (aA.mk (nk.RX hr (by lia) Z Qr)) Z Z)
  (QC (JL (i:=2) Zx.nd Z Zz0 (M3 Ji (aA.mk Qj) (aA.mk (gk.pq hr Qr (Qv (pv 0) (Qv (pv 1) (Qv Qj Qb)))))) Z Z)
  (QC (JL (i:=3) Zx.nd Z Zz0 (vB nt hr (by lia) Z Qr (JP (aA.mk (pv 2)) JB Z) Z Z) Z Z)
  (QC (dP.mk (QW (Qs (Qv (ue.pe hr (by lia) Z Qr (Qv (pv 3) Qb)) (Qv (Qs (Qv Qj (Qv Qj Qb))) Qb))) (QM Z (Qh (Qi (i:=4) Zx.nd Z (Or.inr Z)) (Qh (Qi (i:=5) Zx.nd Z Zz0) Qy)))))
  (QC (vq yaz Z (XU Z O.range (Qv Qj Qb)) (Qi (i:=6) Zx.nd Z Zz0) (QC (dP.mk (Ls (i:=7) (j:=8) Z Zx.nd Z Z (by lia) Z Z (Qv (gk.pq hr Qr (Qv (pv 0) (Qv (pv 1) (Qv (pv 2) Qb)))) (Qv (gZ.pq hr Qr (Qv (pv 0) (Qv (pv 1) (Qv Qj (Qv Qj Qb))))) Qb)) Z))
  (QC (JL (i:=9) Zx.nd Z Zz0 (X0 (JP (aA.mk Qk) (JP (X0 (JP (aA.mk Qk) (JP (aA.mk (pv 7)) JB Z) Z)) (JP (aA.mk Qk) JB Z) Z) Z)) Z Z)
  (QC (JL (i:=10) Zx.nd Z Zz0 (aA.mk (hU.pe hr (by lia) Qr (pv 4) (Qv (pv 9) Qb))) Z Z)
  (QC (JL (i:=11) Zx.nd Z Zz0 (aA.mk (Pw (jN (rq.pe hr (by lia) Z Qr (Qv Qk (Qv (pv 8) Qb)))))) Z Z)
  (QC (Xv (M9 (M8 (ei.mk (Ql Xe (ml.pe hr (by lia) Qr (pv 4) (Qv (pv 9) (Qv (pv 8) Qb))) (pv 11) (Qq _))) (vA (ei.mk (PW.pt (Zu (KS (Jd (pv 11) (λ_=>rfl))) (JZ (Ql (j7 (n:=16) (za hr)) (hU.pe hr (by lia) Qr (pv 4) (Qv (pv 9) Qb)) (pv 10) (Qq _))))))))) (Jb (Jq (aA.mk Xk))) ZH)
  (Jb (Xv (ei.mk (Jd (pv 11) (λ_=>rfl))) (QC (JL (i:=5) Zx.nd Z Zz0 (X1 pR hr (by lia) Z Qr (JP (X1 pR hr (by lia) Z Qr (JP (aA.mk (pv 5)) (JP (aA.mk (hU.pe hr (by lia) Qr (pv 4) (Qv (pv 9) Qb))) JB Z) Z) Z Z Z) (JP (X0 (JP (M3 Vw (aA.mk Qj) (aA.mk (QB QD (pv 10) Qj (λ_ _=>rfl)))) (JP (aA.mk (QB QD (pv 10) Qj (λ_ _=>rfl))) JB Z) Z)) JB Z) Z) Z Z Z) Z Z)
  (Jb (Xv (ei.mk (JY (QcX (ml.pe hr (by lia) Qr (pv 4) (Qv (Qs (Qv Qk (Qv Qk Qb))) (Qv (pv 5) Qb)))))) (Jb (Jq (aA.mk Xk))) ZH))) ZH))))))) (λ_=>rfl))
  (QC (dP.mk (wO (NB:=[".0","_law_at"]) (FR:=["_law_area"]) (fi:=[4]) (iy:=12) Z ⟨Z,by rfl'⟩ Z Z (XU Z O.range (Qv (pv 2) Qb)) (λ_ _ _=>(Qi (i:=1) (show([".0","_law_at","_law_area"]:List Str).Nodup by rfl') Z Zz0)) (λ_ _ _=>Xo) (λ_ _ _=>(hU.pe hr (by lia) Qr (pv 2) (Qv (Qs (Qv Qk (Qv (Qs (Qv Qk (Qv (pv 1) Qb))) (Qv Qk Qb)))) Qb))) Zx.nd Z Zz0 Z))
  (QC (JL (i:=13) Zx.nd Z Zz0 (X0 (JP (aA.mk Qj) (JP (aA.mk Qj) JB Z) Z)) Z Z)
  (QC (vq yaz Z (Z4 (pv 12)) (Qi (i:=14) Zx.nd Z Zz0) (Jb (JL (i:=13) Zx.nd Z Zz0 (X1 pR hr (by lia) Z Qr (JP (aA.mk (pv 13)) (JP (aA.mk (pv 14)) JB Z) Z) Z Z Z) Z Z)) (λ_=>rfl))
  (QC (Xv (vz (zV (X1 rN hr (by lia) Z Qr (JP (aA.mk (pv 13)) (JP (aA.mk (hU.pe hr (by lia) Qr (pv 4) (Qv (Qs (Qv Qk (Qv Qk Qb))) Qb))) JB Z) Z) Z Z Z))) (Jb (Jq (aA.mk Xk))) ZH)
  (QC (dP.mk (Q6 (mi.pe hr (by lia) Qr (pv 4) (Qv (Qs (Qv Qk (Qv Qk Qb))) (Qv (Qs (Qv Qk Qb)) Qb)))))
  (QC (Xv (M9 (M8 (vz (zV (X1 rN hr (by lia) Z Qr (JP (aA.mk (hU.pe hr (by lia) Qr (pv 4) (Qv (Qs (Qv Qk Qb)) Qb))) (JP (aA.mk (pv 13)) JB Z) Z) Z Z Z))) (vA (ei.mk (Ql Xe (gI.pe hr (by lia) Qr (pv 4) (Qv (Qs (Qv Qk (Qv Qk Qb))) Qb)) (gI.pe hr (by lia) Qr (pv 4) (Qv (Qs (Qv Qk (Qv Qk Qb))) Qb)) (Qq _)))))) (Jb (Jq (aA.mk Xk))) ZH)
  (QC (dP.mk (Q6 (mi.pe hr (by lia) Qr (pv 4) (Qv (Qs (Qv Qk Qb)) (Qv (Qs (Qv Qk Qb)) Qb)))))
  (QC (Xv (ei.mk (Ql (j7 (n:=16) (za hr)) (hU.pe hr (by lia) Qr (pv 4) (Qv (Qs (Qv Qk Qb)) Qb)) (Qs (Qv (QF W7 (QF Ua (Qw Xm Z O.abs yeW (Qv (QB QD (pv 13) Qj (λ_ _=>rfl)) Qb)) Qj) Qj) (Qv Qj Qb))) (Qq _))) (Jb (Jq (aA.mk Xk))) ZH)
  (QC (dP.mk (Q6 (mi.pe hr (by lia) Qr (pv 4) (Qv (Qs (Qv Qk Qb)) (Qv (Qs (Qv Qk Qb)) Qb)))))
  (QC (Xv (ei.mk (Ql (QcV (n:=8) hn9) (Wi (NB:=[".0","_law_at"]) (FR:=["_law_area"]) (fi:=[4]) Z ⟨Z,by rfl'⟩ Z Z (XU Z O.range (Qv (pv 2) Qb)) (λ_ _ _=>(Qi (i:=1) (show([".0","_law_at","_law_area"]:List Str).Nodup by rfl') Z Zz0)) (λ_ _ _=>Xo) (λ_ _ _=>(hU.pe hr (by lia) Qr (pv 2) (Qv (Qs (Qv Qk (Qv (Qs (Qv Qk (Qv (pv 1) Qb))) (Qv Qk Qb)))) Qb)))) (pv 12) (Qq _))) (Jb (Jq (aA.mk Xk))) ZH)
  (QC (dP.mk (Q6 (nW.pe hr (by lia) Qr (pv 4) (Qv (Qs (Qv Qk (Qv Qk Qb))) (Qv (QF Jg Qk Qk) Qb)))))
  (QC (Xv (ei.mk (Ql (j7 (n:=16) (za hr)) (hU.pe hr (by lia) Qr (pv 4) (Qv (Qs (Qv Qk (Qv Qk Qb))) Qb)) (Qs (Qv (KZ ZS Qj) (Qv Qj Qb))) (Qq _))) (Jb (Jq (aA.mk Xk))) ZH)
  (QC (Xv (ei.mk (Ql Xe (QR Zb (gI.pe hr (by lia) Qr (pv 4) (Qv (Qs (Qv Qk Qb)) Qb)) JK (QQ (QF K7 Qj (pv 2)))) (QR Zb (gI.pe hr (by lia) Qr (pv 4) (Qv (Qs (Qv Qk Qb)) Qb)) JK (QQ (QF K7 Qj (pv 2)))) (Qq _))) (Jb (Jq (aA.mk Xk))) ZH)
  (Jb (Jq (QaF (aA.mk (JS Jl (gT.pe hr (by lia) Qr (pv 4) (Qv (Qs (Qv Qk Qb)) (Qv (Qs (Qv Qk Qb)) Qb))) Qj (Qq _))) (aA.mk (JS Jl (gI.pe hr (by lia) Qr (pv 4) (Qv (Qs (Qv Qk Qb)) Qb)) (gI.pe hr (by lia) Qr (pv 4) (Qv (Qs (Qv Qk Qb)) Qb)) (Qq _)))))))))))))))))))))))),?_⟩
 refine⟨Z,λt r H1 ht iO T1 S1=>?_⟩;have B1:oN K H1 a t r ns 0:=⟨.inl (.inr ⟨oa,S1 _ _ E9⟩),⟨[],T1⟩,(λz=>by rw[<-z,E9]at ht;cases ht),(λz=>by rw[<-z,E9]at iO;cases iO),Az⟩
 try dsimp only[QL,J9,Za,Q4]
 refine B1.draw rfl rfl (λR h=>h) (by lia) (by lia) (by lia) λd0 H2 lT B2 A2=>?_;have lT:d0<5:=by lia
 exists _,_,Z,Z;rw[show V.int (1+(d0:Int))=V.int ((d0+1:Nat):Int)from yaE V.int (by lia)];generalize hN0:d0+1=N;have hN:N<=5:=by lia
 have hN1:1<=N:=by lia
 clear hN0 lT
 try dsimp only[QL,J9,Za,Q4]
 refine⟨_,Z,N,Z,λv H3 S3 DI=>?_⟩
 try dsimp only[QL,J9,Za,Q4]
 refine⟨_,Z,λx dx hx OF sw=>?_⟩;have S4:Qn H3 (upd (upd H3 dx (.own x)) x (.ins C dx [])):=λb o e=>by rw[Qo (QA e hx),Qo (QA e OF)];exact e
 refine⟨x,dx,v,aU N,Z,Qf,DI.same S4,Qgi hN,by rw[Ov];lia,(IC hN).ok,λdq H5 oi A5 keep=>?_⟩;have S5:Qn H3 H5:=λb o e=>keep b o (S4 b o e) (QA e hx);refine⟨Z,bF,λq0 OG=>?_⟩;have S6:=Qn.new (o:=.tup [.int 0,.int 2]) OG;have g6:upd H5 q0 (.tup [.int 0,.int 2]) q0=some (.tup [.int 0,.int 2]):=Qf;refine⟨bF,λq1 AZ=>?_⟩;have S7:=Qn.new (o:=.tup [.ref x,.ref q0]) AZ;exists q1,_,Z,.inl (.inl Qf),Z,_,_,Z,_,_,Z,Z;have Fb:=S6.trans S7;have g7:=S7 _ _ g6
 change Za _ _ _ _ (upd (upd H5 q0 (.tup [.int 0,.int 2])) q1 (.tup [.ref x,.ref q0]))
 generalize upd (upd H5 q0 (.tup [.int 0,.int 2])) q1 (.tup [.ref x,.ref q0])=H7 at S7 Fb g7 ⊢;have OH:∃o,H2 a=some (.dA o (.lst (ns.map V.int))):=⟨oa,A2 _ _ (S1 _ _ E9) B1.nat B1.eQ⟩;have Fc:=S5.trans Fb;have DV:=DI.same Fc;have L7:aL C H7 H7 a t r ns 1 x v (bc (aU N)) 4 dq:=by
  obtain⟨o,h⟩:=OH;obtain⟨rs,T⟩:=B2.tw;exact⟨⟨o,Fc _ _ (S3 _ _ h)⟩,⟨rs,(T.same S3).same Fc⟩,Az,λ_ _ q=>q,A5.same Fb⟩
 clear S4 S5 S6 S7 Fb Fc S3 keep A5 OH hx OF sw oi g6 OG AZ DI B1 B2 A2 T1 S1;refine⟨8,Z,by lia,by lia,?_⟩;refine WJ (G0 (lo:=0) (n:=8)) (λi σ H'=>∃(y6 y7 y8 y9 Fd Fe IF IG DA:Option V)(s:List Nat)(us:Nat->Int)(qd:Addr)(c':Int),σ=[some (.ref a),some (.ref t),some (.int (N:Nat)),some v,some (.ref x),some (.ref qd),y6,y7,y8,y9,Fd,Fe,IF,IG,DA]/\aL C H7 H' a t r ns c' x v s (4+4*i) dq/\Cells N s us (Jy us N)/\H' qd=some (.tup [.int (Jy us N),.int 2])/\c'<=1+30*i) ⟨none,none,none,none,none,none,none,none,none,_,λ_=>0,q0,1,Z,L7,by rw[yx];exact Qfb N,by rw[yx];exact g7,by lia⟩ ?_ ?_ ?_
 .intro i σ H6 _ _;trivial
 .rintro i iv σ H60 H' hi ⟨y6,y7,y8,y9,Fd,Fe,IF,IG,DA,s,us,qd,c',rfl,qLa,Ce,gd,hc⟩ ⟨rfl,rfl⟩
  try dsimp only[QL,J9,Za,Q4]
  have hlen:=Ce.len;have Hd:∀s',s'.length=16*N+31->Hand H7 v s' (aU N):=λs' e=>⟨DV,IC hN,by lia⟩;refine qLa.bag.draw rfl rfl (λR h=>⟨_,Z,h⟩) (by lia) (by lia) (by lia) λat_ H1 Op B1 A1=>?_;have Op:at_<N:=by lia
  obtain⟨sd,T1⟩:=B1.tw;have L1:=qLa.OC A1 T1;have By:H1 qd=some (.tup [.int (Jy us N),.int 2]):=A1 _ _ gd (λz=>by obtain⟨rs,T⟩:=qLa.tw;rw[z,T.tw]at gd;cases gd) (λz=>by obtain⟨rs,T⟩:=qLa.tw;rw[z,T.rt]at gd;cases gd);refine⟨_,Z,_,Z,a,t,r,ns,_,6,3,sd,Z,B1.sq,T1,B1.nat,B1.eQ,B1.ln,by lia,by lia,by lia,by lia,by lia,λu o c2 eT H2 q1 hu ho0 ho3 AZ g1 T2 fF A2=>⟨_,_,Z,?_⟩⟩;have L2:=L1.OC A2 T2;have OI:H2 qd=some (.tup [.int (Jy us N),.int 2]):=A2 _ _ By (λz=>by rw[z,T1.tw]at By;cases By) (λz=>by rw[z,T1.rt]at By;cases By);clear A1 A2 B1 T1 T2 By qLa L1 gd
  try dsimp only[QL,J9,Za,Q4]
  refine QV (Qm QE (Qm (QV (Qm QE (Qm (Xi Z .int) QU)) Z) (Qm QE QU))) rfl H2 (Qn.refl _) _ λwv H3 S3 Dw=>?_;have L3:=L2.same S3;have OJ:=S3 _ _ OI;have g3:=S3 _ _ g1;clear L2 OI g1;have Dw:ag H3 wv (Jz [("old",none),("rows",some at_),("part",none)]):=Dw
  try dsimp only[QL,J9,Za,Q4]
  refine Wu L3 (Hd s hlen) rfl (Xi Z Dw) ((xk Op false).cast (show gB N false+8*at_=8*at_ by show 0+8*at_=_;lia)) (yae Z) (by show 8*at_+5<=_;lia) (Yu (Ce.pt at_ Op) (Ce.bd at_ Op)) λqb H4 S4 hqb g4=>?_;have L4:=L3.same S4;have gd4:=S4 _ _ OJ;have Ff:=S4 _ _ g3;have Dw4:=Dw.same S4;clear L3 OJ g3 Dw hqb;obtain⟨px,hp,Ip,BT⟩:=Ke 0;obtain⟨nr,e1,e2,e3⟩:=BT rfl;have M4:dQ K H4 q1 u o:=⟨aw.of Ff,ybh hu (by lia),ho0,by lia⟩;refine⟨_,Z,kK 0,q1,u,o,by rw[show("S9(3)V99":Str)=tx (kK 0)from Yp 0];rfl,XL 0,M4,.inr ⟨px,hp,nr,λH5 S5=>?_⟩⟩;have L5:=L4.same S5;have IH:=S5 _ _ gd4;have g5:=S5 _ _ g4;have M5:=M4.same S5;have DB:=Dw4.same S5;rw[e1,e2,e3];have RP:=(xk Op false).cast (show gB N false+8*at_=8*at_ by show 0+8*at_=_;lia);refine⟨λz=>?_,λz=>?_⟩
  .refine qv (K:=K) L5 (Hd s hlen) (by lia) rfl (Xi Z DB) rfl M5 RP (yae Z) (by show 8*at_+5<=_;lia) rfl (λ_ H6 S6=>?_) (λz2=>absurd z (Nat.not_le.mpr z2));refine⟨_,Z,Z,false,Z,QO ?_⟩;refine⟨_,Z,false,Z,Q0 ?_⟩;refine Wu (L5.same S6) (Hd s hlen) rfl (Xi Z (DB.same S6)) RP (yae Z) (by show 8*at_+5<=_;lia) (Yu (Ce.pt at_ Op) (Ce.bd at_ Op)) λq8 H8 S8 Bu g8=>?_;have II:=S6.trans S8;refine⟨_,Z,.tup [.int (us at_),.int 2],.tup [.int (us at_),.int 2],.tup g8 (.cons .int (.cons .int .nil)),.tup (II _ _ g5) (.cons .int (.cons .int .nil)),yae rfl,false,by rw[yai rfl,Dv.Xt];rfl,QO ?_⟩;refine⟨_,Z,false,Z,QO ?_⟩;exact⟨_,_,_,_,_,_,_,_,_,s,us,qd,c2,Z,(L5.same II).mono (by lia),Ce,II _ _ IH,by push_cast;lia⟩
  .refine qv (K:=K) L5 (Hd s hlen) (by lia) rfl (Xi Z DB) rfl M5 RP (yae Z) (by show 8*at_+5<=_;lia) rfl (λz2=>absurd z2 (Nat.not_le.mpr z)) (λ_ H6 L6 K6=>?_);refine⟨_,Z,Z,false,Z,QO ?_⟩;refine⟨_,Z,true,Z,QO ?_⟩;refine⟨_,Z,true,Z,Q0 ?_⟩
   try dsimp only[QL,J9,Za,Q4]
   obtain⟨dx,fs,uq,ds,IJ,F5,DC,l5⟩:=L5.ar.ob;have Fg:=K6.qe DC;have gd6:=Fg _ _ IH;have g6:=Fg _ _ g5;have Dw6:=DB.keep Fg;have hv:(ay.Xj u o 2).natAbs<10^5:=z;have L6:aL C H7 H6 a t r ns c2 x v (lay s (8*at_) (cont true 3 2 (ay.Xj u o 2) 2)) (4+4*i+2) dq:=L6;have om:=Ce.part Op hv;generalize ay.Xj u o 2=nu at hv L6 om;have hb0:=Ce.bd at_ Op;have hsu:=qr Ce.bd;have OK:=xo us at_ nu N;rw[yai Op]at OK;have hsu2:=qr om.bd;have hN5:N*10^5<=5*10^5:=ycH _ hN;clear L5 K6 Fg IH g5 DB z M5 DC F5 IJ;have pw:2^200>10^9:=by lia
   exists _,Z;refine Wu L6 (Hd _ om.len) rfl (Xi Z Dw6) RP (yae Z) (by have:=om.len;show 8*at_+5<=_;lia) (Yu (om.pt at_ Op) (om.bd at_ Op)) λq8 H8 S8 Bu g8=>?_;simp only[ybM]at g8;refine⟨qd,q8,Jy us N,2,nu,2,Z,⟨aw.of (S8 _ _ gd6),by lia,by lia,by lia⟩,⟨aw.of g8,by lia,by lia,by lia⟩,λq9 H9 z9 S9 Ar g9 e9=>?_⟩;have Fh:mx 2 2=2:=rfl;have t0:ay.aM ((2:Int)-2)=1:=by lia
   rw[Fh]at g9 e9;rw[t0]at e9;have e9:z9=Jy us N*1+nu*1:=e9;have IK:=S9 _ _ (S8 _ _ g6);refine⟨_,Z,qb,_,0,_,Z,Z,.inl IK,Z,_,_,Z,Z,_,Z,qb,_,1,_,Z,Z,.inl IK,Z,bF,λGJ IL=>?_⟩;have sA:=Qn.new (o:=.tup [.int (0-us at_),.int 2]) IL;refine⟨q9,GJ,z9,2,0-us at_,2,Z,⟨aw.of (sA _ _ g9),by lia,by lia,by lia⟩,⟨aw.of Qf,by lia,by lia,by lia⟩,λq11 H11 OM Fi hq11 IM DD=>?_⟩;rw[Fh]at IM DD;rw[t0]at DD;have DD:OM=z9*1+(0-us at_)*1:=DD;have ez:OM=Jy (λj=>if j=at_ then nu else us j) N:=by rw[OK];lia
   have ON:=((S8.trans S9).trans sA).trans Fi;subst ez;clear DD e9 IK
   try dsimp only[QL,J9,Za,Q4]
   have AE:(Jy (λj=>if j=at_ then nu else us j) N).natAbs<10^8:=by lia
   have RS:=(yo N false).cast (show gB N false+8*N=8*N by show 0+8*N=_;lia);refine qv (K:=K) (L6.same ON) (Hd _ om.len) (by lia) rfl (QV (Qm QE (Qm QE QU)) Z) rfl ⟨aw.of IM,by lia,by lia,by lia⟩ RS (yae Z) (by have:=om.len;show 8*N+8<=_;lia) rfl (λz2=>?_) (λ_ OO sD K12=>?_)
   .have z2:10^8<=(ay.Xj (Jy (λj=>if j=at_ then nu else us j) N) 2 2).natAbs:=z2;rw[OD]at z2;lia
   .refine⟨true,Z,false,Z,QO ?_⟩;have sD:aL C H7 OO a t r ns c2 x v (lay (lay s (8*at_) (cont true 3 2 nu 2)) (8*N) (cont true 6 2 (ay.Xj (Jy (λj=>if j=at_ then nu else us j) N) 2 2) 2)) (4+4*i+2+2) dq:=sD;rw[OD]at sD;obtain⟨dx2,Bh,uq2,ds2,OP,F6,DE,l6⟩:=(L6.same ON).ar.ob;exact⟨_,_,_,_,_,_,_,_,_,_,_,q11,c2,Z,sD.mono (by lia),om.sum,K12.qe DE _ _ IM,by push_cast;lia⟩
 .rintro σ H' ⟨y6,y7,y8,y9,Fd,Fe,IF,IG,DA,s,us,qd,c',rfl,qLa,Ce,gd,hc⟩
  try dsimp only[QL,J9,Za,Q4]
  have hlen:=Ce.len;have Hd:∀s',s'.length=16*N+31->Hand H7 v s' (aU N):=λs' e=>⟨DV,IC hN,by lia⟩;refine Wk ?_;refine⟨_,Z,(N:Nat),Z,by lia,by lia,?_⟩;rw[lI];have hc0:=hc;have hsu:=qr Ce.bd;have hN5:N*10^5<=5*10^5:=ycH _ hN;have AE:(Jy us N).natAbs<10^8:=by lia
  refine WK (fv:=[.ref x]) (G0 (lo:=0) (n:=N)) ((List.range N).map λi=>.tup [.int (us i),.int 2]) (by simp) (λR h=>h H' (Qn.refl _)) rfl (λ_ _=>trivial) ?_ ?_ (by lia)
  .intro i v0 H1 H2 d RR hd S1 hit Dk;obtain⟨rfl,hv⟩:=hit;rw[Int.zero_add]at hv;subst hv;have hi:i<N:=by
    have:=(yaf.mp hd).1;simpa using this
   have ed:d=.tup [.int (us i),.int 2]:=by
    rw[lh,ydX hi]at hd;exact(tP hd).symm
   subst ed;exists Z;exact Wu (qLa.same S1) (Hd s hlen) rfl (QV (Qm QE (Qm (QV (Qm QE (Qm (Xi Z .int) QU)) Z) (Qm QE QU))) Z) ((xk hi false).cast (show gB N false+8*i=8*i by show 0+8*i=_;lia)) (yae Z) (by show 8*i+5<=_;lia) (Yu (Ce.pt i hi) (Ce.bd i hi)) λq H3 S3 hq g3=>Dk _ _ S3 (.tup g3 (.cons .int (.cons .int .nil)))
  .intro xs H1 lp S1 DP Fj;have S2:=Qn.new (o:=.lst xs) Fj;have gp:upd H1 lp (.lst xs) lp=some (.lst xs):=Qf;obtain⟨dx,fs,uq,ds,IJ,F5,DC,l5⟩:=qLa.ar.ob;have np:lp≠dq:=λz=>by rw[z,S1 _ _ DC]at Fj;cases Fj
   have Fl:=DP.same S2;have db:=S1.trans S2
   try dsimp only[QL,J9,Za,Q4]
   have LP:=qLa.same db;generalize upd H1 lp (.lst xs)=H2 at S2 gp Fl db LP ⊢;have lW:xs.length=N:=by rw[DP.length];simp
   clear qLa S1 S2 DP Fj DC F5 IJ l5 db;refine⟨bF,λqw OQ=>?_⟩;have S3:=Qn.new (o:=.tup [.int 0,.int 2]) OQ;exists _,Z,lp,Z,⟨_,.inl (.inl (S3 _ _ gp))⟩;refine WJ (GZ (K:=K) (a:=lp) (xs:=xs)) (λi σ H'=>∃(DA:Option V)(qw:Addr),σ=[some (.ref a),some (.ref t),some (.int (N:Nat)),some v,some (.ref x),some (.ref qd),y6,y7,y8,y9,Fd,Fe,some (.ref lp),some (.ref qw),DA]/\Qn H2 H'/\H' qw=some (.tup [.int (Jy us i),.int 2])) ⟨_,qw,Z,S3,Qf⟩ ?_ ?_ ?_
   .rintro i σ H4 hi ⟨DF,Bz,rfl,S4,_⟩;exact .inl (.inl (S4 _ _ gp))
   .rintro i v0 σ H4 H5 hi ⟨DF,Bz,rfl,S4,g4⟩ ⟨rfl,hv⟩;have hi:i<N:=by lia
    obtain⟨d,hd,Dd⟩:=Fl.j6 hv;rw[lh,ydX hi]at hd;obtain rfl:=tP hd;obtain⟨pa,ps,rfl,gpa,DG⟩:=ag.YX (Dd.same S4);cases DG with
    |cons p1 DG=>cases DG with
     |cons p2 DG=>
      cases DG;obtain rfl:=p1.Ae;obtain rfl:=p2.Ae;have hb0:=Ce.bd i hi;have hsi:=qr (us:=us) (N:=i) λj hj=>Ce.bd j (by lia);have hi5:i*10^5<=5*10^5:=ycH _ (by lia);have pw:2^200>10^9:=by lia
      refine⟨_,Z,_,Z,Bz,pa,Jy us i,2,us i,2,Z,⟨aw.of g4,by lia,by lia,by lia⟩,⟨aw.of gpa,by lia,by lia,by lia⟩,λq9 H9 z9 S9 Ar g9 e9=>?_⟩;have Fh:mx 2 2=2:=rfl;have t0:ay.aM ((2:Int)-2)=1:=by lia
      rw[Fh]at g9 e9;rw[t0]at e9;have e9:z9=Jy us i*1+us i*1:=e9;have e9:z9=Jy us (i+1):=by rw[Jy];lia
      subst e9;exact⟨_,q9,Z,S4.trans S9,g9⟩
   .rintro σ H4 ⟨DF,Bz,rfl,S4,g4⟩;rw[lW]at g4
    try dsimp only[QL,J9,Za,Q4]
    have L4:=LP.same S4;have OR:=S4 _ _ gp;have OU:=Fl.same S4;have pw:2^200>10^9:=by lia
    have RS:=(yo N false).cast (show gB N false+8*N=8*N by show 0+8*N=_;lia);have RB:=(xm N false).cast (show gB N false+8*N=8*N by show 0+8*N=_;lia);clear LP gp Fl S4 S3 OQ;exists _,Z;refine Wu L4 (Hd s hlen) rfl (QV (Qm QE (Qm QE QU)) Z) RS (yae Z) (by show 8*N+8<=_;lia) (yu Ce.sm AE) λq5 H5 S5 Aq g5=>?_;refine⟨Bz,q5,Jy us N,2,Jy us N,2,Z,⟨aw.of (S5 _ _ g4),by lia,by lia,by lia⟩,⟨aw.of g5,by lia,by lia,by lia⟩,λH6 S6=>?_⟩;rw[tN rfl];refine⟨true,Z,QO ?_⟩;have DH:=S5.trans S6;have L6:=L4.same DH;have OV:=DH _ _ g4;have OW:=DH _ _ OR;have OX:=OU.same DH;clear L4 OR OU DH S6 S5 g5 Aq g4;have lse:=(qt AE).2;refine zt L6 (Hd s hlen) (by lia) rfl (QV (Qm QE (Qm QE QU)) Z) (QV (Qm QE QU) Z) RS (yae Z) (by show 8*N+8<=_;lia) (yp N) (yae Z) (by show 16*N+16+12<=_;lia) (QdB Ce AE) λH8 L8 K8=>?_
    try dsimp only[QL,J9,Za,Q4]
    obtain⟨dx6,fs6,uq6,ds6,OP,F6,DE,l6⟩:=L6.ar.ob;have IP:=K8.qe DE _ _ OV;have OY:=K8 _ _ OW np (λ_ _ _ z=>nomatch z);have O0:=OX.keep (K8.qe DE);have IQ:part (lay s (16*N+16) (putL 4 (Jy us N) 2)) (16*N+16) 12=putL 4 (Jy us N) 2:=by
     have:=Kq (s:=s) (t:=putL 4 (Jy us N) 2) (n:=16*N+16) (by lia);rw[lse]at this;exact this
    have O1:∀m k,m+k<=16*N+16->part (lay s (16*N+16) (putL 4 (Jy us N) 2)) m k=part s m k:=λm k h=>Zi (by lia) (.inl h);have BA:(lay s (16*N+16) (putL 4 (Jy us N) 2)).length=16*N+31:=by rw[Kg (by lia)];exact hlen
    generalize lay s (16*N+16) (putL 4 (Jy us N) 2)=s8 at L8 IQ O1 BA;clear L6 K8 OV OW OX DE F6 OP l6;refine Wu L8 (Hd s8 BA) rfl (QV (Qm QE QU) Z) (yp N) (yae Z) (by show 16*N+16+12<=_;lia) (show fw 4 (part s8 (16*N+16) 12) (Jy us N) 2 from IQ▸(qt AE).1) λq9 H9 S9 Ar g9=>?_;refine⟨_,Z,q9,Bz,Jy us N,2,Jy us N,2,Z,⟨aw.of g9,by lia,by lia,by lia⟩,⟨aw.of (S9 _ _ IP),by lia,by lia,by lia⟩,λCo sA=>?_⟩;rw[tN rfl];refine⟨true,Z,QO ?_⟩;have IS:=S9.trans sA;refine Y7 (L8.same IS) (Hd s8 BA) rfl (QV (Qm QE (Qm QE QU)) Z) RB (yae Z) (by show 8*N+8<=_;lia) λH11 Fi=>?_;have IT:=IS.trans Fi;refine Y7 (L8.same IT) (Hd s8 BA) rfl (QV (Qm QE (Qm QE QU)) Z) RS (yae Z) (by show 8*N+8<=_;lia) λOO db=>?_;have DJ:=IT.trans db;refine⟨Z,false,by show V.bl (!decide (V.str (tx (part s8 (8*N) 8))=V.str (tx (part s8 (8*N) 8))))=_;rw[tN rfl];rfl,QO ?_⟩;have sD:=L8.same DJ;have DK:=DJ _ _ IP;have DL:=DJ _ _ OY;have DM:=O0.same DJ;clear L8 IP OY O0 IS IT DJ S9 sA Fi db g9 Ar;have lsh:=(qu (Jy us N)).2;refine zt sD (Hd s8 BA) (by lia) rfl (QV (Qm QE QU) Z) (QV (Qm QE QU) Z) (yp N) (yae Z) (by show 16*N+16+12<=_;lia) (yq N) (yae Z) (by show 16*N+28+3<=_;lia) (Qbg AE IQ) λH13 Fm Fn=>?_
    try dsimp only[QL,J9,Za,Q4]
    obtain⟨dx7,fs7,uq7,ds7,hx7,F7,IU,l7⟩:=sD.ar.ob;have DN:=Fn.qe IU _ _ DK;have DO:=Fn _ _ DL np (λ_ _ _ z=>nomatch z);have DQ:=DM.keep (Fn.qe IU);have AF:part (lay s8 (16*N+28) (putL 5 (Jy us N) 2)) (16*N+28) 3=putL 5 (Jy us N) 2:=by
     have:=Kq (s:=s8) (t:=putL 5 (Jy us N) 2) (n:=16*N+28) (by lia);rw[lsh]at this;exact this
    have oo:∀m k,m+k<=16*N+16->part (lay s8 (16*N+28) (putL 5 (Jy us N) 2)) m k=part s m k:=λm k h=>by rw[Zi (by lia) (.inl (by lia)),O1 m k h]
    have iB:(lay s8 (16*N+28) (putL 5 (Jy us N) 2)).length=16*N+31:=by rw[Kg (by lia)];exact BA
    generalize lay s8 (16*N+28) (putL 5 (Jy us N) 2)=e5 at Fm AF oo iB;clear sD Fn DK DL DM IU F7 hx7 l7;refine Wu Fm (Hd e5 iB) rfl (QV (Qm QE QU) Z) (yq N) (yae Z) (by show 16*N+28+3<=_;lia) (show fw 5 (part e5 (16*N+28) 3) (((Jy us N).natAbs/100 % 1000:Nat):Int) 0 from AF▸(qu (Jy us N)).1) λq14 O2 sB IV Ff=>?_;exists _,Z,Bz,_,0,_,Z,Z,.inl (sB _ _ DN),Z,_,Z;have O3:((if Jy us N<0 then-Jy us N else Jy us N)/100 % 1000:Int)=(((Jy us N).natAbs/100 % 1000:Nat):Int):=by
     have:(if Jy us N<0 then-Jy us N else Jy us N)=((Jy us N).natAbs:Int):=by split<;>lia
     rw[this];push_cast;rfl
    refine⟨_,_,Z,Z,?cdiv,_,_,Z,Z,(show(0:Int)<1000 by lia),bF,λO4 DR=>?_⟩
    case cdiv=>unfold FL;first|exact⟨by lia,by lia⟩|exact⟨by lia,by lia⟩|lia|decide
    have CO:=Qn.new (o:=.tup [.int ((if Jy us N<0 then-Jy us N else Jy us N)/100 % 1000),.int 0]) DR;refine⟨.tup [.int (((Jy us N).natAbs/100 % 1000:Nat):Int),.int 0],.tup [.int ((if Jy us N<0 then-Jy us N else Jy us N)/100 % 1000),.int 0],.tup (CO _ _ Ff) (.cons .int (.cons .int .nil)),.tup Qf (.cons .int (.cons .int .nil)),yae rfl,false,by rw[O3,yai rfl,Dv.Xt];rfl,QO ?_⟩;have ms:=sB.trans CO;have Fo:=Fm.same ms;have AG:=ms _ _ DO;have AH:=DQ.same ms
    try dsimp only[QL,J9,Za,Q4]
    change Lq _ _ _ (upd O2 O4 (.tup [.int ((if Jy us N<0 then-Jy us N else Jy us N)/100 % 1000),.int 0]))
    generalize upd O2 O4 (.tup [.int ((if Jy us N<0 then-Jy us N else Jy us N)/100 % 1000),.int 0])=H15 at Fo AG AH ⊢;clear ms Fm DO DQ sB CO Ff IV O3 DR DN;refine zt Fo (Hd e5 iB) (by lia) rfl (QV (Qm QE QU) Z) (QV (Qm QE QU) Z) (jI N false) (yae Z) (by show 0+aH (aQ N)<=_;rw[W4];lia) (jI N true) (yae Z) (by show 8*N+8+aH (aQ N)<=_;rw[W4];lia) (Qbh hN iB) λO5 BB IW=>?_
    try dsimp only[QL,J9,Za,Q4]
    obtain⟨dx8,fs8,uq8,ds8,hx8,F8,O6,l8⟩:=Fo.ar.ob;have DT:=IW _ _ AG np (λ_ _ _ z=>nomatch z);have DU:=AH.keep (IW.qe O6);have BB:aL C H7 O5 a t r ns c' x v (lay e5 (8*N+8) (part e5 0 (8*N+8))) _ dq:=BB;have IX:(part e5 0 (8*N+8)).length=8*N+8:=qp (by lia);have AI:∀m k,m+k<=8*N+8->part (lay e5 (8*N+8) (part e5 0 (8*N+8))) m k=part s m k:=λm k h=>by rw[Zi (by lia) (.inl h),oo m k (by lia)]
    have AJ:∀m k,m+k<=8*N+8->part (lay e5 (8*N+8) (part e5 0 (8*N+8))) (8*N+8+m) k=part s m k:=λm k h=>by rw[Qdz (by lia) (by lia),yt h,yci,oo m k (by lia)]
    have oq:(lay e5 (8*N+8) (part e5 0 (8*N+8))).length=16*N+31:=by rw[Kg (by lia)];exact iB
    generalize lay e5 (8*N+8) (part e5 0 (8*N+8))=AK at BB AI AJ oq;clear Fo IW AG AH O6 F8 hx8 l8 AF oo IX;unfold BI xz dS;dsimp only;refine Wk ?_;refine⟨_,Z,(N:Nat),Z,by lia,by lia,?_⟩;rw[lI];refine WK (fv:=[.ref x]) (G0 (lo:=0) (n:=N)) ((List.range N).map λi=>.tup [.int (us i),.int 2]) (by simp) (λR h=>h O5 (Qn.refl _)) rfl (λ_ _=>trivial) ?_ ?_ (by lia)
    .intro i v0 H1 H2 d RR hd S1 hit Dk;obtain⟨rfl,hv⟩:=hit;rw[Int.zero_add]at hv;subst hv;have hi:i<N:=by
      have:=(yaf.mp hd).1;simpa using this
     have ed:d=.tup [.int (us i),.int 2]:=by
      rw[lh,ydX hi]at hd;exact(tP hd).symm
     subst ed;exists Z;exact Wu (BB.same S1) (Hd AK oq) rfl (QV (Qm QE (Qm (QV (Qm QE (Qm (Xi Z .int) QU)) Z) (Qm QE QU))) Z) ((xk hi true).cast (show gB N true+8*i=8*N+8+8*i from Z)) (yae Z) (by show 8*N+8+8*i+5<=_;lia) (Yu ((AJ (8*i) 5 (by lia)).trans (Ce.pt i hi)) (Ce.bd i hi)) λq H3 S3 hq g3=>Dk _ _ S3 (.tup g3 (.cons .int (.cons .int .nil)))
    .intro IY H17 O7 O8 DX DZ;have IZ:=Qn.new (o:=.lst IY) DZ;have ot:=O8.trans IZ;refine⟨_,Z,O7,lp,IY,xs,_,_,Z,Z,(.inl (.inl Qf)),(.inl (.inl (ot _ _ DT))),DX.same IZ,DU.same ot,?dp,false,by rw[Dv.VU];rfl,QO ?_⟩
     case dp=>exact yw λd hd=>by obtain⟨j,_,rfl⟩:=yaZ.mp hd;exact yae rfl
     have I0:=BB.same ot
     try dsimp only[QL,J9,Za,Q4]
     generalize upd H17 O7 (.lst IY)=H18 at I0 ⊢;clear BB DT DU O8 IZ ot DX DZ;have RB2:=(xm N true).cast (show gB N true+8*N=16*N+8 by show 8*N+8+8*N=_;lia);have RS2:=(yo N true).cast (show gB N true+8*N=16*N+8 by show 8*N+8+8*N=_;lia);refine QdC (tt:=[48,48,48,48,48,48,48,113]) I0 (Hd AK oq) (by lia) rfl (QV (Qm QE (Qm QE QU)) Z) RB2 (yae Z) (by show 16*N+8+8<=_;lia) (λH1 R h=>⟨_,_,Z,Z,(by rfl'),h⟩) rfl λH19 Fp K19=>?_
     try dsimp only[QL,J9,Za,Q4]
     have D0:part (lay AK (16*N+8) [48,48,48,48,48,48,48,113]) (16*N+8) 8=[48,48,48,48,48,48,48,113]:=Kq (by lia);have ou:∀m k,m+k<=16*N+8->part (lay AK (16*N+8) [48,48,48,48,48,48,48,113]) m k=part AK m k:=λm k h=>Zi (by show 16*N+8+8<=_;lia) (.inl h);have Rs:(lay AK (16*N+8) [48,48,48,48,48,48,48,113]).length=16*N+31:=by rw[Kg (by show 16*N+8+8<=_;lia)];exact oq
     generalize lay AK (16*N+8) [48,48,48,48,48,48,48,113]=AC at Fp D0 ou Rs;clear I0 K19;refine Wu Fp (Hd AC Rs) rfl (QV (Qm QE (Qm QE QU)) Z) RS2 (yae Z) (by show 16*N+8+8<=_;lia) (show fw 2 (part AC (16*N+8) 8) (-1) 2 from D0▸Qbf) λq20 N0 O9 J' Pa=>?_;refine⟨_,Z,bF,λq21 D6=>?_⟩;have K':=Qn.new (o:=.tup [.int (-1),.int 2]) D6;refine⟨.tup [.int (-1),.int 2],.tup [.int (-1),.int 2],.tup (K' _ _ Pa) (.cons .int (.cons .int .nil)),.tup Qf (.cons .int (.cons .int .nil)),yae rfl,false,by rw[yai rfl,Dv.Xt];rfl,QO ?_⟩;have Fq:=Fp.same (O9.trans K')
     try dsimp only[QL,J9,Za,Q4]
     have w8:Jm (.aN (gN false) (aQ N))=8*N+8:=W4 N;have w9:Jm (.aN (gN true) (aQ N))=8*N+8:=W4 N;generalize upd N0 q21 (.tup [.int (-1),.int 2])=H21 at Fq ⊢;clear O9 K' Fp Pa J' D6;have ae:part AC 0 (8*N+8)=part s 0 (8*N+8):=by rw[ou _ _ (by lia),AI _ _ (by lia)]
     have be:part AC (8*N+8) (8*N)=part s 0 (8*N):=by rw[ou _ _ (by lia), <-AJ 0 (8*N) (by lia)]
     refine Y7 Fq (Hd AC Rs) rfl (QV (Qm QE QU) Z) (jI N false) (yae Z) (by rw[w8];show 0+(8*N+8)<=_;lia) λH22 Pb=>?_;rw[w8];have Pc:∀m,m+(8*N+8)<=16*N+31->(tx (part AC m (8*N+8))).length<=sizeLine:=λm hm=>by rw[Qx,qp (by lia)];lia
     refine⟨_,Z,8,(N:Nat),Z,Z,.inl ⟨by lia,by lia⟩,_,Z,_,Z,Pc 0 (by lia),?_⟩;refine Y7 (Fq.same Pb) (Hd AC Rs) rfl (QV (Qm QE QU) Z) (jI N true) (yae Z) (by rw[w9];show 8*N+8+(8*N+8)<=_;lia) λH23 S23=>?_;rw[w9];refine⟨_,Z,8,(N:Nat),Z,Z,.inl ⟨by lia,by lia⟩,_,Z,_,Z,Pc (8*N+8) (by lia),?_⟩;have e8:((8:Int)*(N:Nat))=((8*N:Nat):Int):=by push_cast;rfl
     have t8:∀m,(part AC m (8*N+8)).take (8*N)=part AC m (8*N):=λm=>by unfold part;rw[List.take_take,ybc (by lia)]
     have sl:∀m,sliceText (tx (part AC m (8*N+8))) none (some ((8:Int)*(N:Nat)))=tx (part AC m (8*N)):=λm=>by rw[e8,Qbj,t8]
     have ee:V.str (sliceText (tx (part AC 0 (8*N+8))) none (some ((8:Int)*(N:Nat))))=V.str (sliceText (tx (part AC (8*N+8) (8*N+8))) none (some ((8:Int)*(N:Nat)))):=by rw[sl,sl,be, <-t8 0,ae];unfold part;rw[List.take_take,ybc (by lia)]
     refine⟨Z,false,by show V.bl (!decide (V.str (sliceText (tx (part AC 0 (8*N+8))) none (some ((8:Int)*(N:Nat))))=V.str (sliceText (tx (part AC (8*N+8) (8*N+8))) none (some ((8:Int)*(N:Nat))))))=_;rw[tN ee];rfl,QO ?_⟩;clear e8 t8 sl ee;have L23:=Fq.same (Pb.trans S23);have ed:part AC (8*N) 8=cont true 6 2 (Jy us N) 2:=by rw[ou _ _ (by lia),AI _ _ (by lia)];exact Ce.sm
     refine Qbi L23 (Hd AC Rs) (by lia) rfl (QV (Qm QE QU) Z) (QV (Qm QE QU) Z) (jI N false) (yae Z) (by rw[W4];show 0+(8*N+8)<=_;lia) (jI N true) (yae Z) (by rw[W4];show 8*N+8+(8*N+8)<=_;lia) ?w1 ?w2 ?w3 (Qgj N) ?w5 (alike hN Rs AE ed) λH24 Pd K24=>?_
     case w1=>unfold aQ qA;simp only[aY,Bs,Ly.wt];lia
     case w2=>unfold aQ qA;simp only[bK,iz,Ly.dk,and_true,true_and];lia
     case w3=>rw[yr];lia
     case w5=>rw[yr];intro w hw;simp only[yak,yaK,ycC]at hw;rcases hw with rfl|rfl<;>exact⟨yae rfl,yae rfl⟩
     rw[yr];refine⟨Z,true,Z,Q0 ?_⟩;have l8:(cont true 6 2 (Jy us N) 2).length=8:=(Z3 true (Jy us N) 2 (by lia)).2.2.1;have D8:(lay AC (16*N+8) (cont true 6 2 (Jy us N) 2)).length=16*N+31:=by rw[Kg (by lia)];exact Rs
     refine Y7 Pd (Hd _ D8) rfl (QV (Qm QE QU) Z) (jI N false) (yae Z) (by rw[w8];show 0+(8*N+8)<=_;lia) λH25 S25=>?_;refine Y7 (Pd.same S25) (Hd _ D8) rfl (QV (Qm QE QU) Z) (jI N true) (yae Z) (by rw[w9];show 8*N+8+(8*N+8)<=_;lia) λH26 S26=>?_;rw[w8,w9];have ee:V.str (tx (part (lay AC (16*N+8) (cont true 6 2 (Jy us N) 2)) 0 (8*N+8)))=V.str (tx (part (lay AC (16*N+8) (cont true 6 2 (Jy us N) 2)) (8*N+8) (8*N+8))):=by
      congr 2
      have h1:part (lay AC (16*N+8) (cont true 6 2 (Jy us N) 2)) (16*N+8) 8=cont true 6 2 (Jy us N) 2:=by
       have:=Kq (s:=AC) (t:=cont true 6 2 (Jy us N) 2) (n:=16*N+8) (by lia);rw[l8]at this;exact this
      rw[Zi (by lia) (.inl (by lia)),xr (n:=8*N+8),Zi (by lia) (.inl (by lia)),be,show 8*N+8+8*N=16*N+8 by lia,h1,ae,xr,yci,Ce.sm]
     exists Z;show Q (V.bl (decide (V.str (tx (part (lay AC (16*N+8) (cont true 6 2 (Jy us N) 2)) 0 (8*N+8)))=V.str (tx (part (lay AC (16*N+8) (cont true 6 2 (Jy us N) 2)) (8*N+8) (8*N+8)))))) _;rw[tN ee];exact k _
end
end
end Lw
namespace L2
open PySem PySem.Spec PyProof.Rows
def xt{K:Frag}{xs:List V}{n:Nat}{ge:Array (Option Value)}(l:K.lookup a=some ⟨.type "tuple",od,.seq its n,ge⟩)(z:its.size<=sizeLine)(v:Vals xs its.toList)(H:Hp):aw K H a xs:=.inr ⟨_,its,n,l,Z,Z,z,v⟩
def yy{K:Frag}{h1 h2:Int}{x1 x2 y1 y2:Str}{t1 t2 u1 u2:Tok}{n:Nat}(ne:(a==sysModules)=false)(l:K.lookup a=some ⟨.type "dict",none,.dict #[⟨h1,.str x1 t1,.str y1 u1⟩,⟨h2,.str x2 t2,.str y2 u2⟩] n, #[]⟩)(e1:h1=yE w (.inr x1))(e2:h2=yE w (.inr x2))(hx:x1≠x2):aG P w K a [(Sum.inr x1,.str y1),(Sum.inr x2,.str y2)]:=by
 refine⟨ne,λh KX=>⟨[(Sum.inr x1,.str y1 u1),(Sum.inr x2,.str y2 u2)],.cons ⟨Z,_,Z⟩ (.cons ⟨Z,_,Z⟩ .nil),_,_,_,KX a _ l,⟨Z,Z,Z⟩,Z,λe he=>?_,.cons (Ju P w x1 t1) rfl (.cons (Ju P w x2 t2) Z .nil),?_⟩⟩
 .have he:e=⟨h1,.str x1 t1,.str y1 u1⟩\/e=⟨h2,.str x2 t2,.str y2 u2⟩:=by simpa using he
  rcases he with rfl|rfl
  .exact⟨_,Ju P w x1 t1,e1⟩
  .exact⟨_,Ju P w x2 t2,e2⟩
 .have hk:¬ (Sum.inr x1:Key)=Sum.inr x2:=λq=>hx (ydM q);simp[hk]
end L2
namespace Lw
open PySem PySem.Spec PyProof.Rows L2 dB bL iu fV Io
def all_mk{l:PySem.W.OpenLaw}{w:World}{K:Frag}{h:Heap}{ca:Value}{fa fl R0 R1 R2 R3 R4 R5 R6 R7 R8 R9 fA fB CR C0 C1 C2 C5 C6 C7 C8 C9 Fs Ft La:Addr}{t0 t1 t2 t3 t4 t5 t6 t7 t8 t9:Tok}{oc kV doc pm ct:Value}{od an:Option Addr}{ge:Array (Option Value)}(X:K.In h)(G:h.Ns mainGlobals mg)(hfa:mg "law"=some (.ref fa))(rA:ai K "ten_to" UG)(nv:ai K "is_figures" X2)(nX:ai K "number_of" KC)(pE:ai K "times_at" WP)(pU:ai K "rows_of" V2)(nY:ai K "floats_at" KG)(nZ:ai K "places_of" KH)(ny:ai K "whole_part" X4)(mV:ai K "broken_part" XB)(pV:ai K "lead_of" V3)(pW:ai K "tail_of" V5)(mD:ai K "number_facts" Z5)(mW:ai K "plain_facts" XA)(pX:ai K "body_of" V4)(mE:ai K "edited_facts" Z7)(pF:ai K "facts_of" WQ)(nz:ai K "understood" ZW)(pY:ai K "kind_of" Wo)(mF:ai K "quotient_cut" Xa)(uF:ai K "cut" Ht)(rB:ai K "fitted" UN)(nA:ai K "figures_of" X3)(mj:ai K "understood_as" J6)(mX:ai K "written_out" Xy)(pZ:ai K "size_of" Wp)(n4:ai K "sign_text" KI)(mG:ai K "hides_nought" Xb)(mY:ai K "nought_text" XC)(rC:ai K "spread" UO)(n5:ai K "hidden_in" KK)(n6:ai K "body_text" KJ)(mH:ai K "edited_parts" Z8)(rD:ai K "edited" Vm)(nB:ai K "content_of" ZZ)(n9:ai K "amount_in" XD)(mZ:ai K "read_edited" ZA)(uf:ai K "bare" vL)(pG:ai K "signs_in" WR)(pH:ai K "is_whole" WS)(nC:ai K "step_parts" X6)(nE:ai K "last_first" X5)(ma:ai K "ahead_in_table" JR)(p0:ai K "item_at" Wq)(rO:ai K "found" UJ)(rP:ai K "where" zd)(md:ai K "paths_of_boxes" Zr)(uG:ai K "put" EL)(rQ:ai K "blank" zg)(gJ:ai K "signs_at_beginning" JM)(p7:ai K "as_text" Yc)(m3:ai K "amount_from" ZB)(mI:ai K "figures_from" Xd)(p8:ai K "rounded" V6)(rR:aS K "move" zZ "right" (.bool false))(pI:ai K "lined_up" WU)(ug:ai K "same" s_same)(rS:ai K "added" zf)(pB:aS K "stored" Vn "nearest" (.bool false))(pf:ai K "_law_draw" KL)(nF:ai K "_law_begun" Kb)(nG:ai K "with_signs" Ka)(nH:ai K "check_kind" Z2)(ph:MethAt K CR "__init__" "Area.__init__" ZL)(p9:MethAt K CR "change" "Area.change" XH)(uh:MethAt K CR "get" "Area.get" WV)(rb:MethAt K CR "amount" "Area.amount" ZC)(rT:MethAt K CR "load" "Area.load" XF)(dmD_store:MethAtD K CR "store" "Area.store" Z1 "nearest" (.bool false))(pj:ai K "with_move" XI)(di:MethAtD K CR "move" "Area.move" XG "right" (.bool false))(m4:ai K "boxes_alike" J7)(m5:MethAt K CR "move_alike" "Area.move_alike" JH)(me:ai K "_law_an_amount" Zs)(nJ:ai K "_law_items" Kc)(k_0:nsIn K mainGlobals "BoxError"=some (some (.ref C0)))(Lb:nsIn K mainGlobals "NoPicture"=some (some (.ref C1)))(Lc:nsIn K mainGlobals "NoRoom"=some (some (.ref C2)))(Ld:nsIn K mainGlobals "NoFigures"=some (some (.ref C5)))(Le:nsIn K mainGlobals "NoLetters"=some (some (.ref C6)))(Lf:nsIn K mainGlobals "NoMove"=some (some (.ref C7)))(Lg:nsIn K mainGlobals "NoPath"=some (some (.ref C8)))(Lh:nsIn K mainGlobals "NoAmount"=some (some (.ref C9)))(u6:nsIn K mainGlobals "NoGroup"=some (some (.ref Fs)))(tj:nsIn K mainGlobals "BadSize"=some (some (.ref Ft)))(tm:nsIn K mainGlobals "NoBack"=some (some (.ref La)))(k_R:nsIn K mainGlobals "Area"=some (some (.ref CR)))(tq:plainGet K CR Str.empty=true)(tu:hasDictIn K CR=true)(tD:plainOver K CR=true)(tE:findIn K (.ref CR) "__setattr__"=some (some (.builtin "object.__setattr__")))(tF:makesIn K CR=true)(tG:keepIn K (.ref CR)=true)(pJ:findIn K (.ref CR) "layout"=some none)(rE:findIn K (.ref CR) "held"=some none)(rF:findIn K (.ref CR) "done"=some none)(pK:findIn K (.ref CR) "undone"=some none)(gU:nsIn K mainGlobals "FIGURES"=some (some (.str "0123456789" t0)))(gP:nsIn K mainGlobals "INSERTED"=some (some (.str ",B0/" t2)))(pO:nsIn K mainGlobals "SIGNS"=some (some (.str "+-" t3)))(gD:nsIn K mainGlobals "FLOATING"=some (some (.str "+-$" t4)))(nO:nsIn K mainGlobals "PLACES"=some (some (.str "9Z*+-$" t5)))(gx:nsIn K mainGlobals "LAST_BELOW"=some (some (.str "pqrstuvwxy" t8)))(gh:nsIn K mainGlobals "LETTERS_AND_BLANK"=some (some (.str "abcdefghijklmnopqrstuvwxyzABCDEFGHIJKLMNOPQRSTUVWXYZ " t9)))(nN:nsIn K mainGlobals "PART"=some (some (.int 18 t1)))(gm:nsIn K mainGlobals "MOST_FIGURES"=some (some (.int 18 t6)))(gR:nsIn K mainGlobals "MOST_SIGNS"=some (some (.int 60 t7)))(gF:nsIn K mainGlobals "NUMBER_FORMS"=some (some (.ref R0)))(pq:nsIn K mainGlobals "SHOWN"=some (some (.ref R1)))(gA:nsIn K mainGlobals "PLAIN_KINDS"=some (some (.ref R2)))(mJ:∀H,aw K H R0 [.str "9",.str "S9",.str "V9",.str "SV9",.str "9V9",.str "S9V9"])(pz:∀H,aw K H R1 [.str "+",.str "-",.str "CR",.str "DB"])(kd:aG l.prog w K R2 jl)(mf:nsIn K mainGlobals "BESIDE"=some (some (.ref R3)))(rg:aG l.prog w K R3 Bn)(mh:nsIn K mainGlobals "NOT_BELOW"=some (some (.ref R4)))(nK:aG l.prog w K R4 CW)(pP:nsIn K mainGlobals "BELOW"=some (some (.ref R5)))(rG:aG l.prog w K R5 CY)(pQ:nsIn K mainGlobals "MOVES"=some (some (.ref R7)))(rh:aG l.prog w K R7 (EY R8 R9 fA fB))(gE:nsIn K mainGlobals "WITH_AMOUNTS"=some (some (.ref R6)))(uz:∀H,aw K H R8 [.str "number",.str "edited",.str "text"])(uA:∀H,aw K H R9 [.str "number",.str "edited",.str "text"])(uB:∀H,aw K H fA [.str "number",.str "edited",.str "text",.str "letters"])(uC:∀H,aw K H fB [.str "text",.str "letters"])(mK:∀H,aw K H R6 [.str "number",.str "edited"])(rH:nsIn K mainGlobals "tuple"=some none)(nM:nsIn K mainGlobals "enumerate"=some none)(rV:nsIn K mainGlobals "list"=some none)(ui:nsIn K mainGlobals "set"=some none)(uj:nsIn K mainGlobals "zip"=some none)(pk:kitOne K (.type "str") (.type "tuple")=some false)(m7:kitOne K (.type "tuple") (.type "tuple")=some true)(rj:kitOne K (.type "int") (.type "int")=some true)(pL:kitOne K (.type "int") (.type "bool")=some false)(r9:kitOne K (.type "str") (.type "str")=some true)(ub:kitOne K (.type "int") (.type "str")=some false)(pM:kitOne K (.type "NoneType") (.type "str")=some false)(rW:kitOne K (.type "tuple") (.type "str")=some false)(uH:nsIn K mainGlobals "len"=some none)(rX:nsIn K mainGlobals "range"=some none)(uI:nsIn K mainGlobals "abs"=some none)(uJ:nsIn K mainGlobals "max"=some none)(uK:nsIn K mainGlobals "int"=some none)(uL:nsIn K mainGlobals "isinstance"=some none)(uk:nsIn K mainGlobals "bool"=some none)(uM:nsIn K mainGlobals "ValueError"=some none)(pN:nsIn K mainGlobals "reversed"=some none)(rJ:nsIn K mainGlobals "divmod"=some none)(uN:nsIn K mainGlobals "str"=some none)(uO:nsIn K mainGlobals "sum"=some none)(uP:excIn K C1 [.type "ValueError",.type "Exception",.type "BaseException",.type "object"] "ValueError.__new__"=true)(uQ:excIn K C2 [.type "ValueError",.type "Exception",.type "BaseException",.type "object"] "ValueError.__new__"=true)(uR:excIn K C5 [.type "ValueError",.type "Exception",.type "BaseException",.type "object"] "ValueError.__new__"=true)(uS:excIn K C6 [.type "ValueError",.type "Exception",.type "BaseException",.type "object"] "ValueError.__new__"=true)(uT:excIn K C7 [.type "ValueError",.type "Exception",.type "BaseException",.type "object"] "ValueError.__new__"=true)(uU:excIn K C8 [.type "ValueError",.type "Exception",.type "BaseException",.type "object"] "ValueError.__new__"=true)(uV:excIn K C9 [.type "ValueError",.type "Exception",.type "BaseException",.type "object"] "ValueError.__new__"=true)(um:excIn K Fs [.type "ValueError",.type "Exception",.type "BaseException",.type "object"] "ValueError.__new__"=true)(uo:excIn K Ft [.type "ValueError",.type "Exception",.type "BaseException",.type "object"] "ValueError.__new__"=true)(uW:nsIn K mainGlobals "law"=some (some (.ref fl)))(uX:K.lookup fl=some ⟨oc,od,.func (fnOf "law" "law" (Q7 US) (QS US) (Qe US) .none kV doc pm an ca ct),ge⟩)(uY:codeIn K ca "law"=true):∃fd:FuncData,(∀(s:Shared)(v:Value),BindsTo s fd ⟨[v],[]⟩ [("_law_script",v)])/\∀Y:Heap,K.In Y->Y.Ns mainGlobals mg->ak l.prog w K mg Y (av l.prog w) 15 fa fd ["_law_script"] eZ:=by
 have e:=hfa.symm.trans (mg_of X G uW);cases e;have O:Own mg:=⟨ybm X G uH,ybm X G rX,ybm X G uI,ybm X G uJ,ybm X G uK,ybm X G uL,ybm X G uk,ybm X G uM,ybm X G pN,ybm X G rJ,ybm X G uN,ybm X G uO⟩;have T:Txt K mg (λi=>([t0,t1,t2,t3,t4,t5,t6,t7,t8,t9]:List Tok).getD i 0) (λi=>([C0,C1,C2,0,0,C5,C6,C7,C8,C9,Fs,Ft,La,0,0]:List Addr).getD i 0) (λi=>([R0,R1,R2,R3,R4,R5,R6,R7,R8,R9,fA,fB]:List Addr).getD i 0):=⟨mg_of X G k_0,mg_of X G Lb,mg_of X G Lc,mg_of X G Ld,mg_of X G Le,mg_of X G Lf,mg_of X G Lg,mg_of X G Lh,mg_of X G u6,mg_of X G tj,mg_of X G tm,mg_of X G gU,mg_of X G nN,mg_of X G gP,mg_of X G pO,mg_of X G gD,mg_of X G nO,mg_of X G gm,mg_of X G gR,mg_of X G gx,mg_of X G gh,mg_of X G mf,mg_of X G mh,mg_of X G pP,mg_of X G gE,mg_of X G pQ,mg_of X G gF,mg_of X G pq,mg_of X G gA,mJ,pz,mK,uz,uA,uB,uC,⟨uP⟩,⟨uQ⟩,⟨uR⟩,⟨uS⟩,⟨uT⟩,⟨uU⟩,⟨uV⟩,⟨um⟩,⟨uo⟩,r9,ub,pM,rW⟩;have KD:aG l.prog w K ((λi=>([R0,R1,R2,R3,R4,R5,R6,R7,R8,R9,fA,fB]:List Addr).getD i 0) 2) jl:=kd;have KB:aG l.prog w K ((λi=>([R0,R1,R2,R3,R4,R5,R6,R7,R8,R9,fA,fB]:List Addr).getD i 0) 3) Bn:=rg;have KN:aG l.prog w K ((λi=>([R0,R1,R2,R3,R4,R5,R6,R7,R8,R9,fA,fB]:List Addr).getD i 0) 4) CW:=nK;have KW:aG l.prog w K ((λi=>([R0,R1,R2,R3,R4,R5,R6,R7,R8,R9,fA,fB]:List Addr).getD i 0) 5) CY:=rG;have KM:aG l.prog w K ((λi=>([R0,R1,R2,R3,R4,R5,R6,R7,R8,R9,fA,fB]:List Addr).getD i 0) 7) (EY ((λi=>([R0,R1,R2,R3,R4,R5,R6,R7,R8,R9,fA,fB]:List Addr).getD i 0) 8) ((λi=>([R0,R1,R2,R3,R4,R5,R6,R7,R8,R9,fA,fB]:List Addr).getD i 0) 9) ((λi=>([R0,R1,R2,R3,R4,R5,R6,R7,R8,R9,fA,fB]:List Addr).getD i 0) 10) ((λi=>([R0,R1,R2,R3,R4,R5,R6,R7,R8,R9,fA,fB]:List Addr).getD i 0) 11)):=rh;have OT:mg "tuple"=none:=ybm X G rH;have OE:mg "enumerate"=none:=ybm X G nM;have OL:mg "list"=none:=ybm X G rV;have OS:mg "set"=none:=ybm X G ui;have OZ:mg "zip"=none:=ybm X G uj;generalize (λi=>([C0,C1,C2,0,0,C5,C6,C7,C8,C9,Fs,Ft,La,0,0]:List Addr).getD i 0)=c at T;generalize (λi=>([R0,R1,R2,R3,R4,R5,R6,R7,R8,R9,fA,fB]:List Addr).getD i 0)=kr at T KD KB KN KW KM;generalize (λi=>([t0,t1,t2,t3,t4,t5,t6,t7,t8,t9]:List Tok).getD i 0)=tk at T;refine⟨fnOf "law" "law" (Q7 US) (QS US) (Qe US) .none kV doc pm an ca ct,λs v=>.of_eq rfl,λY kb nb=>?_⟩;have KT:lZ K:=⟨pk,m7,rj,pL⟩;have cl:eh K CR:=⟨tq,tu,tD,tE⟩;have R:dN K CR:=⟨cl,pJ,rE,rF,pK⟩;have gg:Def l.prog w K mg Y 1 "ten_to" ["many"] (cp):=rA.d1 X G (λf fd F=>vN F O) (by nofun);have gj:Def l.prog w K mg Y 1 "is_figures" ["text"] (bw):=nv.d1 X G (λf fd F=>UT F T) (by nofun);have hZ:Def l.prog w K mg Y 2 "number_of" ["text"] (cY):=nX.d1 X G (λf fd F=>jm F O T gg) (by nofun);have pC:Def l.prog w K mg Y 3 "times_at" ["text","at"] (cz):=pE.d2 X G (λf fd F=>zh F O T gj hZ) (by nofun);have mr:Def l.prog w K mg Y 4 "rows_of" ["thing"] (cZ K):=pU.d1 X G (λf fd F=>kl F O T pC) (by nofun);have nP:Def l.prog w K mg Y 1 "floats_at" ["rows","at"] (bQ K):=nY.d2 X G (λf fd F=>jo F O T) (by nofun);have mO:Def l.prog w K mg Y 1 "places_of" ["rows","at","place"] (bR K):=nZ.d3 X G (λf fd F=>jp F O T) (by nofun);have ng:Def l.prog w K mg Y 2 "whole_part" ["rows","at"] (cA K):=ny.d2 X G (λf fd F=>UV F O T mO) (by nofun);have mP:Def l.prog w K mg Y 1 "broken_part" ["rows","at","place"] (bS K):=mV.d3 X G (λf fd F=>YD F O T) (by nofun);have mm:Def l.prog w K mg Y 2 "lead_of" ["rows"] (c5 K):=pV.d1 X G (λf fd F=>ko F O T nP) (by nofun);have mq:Def l.prog w K mg Y 1 "tail_of" ["rows","at"] (c6 K):=pW.d2 X G (λf fd F=>kq F O T) (by nofun);have mw:Def l.prog w K mg Y 1 "number_facts" ["rows"] (aC K Jc):=mD.d1 X G (λf fd F=>Yh F O T) (by nofun);have mQ:Def l.prog w K mg Y 1 "plain_facts" ["rows"] (aC K JW):=mW.d1 X G (λf fd F=>YE F O T KD) (by nofun);have mn:Def l.prog w K mg Y 3 "body_of" ["rows","at"] (c7 K):=pX.d2 X G (λf fd F=>ky F ng mP) (by nofun);have my:Def l.prog w K mg Y 4 "edited_facts" ["rows"] (aC K Jw):=mE.d1 X G (λf fd F=>Yi F O T mm mn mq) (by nofun);have gW:Def l.prog w K mg Y 5 "facts_of" ["rows"] (aC K JT):=pF.d1 X G (λf fd F=>zj F mw mQ my) (by nofun);have gK:Def l.prog w K mg Y 6 "understood" ["picture"] (bT K c):=nz.d1 X G (λf fd F=>UY F T mr gW) (by nofun);have hV:Def l.prog w K mg Y 7 "kind_of" ["picture"] (aT c):=pY.d1 X G (λf fd F=>kz F gK) (by nofun);have mz:Def l.prog w K mg Y 1 "quotient_cut" ["number","by"] (dG):=mF.d2 X G (λf fd F=>Yj F O) (by nofun);have nQ:Def l.prog w K mg Y 2 "cut" ["amount","places"] (dD K):=uF.d2 X G (λf fd F=>QeM F O gg mz) (by nofun);have m8:Def l.prog w K mg Y 3 "fitted" ["amount","before","behind"] (dY K):=rB.d3 X G (λf fd F=>vZ F O gg nQ) (by nofun);have gL:Def l.prog w K mg Y 2 "figures_of" ["number"] (c8):=nA.d1 X G (λf fd F=>U0 F O T gg) (by nofun);have hG:Def l.prog w K mg Y 6 "understood_as" ["kind","picture"] (aP K c):=mj.d2 X G (λf fd F=>Vh F T mr gW) (by nofun);have mR:Def l.prog w K mg Y 1 "written_out" ["rows"] (eU K):=mX.d1 X G (λf fd F=>YF F O) (by nofun);have gr:Def l.prog w K mg Y 7 "size_of" ["picture"] (bJ):=pZ.d1 X G (λf fd F=>kB F O gK) (by nofun);have gG:Def l.prog w K mg Y 1 "sign_text" ["symbols","is_below"] (da):=n4.d2 X G (λf fd F=>jt F T KN KW) (by nofun);have mB:Def l.prog w K mg Y 1 "hides_nought" ["body"] (cD):=mG.d1 X G (λf fd F=>Yk F T) (by nofun);have mS:Def l.prog w K mg Y 1 "nought_text" ["symbols"] (U3):=mY.d1 X G (λf fd F=>YG F O) (by nofun);have rp:Def l.prog w K mg Y 3 "spread" ["body","units"] (bU):=rC.d2 X G (λf fd F=>v8 F O T KB gL) (by nofun);have nR:Def l.prog w K mg Y 1 "hidden_in" ["body","signs"] (bV):=n5.d2 X G (λf fd F=>ju F O OE T) (by nofun);have nS:Def l.prog w K mg Y 4 "body_text" ["body","units","is_below"] (cE):=n6.d3 X G (λf fd F=>jv F T rp nR gG) (by nofun);have gs:Def l.prog w K mg Y 4 "edited_parts" ["rows"] (bj K):=mH.d1 X G (λf fd F=>Yl F mm mn mR mq) (by nofun);have m9:Def l.prog w K mg Y 7 "edited" ["picture","amount"] (bo K c):=rD.d2 X G (λf fd F=>ya F O hG gs m8 mB mS gG nS) (by nofun);have gy:Def l.prog w K mg Y 7 "content_of" ["picture","amount"] (c9 K c):=nB.d2 X G (λf fd F=>U2 F O T hG m8 gL) (by nofun);have nV:Def l.prog w K mg Y 7 "amount_in" ["picture","content"] (cB K c):=n9.d2 X G (λf fd F=>js F O T hG gj hZ) (by nofun);have mT:Def l.prog w K mg Y 8 "read_edited" ["picture","text"] (dH K c):=mZ.d2 X G (λf fd F=>YH F O OZ T KB hZ hG gs m9) (by nofun);have nU:Def l.prog w K mg Y 1 "bare" ["item"] (de):=uf.d1 X G (λf fd F=>Qdl F) (by nofun);have gz:Def l.prog w K mg Y 8 "signs_in" ["layout"] (bz):=pG.d1 X G (λf fd F=>zm F gr) (by nofun);have pD:Def l.prog w K mg Y 1 "is_whole" ["thing"] (bX):=pH.d1 X G (λf fd F=>zn F O KT) (by nofun);have ni:Def l.prog w K mg Y 2 "step_parts" ["step"] (cG):=nC.d1 X G (λf fd F=>U6 F O OT KT pD) (by nofun);have gS:Def l.prog w K mg Y 2 "last_first" ["path","items"] (dJ):=nE.d2 X G (λf fd F=>U7 F O nU) (by nofun);have gY:Def l.prog w K mg Y 9 "ahead_in_table" ["item","number"] (cH):=ma.d2 X G (λf fd F=>WZ F T gz) (by nofun);have pS:Def l.prog w K mg Y 10 "item_at" ["items","step"] (bY):=p0.d2 X G (λf fd F=>kD F O OE T ni nU gz gY) (by nofun);have nj:Def l.prog w K mg Y 11 "found" ["layout","path"] (bZ):=rO.d2 X G (λf fd F=>Qa8 F O OT KT T pS) (by nofun);have gc:Def l.prog w K mg Y 12 "where" ["layout","path"] (aD):=rP.d2 X G (λf fd F=>Qa9 F nj gr gz) (by nofun);have gO:Def l.prog w K mg Y 3 "paths_of_boxes" ["items","with_tables"] (cJ):=md.d2 X G (λf fd F=>W0 F O gS) (by nofun);have rK:Def l.prog w K mg Y 8 "put" ["picture","amount"] (dE K):=uG.d2 X G (λf fd F=>Qe1 F hV gy m9) (by nofun);have rL:Def l.prog w K mg Y 9 "blank" ["picture"] (cK):=rQ.d1 X G (λf fd F=>Qbb F hV rK gr) (by nofun);have gH:Def l.prog w K mg Y 10 "signs_at_beginning" ["layout"] (cM):=gJ.d1 X G (λf fd F=>Kf F O OL rL) (by nofun);have mv:Def l.prog w K mg Y 1 "as_text" ["text","size","right"] (d6):=p7.d3 X G (λf fd F=>kF F O) (by nofun);have gC:Def l.prog w K mg Y 9 "amount_from" ["content","picture"] (ck):=m3.d2 X G (λf fd F=>YJ F O T hV nV mT gj hZ) (by nofun);have mC:Def l.prog w K mg Y 1 "figures_from" ["content","picture"] (Bo):=mI.d2 X G (λf fd F=>Ys F) (by nofun);have pA:Def l.prog w K mg Y 2 "rounded" ["amount","places"] (Bo):=p8.d2 X G (λf fd F=>kG F) (by nofun);have rM:cU l.prog w K mg Y 10 "move" ["content","picture","other","right"] ["right"] (dM):=rR.Qg5 X G (λf fd F=>Qds F T KM hV rK gC mC gr mv) (by nofun);have gX:Def l.prog w K mg Y 3 "lined_up" ["one","other"] (bW K):=pI.d2 X G (λf fd F=>zk F O nQ) (by nofun);have rN:Def l.prog w K mg Y 4 "same" ["one","other"] (dI K):=ug.d2 X G (λf fd F=>Qdi F gX) (by nofun);have pR:Def l.prog w K mg Y 4 "added" ["one","other"] (eW K λx y=>x+y):=rS.d2 X G (λf fd F=>Qa6 F gX) (by nofun);have rq:fY l.prog w K mg Y 8 "stored" ["picture","amount","nearest"] (.bl false) (aR K c):=by
  refine pB.Qg6 X G (λf fd F=>jx F O gg hG nQ pA gy) λ_ _ _ _ _ _ _ _=>?_;refine' .mk (σ:=?a57) (τ:=?b57) ?g157 ?g257 ?g357 ?h157 ?h257
  case h157=>exact Eq.refl _
  case h257=>exact Eq.refl _
 have pT:cV l.prog w K mg Y 8 "stored" ["picture","amount","nearest"] ["nearest"] (aR K c):=pB.Qev X G (λf fd F=>jx F O gg hG nQ pA gy) (by nofun);have gk:Def l.prog w K mg Y 1 "_law_draw" ["_law_script","_law_town","_law_many"] (cg K):=pf.d3 X G (λf fd F=>jG F O) (by nofun);have nk:Def l.prog w K mg Y 1 "_law_begun" [] (cw):=nF.d0 X G (λf fd F=>qk F) (by nofun);have gf:Def l.prog w K mg Y 1 "with_signs" ["held","start","text"] (cm):=nG.d3 X G (λf fd F=>qf F O) (by nofun);have gM:Def l.prog w K mg Y 8 "check_kind" ["picture","kinds"] (b7 K):=nH.d2 X G (λf fd F=>qg F T hV) (by nofun);have ue:fZ l.prog w K mg Y CR 11 "Area" ["self","layout"] (dO CR):=ph.dc2 (mg_of X G k_R) tF tG (λf fd F=>Vi F R gH) (by nofun);have hJ:bf l.prog w K mg Y CR 1 "change" ["self","word","held"] (aO CR):=p9.G2 cl (λf fd F=>YK F R) (by nofun);have gI:bf l.prog w K mg Y CR 13 "get" ["self","path"] (d7 CR):=uh.M' cl (λf fd F=>zr F R gc) (by nofun);have hU:bf l.prog w K mg Y CR 13 "amount" ["self","path"] (df CR):=rb.M' cl (λf fd F=>YL F R T gc gM gC) (by nofun);have nW:bf l.prog w K mg Y CR 13 "load" ["self","path","text"] (dh CR):=rT.G2 cl (λf fd F=>jC F R O T gc gf hJ) (by nofun);have ml:cX l.prog w K mg Y CR 13 "store" ["self","path","amount","nearest"] (.bl false) (br K CR):=by
  refine dmD_store.Nu cl (λf fd F=>qi F R T gc gM pT gf hJ) λ_ _ _ _ _ _ _ _ _=>?_;refine' .mk (σ:=?a67) (τ:=?b67) ?g167 ?g267 ?g367 ?h167 ?h267
  case h167=>exact Eq.refl _
  case h267=>exact Eq.refl _
 have gQ:Def l.prog w K mg Y 11 "with_move" ["held","source","target","right"] (d8):=pj.d4 X G (λf fd F=>jD F mv gf rM) (by nofun);have mi:cX l.prog w K mg Y CR 13 "move" ["self","path","other","right"] (.bl false) (b8 CR):=by
  refine di.Nu cl (λf fd F=>jE F R gc gQ hJ) λ_ _ _ _ _ _ _ _ _=>?_;refine' .mk (σ:=?a69) (τ:=?b69) ?g169 ?g269 ?g369 ?h169 ?h269
  case h169=>exact Eq.refl _
  case h269=>exact Eq.refl _
 have mU:Def l.prog w K mg Y 12 "boxes_alike" ["layout","path","other"] (cN):=m4.d3 X G (λf fd F=>YM F O OS nj gO) (by nofun);have gT:bf l.prog w K mg Y CR 13 "move_alike" ["self","path","other"] (bt CR):=m5.G2 cl (λf fd F=>Wt F R O T gc gQ mU hJ) (by nofun);have gZ:Def l.prog w K mg Y 2 "_law_an_amount" ["_law_script","_law_town","_law_figures","_law_far"] (b9 K):=me.d4 X G (λf fd F=>W3 F O gk) (by nofun);have nt:Def l.prog w K mg Y 1 "_law_items" ["_law_many"] (cO):=nJ.d1 X G (λf fd F=>ql F) (by nofun);exact Qfc (P:=l.prog) (w:=w) (Y:=Y) ⟨oc,od,kV,doc,pm,an,ct,ge,Z,uX,uY⟩ O nk gk nt gZ rq rN pR ue gI hU nW ml mi gT
def Qfd(z:av P w [] H s (λ_ _ _=>False) e s'):False:=by
 obtain⟨_,_,_,_,_,_,_,_,_,_,_,_,_,_,h⟩:=z;exact h
end Lw
structure PySem.W.Fast:Prop where
 (tw11527242319889300826 tw5970417997987584845 tw16702571888107348479 tw14601076845426307889 tw16706975713666834153 tw10467584861696561822 tw151568246223697754 tw12658595388581741876 tw860379265185308396 tw15468743082168977632 tw8916869699477921557 tw8123719455472051897 tw2426851673766475395 tw2512372258377037311 tw6991865463179959180 tw16683723783960384700 tw17492249737925925814 tw15588543546575648828 tw3972385084826697313 tw9911920133481164934 tw13434987122464584894 tw8152626256593276882 tw8605266842637607747 tw845163885210032557 tw951933206677790472 tw17318431384115483161 tw11660972316711246196 tw10941479937447961125 tw7629129431578445411 tw4802576848408835405 tw14909011599737898653 tw6006154498376643594 tw7652153198697226571 tw14261666548784445555 tw11712283054175666097 tw10377856830843093006 tw15834192676026241029 tw4875094034139979079 tw581286461913437482 tw14969915831469880292 tw2277132031447234168 tw4440723633102999870 tw2139026581288891187 tw7336030882354459919 tw620136517592456318 tw2501567673201446834 tw15273456697618469806 tw8362525467836979729 tw340599237211828604 tw7458434939722557124 tw8092377410151320445 tw10648192172184511478 tw12987512702741847072 tw320036300735502045 tw14774071827319153728 tw12599786225831469738 tw7083875567402825492 tw7159853225093449535 tw4004245970844457897 tw16826039782301489144 tw16147868679879972076 tw6313296730151174893 tw5801090934291620022 tw12851715354300305721 tw2049953272338061267 tw2395604929977780037 tw17803484549307560582 tw16433422775367402841 tw15701170440419566105 tw10031501505084184786 tw14573298431306777295 tw10961355929079346397 tw1836388299851236854 tw16428848598294062024 tw9969163317646945525 tw13860737135631493881 tw12464222429257949235 tw16255333004458502586 tw9514432277143526018 tw16673847655080828391 tw17385832391837883795 tw18403481137257788843 tw14462340866439926688 tw9761079542985269477 tw15914970903137398406 tw10424161648262387621 tw15779385230426199903 tw13988550046184714454 tw8410199671786842829 tw13684263629607241008 tw8982390783520846794 tw14988431583663793888 tw1339491301491109920 tw1061864377822438199 tw4933198770620276812 tw8046937520994484117 tw12942651977366755930 tw9671106622491067726 tw8134613902119074154 tw17008872981189144761 tw11175376743459786238 tw8542011936581538683 tw6429184013820881607 tw10197873093901109901 tw16778480394584351660 tw14144754931859478230 tw1307144032368627945 tw14260104183460006312 tw15566407148717124105 tw15799540600945244962 tw8874893205929702586 tw9044282233630707163 tw16332507752792217982 tw13737350420609997262 tw13258405210128300184 tw2481365415090696222 tw4874282843209920404 tw56442932438225421 tw11984582900924161002 tw16017001713415090942 tw1778063209104942015 tw16604466292904667887 tw16471024422496559693 tw6347687305569319023 tw3956734330233862336 tw5915472211149794107 tw5778269408214302675 tw12856475335626573755 tw12413305901599711976 tw11648847310749980309 tw16087109182602337532 tw11945741243408970672 tw17090154534708157162 tw3460731783715958414 tw12117514434445636645 tw15503062465099496775 tw15742419549368922987 tw2565955050479756575 tw14333436114061061802 tw5421659764331163578 tw2557065376883283372 tw10256423604473230331 tw12049826644833168159 tw18063737872435586489 tw1267703620824876892 tw9385919444312716733 tw9431945510895963917 tw1020410847515079149 tw16847687019786081864 tw17511737740257163123 tw10743105400565780209 tw3689289150817941114 tw12821679396622746937 tw10569962904498930913 tw7321020321472873598 tw5421727312371151592 tw6514954998503514994 tw15167037433277816266 tw10728936378470646578 tw15987701441921875480 tw8088381083923151732 tw6047080621940210887 tw11722040938797557401 tw2757172313935940483 tw8267091045421915906 tw18421189349219336703 tw3909845673585464977 tw8170880519730290019 tw8976552009413858582 tw15613908511025247246 tw12010382125564105217 tw9125789393765337676 tw16333411412908545087 tw12954858998476669787 tw1934432984017261459 tw771183711286863111 tw14974565389655614568 tw2822036704926743043 tw332414061815491908 tw4782868062946018316 tw15439085938023114297 tw5063114300757254506 tw10923242438148930697 tw6512624624254457949 tw1357826915894220184 tw14600557239550088368 tw11363756984005576274 tw3175197965814020230 tw15718550849493059148 tw9973987942493654518 tw1286290389314322341 tw15541399625258278290 tw7128209800367282780 tw14277978933128062243 tw6602203946343291563 tw11493333203119718433 tw13386532213682573834 tw14541981410962035083 tw13248192887696839331 tw4461372749433989722 tw5399253710558747519 tw13377590102580379699 tw12473228365566110242 tw17603604527975216122 tw768884952880301535 tw11579392932540778700 tw10660037967990242922 tw16655682213890488125 tw13417427313438515246 tw4659159105528155024 tw14810293604257458964 tw13959572797432587417 tw2856682484090050472 tw13178313612466716471 tw3501703320301575155 tw16905447448150292 tw17119933612087851728 tw15056568491411342211 tw12839031973074790889 tw15669448084152386097 tw10883654942160888799 tw6198621384270222408 tw18214753079341306954 tw6963067628392957007 tw11592969535228554403 tw2412472406615916257 tw17698439552596150261 tw6925566280968417980 tw12438663455599309121 tw12071335750624582124 tw600661561711168106 tw9867278469032047395 tw18312495737405062105 tw13971055338104141285 tw9605041123228981994 tw15229165204190081555 tw4921964780111528814 tw10593611435424876513 tw4043448059931731062 tw13158217125242048345 tw17516694350078196832 tw4543708983592864605 tw1109439485220974526 tw406546149961884090 tw10894719519116799338 tw6506295643783679695 tw879039664626947124 tw7292534595772754321 tw1617461224662448910 tw668703075818076319 tw13385081055519734100 tw7833830166956569434 tw11038047534747828634 tw4913893442925761802 tw13751884130452180027 tw11542756344050592594 tw11474683992747343050 tw7901957475180731910 tw3200989341508771222 tw14211960615198594790 tw16666035215593131014 tw14639488545839332650 tw6744570702652742171 tw5425413407696892713 tw6560638455791814670 tw1281094389935669816 tw5548619140287039559 tw14031721053279341512 tw2917974744709916387 tw9207853969266470311 tw5003189929896936572 tw3915728838669047092 tw17397140518241591506 tw16301395002618619038 tw13735181666725583420 tw11378166157595730046 tw10744442224551711522 tw3427903355664152678 tw15535813843949056721 tw1626361240632340252 tw14635124083223636703 tw18301868599511142652 tw1651585961128444850 tw7560245492122372341 tw1163662803468525497 tw16669848542716572844 tw16322396895134526815 tw13436404679594980519 tw14692223526898123434 tw11230962705125874361 tw329611372529711179 tw5530928989565355732 tw18222582849479569504 tw16745667634612554961 tw7907506979896657697 tw17961042466203891815 tw2961299553518300755 tw2777835555119019353 tw2913707112368073612 tw12813742023063628482 tw17743754306277831133 tw2291223170019372428 tw1617861147459969578 tw2422738867898913696 tw17032371182214445986 tw8664813320414203291 tw8835666078048266906 tw3491553445697755129 tw14055608630517306173 tw12123284919369134267 tw848721924976778864 tw15814703707829781831 tw18307497056923019551 tw16646532445787204096 tw5411886314045405363 tw9560207116536505651 tw3277211156766228118 tw15119751302884230195 tw2290080785498036418 tw2674640148391857622 tw13261024399089295458 tw2217373147494317604 tw8622767368147658500 tw3450634626626205524 tw17289330779206504943 tw13422453232701408762 tw11241226404263417968 tw3214367641085340390 tw12256997803435516607 tw10831149249716290941 tw10220302229861723035 tw9194429377796651797 tw3518458828865185921 tw13515478479291178588 tw9507850354162696396 tw16213625358889852378 tw11685546498617692053 tw4572968958913313585 tw5887500359962134505 tw12670402023552547434 tw16121704955246445256 tw11689002847104550145 tw6509649429865855968 tw12027725630545614394 tw10807954774700982171 tw1036998056656193677 tw4251185619321693374 tw18175549866391481412 tw12216390873148196729 tw11991230673911545713 tw10723849412843865261 tw9747568396492944493 tw7257469560373880736 tw3665973170836260048 tw18254797810482955034 tw14940561791908692095 tw13677723550022156854 tw12006738217979801850 tw10997663715768797726 tw3653630459017801062 tw16641640470979828787 tw7738710203965975621 tw13992472927909575680 tw585092609270700856 tw10793617728411534477 tw6009259433840426669 tw2895531199896297069 tw2112175566162079297 tw17625708827106036829 tw7970943921573648200 tw5919447777633772187 tw1564286048596563247 tw6818679965151696540 tw525699669842215100 tw497804231721429572 tw1177604069563928818 tw5023351177447433586 tw2003326954784790627 tw17353649095106312129 tw16949908047486370736 tw13117730892099208355 tw6317169966991448995 tw7526216318503543888 tw678816457621862405 tw240967248846489313 tw4932856151993072309 tw11406136225796384409 tw18005011107373635283 tw3200466354832086142 tw14883743663631789800 tw5243554025302121201 tw9961464824124377371 tw4678915970823974689 tw4677376230497449663 tw7544780102918727119 tw7306459332301668687 tw4776364867901100895 tw14302518641784211946 tw9362786779789056547 tw520093472591138626 tw3233399561289180959 tw2044601014229246297 tw14190679530027470941 tw16376171371837775092 tw7062255827047596343 tw5922011009900430630 tw5831320240501419814 tw17969192155315924326 tw18226045637084604998 tw7024571413626120261 tw5255834438373769285 tw3353287719912641334 tw143802914697969642 tw1298529452832893584 tw10170312243101903818 tw312129666719603089 tw13309773241593779799 tw17127129558582174368 tw10085813736090026887 tw5353449716378876779 tw8546551089811043120 tw6052143131804775406 tw12235918077157460056 tw4783375392824616850 tw18369508832772675725 tw5671562182781533752 tw16133327842821499234 tw5869317701371335076 tw4173120777909544063 tw18101337299313342315 tw932476023815838565 tw7597487268814373976 tw1460085222220109575 tw16122831906112112597 tw5426028612252641501 tw3345931885707479870 tw18326217129410671544 tw6940423767562282740 tw16849813444332468541 tw13681756931326419090 tw6432288647961754657 tw14057915928683814865 tw40283014707163266 tw3072232010512957182 tw4249082491847990737 tw10948642437460141671 tw15882466030613593628 tw3690742787224980851 tw16492856317202073635 tw13628237697071814116 tw8429305107914923307 tw4126802421233726838 tw6471912833705332793 tw15159440514432747625 tw10675090093687875086 tw17128591531547146708 tw2284768053031299056 tw15932398163444427764 tw14802422708605813250 tw10936528383320142625 tw7540440895205164214 tw3962049947661936202 tw8995091478553697051 tw5386654431156937412 tw7754107630754050538 tw2817169546716053804 tw9566878239131805834 tw9060432863437261363 tw16058973308616847759 tw6074996950553129421 tw5289809028630632674 tw1791534807494642388 tw15034700757488281496 tw1468152928975264619 tw13468117063329761463 tw6482050825248691749 tw3961694969243384164 tw1259617117196682831 tw6695275430303977384 tw446727521239171332 tw6054168930662553219 tw8325121736361900324 tw7743022140983875918 tw12264648599939869188 tw486849280340354479 tw9153540121957617386 tw13192016922509647653 tw1670356016334820391 tw9050474353774752996 tw6476161638910143657 tw3327405722089863483 tw1874982698181125709 tw17553033032936151575 tw15996146813300610852 tw14593826290895737579 tw13769368624617966603 tw12021083904138929054 tw11812284451939036914 tw5841836621289680237 tw2895478724101633504 tw14314639321990184339 tw11404114465442548752 tw5225810481980858845 tw4118926872829299691 tw15186144358093020400 tw13268443751210456191 tw9274460005407427322 tw6923182640358192850 tw7791724639026661893 tw10428573351345559633 tw5924561661082073261 tw18318109796720617471 tw18323708200989174453 tw2635842350186864700 tw15119324841294903539 tw12321879802477810169 tw6697360515577721120 tw3531168710478934606 tw11320583894639250912 tw6200260022135647455 tw727926815897406094:True)
open PySem PySem.W PyProof.Rows
theorem PySem.Challenge.cw_boxmoves_k46_whole_sums_in_areas_holds : PySem.Challenge.rw_boxmoves_k46_whole_sums_in_areas.Holds := by
 w_on;o_law;k_head;(case hw=>w_witness2)
 k_fill
 refine L2.Qap (l:=PySem.Challenge.rw_boxmoves_k46_whole_sums_in_areas) (n:=63) (k:=15) (x:="_law_script") (CX:=λw=>L2.av PySem.Challenge.rw_boxmoves_k46_whole_sums_in_areas.prog w) (sp:=λ_=>Lw.eZ) rfl (by lia) rfl ⟨Z,by lia,by lia⟩ (λw h qYa=>kIn_of qYa) ?nL ?F (λw H a ns hl hS=>⟨a,ns,Z,hl,hS,λ_=>rfl⟩) (λw H s e s' z=>Lw.Qfd z)
 case nL=>intro w;kernel_rfl
 case F=>
  intro w mg fa h KX G B6;refine' Lw.all_mk KX G B6 ?rA ?nv ?nX ?pE ?pU ?nY ?nZ ?ny ?mV ?pV ?pW ?mD ?mW ?pX ?mE ?pF ?nz ?pY ?mF ?uF ?rB ?nA ?mj ?mX ?pZ ?n4 ?mG ?mY ?rC ?n5 ?n6 ?mH ?rD ?nB ?n9 ?mZ ?uf ?pG ?pH ?nC ?nE ?ma ?p0 ?rO ?rP ?md ?uG ?rQ ?gJ ?p7 ?m3 ?mI ?p8 ?rR ?pI ?ug ?rS ?pB ?pf ?nF ?nG ?nH ?ph ?p9 ?uh ?rb ?rT ?dmD_store ?pj ?di ?m4 ?m5 ?me ?nJ ?k_0 ?Lb ?Lc ?Ld ?Le ?Lf ?Lg ?Lh ?u6 ?tj ?tm ?k_R ?tq ?tu ?tD ?tE ?tF ?tG ?pJ ?rE ?rF ?pK ?gU ?gP ?pO ?gD ?nO ?gx ?gh ?nN ?gm ?gR ?gF ?pq ?gA ?mJ ?pz ?kd ?mf ?rg ?mh ?nK ?pP ?rG ?pQ ?rh ?gE ?uz ?uA ?uB ?uC ?mK ?rH ?nM ?rV ?ui ?uj ?pk ?m7 ?rj ?pL ?r9 ?ub ?pM ?rW ?uH ?rX ?uI ?uJ ?uK ?uL ?uk ?uM ?pN ?rJ ?uN ?uO ?uP ?uQ ?uR ?uS ?uT ?uU ?uV ?um ?uo ?uW ?uX ?uY
  (case k_R=>k_is)
  (case k_0|Lb|Lc|Ld|Le|Lf|Lg|Lh|u6|tj|tm|tq|tu|tD|tE|tF|tG|pJ|rE|rF|pK|gU|gP|pO|gD|nO|gx|gh|nN|gm|gR|gF|pq|gA|mf|mh|pP|pQ|gE|rH|nM|rV|ui|uj|uH|rX|uI|uJ|uK|uL|uk|uM|pN|rJ|uN|uO|uW|uX|uY=>k_is)
  (case rh=>(refine' L2.vh ?ne ?l ?h ?nd;(case l=>k_is);(case ne=>exact rfl);(case h=>repeat (first|exact .nil|refine .cons rfl ?_));(case nd=>rfl')))
  (case rA|nv|nX|pE|pU|nY|nZ|ny|mV|pV|pW|mD|mW|pX|mE|pF|nz|pY|mF|uF|rB|nA|mj|mX|pZ|n4|mG|mY|rC|n5|n6|mH|rD|nB|n9|mZ|uf|pG|pH|nC|nE|ma|p0|rO|rP|md|uG|rQ|gJ|p7|m3|mI|p8|pI|ug|rS|pf|nF|nG|nH|pj|m4|me|nJ=>(refine' L2.yX ?a ?l ?c ?k;(case a=>k_is);(case l=>k_is);(case c=>k_is);(case k=>k_is)))
  (case rR|pB=>(refine' L2.vi ?a ?l ?c ?k ?n ?d;(case a=>k_is);(case l=>k_is);(case c=>k_is);(case k=>k_is);(case n=>(refine' L2.vj ?nl ?nh;(case nl=>k_is);(case nh=>exact rfl)));(case d=>k_is)))
  (case ph|p9|uh|rb|rT|m5=>(refine' L2.vC ?a ?i ?l ?c ?k;(case a=>k_is);(case i=>k_is);(case l=>k_is);(case c=>k_is);(case k=>k_is)))
  (case dmD_store|di=>(refine' L2.kg ?a ?i ?l ?c ?k ?n ?d;(case a=>k_is);(case i=>k_is);(case l=>k_is);(case c=>k_is);(case k=>k_is);(case n=>(refine' L2.vj ?nl ?nh;(case nl=>k_is);(case nh=>exact rfl)));(case d=>k_is)))
  (case mJ=>(refine' L2.xt ?l ?z ?v;(case l=>k_is);(case z=>show 6<=sizeLine;lia);(case v=>exact(.cons ⟨_,Z⟩ (.cons ⟨_,Z⟩ (.cons ⟨_,Z⟩ (.cons ⟨_,Z⟩ (.cons ⟨_,Z⟩ (.cons ⟨_,Z⟩ .nil)))))))))
  (case pz|uB=>(refine' L2.xt ?l ?z ?v;(case l=>k_is);(case z=>show 4<=sizeLine;lia);(case v=>exact(.cons ⟨_,Z⟩ (.cons ⟨_,Z⟩ (.cons ⟨_,Z⟩ (.cons ⟨_,Z⟩ .nil)))))))
  (case kd=>(refine' L2.yy ?ne ?l ?e1 ?e2 ?hx;(case l=>k_is);(case ne=>exact rfl);(case e1=>exact rfl);(case e2=>exact rfl);(case hx=>rfl')))
  (case rg|nK|rG=>(refine' L2.wY ?ne ?l ?h ?nd;(case l=>k_is);(case ne=>exact rfl);(case h=>repeat (first|exact .nil|refine .cons rfl ?_));(case nd=>rfl')))
  (case uz|uA=>(refine' L2.xt ?l ?z ?v;(case l=>k_is);(case z=>show 3<=sizeLine;lia);(case v=>exact(.cons ⟨_,Z⟩ (.cons ⟨_,Z⟩ (.cons ⟨_,Z⟩ .nil))))))
  (case uC|mK=>(refine' L2.xt ?l ?z ?v;(case l=>k_is);(case z=>show 2<=sizeLine;lia);(case v=>exact(.cons ⟨_,Z⟩ (.cons ⟨_,Z⟩ .nil)))))
  (case pk|m7|rj|pL|r9|ub|pM|rW=>kit_is)
  (case uP|uQ|uR|uS|uT|uU|uV|um|uo=>k_exc)
