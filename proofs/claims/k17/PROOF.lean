import PyProof.Rows.All
import Wide.All
import OpenK.AllK
import Wide.FinOn
import Lean
import PyProof.EqAt
import PyProof.EqKinds
import PyProof.TupleCall
import PyProof.NeKinds
import PyProof.WalksMore
import PyProof.Rows.SetFrom
import PyProof.FString5
import PySem.Challenge.RW_boxmoves_k17_moves
local macro_rules|`(tactic|exists $t,*)=>`(tactic|refine⟨$t,*, ?_⟩)
local macro_rules|`(tactic|rfl')=>`(tactic|decide+kernel)
local macro_rules|`(tactic|lia)=>`(tactic|decide)
set_option Elab.async false
set_option linter.all false
set_option maxRecDepth 100000
set_option maxHeartbeats 0
theorem Z{α:Sort _}{a:α}:a=a:=rfl
theorem lq{α:Type}{a b:List α}:(a++b).length=a.length+b.length:=List.length_append
theorem lu{α β:Type}{l:List α}(f:α->β):(l.map f).length=l.length:=List.length_map f
theorem lx[Decidable p](h:¬p):decide p=false:=decide_eq_false h
theorem ly[Decidable p](h:p):decide p=true:=decide_eq_true h
theorem lA(n:Nat):n<=n:=Nat.le_refl n
theorem lB{α:Type}{a b:α}(h:some a=some b):a=b:=Option.some.inj h
theorem lC{α:Type}{a:α}:[a].length=1:=rfl
theorem lD{α:Type}{a:α}{l:List α}:(a::l).length=l.length+1:=rfl
theorem lE{α:Type}{a:α}(l:List α){m:List α}(h:a∈m):a∈l++m:=List.mem_append_right l h
theorem lF{α:Type}{a:α}{l:List α}(m:List α)(h:a∈l):a∈l++m:=List.mem_append_left m h
theorem lG{α:Type}(b:α){a:α}{l:List α}(h:a∈l):a∈b::l:=List.mem_cons_of_mem b h
theorem lH{α:Type}{a:α}{l:List α}:a∈a::l:=List.mem_cons_self
theorem lI{α:Type}{i:Nat}{l:List α}:(l.take i).length=min i l.length:=List.length_take
theorem lJ{α:Type}{i:Nat}{l:List α}:(l.drop i).length=l.length-i:=List.length_drop
theorem lK{α β:Type}{f:α->β}{l:List α}{i:Nat}:(l.map f)[i]?=Option.map f l[i]?:=List.getElem?_map
theorem lM{α:Type}{l:List α}{i:Nat}{a:α}(h:l[i]?=some a):a∈l:=List.mem_of_getElem? h
theorem lN{α:Type}{a:α}:(List.replicate n a).length=n:=List.length_replicate
theorem lO{α β:Type}{l m:List α}{f:α->β}:(l++m).map f=l.map f++m.map f:=List.map_append
theorem lP{α:Type}(a b c:List α):a++b++c=a++(b++c):=List.append_assoc a b c
theorem lQ{α:Type}{a:α}{l m:List α}:a::l++m=a::(l++m):=rfl
theorem lR{α:Type}(l:List α):[]++l=l:=rfl
theorem lS{α:Type}(l:List α):l++[]=l:=List.append_nil l
theorem lT{α β γ:Type}{g:β->γ}{f:α->β}{l:List α}:(l.map f).map g=l.map (g∘f):=List.map_map
theorem lU{α β:Type}{f:α->β}{a:α}{l:List α}:(a::l).map f=f a::l.map f:=rfl
theorem lV{α:Type}{a:Array α}:a.toList.length=a.size:=Array.length_toList
theorem lW{α:Type}{l:List α}:l.toArray.size=l.length:=List.size_toArray
theorem lX(n:Nat):0<=n:=Nat.zero_le n
theorem lY(n:Nat):¬n<n:=Nat.lt_irrefl n
theorem lZ(n:Nat):(n:Int).toNat=n:=rfl
open PySem.W (Frag CodeHd KitX Looks callWith_K callWith_K0 callWith_KW callWith_KW0 callWith_of cellsFrom_some codeIn codeRec_of envX eq_bytes excIn exmOne exm_one findIn fnOf funFrames_hide hasDictIn hideAll hideAll_get hideAll_none hideAll_size instObj isNs_of_in keepIn ki_setAt ki_setBack kia_one kitOne kitx_bool kitx_dict kitx_float kitx_int kitx_list kitx_none kitx_own kitx_str kitx_tuple kla_callFunE kla_codeExpr kla_eval kla_fn kla_makeFunction kla_makeFunctionHit kla_obj km_in_of lookIn looks_findIn mem_of_lookupK methodObj mg_none_of mg_of mroIn ne_bytes noTabs nsIn nsMap_none_of_in nsOkIn of_hideAll plainGet plainOver specialIn tabIn tabObj tab_of tail_of_in takesIn truthy_bytes)
open PySem.F (args_dict_get_3 args_list_count_2 args_list_index_2 entry_dict_get entry_list_count entry_list_index excBase_ValueError plainAttrs_dict plainAttrs_list plainAttrs_str slot_dict_get slot_list_count slot_list_index slot_list_pop slot_str_count slot_str_find slot_str_index slot_str_join slot_str_ljust slot_str_rjust slot_str_startswith slot_str_strip slot_str_zfill type_dict_get type_list_count type_list_index type_list_pop type_str_count type_str_find type_str_index type_str_join type_str_ljust type_str_rjust type_str_startswith type_str_strip type_str_zfill)
abbrev yaa:=@PySem.Heap.get?_push_of_some
abbrev yab:=@PySem.wpAny_bind
abbrev yac:=@if_neg
abbrev yad:=@Nat.lt_of_lt_of_le
abbrev yae:=@PySem.Heap.lt_size
abbrev yaf:=@if_pos
abbrev yag:=@List.mem_cons
abbrev yah:=@List.getElem?_eq_getElem
abbrev yai:=@List.contains_iff_mem
abbrev yaj:=@List.getElem?_eq_some_iff
abbrev yak:=@List.mem_singleton
abbrev yal:=@Nat.ne_of_lt
abbrev yam:=@PySem.Heap.get?_push_size
abbrev yan:=@PySem.wpAny_pure
abbrev yao:=@List.mem_append
abbrev yap:=@of_decide_eq_true
abbrev yaq:=@List.take_of_length_le
abbrev yar:=@Bool.false_ne_true
abbrev yas:=@Nat.le_trans
abbrev yat:=@Nat.pow_le_pow_right
abbrev yau:=@of_decide_eq_false
abbrev yav:=@List.eq_of_mem_replicate
abbrev yaw:=@PySem.mem_of_lookup
abbrev yax:=@List.not_mem_nil
abbrev yay:=@List.drop_eq_nil_of_le
abbrev yaz:=@List.replicate_succ
abbrev yaA:=@PySem.F.plainAttrs_str
abbrev yaB:=@PySem.wpAny_mono
abbrev yaC:=@beq_eq_false_iff_ne
abbrev yaD:=@Nat.lt_trans
abbrev yaE:=@List.take_add_one
abbrev yaF:=@List.filter_cons
abbrev yaG:=@PySem.PassesOwn.never
abbrev yaH:=@List.length_eq_zero_iff
abbrev yaI:=@congrArg
abbrev yaJ:=@PyProof.Rows.boot_isinstance
abbrev yaK:=@PySem.boot_len
abbrev yaL:=@List.length_filter_le
abbrev yaM:=@List.drop_eq_getElem_cons
abbrev yaN:=@List.length_dropLast
abbrev yaO:=@Bool.and_eq_true
abbrev yaP:=@PySem.F.slot_list_append
abbrev yaQ:=@PySem.F.type_list_append
abbrev yaR:=@Int.natAbs_natCast
abbrev yaS:=@Option.map_eq_some_iff
abbrev yaT:=@PyProof.Rows.callWith_type1
abbrev yaU:=@List.takeWhile_prefix
abbrev yaV:=@PySem.F.plainAttrs_list
abbrev yaW:=@List.mem_of_mem_head?
abbrev yaX:=@PySem.wpAny_newObj_type
abbrev yaY:=@List.mem_of_mem_drop
abbrev yaZ:=@PySem.wpAny_Call_Name_kw
abbrev yba:=@Nat.lt_of_le_of_lt
abbrev ybb:=@Nat.min_eq_left
abbrev ybc:=@Nat.lt_or_ge
abbrev ybd:=@Nat.zero_add
abbrev ybe:=@Int.emod_lt_of_pos
abbrev ybf:=@List.mem_of_mem_take
abbrev ybg:=@PySem.Heap.size_push
abbrev ybh:=@Bool.and_false
abbrev ybi:=@Nat.le_of_lt
abbrev ybj:=@List.length_nil
abbrev ybk:=@or_false
abbrev ybl:=@List.filter_append
abbrev ybm:=@PySem.W.mg_none_of
abbrev ybn:=@List.lookup_cons
abbrev ybo:=@List.IsPrefix.eq_of_length_le
abbrev ybp:=@List.drop_append_of_le_length
abbrev ybq:=@List.getLast?_concat
abbrev ybr:=@List.getElem?_replicate
abbrev ybs:=@Int.eq_ofNat_of_zero_le
abbrev ybt:=@PySem.wpAny_truthy_bool
abbrev ybu:=@List.flatten_cons
abbrev ybv:=@Int.emod_nonneg
abbrev ybw:=@List.all_eq_true
abbrev ybx:=@PyProof.Rows.assignInOrder_cons
abbrev yby:=@Nat.ne_of_gt
abbrev ybz:=@PySem.Calls.spliced_cons
abbrev ybA:=@PySem.wpAny_setField_rec
abbrev ybB:=@PySem.wpAny_field
abbrev ybC:=@Int.mul_neg_of_neg_of_pos
abbrev ybD:=@PySem.F.slot_str_strip
abbrev ybE:=@PySem.F.type_str_strip
abbrev ybF:=@List.getElem?_set_ne
abbrev ybG:=@PySem.intText_digits
abbrev ybH:=@List.dropLast_subset
abbrev ybI:=@PySem.wpAny_passesOwn
abbrev ybJ:=@List.any_eq_false
abbrev ybK:=@if_true
abbrev ybL:=@List.find?_cons
abbrev ybM:=@Bool.not_eq_true'
abbrev ybN:=@List.takeWhile_append_dropWhile
abbrev ybO:=@PySem.sizeLine_eq
abbrev ybP:=@Int.ne_of_gt
abbrev ybQ:=@List.mem_map
abbrev ybR:=@List.filterMap_cons
abbrev ybS:=@List.takeWhile_cons
abbrev ybT:=@List.IsPrefix.length_le
abbrev ybU:=@List.dropWhile_cons
abbrev ybV:=@Nat.succ_le_succ
abbrev ybW:=@PySem.typeIs_str
abbrev ybX:=@PySem.wpAny_seqItems
abbrev ybY:=@PySem.Calls.callWith_builtin
abbrev ybZ:=@List.getElem?_drop
abbrev yca:=@Bool.eq_iff_iff
abbrev ycb:=@List.length_set
abbrev ycc:=@Array.getElem?_toList
abbrev ycd:=@Nat.le_of_ble_eq_true
abbrev yce:=@PySem.PadOk.parts
abbrev ycf:=@List.mem_iff_getElem?
abbrev ycg:=@PySem.Calls.spliced_nil
abbrev ych:=@List.any_cons
abbrev yci:=@beq_iff_eq
abbrev ycj:=@PySem.wpAny_loadPart_at
abbrev yck:=@PySem.call_gives
abbrev ycl:=@List.head?_append
abbrev ycm:=@Int.fdiv_eq_ediv_of_nonneg
abbrev ycn:=@List.getElem?_append_right
abbrev yco:=@PySem.Calls.evalArgs_plain
abbrev ycp:=@PySem.codeAny_call_builtin
abbrev ycq:=@PySem.wpAny_bindName
abbrev ycr:=@Bool.false_and
abbrev ycs:=@Array.getElem?_eq_getElem
abbrev yct:=@PySem.Draws.strAscii
abbrev ycu:=@if_false
abbrev ycv:=@PySem.post_val_or_made
abbrev ycw:=@Nat.le_add_right
abbrev ycx:=@Nat.pow_pos
abbrev ycy:=@PySem.codeAny_mono
abbrev ycz:=@List.map_nil
abbrev ycA:=@Int.le_of_lt
abbrev ycB:=@PySem.wpAny_comprehension_free
abbrev ycC:=@PySem.wpAny_execs_nil
abbrev ycD:=@PySem.wpAny_holding
abbrev ycE:=@PySem.wpAny_standAt
abbrev ycF:=@List.nodup_cons
abbrev ycG:=@PySem.wpAny_callSpecial?_slot
abbrev ycH:=@List.foldl_cons
abbrev ycI:=@Bool.false_eq_true
abbrev ycJ:=@List.contains_cons
abbrev ycK:=@PySem.wpAny_pyIter_ascii
abbrev ycL:=@List.cons.inj
abbrev ycM:=@List.getElem?_set_self
abbrev ycN:=@PyProof.noPylong_small
abbrev ycO:=@PySem.Heap.get?_update_other
abbrev ycP:=@PySem.codeAny_compStart_list
abbrev ycQ:=@List.drop_of_length_le
abbrev ycR:=@PyProof.Rows.slot_tuple_getitem
abbrev ycS:=@PySem.call_meets
abbrev ycT:=@List.eraseIdxIfInBounds_toArray
abbrev ycU:=@PyProof.Rows.boot_int
abbrev ycV:=@List.drop_drop
abbrev ycW:=@PySem.F.typeOf_object_class
abbrev ycX:=@Nat.le_of_eq
abbrev ycY:=@PySem.StrLaws.glued_eq_join
abbrev ycZ:=@beq_self_eq_true
abbrev yda:=@PySem.wpAny_updateSeq_pair
abbrev ydb:=@List.mem_of_getLast?
abbrev ydc:=@Bool.and_eq_true_iff
abbrev ydd:=@Bool.or_false
abbrev yde:=@List.all_cons
abbrev ydf:=@Bool.false_or
abbrev ydg:=@PySem.wpAny_onRaise
abbrev ydh:=@List.takeWhile_append_of_pos
abbrev ydi:=@PySem.wpAny_call
abbrev ydj:=@Int.not_lt
abbrev ydk:=@Sum.inr.inj
abbrev ydl:=@List.mem_filter
abbrev ydm:=@PySem.W.kia_one
abbrev ydn:=@List.of_mem_zip
abbrev ydo:=@PySem.wpAny_specialOf
abbrev ydp:=@Nat.log2_lt
abbrev ydq:=@List.length_reverse
abbrev ydr:=@PySem.F.slot_zip_next
abbrev yds:=@List.head?_cons
abbrev ydt:=@PySem.Calls.Name_function_global
abbrev ydu:=@Int.fmod_eq_emod_of_nonneg
abbrev ydv:=@PySem.wpAny_newFunctionEnv_cells
abbrev ydw:=@PySem.W.hideAll_none
abbrev ydx:=@List.mem_filterMap
abbrev ydy:=@PySem.wpAny_typeOf
abbrev ydz:=@Nat.mul_comm
abbrev ydA:=@Option.isSome_some
abbrev ydB:=@PySem.tupleKind_room_in1
abbrev ydC:=@PyProof.Rows.boot_abs
abbrev ydD:=@List.count_pos_iff
abbrev ydE:=@Int.mul_nonneg
abbrev ydF:=@Decidable.byContradiction
abbrev ydG:=@PySem.F.slot_str_zfill
abbrev ydH:=@PySem.F.type_str_zfill
abbrev ydI:=@PySem.wpAny_pyIter_list
abbrev ydJ:=@List.push_toArray
abbrev ydK:=@Nat.lt_succ_of_lt
abbrev ydL:=@decide_eq_true_eq
abbrev ydM:=@List.head?_dropWhile_not
abbrev ydN:=@PySem.Paired.length
abbrev ydO:=@List.set_comm
abbrev ydP:=@Bool.true_and
abbrev ydQ:=@List.sum_cons
abbrev ydR:=@PySem.wpAny_call_entry
abbrev ydS:=@PySem.wpAny_isInstance
abbrev ydT:=@Nat.lt_succ_self
abbrev ydU:=@Nat.min_eq_right
abbrev ydV:=@List.drop_length
abbrev ydW:=@List.any_eq_true
abbrev ydX:=@decide_eq_decide
abbrev ydY:=@UInt32.le_iff_toNat_le
abbrev ydZ:=@List.takeWhile_sublist
abbrev yea:=@List.append_eq_nil_iff
abbrev yeb:=@List.filter_eq_nil_iff
abbrev yec:=@PySem.wpAny_loadPart'
abbrev yed:=@Int.ediv_one
abbrev yee:=@PySem.codeAny_builtin
abbrev yef:=@List.forIn_cons
abbrev yeg:=@List.getElem?_eq_none
abbrev yeh:=@PySem.wpAny_ite_split
abbrev yei:=@List.count_cons
abbrev yej:=@List.eq_replicate_iff
abbrev yek:=@List.take_append_drop
abbrev yel:=@List.length_zip
abbrev yem:=@Nat.mul_div_mul_right
abbrev yen:=@PyProof.Rows.boot_str
abbrev yeo:=@Array.mem_toList_iff
abbrev yep:=@List.dropLast_concat
abbrev yeq:=@List.count_cons_self
abbrev yer:=@List.take_zero
abbrev yet:=@Option.map_map
abbrev yeu:=@PySem.sizeLine_eq
abbrev yev:=@PySem.wpAny_letGo
abbrev yew:=@Nat.mul_assoc
abbrev yex:=@Nat.add_assoc
abbrev yey:=@List.map_drop
abbrev yez:=@List.take_nil
abbrev yeA:=@Nat.not_lt
abbrev yeB:=@Nat.lt_min
abbrev yeC:=@Nat.add_comm
abbrev yeD:=@Bool.true_or
abbrev yeE:=@Nat.succ_pos
abbrev yeF:=@Nat.zero_mul
abbrev yeG:=@Nat.sub_self
theorem zza:1000<=PySem.sizeLine:=by lia
open List (replicate)
namespace L2
open PySem PySem.Spec PyProof.Rows
noncomputable abbrev Key:=Sum Int Str
noncomputable def zr:Key->Value->Bool
 | .inl k,v=>Value.isInt k v
 | .inr x,v=>Value.isStrOf x v
noncomputable def oK(w:World):Key->Int
 | .inl k=>hashInt k
 | .inr x=>hashStr w x
theorem JR:∀{k:Key}{v:Value},zr k v=true->(∃i t,k=Sum.inl i/\v=Value.int i t)\/(∃x t,k=Sum.inr x/\v=Value.str x t)
 | .inl i,v,h=>by
  obtain⟨t,e⟩:=Value.isInt_shape (k:=i) (v:=v) h;exact .inl ⟨i,t,Z,e⟩
 | .inr x,v,h=>by
  obtain⟨t,e⟩:=Value.isStrOf_shape (x:=x) (v:=v) h;exact .inr ⟨x,t,Z,e⟩
theorem xp(i:Int)(t:Tok):zr (.inl i) (.int i t)=true:=by simp[zr,Value.isInt]
theorem xq(x:Str)(t:Tok):zr (.inr x) (.str x t)=true:=by simp[zr,Value.isStrOf]
theorem Me(a b:Int):decide ((Sum.inl a:Key)=Sum.inl b)=(a==b):=by
 by_cases e:a=b
 .subst e;simp
 .have h:¬ (Sum.inl a:Key)=Sum.inl b:=λq=>e (Sum.inl.inj q);rw[lx h];exact(yaC.mpr e).symm
theorem Mf(a b:Str):decide ((Sum.inr a:Key)=Sum.inr b)=decide (a=b):=by
 by_cases e:a=b
 .subst e;simp
 .have h:¬ (Sum.inr a:Key)=Sum.inr b:=λq=>e (ydk q);rw[lx h,lx e]
theorem Mg(a:Int)(b:Str):decide ((Sum.inl a:Key)=Sum.inr b)=false:=lx (λq=>nomatch q)
theorem Mh(a:Str)(b:Int):decide ((Sum.inr a:Key)=Sum.inl b)=false:=lx (λq=>nomatch q)
noncomputable def JA(prog:Program)(w:World):PySem.KeyKind prog w Key where
 is:=zr
 hash:=oK w
 inj:=λv a b ha hb=>by
  rcases JR ha with⟨i,t,rfl,rfl⟩|⟨x,t,rfl,rfl⟩
  .rcases JR hb with⟨j,u,rfl,e⟩|⟨y,u,rfl,e⟩
   .injection e with e1 _;rw[e1]
   .exact nomatch e
  .rcases JR hb with⟨j,u,rfl,e⟩|⟨y,u,rfl,e⟩
   .exact nomatch e
   .injection e with e1 _;rw[e1]
 byValue:=λk v h=>by
  rcases JR h with⟨i,t,rfl,rfl⟩|⟨x,t,rfl,rfl⟩<;>rfl
 pyHash:=λhv h=>by
  rcases JR hv with⟨i,t,rfl,rfl⟩|⟨x,t,rfl,rfl⟩
  .exact wpAny_pyHash_int h
  .exact wpAny_pyHash_str h
 eqBool:=λhu hv h=>by
  rcases JR hu with⟨i,t,rfl,rfl⟩|⟨x,t,rfl,rfl⟩
  .rcases JR hv with⟨j,u,rfl,rfl⟩|⟨y,u,rfl,rfl⟩
   .rw[Me]at h;exact wpAny_eqBool_int h
   .rw[Mg]at h;exact SeqAt.EqAt.int_str i t y u _ _ _ _ h
  .rcases JR hv with⟨j,u,rfl,rfl⟩|⟨y,u,rfl,rfl⟩
   .rw[Mh]at h;exact SeqAt.EqAt.str_int x t j u _ _ _ _ h
   .rw[Mf]at h;exact wpAny_eqBool_str h
 «strs»:=λk x t v h=>by
  rcases JR h with⟨i,u,rfl,e⟩|⟨y,u,rfl,e⟩
  .exact nomatch e
  .injection e with e1 _;subst e1;cases v<;>rfl
theorem qy(prog:Program)(w:World)(i:Int)(t:Tok):(JA prog w).is (.inl i) (.int i t)=true:=xp i t
theorem JS(prog:Program)(w:World)(x:Str)(t:Tok):(JA prog w).is (.inr x) (.str x t)=true:=xq x t
inductive V where
 |ax|bl (b:Bool)|int (i:Int)|str (x:Str)|cM (b:Array UInt8)|oM (b:UInt64)|ref (a:Addr)|ty (n:String)
 deriving DecidableEq
def RelV:V->Value->Prop
 | .ax,u=>u=Value.none
 | .bl b,u=>u=Value.bool b
 | .int i,u=>∃t,u=Value.int i t
 | .str x,u=>∃t,u=Value.str x t
 | .cM b,u=>∃t,u=Value.bytes b t
 | .oM b,u=>∃t,u=Value.float b t
 | .ref a,u=>u=Value.ref a
 | .ty n,u=>u=Value.type n
abbrev Vals:List V->List Value->Prop:=Paired RelV
theorem Vals.length{xs:List V}{us:List Value}(r:Vals xs us):xs.length=us.length:=ydN r
theorem Vals.get:∀{xs:List V}{us:List Value}{i:Nat}{x:V},Vals xs us->xs[i]? =some x->∃u,us[i]? =some u/\RelV x u
 |_,_,_,_,.nil,e=>by simp at e
 |_,_,0,_,.cons r _,e=>by simp at e;subst e;exact⟨_,Z,r⟩
 |_,_,i+1,x,.cons _ t,e=>by
  obtain⟨u,h1,h2⟩:=Vals.get (i:=i) (x:=x) t (by simpa using e);exact⟨u,by simpa using h1,h2⟩
theorem Vals.set(r:RelV x u):∀{xs:List V}{us:List Value}(i:Nat),Vals xs us->Vals (xs.set i x) (us.set i u)
 |_,_,_,.nil=>.nil
 |_,_,0,.cons _ t=>.cons r t
 |_,_,i+1,.cons q t=>.cons q (Vals.set r i t)
theorem Vals.append:∀{xs ys:List V}{us ws:List Value},Vals xs us->Vals ys ws->Vals (xs++ys) (us++ws)
 |_,_,_,_,.nil,s=>s
 |_,_,_,_,.cons r t,s=>.cons r (Vals.append t s)
theorem Vals.take:∀{xs:List V}{us:List Value}(n:Nat),Vals xs us->Vals (xs.take n) (us.take n)
 |_,_,0,_=>.nil
 |_,_,_+1,.nil=>.nil
 |_,_,n+1,.cons r t=>.cons r (Vals.take n t)
theorem Vals.drop:∀{xs:List V}{us:List Value}(n:Nat),Vals xs us->Vals (xs.drop n) (us.drop n)
 |_,_,0,r=>r
 |_,_,_+1,.nil=>.nil
 |_,_,n+1,.cons _ t=>Vals.drop n t
def jx:Option V->Option Value->Prop
 |some v,some u=>RelV v u
 |none,none=>True
 |_,_=>False
def KV{κ:Type}:List (κ × V)->List (κ × Value)->Prop:=Paired λ(p:κ × V)(q:κ × Value)=>p.1=q.1/\RelV p.2 q.2
noncomputable def kV:Key->V
 | .inl i=>.int i
 | .inr x=>.str x
inductive HO where
 |lst (xs:List V)
 |tup (xs:List V)
 |dK (al:List (Key × V))|dT (al:List (List Key × V))
 |set (S:Int->Bool) (n:Nat)
 |ins (C dx:Addr) (fs:List (Str × V))
 |own (x:Addr)
 |xd (fs:List (Str × V))
 |met (f x:Addr)
 |Dl (lo hi:Int)
 |bR (o:Obj) (u:HO)
 |bT (ps:Array Value)
 |ext (φ:Heap->Prop)
noncomputable abbrev Hp:=Addr->Option HO
noncomputable def upd(H:Hp)(a:Addr)(o:HO):Hp:=λb=>if b=a then some o else H b
theorem Qd:upd H a o a=some o:=by unfold upd;rw[yaf rfl]
theorem Qx(h:b≠a):upd H a o b=H b:=by unfold upd;rw[yac h]
theorem Mi{H:Hp}(h:H a=some o)(h':H b=some u)(d:o≠u):a≠b:=by
 intro e;subst e;rw[h]at h';exact d (lB h')
theorem Qz{H:Hp}(h:H a=some o)(h':H b=none):a≠b:=by
 intro e;subst e;rw[h]at h';cases h'
def Yo(h:Heap)(a:Addr)(items:Array Value):Prop:=∃o,h.get? a=some o/\o.cls=.type "tuple"/\∃n,o.data=.seq items n/\o.dict=none
theorem Yo.tup{h:Heap}{a:Addr}{items:Array Value}(p:Yo h a items):IsTup h a items:=let ⟨o,h1,h2,n,h3,_⟩:=p;⟨o,h1,h2,n,h3⟩
theorem Yo.new(h:Heap)(items:Array Value):Yo (h.push {cls:=.type "tuple",data:=.seq items}) h.objs.size items:=⟨_,yam _ rfl,Z,_,Z,Z⟩
section
variable (P:Program)(w:World)
def J3(H:Hp)(h:Heap)(a:Addr):HO->Prop
 | .lst xs=>xs.length<=sizeLine/\∃(ap:List Value)(n:Nat),Vals xs ap/\h.get? a=some {cls:=.type "list",data:=.seq ap.toArray n}
 | .tup xs=>xs.length<=sizeLine/\∃ap:List Value,Vals xs ap/\Yo h a ap.toArray
 | .dK al=>al.length<=sizeLine/\(a==sysModules)=false/\∃vs,KV al vs/\h.DictOf (JA P w) a vs
 | .dT al=>al.length<=sizeLine/\(a==sysModules)=false/\∃xs:List (List Key × Addr × Value),
   Paired (λ(p:List Key × V)(q:List Key × Addr × Value)=>p.1=q.1/\H q.2.1=some (.tup (p.1.map kV))/\RelV p.2 q.2.2) al xs/\
   ∃o es ep,h.get? a=some o/\o.ExactDict/\o.data=.dict es ep/\es.toList=xs.map (entryOfKey (tupleKind (JA P w)))/\(xs.map (·.1)).Nodup
 | .set S n=>h.SetOf (intKind P w) a S n
 | .ins C dx fs=>H dx=some (.own a)/\fs.length<=1000/\dx≠a/\h.get? a=some (instObj C dx)/\
   ∃mA,h.Ns1 dx mA/\(∀f,jx (fs.lookup f) (mA f))/\PySem.Within mA (fs.map (·.1))
 | .own _=>∃o,h.get? a=some o
 | .xd fs=>∃mA,h.Ns1 a mA/\∀f,jx (fs.lookup f) (mA f)
 | .Dl lo hi=>∃t u v,h.get? a=some {cls:=.type "range",data:=.fields #[.int lo t,.int hi u,.int 1 v]}
 | .bR o u=>h.get? a=some o/\J3 H h a u
 | .bT ps=>h.get? a=some {cls:=.none,data:=.fields ps}
 | .met f x=>h.get? a=some (methodObj (.ref f) (.ref x))
 | .ext φ=>φ h/\(∃o,h.get? a=some o)/\∀h1 h2:Heap,φ h1->(∀o,h1.get? a=some o->h2.get? a=some o)->φ h2
def aZ(H:Hp)(h:Heap):Prop:=∀a o,H a=some o->J3 P w H h a o
end
section
variable {P:Program}{w:World}{H:Hp}{h h':Heap}{a:Addr}{o:HO}
theorem J3.lt(x:J3 P w H h a o):a<h.objs.size:=by
 cases o with
 |lst xs=>obtain⟨_,_,_,_,e⟩:=x;exact yae e
 |tup xs=>obtain⟨_,_,_,p⟩:=x;exact p.tup.lt
 |dK al=>obtain⟨_,_,_,_,o,_,_,e,_⟩:=x;exact yae e
 |dT al=>obtain⟨_,_,_,_,o,_,_,e,_⟩:=x;exact yae e
 |set S n=>obtain⟨o,_,_,_,e,_⟩:=x;exact yae e
 |ins C dx fs=>obtain⟨_,_,_,e,_⟩:=x;exact yae e
 |own y=>obtain⟨_,e⟩:=x;exact yae e
 |xd fs=>obtain⟨_,⟨_,_,_,e,_⟩,_⟩:=x;exact yae e
 |Dl lo hi=>obtain⟨_,_,_,e⟩:=x;exact yae e
 |bR ob u=>obtain⟨e,_⟩:=x;exact yae e
 |bT ps=>exact yae (show h.get? a=some _ from x)
 |met f y=>exact yae (show h.get? a=some _ from x)
 |ext φ=>obtain⟨_,⟨_,e⟩,_⟩:=x;exact yae e
theorem Paired.El:∀{l₁:List α}{l₂:List β},Paired F l₁ l₂->(∀a b,F a b->G a b)->Paired G l₁ l₂
 |_,_,.nil,_=>.nil
 |_,_,.cons r t,f=>.cons (f _ _ r) (Paired.El t f)
theorem J3.K7(x:J3 P w H h a o)(k:∀b u,(b=a\/H b=some (.own a))->h.get? b=some u->h'.get? b=some u)
  (ho:∀b,H b=some (.own a)->H' b=some (.own a)) (ht:∀b xs,H b=some (.tup xs)->H' b=some (.tup xs)):J3 P w H' h' a o:=by
 induction o with
 |lst xs=>obtain⟨z,ap,n,r,e⟩:=x;exact⟨z,ap,n,r,k _ _ (.inl Z) e⟩
 |tup xs=>obtain⟨z,ap,r,ob,e,c⟩:=x;exact⟨z,ap,r,ob,k _ _ (.inl Z) e,c⟩
 |dK al=>obtain⟨z,y,vs,r,ob,es,ep,e,c⟩:=x;exact⟨z,y,vs,r,ob,es,ep,k _ _ (.inl Z) e,c⟩
 |dT al=>
  obtain⟨z,y,xs,r,ob,es,ep,e,c⟩:=x;exact⟨z,y,xs,Paired.El r λp q z=>⟨z.1,ht _ _ z.2.1,z.2.2⟩,ob,es,ep,k _ _ (.inl Z) e,c⟩
 |set S n=>obtain⟨ob,es,ep,t,e,c⟩:=x;exact⟨ob,es,ep,t,k _ _ (.inl Z) e,c⟩
 |ins C dx fs=>
  obtain⟨d,z,ne,e,mA,⟨od,es,ep,e2,c⟩,r⟩:=x;exact⟨ho _ d,z,ne,k _ _ (.inl Z) e,mA,⟨od,es,ep,k _ _ (.inr d) e2,c⟩,r⟩
 |own y=>obtain⟨ob,e⟩:=x;exact⟨ob,k _ _ (.inl Z) e⟩
 |xd fs=>obtain⟨mA,⟨od,es,ep,e,c⟩,r⟩:=x;exact⟨mA,⟨od,es,ep,k _ _ (.inl Z) e,c⟩,r⟩
 |Dl lo hi=>obtain⟨t,u,v,e⟩:=x;exact⟨t,u,v,k _ _ (.inl Z) e⟩
 |bR ob u ih=>obtain⟨e,q⟩:=x;exact⟨k _ _ (.inl Z) e,ih q⟩
 |bT ps=>
  have e:h.get? a=some {cls:=.none,data:=.fields ps}:=x;show h'.get? a=some {cls:=.none,data:=.fields ps};exact k a _ (.inl Z) e
 |met f y=>
  have e:h.get? a=some (methodObj (.ref f) (.ref y)):=x;show h'.get? a=some (methodObj (.ref f) (.ref y));exact k a _ (.inl Z) e
 |ext φ=>obtain⟨p,⟨o,e⟩,st⟩:=x;exact⟨st _ _ p λo q=>k _ _ (.inl Z) q,⟨o,k _ _ (.inl Z) e⟩,st⟩
theorem aZ.lt(x:aZ P w H h)(e:H a=some o):a<h.objs.size:=(x a o e).lt
theorem aZ.fresh(x:aZ P w H h)(e:h.objs.size<=a):H a=none:=by
 cases q:H a with
 |none=>rfl
 |some u=>exact absurd (yad (x.lt q) e) (lY _)
theorem aZ.kept(x:aZ P w H h)(k:∀b u,h.get? b=some u->h'.get? b=some u):aZ P w H h':=λa o e=>
 (x a o e).K7 (λb u _ q=>k b u q) (λ_ q=>q) λ_ _ q=>q
theorem aZ.laid(x:aZ P w H h)(k:∀b u,h.get? b=some u->h'.get? b=some u) (hp:h.objs.size<=a) (new:J3 P w (upd H a o) h' a o):aZ P w (upd H a o) h':=λb u e=>by
 have hn:=x.fresh hp
 by_cases hb:b=a
 .subst hb;rw[Qd]at e;cases e;exact new
 .rw[Qx hb]at e;exact(x b u e).K7 (λc v _ q=>k c v q) (λc q=>by rw[Qx (Qz q hn)];exact q) λc xs q=>by rw[Qx (Qz q hn)];exact q
end
def Rd(H:Hp)(a:Addr)(u:HO):Prop:=H a=some u\/∃o,H a=some (.bR o u)
theorem Rd.ok(r:Rd H a u)(x:aZ P w H h):J3 P w H h a u:=by
 rcases r with r|⟨o,r⟩
 .exact x a u r
 .obtain⟨_,q⟩:=x a _ r;exact q
def AV:Option HO->Prop
 |some (.lst _)=>True
 |some (.dK _)=>True
 |some (.dT _)=>True
 |some (.set _ _)=>True
 |some (.ins _ _ _)=>True
 |some (.ext _)=>True
 |_=>False
section
theorem aZ.write(ok:aZ P w H h)(mu:AV (H x))(he:e=x\/H e=some (.own x))(k:∀b u,b≠e->h.get? b=some u->h'.get? b=some u) (Af:∃u,h'.get? e=some u)
  (new:J3 P w (upd H x o') h' x o'):aZ P w (upd H x o') h':=λb u q=>by
 have AW:∀c y,H c=some (.own y)->c≠x:=λc y r z=>by subst z;rw[r]at mu;exact mu
 have Em:∀c xs,H c=some (.tup xs)->c≠x:=λc xs r z=>by subst z;rw[r]at mu;exact mu
 by_cases hb:b=x
 .subst hb;rw[Qd]at q;cases q;exact new
 .rw[Qx hb]at q
  by_cases tz:b=e
  .have q':H b=some (.own x):=by
    rcases he with z|z
    .exact absurd (tz.trans z) hb
    .rw[tz];exact z
   rw[q]at q';cases q';obtain⟨v,hv⟩:=Af;exact⟨v,by rw[tz];exact hv⟩
  .refine(ok b u q).K7 (λc v hc r=>k c v ?_ r) (λc r=>by rw[Qx (AW c b r)];exact r) λc xs r=>by rw[Qx (Em c xs r)];exact r
   rcases hc with rfl|hc
   .exact tz
   .rintro rfl;rcases he with z|z
    .exact AW c b hc z
    .rw[hc]at z;cases z;exact hb rfl
end
structure Un(fs ex:List Addr)(H H':Hp)(h h':Heap):Prop where
 keep:∀b o,h.get? b=some o->H b=none->b∉fs->b∉ex->h'.get? b=some o
 slot:∀b o,h.get? b=some o->H b=none->b∈fs->b∉ex->∃sl,h'.get? b=some {o with slots:=sl}
 free:∀b o,h.get? b=some o->H b=none->b∉ex->H' b=none
 there:∀b o,h.get? b=some o->b∉ex->∃o',h'.get? b=some o'
 bx:∀b xs,H b=some (.tup xs)->H' b=some (.tup xs)
 bq:∀b o u,H b=some (.bR o u)->H' b=some (.bR o u)
 bt:∀b ps,H b=some (.bT ps)->∃more,H' b=some (.bT (ps++more))
section
variable {fs ex:List Addr}{H H1:Hp}{h h':Heap}{a:Addr}{o:HO}
theorem Un.any(u:Un fs ex H H1 h h1)(q:h.get? b=some ob)(n:H b=none)(hx:b∉ex):∃sl,h1.get? b=some {ob with slots:=sl}:=by
 by_cases hb:b∈fs
 .exact u.slot b ob q n hb hx
 .exact⟨ob.slots,u.keep b ob q n hb hx⟩
theorem Un.kept(k:∀b u,h.get? b=some u->h'.get? b=some u):Un fs ex H H h h':=
 ⟨λb ob q _ _ _=>k b ob q,λb ob q _ _ _=>⟨ob.slots,k b ob q⟩,λ_ _ _ n _=>n,λb ob q _=>⟨ob,k b ob q⟩,λ_ _ q=>q,λ_ _ _ q=>q,λ_ ps q=>⟨#[],by rw[q];simp⟩⟩
theorem Un.refl:Un fs ex H H h h:=Un.kept λ_ _ q=>q
theorem Un.laid(k:∀b u,h.get? b=some u->h'.get? b=some u) (hp:h.objs.size<=a) (hn:H a=none):Un fs ex H (upd H a o) h h' where
 keep:=λb u q _ _ _=>k b u q
 slot:=λb u q _ _ _=>⟨u.slots,k b u q⟩
 free:=λb u q n _=>by rw[Qx (yal (yad (yae q) hp))];exact n
 there:=λb u q _=>⟨u,k b u q⟩
 bx:=λb xs q=>by rw[Qx (Qz q hn)];exact q
 bq:=λb u xs q=>by rw[Qx (Qz q hn)];exact q
 bt:=λb ps q=>⟨#[],by rw[Qx (Qz q hn),q];simp⟩
theorem Un.write(mu:AV (H x))(he:e=x\/H e=some (.own x))(k:∀b u,b≠e->h.get? b=some u->h'.get? b=some u) (Af:∃u,h'.get? e=some u):Un fs ex H (upd H x o) h h':=by
 have hx:∀b,H b=none->b≠x:=λb n z=>by subst z;rw[n]at mu;exact mu
 have hb:∀b,H b=none->b≠e:=λb n z=>by
  subst z;rcases he with r|r
  .exact hx b n r
  .rw[n]at r;cases r
 have hm:∀b u,H b=some u->¬ AV (some u)->b≠x:=λb u q nm z=>by subst z;rw[q]at mu;exact nm mu
 refine⟨λb u q n _ _=>k b u (hb b n) q,λb u q n _ _=>⟨u.slots,k b u (hb b n) q⟩,λb u q n _=>by rw[Qx (hx b n)];exact n,λb u q _=>?_,
  λb xs q=>by rw[Qx (hm b _ q λz=>z)];exact q,λb u xs q=>by rw[Qx (hm b _ q λz=>z)];exact q,λb ps q=>⟨#[],by rw[Qx (hm b _ q λz=>z),q];simp⟩⟩
 by_cases tz:b=e
 .subst tz;exact Af
 .exact⟨u,k b u tz q⟩
end
noncomputable def Dm(h:Heap)(H:Hp):List Addr:=(List.range h.objs.size).filter λa=>(H a).isSome
noncomputable def qu(h:Heap)(H:Hp):Heap:=hideAll h (Dm h H)
theorem xr(h:Heap)(H:Hp):(qu h H).objs.size=h.objs.size:=hideAll_size _ _
theorem wX(e:h.get? b=some o)(n:H b=none):(qu h H).get? b=some o:=
 hideAll_get _ e λhm=>by
  have q:(H b).isSome=true:=(ydl.mp hm).2;rw[n]at q;simp at q
theorem Mk(e:(qu h H).get? b=some o):h.get? b=some o/\H b=none:=by
 have e':h.get? b=some o:=of_hideAll (Dm h H) e;exists e';cases q:H b with
 |none=>rfl
 |some x=>
  have hm:b∈Dm h H:=ydl.mpr ⟨List.mem_range.mpr (yae e'),by simp[q]⟩;have z:(qu h H).get? b=none:=ydw (Dm h H) hm;rw[z]at e;cases e
structure Mod(K:Frag)(mg:Str->Option Value)(M:Heap):Prop where
 iQ:K.In M
 glob:M.Ns mainGlobals mg
 blt:∃mb,M.Ns builtinsNs mb/\∀x:Str,x≠"__name__"->mb x=bootBuiltins x
 nolimit:M.NoLimit
structure Cx where
 prog:Program
 w:World
 K:Frag
 mg:Str->Option Value
 M:Heap
 A:Around
 N:List Str
 s₀:Shared
 H₀:Hp
 env:Env
 L:List Env
 stack:List Env
 ex:List Addr
 fn:Str->Bool
 calm:Bool
 pn:List (Addr × Obj)
 xe:Value->Shared->Prop
noncomputable def aK(l:List Env):List Addr:=l.filterMap (·.frame)
noncomputable abbrev Cx.fs(X:Cx):List Addr:=aK X.L
def Ag(sc:Scope)(x:Str):Prop:=sc.names.lookup x=some .local\/sc.names.lookup x=some .cell\/sc.names.lookup x=some .free
def Loc(sc:Scope)(x:Str):Prop:=sc.names.lookup x=some .local\/sc.names.lookup x=some .cell
def Look(env:Env)(h:Heap)(m:Str->Option Value)(x:Str)(u:Value):Prop:=
 (env.kindOf x=some .local/\m x=some u)\/((env.kindOf x=some .cell\/env.kindOf x=some .free)/\∃c,env.cells.lookup x=some c/\h.IsCell c (some u))
structure Cx.Ok(X:Cx):Prop where
 mod:Mod X.K X.mg X.M
 kind:X.env.scope.kind=.function
 glob:X.env.globals=mainGlobals
 blt:X.env.builtins=builtinsNs
 above:X.s₀.heap.objs.size<=X.env.locals
 inj:∀x y c,X.env.cells.lookup x=some c->X.env.cells.lookup y=some c->x=y
 has:∀x,(X.env.kindOf x=some .cell\/X.env.kindOf x=some .free)->∃c,X.env.cells.lookup x=some c
 fL:∀x c,X.fn x=true->X.env.cells.lookup x=some c->X.s₀.heap.objs.size<=c
 hd:X.calm=true->X.A.handled=none
 frames:X.A.frames=some X.stack
 cp:X.stack=X.L\/(X.stack=X.env::X.L/\X.env.frame=some X.env.locals)
 Ah:∀b∈X.ex,b≠X.env.locals/\∀x c,X.env.cells.lookup x=some c->c≠b
 bs:∀b o,X.M.get? b=some o->X.s₀.heap.get? b=some o/\X.H₀ b=none
 cN:X.M.objs.size<=X.s₀.heap.objs.size
 bI:∀b o,X.M.get? b=some o->b∉X.ex
 b7:∀b∈X.ex,b∉X.fs
 qv:X.s₀.heap.FunFrames X.M X.L
 fM:∀b∈X.fs,X.H₀ b=none
structure Inv(X:Cx)(U:List (Addr × Obj))(σ:List (Option V))(H:Hp)(s:Shared):Prop where
 ok:X.Ok
 os:s.os=X.s₀.os
 bare:AllBare s.gens
 M:Un X.fs X.ex X.H₀ H X.s₀.heap s.heap
 loc:∃m,s.heap.Ns X.env.locals m/\∀(i:Nat)(x:Str)(v:V),X.N[i]? =some x->σ[i]? =some (some v)->Ag X.env.scope x->∃u,RelV v u/\Look X.env s.heap m x u
 cell:∀x c,X.env.cells.lookup x=some c->∃v,s.heap.IsCell c v
 free:H X.env.locals=none
 aD:∀x c,X.env.cells.lookup x=some c->H c=none
 pin:∀p∈X.pn++U,s.heap.get? p.1=some p.2/\H p.1=none/\p.1≠X.env.locals/\p.1∉X.fs/\∀v,p.2.data≠ .cell v
 ai:aZ X.prog X.w H s.heap
 len:σ.length=X.N.length
section
variable {X:Cx}{U:List (Addr × Obj)}{σ:List (Option V)}{H:Hp}{s:Shared}{h':Heap}
theorem Cx.Ok.Ml(ok:X.Ok)(e:X.M.get? b=some o):b∉X.fs:=λhb=>by
 have:=(ok.qv.mem hb).1;rw[e]at this;cases this
theorem Inv.bs(I:Inv X U σ H s):∀b o,X.M.get? b=some o->s.heap.get? b=some o/\H b=none:=λb o e=>
 ⟨I.M.keep b o (I.ok.bs b o e).1 (I.ok.bs b o e).2 (I.ok.Ml e) (I.ok.bI b o e),I.M.free b o (I.ok.bs b o e).1 (I.ok.bs b o e).2 (I.ok.bI b o e)⟩
theorem Inv.bk(I:Inv X U σ H s):∀b o,X.M.get? b=some o->s.heap.get? b=some o:=λb o e=>(I.bs b o e).1
theorem Inv.mod(I:Inv X U σ H s):Mod X.K X.mg X.M:=I.ok.mod
theorem Inv.bz(I:Inv X U σ H s):X.K.In s.heap:=I.ok.mod.iQ.keeps I.bk
theorem Inv.nolimit(I:Inv X U σ H s):s.heap.NoLimit:=I.ok.mod.nolimit.keeps I.bk
theorem Inv.lt(I:Inv X U σ H s):X.env.locals<s.heap.objs.size:=let ⟨_,hn,_⟩:=I.loc;hn.lt
theorem Inv.sz(I:Inv X U σ H s):X.s₀.heap.objs.size<=s.heap.objs.size:=yas I.ok.above (ybi I.lt)
theorem Inv.Mm(I:Inv X U σ H s){a:Addr}(h:s.heap.objs.size<=a):a∉X.fs:=λhb=>by
 obtain⟨_,o,ho,_⟩:=I.ok.qv.mem hb;exact absurd (yad (yae ho) (yas I.sz h)) (lY _)
theorem Inv.dE(I:Inv X U σ H s):∀x c,X.env.cells.lookup x=some c->c≠X.env.locals:=λx c e z=>by
 obtain⟨v,o,ho,hd⟩:=I.cell x c e;obtain⟨m,⟨o',es,ep,ic,oN,_⟩,_⟩:=I.loc;rw[z,ic]at ho;cases ho;rw[oN]at hd;cases hd
theorem Inv.qv(I:Inv X U σ H s):s.heap.FunFrames X.M X.L:=by
 have all:∀(l:List Env),(∀b∈aK l,b∈X.fs)->X.s₀.heap.FunFrames X.M l->s.heap.FunFrames X.M l:=by
  intro l
  induction l with
  |nil=>intro _ _;trivial
  |cons env r ih=>
   intro hs hl;obtain⟨hk,⟨qLa,o,hf,hn,ho,hd⟩,hr⟩:=hl;have hL:qLa∈X.fs:=hs qLa (by unfold aK;rw[ybR,hf];exact lH);obtain⟨sl,e⟩:=I.M.slot qLa o ho (I.ok.fM qLa hL) hL λz=>I.ok.b7 qLa z hL;exact⟨hk,⟨qLa,_,hf,hn,e,hd⟩,ih (λb hb=>hs b (by unfold aK;rw[ybR,hf];exact lG _ hb)) hr⟩
 exact all X.L (λ_ hb=>hb) I.ok.qv
theorem Inv.stack(I:Inv X U σ H s):s.heap.FunFrames X.M X.stack:=by
 rcases I.ok.cp with e|⟨e,hf⟩
 .rw[e];exact I.qv
 .rw[e];obtain⟨m,hn,_⟩:=I.loc;refine .cons (by rw[I.ok.kind];lia) hf hn ?_ I.qv;exact Heap.get?_none_of_le (yas I.ok.cN I.ok.above)
theorem Inv.K8(I:Inv X U σ H s):∀b∈aK X.stack,b∈X.env.locals::X.fs:=λb hb=>by
 rcases I.ok.cp with e|⟨e,hf⟩
 .rw[e]at hb;exact lG _ hb
 .rw[e]at hb;unfold aK at hb;rw[ybR,hf]at hb;exact hb
theorem Inv.KI(I:Inv X U σ H s):∀b∈aK X.stack,H b=none:=λb hb=>by
 rcases yag.mp (I.K8 b hb)with e|hb
 .rw[e];exact I.free
 .obtain⟨_,o,ho,_⟩:=I.ok.qv.mem hb;exact I.M.free b o ho (I.ok.fM b hb) λz=>I.ok.b7 b z hb
theorem Inv.step{g':Array GenState}{t':Nat}{d':Drawn}{ch:List Addr}(I:Inv X U σ H s)
  (Cl:∀b∈ch,(b∈X.ex\/X.s₀.heap.objs.size<=b)/\b≠X.env.locals/\(∀x c,X.env.cells.lookup x=some c->c≠b)/\∀p∈X.pn++U,p.1≠b)
  (keep:∀b o,b≠X.env.locals->b∉X.fs->b∉ch->s.heap.get? b=some o->H b=none->h'.get? b=some o)
  (slot:∀b o,b≠X.env.locals->b∈X.fs->b∉ch->s.heap.get? b=some o->H b=none->∃sl,h'.get? b=some {o with slots:=sl}) (free:∀b o,b∉ch->s.heap.get? b=some o->H b=none->H' b=none)
  (there:∀b o,b∉ch->s.heap.get? b=some o->∃o',h'.get? b=some o')
  (bx:∀b xs,H b=some (.tup xs)->H' b=some (.tup xs)) (bq:∀b o u,H b=some (.bR o u)->H' b=some (.bR o u)) (bt:∀b ps,H b=some (.bT ps)->∃more,H' b=some (.bT (ps++more)))
  (ns:∀m,s.heap.Ns X.env.locals m->h'.Ns X.env.locals m) (ai:aZ X.prog X.w H' h') (hg:AllBare g'):
  Inv X U σ H' {s with heap:=h',gens:=g',drawn:=d',toks:=t'}:=by
 have ie:∀b o,X.s₀.heap.get? b=some o->b≠X.env.locals:=λb o e=>yal (yad (yae e) I.ok.above);have iR:∀b o,X.s₀.heap.get? b=some o->b∉X.ex->b∉ch:=λb o e hx hb=>by
  rcases(Cl b hb).1 with z|z
  .exact hx z
  .exact absurd (yad (yae e) z) (lY _)
 have cellK:∀x c,X.env.cells.lookup x=some c->∀v,s.heap.IsCell c v->h'.IsCell c v:=λx c e v⟨o,ho,hd⟩=>by
  have fN:c∉ch:=λz=>(Cl c z).2.2.1 x c e rfl
  by_cases hc:c∈X.fs
  .obtain⟨sl,q⟩:=slot c o (I.dE x c e) hc fN ho (I.aD x c e);exact⟨_,q,hd⟩
  .exact⟨o,keep c o (I.dE x c e) hc fN ho (I.aD x c e),hd⟩
 refine⟨I.ok,I.os,hg,⟨λb o e n hb hx=>?_,λb o e n hb hx=>?_,λb o e n hx=>?_,λb o e hx=>?_,λb xs e=>bx b xs (I.M.bx b xs e),λb o xs e=>bq b o xs (I.M.bq b o xs e),λb ps e=>?_⟩,?_,λx c e=>?_,?_,λx c e=>?_,λp hp=>?_,ai,I.len⟩
 .exact keep b o (ie b o e) hb (iR b o e hx) (I.M.keep b o e n hb hx) (I.M.free b o e n hx)
 .obtain⟨sl,e1⟩:=I.M.slot b o e n hb hx;obtain⟨Ai,e2⟩:=slot b _ (ie b o e) hb (iR b o e hx) e1 (I.M.free b o e n hx);exact⟨Ai,e2⟩
 .obtain⟨o',e1⟩:=I.M.there b o e hx;exact free b o' (iR b o e hx) e1 (I.M.free b o e n hx)
 .obtain⟨o',e1⟩:=I.M.there b o e hx;exact there b o' (iR b o e hx) e1
 .obtain⟨m1,e1⟩:=I.M.bt b ps e;obtain⟨m2,e2⟩:=bt b _ e1;exact⟨m1++m2,by rw[e2,Array.append_assoc]⟩
 .obtain⟨m,hn,hl⟩:=I.loc;refine⟨m,ns m hn,λi x v e1 e2 e3=>?_⟩;obtain⟨u,r,l⟩:=hl i x v e1 e2 e3;exists u,r;rcases l with l|⟨k,c,e,z⟩
  .exact .inl l
  .exact .inr ⟨k,c,e,cellK x c e _ z⟩
 .obtain⟨v,z⟩:=I.cell x c e;exact⟨v,cellK x c e v z⟩
 .obtain⟨m,⟨o,_,_,ho,_⟩,_⟩:=I.loc;exact free _ o (λz=>(Cl _ z).2.1 Z) ho I.free
 .obtain⟨v,o,ho,hd⟩:=I.cell x c e;exact free c o (λz=>(Cl c z).2.2.1 x c e Z) ho (I.aD x c e)
 .obtain⟨e,n,ne,nf,d⟩:=I.pin p hp;have fN:p.1∉ch:=λz=>(Cl p.1 z).2.2.2 p hp rfl;exact⟨keep p.1 p.2 ne nf fN e n,free p.1 p.2 fN e n,ne,nf,d⟩
theorem Inv.un(I:Inv X U σ H s)(u:Un X.fs [] H H' s.heap h')(ai:aZ X.prog X.w H' h'):Inv X U σ H' {s with heap:=h',toks:=t'}:=by
 obtain⟨m,⟨o,es,ep,ho,r⟩,_⟩:=id I.loc;obtain⟨sl,hL⟩:=u.any ho I.free (by simp);exact I.step (g':=s.gens) (d':=s.drawn) (ch:=[]) (λ_ z=>nomatch z) (λb o _ hb _ e n=>u.keep b o e n hb (by simp)) (λb o _ hb _ e n=>u.slot b o e n hb (by simp)) (λb o _ e n=>u.free b o e n (by simp)) (λb o _ e=>u.there b o e (by simp)) u.bx u.bq u.bt (λm' hm=>by
  obtain⟨o',En,Eo,ic,r'⟩:=hm;rw[ho]at ic;cases ic;exact⟨_,En,Eo,hL,r'⟩) ai I.bare
theorem Inv.call{ch:List Addr}(I:Inv X U σ H s)(u:Un (aK X.stack) ch H H' s.heap h')(ai:aZ X.prog X.w H' h')(hg:AllBare g')
  (Cl:∀b∈ch,(b∈X.ex\/X.s₀.heap.objs.size<=b)/\b≠X.env.locals/\(∀x c,X.env.cells.lookup x=some c->c≠b)/\∀p∈X.pn++U,p.1≠b):
  Inv X U σ H' {s with heap:=h',gens:=g',drawn:=d',toks:=t'}:=by
 obtain⟨m,⟨o,es,ep,ho,r⟩,_⟩:=id I.loc;obtain⟨sl,hL⟩:=u.any ho I.free λz=>(Cl _ z).2.1 rfl;exact I.step (ch:=ch) Cl (λb o hL hb hc e n=>u.keep b o e n (λz=>(yag.mp (I.K8 b z)).elim hL hb) hc) (λb o _ _ hc e n=>u.any e n hc) (λb o hc e n=>u.free b o e n hc) (λb o hc e=>u.there b o e hc) u.bx u.bq u.bt (λm' hm=>by
  obtain⟨o',En,Eo,ic,r'⟩:=hm;rw[ho]at ic;cases ic;exact⟨_,En,Eo,hL,r'⟩) ai hg
theorem Inv.turned{it:Addr}(I:Inv X U σ H s)(k:∀b o,b≠it->s.heap.get? b=some o->h'.get? b=some o) (hn:H it=none) (hL:it≠X.env.locals)
  (h1:it∈X.ex\/X.s₀.heap.objs.size<=it) (h2:∀x c,X.env.cells.lookup x=some c->c≠it) (h3:∀p∈X.pn++U,p.1≠it):Inv X U σ H {s with heap:=h',toks:=t'}:=by
 have iS:∀b u,H b=some u->b≠it:=λb u e z=>by rw[z,hn]at e;cases e
 refine I.step (g':=s.gens) (d':=s.drawn) (ch:=[it]) (λb hb=>?_) (λb o _ _ hc e _=>k b o (λz=>hc (by simp[z])) e) (λb o _ _ hc e _=>⟨o.slots,k b o (λz=>hc (by simp[z])) e⟩) (λ_ _ _ _ n=>n)
  (λb o hc e=>⟨o,k b o (λz=>hc (by simp[z])) e⟩) (λ_ _ e=>e) (λ_ _ _ e=>e) (λb ps e=>⟨#[],by rw[e];simp⟩) (λm hm=>?_) (λb u e=>?_) I.bare
 .have e:b=it:=by simpa using hb
  subst e;exact⟨h1,hL,h2,h3⟩
 .obtain⟨o,es,ep,ho,r⟩:=hm;exact⟨o,es,ep,k _ o (Ne.symm hL) ho,r⟩
 .refine(I.ai b u e).K7 (λc v hc q=>k c v ?_ q) (λ_ q=>q) λ_ _ q=>q;rcases hc with z|z
  .rw[z];exact iS b u e
  .exact iS c _ z
theorem Inv.tok(I:Inv X U σ H s)(t:Nat):Inv X U σ H {s with toks:=t}:=I.un (h':=s.heap) (t':=t) Un.refl I.ai
theorem Inv.kept(I:Inv X U σ H s)(k:∀b u,s.heap.get? b=some u->h'.get? b=some u):Inv X U σ H {s with heap:=h',toks:=t'}:=I.un (Un.kept k) (I.ai.kept k)
theorem Inv.laid{a:Addr}{o:HO}{t':Nat}(I:Inv X U σ H s)(k:∀b u,s.heap.get? b=some u->h'.get? b=some u) (hp:s.heap.objs.size<=a) (new:J3 X.prog X.w (upd H a o) h' a o):
  Inv X U σ (upd H a o) {s with heap:=h',toks:=t'}:=I.un (Un.laid k hp (I.ai.fresh hp)) (I.ai.laid k hp new)
theorem Inv.write(I:Inv X U σ H s)(mu:AV (H x))(he:e=x\/H e=some (.own x))(k:∀b u,b≠e->s.heap.get? b=some u->h'.get? b=some u) (Af:∃u,h'.get? e=some u)
  (new:J3 X.prog X.w (upd H x o) h' x o):Inv X U σ (upd H x o) {s with heap:=h',toks:=t'}:=I.un (Un.write mu he k Af) (I.ai.write mu he k Af new)
theorem Inv.weak(I:Inv X U σ H s)(hl:σ'.length=σ.length)(w:∀(i:Nat) v,σ'[i]? =some (some v)->σ[i]? =some (some v)):Inv X U σ' H s:=
 ⟨I.ok,I.os,I.bare,I.M,let ⟨m,hn,Mn⟩:=I.loc;⟨m,hn,λi x v e1 e2 e3=>Mn i x v e1 (w i v e2) e3⟩,I.cell,I.free,I.aD,I.pin,I.ai,hl.trans I.len⟩
theorem Inv.XU(I:Inv X U σ H s)(h:∀p∈iT,s.heap.get? p.1=some p.2/\H p.1=none/\p.1≠X.env.locals/\p.1∉X.fs/\∀v,p.2.data≠ .cell v):Inv X iT σ H s:=
 ⟨I.ok,I.os,I.bare,I.M,I.loc,I.cell,I.free,I.aD,λp hp=>(yao.mp hp).elim (λz=>I.pin p (lF _ z)) (h p),I.ai,I.len⟩
theorem YF{N:List Str}(hN:N.Nodup){i j:Nat}{x:Str}(a:N[i]? =some x)(b:N[j]? =some x):i=j:=by
 obtain⟨h1,e1⟩:=yaj.mp a;obtain⟨h2,e2⟩:=yaj.mp b;exact(List.getElem_inj hN).mp (e1.trans e2.symm)
theorem Vl(I:Inv X U σ H s)(hN:X.N.Nodup)(hi:X.N[i]? =some x)(hx:Loc X.env.scope x)(r:RelV v u)
  (h:∀s',Inv X U (σ.set i (some v)) H s'->(∃a,Heap.SameBut a s.heap s'.heap/\(a=X.env.locals\/X.env.cells.lookup x=some a))->Q () s') (hf:X.fn x=true\/X.env.scope.names.lookup x=some .local:=by first|exact .inl rfl|exact .inr rfl|assumption):wpAny qMa A (storeName X.env x u) Q E s:=by
 obtain⟨m,hn,hl⟩:=id I.loc;have Ep:(X.env.scope.kind==.class||(X.env.scope.kind==.module&&X.env.locals !=X.env.globals))=false:=by rw[I.ok.kind];rfl
 have HA:i<σ.length:=by rw[I.len];exact(yaj.mp hi).1
 have dE:=I.dE;have tracked:∀{a:Addr}{h':Heap},(∃o,s.heap.get? a=some o/\H a=none)->Heap.SameBut a s.heap h'->aZ X.prog X.w H h':=λ{a h'} ha hs b ob e=>by
  obtain⟨_,_,cO⟩:=ha;refine(I.ai b ob e).K7 (λc w' hc q=>(hs.2 c ?_).trans q) (λ_ q=>q) λ_ _ q=>q;rintro rfl;rcases hc with rfl|hc
  .rw[cO]at e;cases e
  .rw[cO]at hc;cases hc
 rcases hx with hk|hk
 .refine wpAny_storeName_local hk hn (λh' Er hs=>?_) Ep;obtain⟨oL,_,_,HC,_⟩:=id hn;refine h _ ⟨I.ok,I.os,I.bare,⟨λb o e n hb hx=>?_,λb o e n hb hx=>?_,I.M.free,λb o e hx=>?_,I.M.bx,I.M.bq,I.M.bt⟩,⟨_,Er,λj y v' e1 e2 e3=>?_⟩,λy c e=>?_,I.free,I.aD,λp hp=>?_,tracked ⟨oL,HC,I.free⟩ hs,by simpa using I.len⟩ ⟨_,hs,.inl rfl⟩
  .exact(hs.2 b (yal (yad (yae e) I.ok.above))).trans (I.M.keep b o e n hb hx)
  .obtain⟨sl,e1⟩:=I.M.slot b o e n hb hx;exact⟨sl,(hs.2 b (yal (yad (yae e) I.ok.above))).trans e1⟩
  .obtain⟨o',e1⟩:=I.M.there b o e hx;exact⟨o',(hs.2 b (yal (yad (yae e) I.ok.above))).trans e1⟩
  .by_cases hj:j=i
   .subst hj;rw[hi]at e1;cases e1;rw[ycM HA]at e2;cases e2;exact⟨u,r,.inl ⟨hk,by simp⟩⟩
   .rw[ybF (Ne.symm hj)]at e2;obtain⟨u',r',q⟩:=hl j y v' e1 e2 e3;exists u',r';rcases q with⟨k,e⟩|⟨k,c,e,z⟩
    .refine .inl ⟨k,?_⟩;have:y≠x:=λe=>hj (YF hN e1 (e▸hi));simp[this,e]
    .exact .inr ⟨k,c,e,z.sameBut hs (dE y c e)⟩
  .obtain⟨w',z⟩:=I.cell y c e;exact⟨w',z.sameBut hs (dE y c e)⟩
  .obtain⟨e,n,ne,nf,d⟩:=I.pin p hp;exact⟨(hs.2 p.1 ne).trans e,n,ne,nf,d⟩
 .have ig:X.fn x=true:=by
   rcases hf with z|z
   .exact z
   .rw[z]at hk;cases hk
  obtain⟨c,hc⟩:=I.ok.has x (.inl hk);obtain⟨w',z⟩:=I.cell x c hc;refine wpAny_storeName_cell I.ok.kind hk hc z (λh' cQ hs=>?_);obtain⟨oc,HD,Es⟩:=id z;refine h {s with heap:=h'} ⟨I.ok,I.os,I.bare,⟨λb o e n hb hx=>?_,λb o e n hb hx=>?_,I.M.free,λb o e hx=>?_,I.M.bx,I.M.bq,I.M.bt⟩,⟨m,hn.sameBut hs (Ne.symm (dE x c hc)),λj y v' e1 e2 e3=>?_⟩,λy c' e=>?_,I.free,I.aD,λp hp=>?_,tracked ⟨oc,HD,I.aD x c hc⟩ hs,by simpa using I.len⟩ ⟨c,hs,.inr hc⟩
  .exact(hs.2 b (yal (yad (yae e) (I.ok.fL x c ig hc)))).trans (I.M.keep b o e n hb hx)
  .obtain⟨sl,e1⟩:=I.M.slot b o e n hb hx;exact⟨sl,(hs.2 b (yal (yad (yae e) (I.ok.fL x c ig hc)))).trans e1⟩
  .obtain⟨o',e1⟩:=I.M.there b o e hx;exact⟨o',(hs.2 b (yal (yad (yae e) (I.ok.fL x c ig hc)))).trans e1⟩
  .by_cases hj:j=i
   .subst hj;rw[hi]at e1;cases e1;rw[ycM HA]at e2;cases e2;exact⟨u,r,.inr ⟨.inl hk,c,hc,cQ⟩⟩
   .rw[ybF (Ne.symm hj)]at e2;obtain⟨u',r',q⟩:=hl j y v' e1 e2 e3;exists u',r';rcases q with q|⟨k,c',e,z'⟩
    .exact .inl q
    .refine .inr ⟨k,c',e,z'.sameBut hs ?_⟩;rintro rfl;exact hj (YF hN e1 (I.ok.inj _ _ _ e hc▸hi))
  .by_cases dF:c'=c
   .subst dF;exact⟨_,cQ⟩
   .obtain⟨w2,z2⟩:=I.cell y c' e;exact⟨w2,z2.sameBut hs dF⟩
  .obtain⟨e,n,ne,nf,d⟩:=I.pin p hp;refine⟨(hs.2 p.1 ?_).trans e,n,ne,nf,d⟩;intro q;rw[q,HD]at e;have q':oc=p.2:=lB e;exact d w' (by rw[<-q'];exact Es)
theorem ZS(I:Inv X U σ H s)(hN:X.N.Nodup)(hi:X.N[i]? =some x)(hx:Loc X.env.scope x)(r:RelV v u)
  (h:∀s',Inv X U (σ.set i (some v)) H s'->Q () s') (hf:X.fn x=true\/X.env.scope.names.lookup x=some .local:=by first|exact .inl rfl|exact .inr rfl|assumption):wpAny qMa A (storeName X.env x u) Q E s:=
 Vl I hN hi hx r (λs' I' _=>h s' I') hf
theorem Inv.xt{ch:List Addr}(I:Inv X U σ H s)(ho:s'.os=s.os)(u:Un (aK X.stack) ch H H' s.heap s'.heap)(ai:aZ X.prog X.w H' s'.heap)(hg:AllBare s'.gens)
  (Cl:∀b∈ch,(b∈X.ex\/X.s₀.heap.objs.size<=b)/\b≠X.env.locals/\(∀x c,X.env.cells.lookup x=some c->c≠b)/\∀p∈X.pn++U,p.1≠b):Inv X U σ H' s':=by
 obtain⟨h',g',d',t',o'⟩:=s';have e:o'=s.os:=ho;subst e;exact I.call (g':=g') (t':=t') (d':=d') u ai hg Cl
end
noncomputable abbrev XK:=Value->Option Addr->Hp->Prop
noncomputable abbrev St:=List (Option V)
noncomputable abbrev VK:=V->Hp->Prop
noncomputable abbrev TE:=St->Hp->VK->Prop
noncomputable abbrev TT:=St->Hp->(Bool->Hp->Prop)->Prop
noncomputable abbrev TA:=St->Hp->(List V->Hp->Prop)->Prop
structure Ends where
 nx:St->Hp->Prop
 rt:VK
 bk:St->Hp->Prop:=λ_ _=>False
 ct:St->Hp->Prop:=λ_ _=>False
noncomputable abbrev TS:=Ends->St->Hp->Prop
def EP(X:Cx)(U:List (Addr × Obj))(σ:St)(Q:VK)(u:Value)(s':Shared):Prop:=∃v H',Inv X U σ H' s'/\RelV v u/\Q v H'
def TP(X:Cx)(U:List (Addr × Obj))(σ:St)(Q:Bool->Hp->Prop)(b:Bool)(s':Shared):Prop:=∃H',Inv X U σ H' s'/\Q b H'
def AP(X:Cx)(U:List (Addr × Obj))(σ:St)(Q:List V->Hp->Prop)(us:List Value)(s':Shared):Prop:=∃vs H',Inv X U σ H' s'/\Vals vs us/\Q vs H'
def SP(X:Cx)(U:List (Addr × Obj))(D:Ends)(f:Flow)(s':Shared):Prop:=
 match f with
 | .next=>∃σ' H',Inv X U σ' H' s'/\D.nx σ' H'
 | .brk=>∃σ' H',Inv X U σ' H' s'/\D.bk σ' H'
 | .cont=>∃σ' H',Inv X U σ' H' s'/\D.ct σ' H'
 | .ret u=>∃v σ' H',Inv X U σ' H' s'/\RelV v u/\D.rt v H'
def PE(X:Cx)(e:Expr)(t:TE):Prop:=
 ∀(U:List (Addr × Obj))(s:Shared)(σ:St)(H:Hp)(Q:VK),Inv X U σ H s->t σ H Q->wpAny (model X.prog X.w) X.A (eval e X.env) (EP X U σ Q) X.xe s
def PT(X:Cx)(e:Expr)(t:TT):Prop:=
 ∀(U:List (Addr × Obj))(s:Shared)(σ:St)(H:Hp)(Q:Bool->Hp->Prop),Inv X U σ H s->t σ H Q->wpAny (model X.prog X.w) X.A (isTrue e X.env (eval e X.env)) (TP X U σ Q) X.xe s
def PW(X:Cx)(e:Expr)(t:TT):Prop:=
 ∀(whole:Sem Value)(U:List (Addr × Obj))(s:Shared)(σ:St)(H:Hp)(Q:Bool->Hp->Prop),Inv X U σ H s->t σ H Q->wpAny (model X.prog X.w) X.A (isTrue e X.env whole) (TP X U σ Q) X.xe s
theorem PW.pt(h:PW X e t):PT X e t:=h _
def PA(X:Cx)(es:List Expr)(t:TA):Prop:=
 ∀(pos:Pos)(U:List (Addr × Obj))(s:Shared)(σ:St)(H:Hp)(Q:List V->Hp->Prop),Inv X U σ H s->t σ H Q->wpAny (model X.prog X.w) X.A (spliced (backTo pos (starEach es X.env))) (AP X U σ Q) X.xe s
def PS(X:Cx)(st:Stmt)(t:TS):Prop:=
 ∀(U:List (Addr × Obj))(s:Shared)(σ:St)(H:Hp)(D:Ends),Inv X U σ H s->t D σ H->wpAny (model X.prog X.w) X.A (exec st X.env) (SP X U D) X.xe s
def aU(X:Cx)(st:List Stmt)(t:TS):Prop:=
 ∀(U:List (Addr × Obj))(s:Shared)(σ:St)(H:Hp)(D:Ends),Inv X U σ H s->t D σ H->wpAny (model X.prog X.w) X.A (execs st X.env) (SP X U D) X.xe s
theorem av{α:Type}{t:Sem α}{Q Q':α->Shared->Prop}{qMa:Model}{A:Around}{s:Shared}(h:wpAny qMa A t Q E s)(hQ:∀a s,Q a s->Q' a s):wpAny qMa A t Q' E s:=yaB h hQ λ_ _ x=>x
section
variable {X:Cx}
def ZN(i:Nat):TE:=λσ H Q=>∃v,σ[i]? =some (some v)/\Q v H
def tC(v:V):TE:=λ_ H Q=>Q v H
theorem yT{pos:Pos}(hN:X.N[i]? =some x)(hv:Ag X.env.scope x)(hd:(x==("__debug__":Str))=false:=by lia)(GT:(x==("__classdict__":Str))=false:=by lia):PE X (.Name x pos) (ZN i):=by
 intro U s σ H Q I h;obtain⟨v,e,h⟩:=h;obtain⟨m,hn,hl⟩:=I.loc;obtain⟨u,r,l⟩:=hl i x v hN e hv;have fin:EP X U σ Q u s:=⟨v,H,I,r,h⟩;rcases l with⟨hk,hm⟩|⟨hk,c,hc,Id⟩
 .exact wpAny_Name (wpAny_loadName_local I.ok.kind hk hn hm fin) hd
 .rcases hk with hk|hk
  .exact wpAny_Name (wpAny_loadName_cell I.ok.kind hk hc Id fin) hd
  .exact wpAny_Name (wpAny_loadName_free I.ok.kind hk hc Id fin GT) hd
theorem Qi{i j pos}:PE X (.Constant (.int i) j pos) (tC (.int i)):=λ_ _ _ H _ I h=>wpAny_Constant_int ⟨.int i,H,I.tok _,⟨_,Z⟩,h⟩
theorem WZ{b j pos}:PE X (.Constant (.bool b) j pos) (tC (.bl b)):=λ_ _ _ H _ I h=>Constant_bool ⟨.bl b,H,I,Z,h⟩
theorem Zk{j pos}:PE X (.Constant .none j pos) (tC .ax):=λ_ _ _ H _ I h=>Constant_none ⟨.ax,H,I,Z,h⟩
theorem Qc{x j pos}:PE X (.Constant (.str x) j pos) (tC (.str x)):=λ_ _ _ H _ I h=>Calls.Constant_str ⟨.str x,H,I.tok _,⟨_,Z⟩,h⟩
def Gl(X:Cx)(x:Str):Prop:=X.env.kindOf x=some .globalImplicit
theorem XV{U:List (Addr × Obj)}{σ:St}{x:Str}{pos:Pos}(I:Inv X U σ H s)(hg:Gl X x)(hm:X.mg x=some u)(h:Q u s)
  (hd:(x==("__debug__":Str))=false:=by lia):wpAny (model X.prog X.w) X.A (eval (.Name x pos) X.env) Q E s:=
 ydt I.ok.kind hg (Calls.loadGlobal_global (by rw[I.ok.glob];exact I.mod.glob.keeps I.bk) hm h) hd
theorem WS{E:Value->Shared->Prop}{U:List (Addr × Obj)}{s:Shared}{σ:St}{H:Hp}{x:Str}{u:Value}{pos:Pos}(I:Inv X U σ H s)(hg:Gl X x)(hm:X.mg x=none)(hv:bootBuiltins x=some u)(h:Q u s)
  (hn:x≠"__name__":=by lia) (hd:(x==("__debug__":Str))=false:=by lia):wpAny (model X.prog X.w) X.A (eval (.Name x pos) X.env) Q E s:=by
 obtain⟨mb,h1,h2⟩:=I.mod.blt;exact ydt I.ok.kind hg (Calls.loadGlobal_builtin (by rw[I.ok.glob];exact I.mod.glob.keeps I.bk) hm (by rw[I.ok.blt];exact h1.keeps I.bk) ((h2 x hn).trans hv) h) hd
theorem QC{pos:Pos}(hg:Gl X x)(hm:X.mg x=some u)(r:RelV v u)(hd:(x==("__debug__":Str))=false:=by lia):PE X (.Name x pos) (tC v):=
 λ_ _ _ H _ I h=>XV I hg hm ⟨v,H,I,r,h⟩ hd
theorem xu{pos:Pos}(hg:Gl X x)(hm:X.mg x=none)(hv:bootBuiltins x=some u)(r:RelV v u)(hn:x≠"__name__":=by lia)(hd:(x==("__debug__":Str))=false:=by lia):PE X (.Name x pos) (tC v):=
 λ_ _ _ H _ I h=>WS I hg hm hv ⟨v,H,I,r,h⟩ hn hd
variable {pos:Pos}
def PC(X:Cx)(op:CmpOp)(a b:Expr)(t:TE):Prop:=
 ∀(U:List (Addr × Obj))(s:Shared)(σ:St)(H:Hp)(Q:VK),Inv X U σ H s->t σ H Q->
  wpAny (model X.prog X.w) X.A (eval a X.env) (λv s₁=>wpAny (model X.prog X.w) X.A (eval b X.env) (λu s₂=>wpAny (model X.prog X.w) X.A (compareOp op v u) (EP X U σ Q) X.xe s₂) X.xe s₁) X.xe s
theorem wY(b:Expr){op:CmpOp}(h:op≠ .In)(h2:op≠ .NotIn):behindInMarks op b=false:=by
 have e1:(op==CmpOp.In)=false:=by cases op<;>first|rfl|exact absurd rfl h
 have e2:(op==CmpOp.NotIn)=false:=by cases op<;>first|rfl|exact absurd rfl h2
 cases b<;>simp[behindInMarks,e1,e2]
def Mo(ta:TE):TE:=λσ H Q=>ta σ H λx H1=>Q (.bl (decide (x=.ax))) H1
theorem RelV.wZ(r:RelV x v):(v==Value.none)=decide (x=.ax):=by
 cases x with
 |ax=>cases r;rfl
 |bl _=>cases r;rfl
 |int _=>obtain⟨t,rfl⟩:=r;rfl
 |str _=>obtain⟨t,rfl⟩:=r;rfl
 |cM _=>obtain⟨t,rfl⟩:=r;rfl
 |oM _=>obtain⟨t,rfl⟩:=r;rfl
 |ref _=>cases r;rfl
 |ty _=>cases r;rfl
theorem Ky{j pos'}(ha:PE X a ta):PC X .Is a (.Constant .none j pos') (Mo ta):=by
 intro U s σ H Q I h;refine av (ha U s σ H _ I h) λv s1⟨x,H1,I1,r1,q1⟩=>?_;exact Constant_none (is_none_gen ⟨.bl _,H1,I1,by rw[r1.wZ];rfl,q1⟩)
def tB(t:TE):TT:=λσ H Q=>t σ H λx H1=>∃c,x=.bl c/\Q c H1
theorem Xf{op:CmpOp}(h:PC X op a b t)(h1:behindInMarks op b=false:=by first|exact wY _ (by lia) (by lia)|rfl):PT X (.Compare a [op] [b] pos) (tB t):=by
 intro U s σ H Q I hw;refine wpAny_isTrue_Compare1 (av (h U s σ H _ I hw) λv s1 h1=>av h1 λu s2 h2=>av h2 λc s3⟨x,H1,I1,r1,q1⟩=>?_) h1;obtain⟨d,rfl,q⟩:=q1;cases r1;exact ybt ⟨H1,I1,q⟩
theorem WT(h:PE X e t)(he:∀whole,isTrue e X.env whole=(do let v<-whole;standAt e.pos;holding [v] (truthy v)):=by intro _;rfl):PT X e (tB t):=by
 intro U s σ H Q I hw;refine isTrue_plain (av (h U s σ H _ I hw) λv s1⟨x,H1,I1,r1,q1⟩=>?_) (he _);obtain⟨d,rfl,q⟩:=q1;cases r1;exact ybt ⟨H1,I1,q⟩
variable {rest:List Expr}
def HE(t u:TT):TT:=λσ H Q=>t σ H λc H1=>if c=true then u σ H1 Q else Q false H1
def Dq(t u:TT):TT:=λσ H Q=>t σ H λc H1=>if c=true then Q true H1 else u σ H1 Q
def HF(t:TT):TT:=λσ H Q=>t σ H λc H1=>Q (!c) H1
theorem Jd(ha:PT X a tA):PW X (.BoolOp .And [a] pos) tA:=by
 intro wh U s σ H Q I h;refine isTrue_and (av (ha U s σ H Q I h) λc s1 e=>?_);cases c with
 |true=>exact isTrue_and_nil e
 |false=>exact e
theorem Zq(ha:PT X a tA):PW X (.BoolOp .Or [a] pos) tA:=by
 intro wh U s σ H Q I h;refine isTrue_or (av (ha U s σ H Q I h) λc s1 e=>?_);cases c with
 |false=>exact isTrue_or_nil e
 |true=>exact e
theorem Jn(ha:PT X a tA)(hb:PW X (.BoolOp .And (b::rest) pos) Dp):PW X (.BoolOp .And (a::b::rest) pos) (HE tA Dp):=by
 intro wh U s σ H Q I h;refine isTrue_and (av (ha U s σ H _ I h) λc s1⟨H1,I1,q1⟩=>?_);cases c with
 |true=>exact hb wh U s1 σ H1 Q I1 q1
 |false=>exact⟨H1,I1,q1⟩
theorem Xn(ha:PT X a tA)(hb:PW X (.BoolOp .Or (b::rest) pos) Dp):PW X (.BoolOp .Or (a::b::rest) pos) (Dq tA Dp):=by
 intro wh U s σ H Q I h;refine isTrue_or (av (ha U s σ H _ I h) λc s1⟨H1,I1,q1⟩=>?_);cases c with
 |true=>exact⟨H1,I1,q1⟩
 |false=>exact hb wh U s1 σ H1 Q I1 q1
theorem Kz(ha:PT X a tA):PT X (.UnaryOp .Not a pos) (HF tA):=by
 intro U s σ H Q I h;exact isTrue_not (ha U s σ H (λc H1=>Q (!c) H1) I h)
def w4(ta tb:TE):TE:=λσ H Q=>ta σ H λx H1=>∃c,x=.bl c/\if c=true then tb σ H1 Q else Q (.bl false) H1
theorem Uv{op}(h:PE X a t):PE X (.BoolOp op [a] pos) t:=λU s σ H Q I hw=>BoolOp_one (h U s σ H Q I hw)
theorem Uw(ha:PE X a ta)(hb:PE X (.BoolOp .And (b::rest) pos) tb):PE X (.BoolOp .And (a::b::rest) pos) (w4 ta tb):=by
 intro U s σ H Q I h;refine BoolOp_and (av (ha U s σ H _ I h) λv s1⟨x,H1,I1,r1,q1⟩=>?_);obtain⟨c,rfl,q1⟩:=q1;cases r1;refine ybt ?_;cases c with
 |true=>exact hb U s1 σ H1 Q I1 q1
 |false=>exact⟨.bl false,H1,I1,Z,q1⟩
def Dr(t:TT)(ta tb:TE):TE:=λσ H Q=>t σ H λc H1=>if c=true then ta σ H1 Q else tb σ H1 Q
theorem Jm(hc:PT X c tA)(ha:PE X a ta)(hb:PE X b tb):PE X (.IfExp c a b pos) (Dr tA ta tb):=by
 intro U s σ H Q I h;refine wpAny_IfExp (av (hc U s σ H _ I h) λd s1⟨H1,I1,q1⟩=>?_);cases d with
 |true=>exact ha U s1 σ H1 Q I1 q1
 |false=>exact hb U s1 σ H1 Q I1 q1
end
def az(K:Frag)(H:Hp)(a:Addr)(xs:List V):Prop:=
 Rd H a (.lst xs)\/
  ∃(o:Obj)(ap:Array Value)(n:Nat),K.lookup a=some o/\o.cls=.type "list"/\o.dict=none/\o.data=.seq ap n/\ap.size<=sizeLine/\Vals xs ap.toList
def aj(K:Frag)(H:Hp)(a:Addr)(xs:List V):Prop:=
 Rd H a (.tup xs)\/
  ∃(o:Obj)(ap:Array Value)(n:Nat),K.lookup a=some o/\o.cls=.type "tuple"/\o.data=.seq ap n/\ap.size<=sizeLine/\Vals xs ap.toList
noncomputable def Mp:Value->Option V
 | .none=>some .ax
 | .bool b=>some (.bl b)
 | .int i _=>some (.int i)
 | .str x _=>some (.str x)
 | .bytes b _=>some (.cM b)
 | .float b _=>some (.oM b)
 | .ref a=>some (.ref a)
 | .type n=>some (.ty n)
 |_=>none
theorem RelV.abs(r:RelV x u):Mp u=some x:=by
 cases x with
 |ax=>cases r;rfl
 |bl _=>cases r;rfl
 |int _=>obtain⟨t,rfl⟩:=r;rfl
 |str _=>obtain⟨t,rfl⟩:=r;rfl
 |cM _=>obtain⟨t,rfl⟩:=r;rfl
 |oM _=>obtain⟨t,rfl⟩:=r;rfl
 |ref _=>cases r;rfl
 |ty _=>cases r;rfl
theorem RelV.inj(r:RelV x u)(q:RelV y u):x=y:=lB (r.abs.symm.trans q.abs)
theorem Vals.inj:∀{xs ys:List V}{us:List Value},Vals xs us->Vals ys us->xs=ys
 |_,_,_,.nil,.nil=>rfl
 |_,_,_,.cons r t,.cons r' t'=>by rw[r.inj r',Vals.inj t t']
section
variable {X:Cx}{U:List (Addr × Obj)}{σ:St}{H:Hp}{s:Shared}{a:Addr}{xs ys:List V}
theorem az.of{K:Frag}(h:H a=some (.lst xs)):az K H a xs:=.inl (.inl h)
theorem aj.of{K:Frag}(h:H a=some (.tup xs)):aj K H a xs:=.inl (.inl h)
theorem Inv.list(I:Inv X U σ H s)(h:az X.K H a xs):∃ap:List Value,Vals xs ap/\PlainL s.heap a ap.toArray/\xs.length<=sizeLine:=by
 rcases h with h|⟨o,ap,n,hk,hc,hd,hs,hz,r⟩
 .obtain⟨z,ap,n,r,e⟩:=h.ok I.ai;exact⟨ap,r,⟨_,n,e,Z,Z,Z⟩,z⟩
 .refine⟨ap.toList,r,⟨o,n,I.bz a o hk,hc,hd,by simpa using hs⟩,?_⟩;have e:=r.length;simp only[lV]at e;lia
theorem Inv.tuple(I:Inv X U σ H s)(h:aj X.K H a xs):∃ap:List Value,Vals xs ap/\IsTup s.heap a ap.toArray/\xs.length<=sizeLine:=by
 rcases h with h|⟨o,ap,n,hk,hc,hs,hz,r⟩
 .obtain⟨z,ap,r,p⟩:=h.ok I.ai;exact⟨ap,r,p.tup,z⟩
 .refine⟨ap.toList,r,⟨o,I.bz a o hk,hc,n,by simpa using hs⟩,?_⟩;have e:=r.length;simp only[lV]at e;lia
theorem Inv.w6(I:Inv X U σ H s)(h:az X.K H a xs)(h':az X.K H a ys):xs=ys:=by
 obtain⟨ap,r,⟨o,n,e,_,_,d⟩,_⟩:=I.list h;obtain⟨its',r',⟨o',n',e',_,_,d'⟩,_⟩:=I.list h';rw[e]at e';cases e';rw[d]at d';injection d' with d1 _;have:ap=its':=by simpa using yaI Array.toList d1
 subst this;exact r.inj r'
theorem Inv.xv(I:Inv X U σ H s)(h:aj X.K H a xs)(h':aj X.K H a ys):xs=ys:=by
 obtain⟨ap,r,⟨o,e,_,n,d⟩,_⟩:=I.tuple h;obtain⟨its',r',⟨o',e',_,n',d'⟩,_⟩:=I.tuple h';rw[e]at e';cases e';rw[d]at d';injection d' with d1 _;have:ap=its':=by simpa using yaI Array.toList d1
 subst this;exact r.inj r'
end
noncomputable abbrev Cx.wT(X:Cx)(E:Value->Shared->Prop):Cx:={X with xe:=E}
noncomputable abbrev Cx.bD(X:Cx):Cx:=X.wT λ_ _=>False
theorem Cx.Ok.wT{X:Cx}(ok:X.Ok)(E:Value->Shared->Prop):(X.wT E).Ok:=
 ⟨ok.mod,ok.kind,ok.glob,ok.blt,ok.above,ok.inj,ok.has,ok.fL,ok.hd,ok.frames,ok.cp,ok.Ah,ok.bs,ok.cN,ok.bI,ok.b7,ok.qv,ok.fM⟩
theorem Cx.Ok.WU{X:Cx}(ok:(X.wT E).Ok):X.Ok:=
 ⟨ok.mod,ok.kind,ok.glob,ok.blt,ok.above,ok.inj,ok.has,ok.fL,ok.hd,ok.frames,ok.cp,ok.Ah,ok.bs,ok.cN,ok.bI,ok.b7,ok.qv,ok.fM⟩
section
variable {X:Cx}{U:List (Addr × Obj)}{σ:St}{H:Hp}{s:Shared}{E:Value->Shared->Prop}
theorem Inv.wT(I:Inv X U σ H s)(E:Value->Shared->Prop):Inv (X.wT E) U σ H s:=⟨I.ok.wT E,I.os,I.bare,I.M,I.loc,I.cell,I.free,I.aD,I.pin,I.ai,I.len⟩
theorem Inv.WU(I:Inv (X.wT E) U σ H s):Inv X U σ H s:=⟨I.ok.WU,I.os,I.bare,I.M,I.loc,I.cell,I.free,I.aD,I.pin,I.ai,I.len⟩
theorem SP.WU(h:SP (X.wT E) U D f s'):SP X U D f s':=by
 cases f with
 |next=>obtain⟨σ',H',I,q⟩:=h;exact⟨σ',H',I.WU,q⟩
 |brk=>obtain⟨σ',H',I,q⟩:=h;exact⟨σ',H',I.WU,q⟩
 |cont=>obtain⟨σ',H',I,q⟩:=h;exact⟨σ',H',I.WU,q⟩
 |ret u=>obtain⟨v,σ',H',I,r,q⟩:=h;exact⟨v,σ',H',I.WU,r,q⟩
theorem aU.bD{st:List Stmt}(h:aU X.bD st t):aU X st t:=λU s σ H D I hw=>
 yaB (h U s σ H D (I.wT _) hw) (λ_ _ q=>q.WU) λ_ _ z=>False.elim z
end
section
variable {st:Stmt}{rest:List Stmt}{pos:Pos}
def Ux:TS:=λD σ H=>D.nx σ H
def Wu(t u:TS):TS:=λD σ H=>t {D with nx:=u D} σ H
theorem QQ:aU X [] Ux:=λ_ _ σ H _ I h=>ycC ⟨σ,H,I,h⟩
theorem Qj(h1:PS X st t)(h2:aU X rest u):aU X (st::rest) (Wu t u):=by
 intro U s σ H D I h;refine wpAny_execs_cons (av (h1 U s σ H {D with nx:=u D} I h) λf s1 q=>?_);cases f with
 |next=>
  obtain⟨σ',H',I',q⟩:=q;exact h2 U s1 σ' H' D I' q
 |ret v=>exact q
 |brk=>exact q
 |cont=>exact q
theorem Qp(h1:PS X st t):aU X [st] t:=by
 intro U s σ H D I h;refine wpAny_execs_cons (av (h1 U s σ H D I h) λf s1 q=>?_);cases f with
 |next=>exact ycC q
 |ret v=>exact q
 |brk=>exact q
 |cont=>exact q
theorem Inv.quiet{U:List (Addr × Obj)}{σ:St}(I:Inv X U σ H s):interactive X.env=false:=by simp[interactive,I.ok.kind]
def Mq(te:TE):TS:=λD σ H=>te σ H λ_ H1=>D.nx σ H1
theorem XW(he:PE X e te)(hs:swapsWith e none pos.line X.env=pure false:=by rfl):PS X (.Expr e pos) (Mq te):=by
 intro U s σ H D I h;exact wpAny_Expr_any (av (he U s σ H _ I h) λv s1⟨x,H1,I1,r1,q1⟩=>⟨σ,H1,I1,q1⟩) I.quiet hs
def AX(te:TE):TS:=λD σ H=>te σ H D.rt
theorem QG(he:PE X e te):PS X (.Return (some e) pos) (AX te):=by
 intro U s σ H D I h;exact wpAny_Return_some (av (he U s σ H _ I h) λv s1⟨x,H1,I1,r1,q1⟩=>⟨x,σ,H1,I1,r1,q1⟩)
def AY(c:TT)(t u:TS):TS:=λD σ H=>c σ H λb H1=>if b=true then t D σ H1 else u D σ H1
theorem JP(hc:PT X c tc)(ha:aU X a t)(hb:aU X b u):PS X (.If c a b pos) (AY tc t u):=by
 intro U s σ H D I h;refine wpAny_If (av (hc U s σ H _ I h) λd s1⟨H1,I1,q1⟩=>?_);cases d with
 |true=>exact ha U s1 σ H1 D I1 q1
 |false=>exact hb U s1 σ H1 D I1 q1
end
noncomputable abbrev TG:=V->St->Hp->(St->Hp->Prop)->Prop
noncomputable abbrev iU:=List V->St->Hp->(St->Hp->Prop)->Prop
def PG(X:Cx)(target:Expr)(t:TG):Prop:=
 ∀(U:List (Addr × Obj))(s:Shared)(σ:St)(H:Hp)(v:V)(u:Value)(Q:St->Hp->Prop),Inv X U σ H s->RelV v u->t v σ H Q->
  wpAny (model X.prog X.w) X.A (assign target X.env u) (λ_ s'=>∃σ' H',Inv X U σ' H' s'/\Q σ' H') X.xe s
def AZ(X:Cx)(ts:List Expr)(t:iU):Prop:=
 ∀(U:List (Addr × Obj))(s:Shared)(σ:St)(H:Hp)(vs:List V)(us:List Value)(Q:St->Hp->Prop),Inv X U σ H s->Vals vs us->t vs σ H Q->
  wpAny (model X.prog X.w) X.A (assignInOrder ((assignEach ts X.env).map (·.2)) us) (λ_ s'=>∃σ' H',Inv X U σ' H' s'/\Q σ' H') X.xe s
noncomputable abbrev Et:=V->V->V->Hp->(Hp->Prop)->Prop
def HG(X:Cx)(t:Et):Prop:=
 ∀(U:List (Addr × Obj))(s:Shared)(σ:St)(H:Hp)(o i v:V)(ov iv u:Value)(Q:Hp->Prop),Inv X U σ H s->RelV o ov->RelV i iv->RelV v u->t o i v H Q->
  wpAny (model X.prog X.w) X.A (setItem ov iv u) (λ_ s'=>∃H',Inv X U σ H' s'/\Q H') X.xe s
noncomputable abbrev Ds:=V->V->Hp->VK->Prop
def Eu(X:Cx)(op:Operator)(t:Ds):Prop:=
 ∀(U:List (Addr × Obj))(s:Shared)(σ:St)(H:Hp)(x y:V)(v u:Value)(Q:VK),Inv X U σ H s->RelV x v->RelV y u->t x y H Q->
  wpAny (model X.prog X.w) X.A (inplaceOp op v u) (EP X U σ Q) X.xe s
section
variable {X:Cx}{pos:Pos}
def JI(i:Nat):TG:=λv σ H Q=>Q (σ.set i (some v)) H
theorem Qk(hN:X.N.Nodup)(hi:X.N[i]? =some x)(hx:Loc X.env.scope x)(hf:X.fn x=true\/X.env.scope.names.lookup x=some .local:=by first|exact .inl rfl|exact .inr rfl|assumption):PG X (.Name x pos) (JI i):=by
 intro U s σ H v u Q I r h;exact wpAny_assign_Name (ZS I hN hi hx r (λs' I'=>⟨_,H,I',h⟩) hf)
theorem Z'(i:Nat)(hN:X.N.Nodup)(hi:X.N[i]? =some x:=by rfl)(hx:Loc X.env.scope x:=by exact .inl rfl)(hf:X.fn x=true\/X.env.scope.names.lookup x=some .local:=by first|exact .inl rfl|exact .inr rfl|assumption):PG X (.Name x pos) (JI i):=Qk hN hi hx hf
def A0:iU:=λvs σ H Q=>vs=[]/\Q σ H
def YG(t:TG)(u:iU):iU:=λvs σ H Q=>∃v r,vs=v::r/\t v σ H λσ' H'=>u r σ' H' Q
theorem QD:AZ X [] A0:=by
 intro U s σ H vs us Q I r h;obtain⟨e,h⟩:=h;subst e;cases r;exact assignInOrder_nil ⟨σ,H,I,h⟩
theorem Qf(h1:PG X e t)(h2:AZ X es u)
  (hs:(assignEach (e::es) X.env).map (·.2)=assign e X.env::(assignEach es X.env).map (·.2):=by rfl):AZ X (e::es) (YG t u):=by
 intro U s σ H vs us Q I r h;obtain⟨v,vr,e1,h⟩:=h;subst e1;cases r with
 |cons r rr=>
  rw[hs];refine ybx (av (h1 U s σ H _ _ _ I r h) λ_ s1⟨σ1,H1,I1,q1⟩=>?_);exact h2 U s1 σ1 H1 _ _ Q I1 rr q1
def Aj(K:Frag)(n:Nat)(t:iU):TG:=λv σ H Q=>∃a xs,v=.ref a/\aj K H a xs/\xs.length=n/\t xs σ H Q
theorem Q5{k:Nat}(hc:X.calm=true)(h:AZ X es t)
  (hn:(assignEach es X.env).length=n:=by rfl) (gt:(assignEach es X.env).findIdx? (·.1)=none:=by rfl):PG X (.Tuple es k pos) (Aj X.K n t):=by
 intro U s σ H v u Q I r hw;obtain⟨a,xs,e1,hq,hl,hw⟩:=hw;subst e1;cases r;obtain⟨ap,rv,ht,hz⟩:=I.tuple hq;refine assign_Tuple_tuple (I.ok.hd hc) ht (by simp[hn, <-hl,rv.length]) gt λh' hx=>?_;have I1:Inv X U σ H {s with heap:=h'}:=I.kept (t':=s.toks) λb o e=>hx b o (yal (yae e)) e;exact h U _ σ H xs _ Q I1 (by simpa using rv) hw
def Mr(to ti:TE)(t:Et):TG:=λv σ H Q=>to σ H λo H1=>ti σ H1 λi H2=>t o i v H2 λH3=>Q σ H3
theorem yU{to ti:TE}(ho:PE X o to)(hi:PE X i ti)(hs:HG X t)
  (ha:∀v,assign (.Subscript o i pos) X.env v=(do
   let ov<-holding [v] (eval o X.env)
   let iv<-holding [v,ov] (eval i X.env)
   standAt pos
   holding [v,ov,iv] (setItem ov iv v)
   release [v,ov,iv] []):=by intro _;rfl):PG X (.Subscript o i pos) (Mr to ti t):=by
 intro U s σ H v u Q I r h;rw[ha];refine yab (ycD (av (ho U s σ H _ I h) λov s1⟨x,H1,I1,r1,q1⟩=>?_));refine yab (ycD (av (hi U s1 σ H1 _ I1 q1) λiv s2⟨y,H2,I2,r2,q2⟩=>?_));refine yab (ycE (yab (ycD (av (hs U s2 σ H2 x y v ov iv u _ I2 r1 r2 r q2) λ_ s3⟨H3,I3,q3⟩=>?_))));exact wpAny_release ⟨σ,H3,I3,q3⟩
def Wt(te:TE)(g:TG):TS:=λD σ H=>te σ H λx H1=>g x σ H1 D.nx
theorem Jk(he:PE X e te)(hg:PG X tg g)(hs:swapsWithSole [tg] e pos.line X.env=pure false:=by rfl)(hw:swappedStores [tg] e X.env=pure none:=by rfl)
  (h1:(assignEach [tg] X.env).map (·.2)=[assign tg X.env]:=by rfl):PS X (.Assign [tg] e pos) (Wt te g):=by
 intro U s σ H D I h;refine wpAny_Assign_stores (av (he U s σ H _ I h) λv s1⟨x,H1,I1,r1,q1⟩=>?_) hs hw;rw[h1];exact av (hg U s1 σ H1 x v _ I1 r1 q1) λ_ s2 q=>q
theorem QN{pos':Pos}(hN:X.N.Nodup)(hi:X.N[i]? =some x)(hx:Loc X.env.scope x)(he:PE X e te)(hs:swapsWith e (some (.Name x pos')) pos.line X.env=pure false:=by rfl)(hf:X.fn x=true\/X.env.scope.names.lookup x=some .local:=by first|exact .inl rfl|exact .inr rfl|assumption):
  PS X (.Assign [.Name x pos'] e pos) (Wt te (JI i)):=by
 intro U s σ H D I h;refine wpAny_Assign_Name (av (he U s σ H _ I h) λv s1⟨y,H1,I1,r1,q1⟩=>?_) hs;exact ZS I1 hN hi hx r1 (λs2 I2=>⟨_,H1,I2,q1⟩) hf
def Ms(i j:Nat)(ta:TA):TS:=λD σ H=>ta σ H λvs H1=>∃v w,vs=[v,w]/\D.nx ((σ.set i (some v)).set j (some w)) H1
theorem Uy{px py pt:Pos}{kt k2 oO}(hc:X.calm=true)(hN:X.N.Nodup)(hi:X.N[i]? =some x)(hj:X.N[j]? =some y)(Ew:i≠j)
  (hx:X.env.scope.names.lookup x=some .local) (hy:X.env.scope.names.lookup y=some .local) (ha:PA X [a,b] ta)
  (hw:swappedStores [.Tuple [.Name x px,.Name y py] kt pt] (.Tuple [a,b] k2 oO) X.env=pure (some [x,y]))
  (hs:swapsWithSole [.Tuple [.Name x px,.Name y py] kt pt] (.Tuple [a,b] k2 oO) pos.line X.env=pure false:=by rfl):
  PS X (.Assign [.Tuple [.Name x px,.Name y py] kt pt] (.Tuple [a,b] k2 oO) pos) (Ms i j ta):=by
 intro U s σ H D I h;rw[exec_Assign_arm];refine yab (ycE ?_);rw[hs];refine yab (yan ?_);rw[yac (by lia)];refine yab (Tuple_ (av (ha _ U s σ H _ I h) λus s1⟨vs,H1,I1,r1,q1⟩=>?_));obtain⟨v,w,e1,q1⟩:=q1;subst e1;obtain⟨u1,u2,rfl,rv,IR⟩:∃u1 u2,us=[u1,u2]/\RelV v u1/\RelV w u2:=by
  cases r1 with
  |cons p q=>
   cases q with
   |cons p' q'=>
    cases q';exact⟨_,_,Z,p,p'⟩
 refine yaX ?_ (by show 2<=sizeLine;lia);have I2:Inv X U σ H1 {s1 with heap:=s1.heap.push {cls:=.type "tuple",data:=.seq [u1,u2].toArray}}:=I1.kept (t':=s1.toks) λb o e=>yaa _ e;rw[hw];refine yab (yan ?_);show wpAny (model X.prog X.w) X.A (do rule "assign.swapped-stores";let items<-unpackItems (.ref s1.heap.objs.size) 2 none;assignInOrder [λv=>bindName X.env y v,λv=>bindName X.env x v] items.reverse;pure Flow.next) _ _ _;refine yab (wpAny_rule (yab (unpackItems_tuple (items:= #[u1,u2]) (I.ok.hd hc) (IsTup.new s1.heap _) λh' f8=>?_)));have I3:=I2.kept (h':=h') (t':=s1.toks) λb o e=>f8 b o (yal (yae e)) e;show wpAny _ _ (assignInOrder [λv=>bindName X.env y v,λv=>bindName X.env x v] [u2,u1]>>=λ_=>pure Flow.next) _ _ _;refine yab (ybx (ycq (ZS I3 hN hj (.inl hy) IR (λs2 I4=>?_) (.inr hy))));refine ybx (ycq (ZS I4 hN hi (.inl hx) rv (λs3 I5=>assignInOrder_nil (yan ?_)) (.inr hx)));rw[ydO _ _ (Ne.symm Ew)]at I5;exact⟨_,H1,I5,q1⟩
def Mt(i:Nat)(te:TE)(ti:Ds):TS:=λD σ H=>∃x,σ[i]? =some (some x)/\te σ H λy H1=>ti x y H1 λz H2=>D.nx (σ.set i (some z)) H2
theorem Vm{op:Operator}{pos':Pos}(hN:X.N.Nodup)(hi:X.N[i]? =some x)(hx:Loc X.env.scope x)(he:PE X e te)(ho:Eu X op ti)(hf:X.fn x=true\/X.env.scope.names.lookup x=some .local:=by first|exact .inl rfl|exact .inr rfl|assumption):
  PS X (.AugAssign (.Name x pos') op e pos) (Mt i te ti):=by
 intro U s σ H D I h;obtain⟨v,e1,h⟩:=h;obtain⟨m,hn,hl⟩:=I.loc;have Dt:Ag X.env.scope x:=by rcases hx with k|k;exact .inl k;exact .inr (.inl k)
 obtain⟨u,r,l⟩:=hl i x v hi e1 Dt;refine wpAny_AugAssign_Name ?_;have go:wpAny (model X.prog X.w) X.A (eval e X.env) (λw s₂=>wpAny (model X.prog X.w) X.A (inplaceOp op u w) (λr s₃=>wpAny (model X.prog X.w) X.A (storeName X.env x r) (λ_=>SP X U D .next) X.xe s₃) X.xe s₂) X.xe s:=by
  refine av (he U s σ H _ I h) λw s1⟨y,H1,I1,r1,q1⟩=>?_;refine av (ho U s1 σ H1 v y u w _ I1 r r1 q1) λz s2⟨zv,H2,I2,r2,q2⟩=>?_;exact ZS I2 hN hi hx r2 (λs3 I3=>⟨_,H2,I3,q2⟩) hf
 rcases l with⟨hk,hm⟩|⟨hk,c,hc,Id⟩
 .exact wpAny_loadName_local I.ok.kind hk hn hm go
 .rcases hk with hk|hk
  .exact wpAny_loadName_cell I.ok.kind hk hc Id go
  .rcases hx with k|k
   .have:X.env.scope.names.lookup x=some .free:=hk;rw[k]at this;cases this
   .have:X.env.scope.names.lookup x=some .free:=hk;rw[k]at this;cases this
def Mu(f:Int->Int->Int):Ds:=λx y H Q=>∃i j,x=.int i/\y=.int j/\Q (.int (f i j)) H
theorem Yp:Eu X .Add (Mu λi j=>i+j):=by
 intro U s σ H x y v u Q I r1 r2 h;obtain⟨i,j,e1,e2,q⟩:=h;subst e1;subst e2;obtain⟨t,rfl⟩:=r1;obtain⟨t',rfl⟩:=r2;exact iadd_int ⟨.int _,H,I.tok _,⟨_,Z⟩,q⟩
def Mv(c:TT)(tb:TS):TS:=λD σ H=>∃W:Nat->St->Hp->Prop,(∃m,W m σ H)/\∀m σ H,W m σ H->
 c σ H λb H1=>if b=true then ∃N:St->Hp->Prop,(∀σ' H',N σ' H'->∃m',m'<m/\W m' σ' H')/\tb {D with nx:=N,ct:=N,bk:=D.nx} σ H1 else D.nx σ H1
theorem W7{body:List Stmt}(hp:PassesOwn (model X.prog X.w) X.A X.env X.xe)(hc:PT X c tc)(hb:aU X body tb):PS X (.While c body [] pos) (Mv tc tb):=by
 intro U s σ H D I h;obtain⟨W,⟨m0,w0⟩,turn⟩:=h;refine wpAny_While (codeAny_whileLoop (λn s'=>∃σ' H',Inv X U σ' H' s'/\W n σ' H') ?_ m0 ⟨σ,H,I,w0⟩);rintro n s1 ⟨σ1,H1,I1,w1⟩;refine ybI hp (av (hc U s1 σ1 H1 _ I1 (turn n σ1 H1 w1)) λb s2⟨H2,I2,q2⟩=>?_);cases b with
 |true=>
  obtain⟨N,hN,q2⟩:=q2;rw[yaf rfl];refine ybI hp (av (hb U s2 σ1 H2 _ I2 q2) λf s3 q3=>?_);cases f with
  |next=>
   obtain⟨σ3,H3,I3,n3⟩:=q3;obtain⟨m',hm,w3⟩:=hN σ3 H3 n3;exact⟨m',hm,σ3,H3,I3,w3⟩
  |cont=>
   obtain⟨σ3,H3,I3,n3⟩:=q3;obtain⟨m',hm,w3⟩:=hN σ3 H3 n3;exact⟨m',hm,σ3,H3,I3,w3⟩
  |brk=>exact q3
  |ret v=>exact q3
 |false=>
  rw[yac yar];exact ycC ⟨σ1,H2,I2,q2⟩
end
structure It where
 go:Nat->Hp->Prop
 cR:Nat->Hp->V->Hp->Prop
 stop:Nat->Hp->Prop
def xw(X:Cx)(U:List (Addr × Obj))(H:Hp)(b:Addr):Prop:=
 H b=none/\b≠X.env.locals/\b∉X.fs/\(b∈X.ex\/X.s₀.heap.objs.size<=b)/\(∀x c,X.env.cells.lookup x=some c->c≠b)/\∀p∈X.pn++U,p.1≠b
theorem Inv.wU{X:Cx}{U:List (Addr × Obj)}{σ:St}{b:Addr}(I:Inv X U σ H s)(hb:s.heap.objs.size<=b)(hn:H' b=none):xw X U H' b:=by
 refine⟨hn,yby (yad I.lt hb),I.Mm hb,.inr (yas I.sz hb),λx c e z=>?_,λp hp z=>?_⟩
 .obtain⟨v,q⟩:=I.cell x c e;exact absurd (yad q.lt (by rw[z];exact hb)) (lY _)
 .exact absurd (yad (yae (I.pin p hp).1) (by rw[z];exact hb)) (lY _)
structure Turn(P:Program)(w:World)(K:Frag)(tg:Expr)(J:It)(fp:List Addr)(it:Addr)(tn:Nat->Heap->Prop):Prop where
 mem:it∈fp
 obj:∀i h,tn i h->∀b∈fp,∃o,h.get? b=some o/\∀v,o.data≠ .cell v
 keep:∀i h h',tn i h->(∀b∈fp,∀o,h.get? b=some o->h'.get? b=some o)->tn i h'
 item:∀(X:Cx),X.prog=P->X.w=w->X.K=K->X.calm=true->∀(i:Nat)(U:List (Addr × Obj))(s:Shared)(σ:St)(H:Hp)(E:Value->Shared->Prop),Inv X U σ H s->(∀b∈fp,xw X U H b)->tn i s.heap->J.go i H->
  wpAny (model P w) X.A (pyNext (.ref it)) (λr s1=>∃u,r=some u/\
   wpAny (model P w) X.A (letOwnedTupleGo tg (.ref it) u) (λ_ s2=>∃x H',Inv X U σ H' s2/\RelV x u/\J.cR i H x H'/\tn (i+1) s2.heap/\∀b∈fp,H' b=none) E s1) E s
 done:∀(X:Cx),X.prog=P->X.w=w->X.K=K->X.calm=true->∀(i:Nat)(U:List (Addr × Obj))(s:Shared)(σ:St)(H:Hp)(E:Value->Shared->Prop),Inv X U σ H s->(∀b∈fp,xw X U H b)->tn i s.heap->J.stop i H->
  wpAny (model P w) X.A (pyNext (.ref it)) (λr s1=>r=none/\Inv X U σ H s1) E s
 self:∀(A:Around)(i:Nat)(s:Shared)(Q:Value->Shared->Prop)(E:Value->Shared->Prop),tn i s.heap->Q (.ref it) s->wpAny (model P w) A (pyIter (.ref it)) Q E s
noncomputable abbrev TI:=St->Hp->(It->Hp->Prop)->Prop
def HH(X:Cx)(U:List (Addr × Obj))(σ:St)(tg:Expr)(R:It->Hp->Prop)(Ba:Value)(s2:Shared):Prop:=
 ∃(it:Addr)(fp:List Addr)(tn:Nat->Heap->Prop)(J:It)(H':Hp),Ba=.ref it/\Inv X U σ H' s2/\Turn X.prog X.w X.K tg J fp it tn/\tn 0 s2.heap/\(∀b∈fp,xw X U H' b)/\R J H'
def PI(X:Cx)(tg iter:Expr)(wi:TI):Prop:=
 ∀(U:List (Addr × Obj))(s:Shared)(σ:St)(H:Hp)(R:It->Hp->Prop),Inv X U σ H s->wi σ H R->
  wpAny (model X.prog X.w) X.A (eval iter X.env) (λv s1=>wpAny (model X.prog X.w) X.A (pyIter v) (HH X U σ tg R) X.xe s1) X.xe s
theorem xx{it:Addr}(ho:s.heap.get? it=some o)(hc:o.cls=.type n)(hd:o.data=.fields vs)
  (hn:["enumerate","zip","dict_itemiterator","dict_reverseitemiterator","odict_iterator","itertools.zip_longest","itertools.pairwise"].contains n=false) (hQ:Q () s):wpAny qMa A (letOwnedTupleGo tg (.ref it) u) Q E s:=by
 unfold letOwnedTupleGo;cases tg<;>first
  |exact yan hQ
  |(cases u<;>first
    |exact yan hQ
    |(refine yab (wpAny_load ho ?_)
      rw[hc,hd];show wpAny qMa A (if(["enumerate","zip","dict_itemiterator","dict_reverseitemiterator","odict_iterator","itertools.zip_longest","itertools.pairwise"].contains n&&vs[0]? ==some (rawInt _))=true then _ else _) Q E s;rw[yac (by intro h;rw[hn,ycr]at h;cases h)];exact yan hQ))
noncomputable def dR(K:Frag)(a:Addr):It:=
 ⟨λi H=>∃xs x,az K H a xs/\xs[i]? =some x,λi H x H'=>H'=H/\∀xs,az K H a xs->xs[i]? =some x,λi H=>∃xs,az K H a xs/\xs.length<=i⟩
noncomputable def dS(K:Frag)(a:Addr):It:=
 ⟨λi H=>∃xs x,aj K H a xs/\xs[i]? =some x,λi H x H'=>H'=H/\∀xs,aj K H a xs->xs[i]? =some x,λi H=>∃xs,aj K H a xs/\xs.length<=i⟩
noncomputable def Ak(lo:Int)(n:Nat):It:=⟨λi _=>i<n,λi H x H'=>H'=H/\x=.int (lo+i),λi _=>n<=i⟩
theorem xy{P:Program}{w:World}{K:Frag}{tg:Expr}(a it:Addr):Turn P w K tg (dR K a) [it] it (λi h=>h.IsListIter it a i) where
 mem:=by simp
 obj:=λi h st b hb=>by
  have e:b=it:=by simpa using hb
  subst e;obtain⟨o,e,c,d⟩:=st;exact⟨o,e,λv z=>by rw[d]at z;cases z⟩
 keep:=λi h h' st k=>st.at λo e=>k it (by simp) o e
 item:=by
  intro X hP hw hK hc i U s σ H E I hf st hg;subst hP hw hK;obtain⟨xs,x,hq,hx⟩:=hg;obtain⟨ap,rv,p,hz⟩:=I.list hq;obtain⟨u,hu,ru⟩:=rv.get hx;obtain⟨f0,f1,f2,f3,f4,f5⟩:=hf it (by simp);refine wpAny_pyNext_list_item st p.isList (x:=u) (by simpa using hu) λh' Tm sb=>?_;have I1:Inv X U σ H {s with heap:=h'}:=I.turned (t':=s.toks) (λb o hb e=>(sb.2 b hb).trans e) f0 f1 f3 f4 f5;obtain⟨o,e,c,d⟩:=id Tm;exact⟨u,Z,xx (s:={s with heap:=h'}) e c d (by lia) ⟨x,H,I1,ru,⟨Z,λys hy=>by rw[I.w6 hy hq];exact hx⟩,Tm,λb hb=>(hf b hb).1⟩⟩
 done:=by
  intro X hP hw hK hc i U s σ H E I hf st hg;subst hP hw hK;obtain⟨xs,hq,hx⟩:=hg;obtain⟨ap,rv,p,hz⟩:=I.list hq;obtain⟨f0,f1,f2,f3,f4,f5⟩:=hf it (by simp);have hl:=rv.length;exact wpAny_pyNext_list_end (I.ok.hd hc) st p.isList (by simp;lia) λh' eb=>⟨Z,I.turned (t':=s.toks) (λb o hb e=>eb b o hb e) f0 f1 f3 f4 f5⟩
 self:=λ_ _ _ _ _ st h=>wpAny_pyIter_listiter st h
theorem zt{P:Program}{w:World}{K:Frag}{tg:Expr}(a it:Addr):Turn P w K tg (dS K a) [it] it (λi h=>h.IsTupleIter it a i) where
 mem:=by simp
 obj:=λi h st b hb=>by
  have e:b=it:=by simpa using hb
  subst e;obtain⟨o,e,c,d⟩:=st;exact⟨o,e,λv z=>by rw[d]at z;cases z⟩
 keep:=λi h h' st k=>st.at λo e=>k it (by simp) o e
 item:=by
  intro X hP hw hK hc i U s σ H E I hf st hg;subst hP hw hK;obtain⟨xs,x,hq,hx⟩:=hg;obtain⟨ap,rv,p,hz⟩:=I.tuple hq;obtain⟨u,hu,ru⟩:=rv.get hx;obtain⟨f0,f1,f2,f3,f4,f5⟩:=hf it (by simp);refine wpAny_pyNext_tuple_item st (show s.heap.IsTuple a ap.toArray from p) (x:=u) (by simpa using hu) λh' Tm sb=>?_;have I1:Inv X U σ H {s with heap:=h'}:=I.turned (t':=s.toks) (λb o hb e=>(sb.2 b hb).trans e) f0 f1 f3 f4 f5;obtain⟨o,e,c,d⟩:=id Tm;exact⟨u,Z,xx (s:={s with heap:=h'}) e c d (by lia) ⟨x,H,I1,ru,⟨Z,λys hy=>by rw[I.xv hy hq];exact hx⟩,Tm,λb hb=>(hf b hb).1⟩⟩
 done:=by
  intro X hP hw hK hc i U s σ H E I hf st hg;subst hP hw hK;obtain⟨xs,hq,hx⟩:=hg;obtain⟨ap,rv,p,hz⟩:=I.tuple hq;obtain⟨f0,f1,f2,f3,f4,f5⟩:=hf it (by simp);have hl:=rv.length;exact wpAny_pyNext_tuple_end (I.ok.hd hc) st (show s.heap.IsTuple a ap.toArray from p) (by simp;lia) λh' eb=>⟨Z,I.turned (t':=s.toks) (λb o hb e=>eb b o hb e) f0 f1 f3 f4 f5⟩
 self:=λ_ _ _ _ _ st h=>wpAny_pyIter_tupleiter st h
theorem zu{P:Program}{w:World}{K:Frag}{tg:Expr}(it:Addr)(lo:Int)(n:Nat):Turn P w K tg (Ak lo n) [it] it (λi h=>IsRangeIter h it (lo+(i:Nat)*1) ((n:Int)-(i:Nat)) 1) where
 mem:=by simp
 obj:=λi h st b hb=>by
  have e:b=it:=by simpa using hb
  subst e;exact⟨_,st,λv z=>by
   have z':Data.fields _=Data.cell v:=z;cases z'⟩
 keep:=λi h h' st k=>k it (by simp) _ st
 item:=by
  intro X hP hw hK hc i U s σ H E I hf st hg;subst hP hw hK;obtain⟨f0,f1,f2,f3,f4,f5⟩:=hf it (by simp);have W:=Walks.range (prog:=X.prog) (w:=X.w) (I.ok.hd hc) it lo 1 n;refine W.item i s _ _ hg st λv h' tk hv Tm kk=>?_;obtain⟨t,rfl⟩:=hv;have I1:Inv X U σ H {s with heap:=h',toks:=tk}:=I.turned (λb o hb e=>kk b o (by simpa using hb) e) f0 f1 f3 f4 f5;refine⟨_,Z,xx (s:={s with heap:=h',toks:=tk}) (n:="range_iterator") Tm rfl rfl (by lia) ⟨.int (lo+i),H,I1,⟨t,?_⟩,⟨Z,Z⟩,Tm,λb hb=>(hf b hb).1⟩⟩;rw[Int.mul_one]
 done:=by
  intro X hP hw hK hc i U s σ H E I hf st hg;subst hP hw hK;obtain⟨f0,f1,f2,f3,f4,f5⟩:=hf it (by simp);exact wpAny_pyNext_range_end (I.ok.hd hc) st (by have:n<=i:=hg;lia) λh' eb=>⟨Z,I.turned (t':=s.toks) (λb o hb e=>eb b o hb e) f0 f1 f3 f4 f5⟩
 self:=λ_ _ _ _ _ st h=>wpAny_pyIter_rangeiter st h
section
def w8(K:Frag)(tl:TE):TI:=λσ H R=>tl σ H λx H1=>∃a,x=.ref a/\(∃xs,az K H1 a xs)/\R (dR K a) H1
def HI(K:Frag)(tl:TE):TI:=λσ H R=>tl σ H λx H1=>∃a,x=.ref a/\(∃xs,aj K H1 a xs)/\R (dS K a) H1
theorem KJ(hl:PE X l tl):PI X tg l (w8 X.K tl):=by
 intro U s σ H R I h;refine av (hl U s σ H _ I h) λv s1⟨x,H1,I1,r1,q1⟩=>?_;obtain⟨a,e,⟨xs,hq⟩,q⟩:=q1;subst e;cases r1;obtain⟨ap,rv,p,hz⟩:=I1.list hq;refine ydI p.isList ?_;refine⟨s1.heap.objs.size,[s1.heap.objs.size],_,_,H1,Z,I1.kept (t':=s1.toks) λb o e=>yaa _ e,xy a _,⟨_,yam _ rfl,Z,Z⟩,λb hb=>?_,q⟩;have e:b=s1.heap.objs.size:=by simpa using hb
 subst e;exact I1.wU (lA _) (I1.ai.fresh (lA _))
theorem jy(hl:PE X l tl):PI X tg l (HI X.K tl):=by
 intro U s σ H R I h;refine av (hl U s σ H _ I h) λv s1⟨x,H1,I1,r1,q1⟩=>?_;obtain⟨a,e,⟨xs,hq⟩,q⟩:=q1;subst e;cases r1;obtain⟨ap,rv,p,hz⟩:=I1.tuple hq;refine wpAny_pyIter_tuple (show s1.heap.IsTuple a ap.toArray from p) ?_;refine⟨s1.heap.objs.size,[s1.heap.objs.size],_,_,H1,Z,I1.kept (t':=s1.toks) λb o e=>yaa _ e,zt a _,⟨_,yam _ rfl,Z,Z⟩,λb hb=>?_,q⟩;have e:b=s1.heap.objs.size:=by simpa using hb
 subst e;exact I1.wU (lA _) (I1.ai.fresh (lA _))
theorem vb{U:List (Addr × Obj)}{σ:St}{lo hi:Int}{tk:Nat}(I:Inv X U σ H s)(h1: -(2^62)<=lo)(h2:lo<2^62)(h3: -(2^62)<=hi)(h4:hi<2^62)
  (q:R (Ak lo (hi-lo).toNat) H):wpAny (model X.prog X.w) X.A (pyIter (.ref s.heap.objs.size)) (HH X U σ tg R) E {s with heap:=s.heap.push {cls:=.type "range",data:=.fields #[.int lo t,.int hi u,.int 1 v]},toks:=tk}:=by
 refine wpAny_pyIter_range (IsRange.new ..) (small_one h1 h2 h3 h4) ?_;have I1:Inv X U σ H {s with heap:=s.heap.push {cls:=.type "range",data:=.fields #[.int lo t,.int hi u,.int 1 v]},toks:=tk}:=I.kept λb o e=>yaa _ e;refine⟨(s.heap.push {cls:=.type "range",data:=.fields #[.int lo t,.int hi u,.int 1 v]}).objs.size,[(s.heap.push {cls:=.type "range",data:=.fields #[.int lo t,.int hi u,.int 1 v]}).objs.size],_,_,H,Z,
  I1.kept (t':=tk) λb o e=>yaa _ e,zu _ lo (hi-lo).toNat,?_,λb hb=>?_,q⟩
 .have e1:lo+((0:Nat):Int)*1=lo:=by simp
  have e2:(((hi-lo).toNat:Nat):Int)-((0:Nat):Int)=Builtin.Range.rangeSize lo hi 1:=by rw[rangeSize_one];split<;>lia
  show IsRangeIter _ _ (lo+((0:Nat):Int)*1) ((((hi-lo).toNat:Nat):Int)-((0:Nat):Int)) 1;rw[e1,e2];exact yam _ rfl
 .have e:b=(s.heap.push {cls:=.type "range",data:=.fields #[.int lo t,.int hi u,.int 1 v]}).objs.size:=by simpa using hb
  subst e;exact I1.wU (lA _) (I1.ai.fresh (lA _))
def Mw(ta:TA):TI:=λσ H R=>ta σ H λvs H1=>∃j:Int,vs=[.int j]/\ -(2^62)<=j/\j<2^62/\R (Ak 0 j.toNat) H1
theorem XX{p pos:Pos}(hg:Gl X "range")(hm:X.mg "range"=none)(ha:PA X [a] ta)(hs:starEach [a] X.env=[(false,eval a X.env)]:=by rfl):PI X tg (.Call (.Name "range" p) [a] [] pos) (Mw ta):=by
 intro U s σ H R I h;refine Call_ (WS I hg hm boot_range (yaT (av (ha pos U s σ H _ I h) λus s1⟨vs,H1,I1,r1,q1⟩=>?_) hs Z));obtain⟨j,e,q1,q2,q⟩:=q1;subst e;cases r1 with
 |cons r rr=>
  cases rr;obtain⟨t,rfl⟩:=r;exact call_range_1 (vb I1 (by lia) (by lia) q1 q2 (by simpa using q))
def HJ(wi:TI)(g:TG)(tb:TS):TS:=λD σ H=>wi σ H λJ H1=>∃W:Nat->Nat->St->Hp->Prop,(∃m,W 0 m σ H1)/\∀i m σ H,W i m σ H->
 (J.stop i H/\D.nx σ H)\/(J.go i H/\∃N:St->Hp->Prop,(∀σ' H',N σ' H'->∃m',m'<m/\W (i+1) m' σ' H')/\∀x H',J.cR i H x H'->g x σ H' λσ2 H2=>tb {D with nx:=N,ct:=N,bk:=D.nx} σ2 H2)
noncomputable def Vn(fp:List Addr)(h:Heap):List (Addr × Obj):=fp.filterMap λb=>(h.get? b).map λo=>(b,o)
theorem Zl(hb:b∈fp)(e:h.get? b=some o):(b,o)∈Vn fp h:=ydx.mpr ⟨b,hb,by rw[e];rfl⟩
theorem xz(hp:p∈Vn fp h):p.1∈fp/\h.get? p.1=some p.2:=by
 obtain⟨b,hb,e⟩:=ydx.mp hp;cases q:h.get? b with
 |none=>rw[q]at e;cases e
 |some o=>
  rw[q]at e;have e':(b,o)=p:=lB e;subst e';exact⟨hb,q⟩
theorem Inv.pinned{U:List (Addr × Obj)}{σ:St}{fp:List Addr}(I:Inv X U σ H s)(hf:∀b∈fp,xw X U H b) (ho:∀b∈fp,∃o,s.heap.get? b=some o/\∀v,o.data≠ .cell v):Inv X (U++Vn fp s.heap) σ H s:=
 I.XU λp hp=>(yao.mp hp).elim (λz=>I.pin p (lE _ z)) λz=>by
  obtain⟨hb,e⟩:=xz z;obtain⟨f0,f1,f2,_⟩:=hf p.1 hb;obtain⟨o,e',d⟩:=ho p.1 hb;rw[e]at e';cases e';exact⟨e,f0,f1,f2,d⟩
theorem Inv.ZT{U pl:List (Addr × Obj)}{σ:St}(I:Inv X (U++pl) σ H s):Inv X U σ H s:=I.XU λp hp=>I.pin p (lE _ (lF _ hp))
theorem Vo{iter:Expr}{body:List Stmt}{pos:Pos}(hp:PassesOwn (model X.prog X.w) X.A X.env X.xe)(hc:X.calm=true)(hi:PI X tg iter wi)(hg:PG X tg g)(hb:aU X body tb)
  (hs:∀x,foldedSetIterable iter X.env x=pure x:=by intro _;rfl):PS X (.For tg iter body [] pos) (HJ wi g tb):=by
 intro U s σ H D I h;refine wpAny_For (av (hi U s σ H _ I h) λv s1 h1=>av h1 λBa s2 h2=>?_) hs;obtain⟨it,fp,tn,J,H2,e,I2,T,fP,f2,W,⟨m0,w0⟩,turn⟩:=h2;subst e;have pi:∀{H':Hp},(∀b∈fp,H' b=none)->∀b∈fp,xw X U H' b:=λhn b hb=>⟨hn b hb,(f2 b hb).2⟩;refine codeAny_forLoop_any (λn s'=>∃i σ' H',Inv X U σ' H' s'/\tn i s'.heap/\(∀b∈fp,H' b=none)/\W i n σ' H') ?_ m0 ⟨0,σ,H2,I2,fP,λb hb=>(f2 b hb).1,w0⟩;rintro n s3 ⟨i,σ3,H3,I3,dU,HK,w3⟩;rcases turn i n σ3 H3 w3 with⟨stop,qn⟩|⟨go,N,hN,step⟩
 .refine ybI hp (av (T.done X Z Z Z hc i U s3 σ3 H3 X.xe I3 (pi HK) dU stop) λr s4⟨hr,I4⟩=>?_);subst hr;exact ycC ⟨σ3,H3,I4,qn⟩
 .refine ybI hp (av (T.item X Z Z Z hc i U s3 σ3 H3 X.xe I3 (pi HK) dU go) λr s4⟨u,hr,h4⟩=>?_);subst hr;refine ybI hp (av h4 λ_ s5⟨x,H5,I5,r5,y5,dG,fQ⟩=>?_);have Mx:=I5.pinned (pi fQ) (T.obj _ _ dG);refine ybI hp (av (hg _ s5 σ3 H5 x u _ Mx r5 (step x H5 y5)) λ_ s6⟨σ6,H6,I6,q6⟩=>?_);refine ybI hp (av (hb _ s6 σ6 H6 _ I6 q6) λf s7 q7=>?_);have again:∀{σ7:St}{H7:Hp},Inv X (U++Vn fp s5.heap) σ7 H7 s7->N σ7 H7->∃m,m<n/\∃i σ' H',Inv X U σ' H' s7/\tn i s7.heap/\(∀b∈fp,H' b=none)/\W i m σ' H':=λ{σ7 H7} I7 n7=>by
   obtain⟨m',hm,w7⟩:=hN σ7 H7 n7;refine⟨m',hm,i+1,σ7,H7,I7.ZT,T.keep _ _ _ dG λb hb o e=>(I7.pin (b,o) (lE _ (lE _ (Zl hb e)))).1,λb hb=>?_,w7⟩;obtain⟨o,e,d⟩:=T.obj _ _ dG b hb;exact(I7.pin (b,o) (lE _ (lE _ (Zl hb e)))).2.1
  cases f with
  |next=>obtain⟨σ7,H7,I7,n7⟩:=q7;exact again I7 n7
  |cont=>obtain⟨σ7,H7,I7,n7⟩:=q7;exact again I7 n7
  |brk=>obtain⟨σ7,H7,I7,q7⟩:=q7;exact⟨σ7,H7,I7.ZT,q7⟩
  |ret v=>obtain⟨x7,σ7,H7,I7,r7,q7⟩:=q7;exact⟨x7,σ7,H7,I7.ZT,r7,q7⟩
end
theorem vc{K:Frag}{a:Addr}{xs:List V}{g:TG}{tb:TS}{D:Ends}{σ:St}{H:Hp}(Pv:Nat->St->Hp->Prop)(h0:Pv 0 σ H)(hl:∀i σ H,i<=xs.length->Pv i σ H->az K H a xs)
  (hs:∀i x σ H,xs[i]? =some x->Pv i σ H->g x σ H λσ2 H2=>tb {D with nx:=Pv (i+1),ct:=Pv (i+1),bk:=D.nx} σ2 H2) (hd:∀σ H,Pv xs.length σ H->D.nx σ H):
  ∃W:Nat->Nat->St->Hp->Prop,(∃m,W 0 m σ H)/\∀i m σ H,W i m σ H->
   ((dR K a).stop i H/\D.nx σ H)\/((dR K a).go i H/\∃N:St->Hp->Prop,(∀σ' H',N σ' H'->∃m',m'<m/\W (i+1) m' σ' H')/\∀x H',(dR K a).cR i H x H'->g x σ H' λσ2 H2=>tb {D with nx:=N,ct:=N,bk:=D.nx} σ2 H2):=by
 refine⟨λi m σ H=>m=xs.length-i/\i<=xs.length/\Pv i σ H,⟨xs.length,by simp,lX _,h0⟩,?_⟩;rintro i m σ H ⟨rfl,hi,p⟩;have q:=hl i σ H hi p
 by_cases bn:i<xs.length
 .refine .inr ⟨⟨xs,xs[i],q,by simp[bn]⟩,Pv (i+1),λσ' H' p'=>⟨xs.length-(i+1),by lia,Z,bn,p'⟩,λx H' y=>?_⟩;obtain⟨e,y⟩:=y;subst e;exact hs i x σ _ (y xs q) p
 .have e:i=xs.length:=by lia
  subst e;exact .inl ⟨⟨xs,q,lA _⟩,hd σ H p⟩
theorem qA{K:Frag}{a:Addr}{xs:List V}{g:TG}{tb:TS}{D:Ends}{σ:St}{H:Hp}(Pv:Nat->St->Hp->Prop)(h0:Pv 0 σ H)(hl:∀i σ H,i<=xs.length->Pv i σ H->aj K H a xs)
  (hs:∀i x σ H,xs[i]? =some x->Pv i σ H->g x σ H λσ2 H2=>tb {D with nx:=Pv (i+1),ct:=Pv (i+1),bk:=D.nx} σ2 H2) (hd:∀σ H,Pv xs.length σ H->D.nx σ H):
  ∃W:Nat->Nat->St->Hp->Prop,(∃m,W 0 m σ H)/\∀i m σ H,W i m σ H->
   ((dS K a).stop i H/\D.nx σ H)\/((dS K a).go i H/\∃N:St->Hp->Prop,(∀σ' H',N σ' H'->∃m',m'<m/\W (i+1) m' σ' H')/\∀x H',(dS K a).cR i H x H'->g x σ H' λσ2 H2=>tb {D with nx:=N,ct:=N,bk:=D.nx} σ2 H2):=by
 refine⟨λi m σ H=>m=xs.length-i/\i<=xs.length/\Pv i σ H,⟨xs.length,by simp,lX _,h0⟩,?_⟩;rintro i m σ H ⟨rfl,hi,p⟩;have q:=hl i σ H hi p
 by_cases bn:i<xs.length
 .refine .inr ⟨⟨xs,xs[i],q,by simp[bn]⟩,Pv (i+1),λσ' H' p'=>⟨xs.length-(i+1),by lia,Z,bn,p'⟩,λx H' y=>?_⟩;obtain⟨e,y⟩:=y;subst e;exact hs i x σ _ (y xs q) p
 .have e:i=xs.length:=by lia
  subst e;exact .inl ⟨⟨xs,q,lA _⟩,hd σ H p⟩
theorem XY{lo:Int}{n:Nat}{g:TG}{tb:TS}{D:Ends}{σ:St}{H:Hp}(Pv:Nat->St->Hp->Prop)(h0:Pv 0 σ H)
  (hs:∀i σ H,i<n->Pv i σ H->g (.int (lo+i)) σ H λσ2 H2=>tb {D with nx:=Pv (i+1),ct:=Pv (i+1),bk:=D.nx} σ2 H2) (hd:∀σ H,Pv n σ H->D.nx σ H):
  ∃W:Nat->Nat->St->Hp->Prop,(∃m,W 0 m σ H)/\∀i m σ H,W i m σ H->
   ((Ak lo n).stop i H/\D.nx σ H)\/((Ak lo n).go i H/\∃N:St->Hp->Prop,(∀σ' H',N σ' H'->∃m',m'<m/\W (i+1) m' σ' H')/\∀x H',(Ak lo n).cR i H x H'->g x σ H' λσ2 H2=>tb {D with nx:=N,ct:=N,bk:=D.nx} σ2 H2):=by
 refine⟨λi m σ H=>m=n-i/\i<=n/\Pv i σ H,⟨n,by simp,lX _,h0⟩,?_⟩;rintro i m σ H ⟨rfl,hi,p⟩
 by_cases bn:i<n
 .refine .inr ⟨bn,Pv (i+1),λσ' H' p'=>⟨n-(i+1),by lia,Z,bn,p'⟩,λx H' y=>?_⟩;obtain⟨e,y⟩:=y;subst e y;exact hs i σ _ bn p
 .have e:i=n:=by lia
  subst e;exact .inl ⟨lA _,hd σ H p⟩
noncomputable abbrev R2:=V->V->Hp->VK->Prop
def aW(X:Cx)(f:Value->Value->Sem Value)(r:R2):Prop:=
 ∀(U:List (Addr × Obj))(s:Shared)(σ:St)(H:Hp)(x y:V)(v u:Value)(Q:VK),Inv X U σ H s->RelV x v->RelV y u->r x y H Q->
  wpAny (model X.prog X.w) X.A (f v u) (EP X U σ Q) X.xe s
def Ex(X:Cx)(f:Value->Sem Value)(r:V->Hp->VK->Prop):Prop:=
 ∀(U:List (Addr × Obj))(s:Shared)(σ:St)(H:Hp)(x:V)(v:Value)(Q:VK),Inv X U σ H s->RelV x v->r x H Q->
  wpAny (model X.prog X.w) X.A (f v) (EP X U σ Q) X.xe s
def Wv(X:Cx)(f:Value)(r:List V->Hp->VK->Prop):Prop:=
 ∀(U:List (Addr × Obj))(s:Shared)(σ:St)(H:Hp)(xs:List V)(us:List Value)(Q:VK),Inv X U σ H s->Vals xs us->r xs H Q->
  wpAny (model X.prog X.w) X.A (call f us) (EP X U σ Q) X.xe s
def My(X:Cx)(r:V->Hp->(Bool->Hp->Prop)->Prop):Prop:=
 ∀(U:List (Addr × Obj))(s:Shared)(σ:St)(H:Hp)(x:V)(v:Value)(Q:Bool->Hp->Prop),Inv X U σ H s->RelV x v->r x H Q->
  wpAny (model X.prog X.w) X.A (truthy v) (TP X U σ Q) X.xe s
def bc(r:R2)(ta tb:TE):TE:=λσ H Q=>ta σ H λx H1=>tb σ H1 λy H2=>r x y H2 Q
def Mz(r:V->Hp->VK->Prop)(ta:TE):TE:=λσ H Q=>ta σ H λx H1=>r x H1 Q
def rI(C:Int->Int->Prop)(g:Int->Int->V):R2:=λx y H Q=>∃i j,x=.int i/\y=.int j/\C i j/\Q (g i j) H
def oP(g:Int->Int->V):R2:=λx y H Q=>∃i j,x=.int i/\y=.int j/\Q (g i j) H
def rU(g:Int->V):V->Hp->VK->Prop:=λx H Q=>∃i,x=.int i/\Q (g i) H
section
variable {pos:Pos}
theorem Ey(ha:PE X a ta)(hb:PE X b tb){U:List (Addr × Obj)}{s:Shared}{σ:St}{H:Hp}{R:V->V->Hp->Prop}(I:Inv X U σ H s)
  (h:ta σ H λx H1=>tb σ H1 λy H2=>R x y H2) {Q:Value->Shared->Prop} {f:Value->Value->Sem Value}
  (hf:∀v u s2 x y H2,Inv X U σ H2 s2->RelV x v->RelV y u->R x y H2->wpAny (model X.prog X.w) X.A (f v u) Q X.xe s2):
  wpAny (model X.prog X.w) X.A (eval a X.env) (λv s₁=>wpAny (model X.prog X.w) X.A (eval b X.env) (λu s₂=>wpAny (model X.prog X.w) X.A (f v u) Q X.xe s₂) X.xe s₁) X.xe s:=by
 refine av (ha U s σ H _ I h) λv s1⟨x,H1,I1,r1,q1⟩=>?_;refine av (hb U s1 σ H1 _ I1 q1) λu s2⟨y,H2,I2,r2,q2⟩=>?_;exact hf v u s2 x y H2 I2 r1 r2 q2
theorem QI{op:Operator}(ho:aW X (binaryOp op) r)(ha:PE X a ta)(hb:PE X b tb):PE X (.BinOp a op b pos) (bc r ta tb):=by
 intro U s σ H Q I h;exact wpAny_BinOp (Ey ha hb I h λv u s2 x y H2 I2 rx ry q=>ho U s2 σ H2 x y v u Q I2 rx ry q)
theorem KK{op:UnaryOp}(ho:Ex X (unaryOp op) r)(ha:PE X a ta):PE X (.UnaryOp op a pos) (Mz r ta):=by
 intro U s σ H Q I h;exact UnaryOp_ (av (ha U s σ H _ I h) λv s1⟨x,H1,I1,r1,q1⟩=>ho U s1 σ H1 x v Q I1 r1 q1)
theorem Al{g:Int->Int->Int}
  (rule:∀(i j:Int)(t u:Tok)(s:Shared)(Q:Value->Shared->Prop)(E:Value->Shared->Prop),C i j->Q (.int (g i j) s.toks) {s with toks:=s.toks+1}->wpAny (model X.prog X.w) X.A (f (.int i t) (.int j u)) Q E s):
  aW X f (rI C λi j=>.int (g i j)):=by
 intro U s σ H x y v u Q I rx ry h;obtain⟨i,j,rfl,rfl,hc,q⟩:=h;obtain⟨t,rfl⟩:=rx;obtain⟨t',rfl⟩:=ry;exact rule i j t t' s _ _ hc ⟨.int (g i j),H,I.tok _,⟨_,Z⟩,q⟩
theorem HL{g:Int->Int->Int}
  (rule:∀(i j:Int)(t u:Tok)(s:Shared)(Q:Value->Shared->Prop)(E:Value->Shared->Prop),Q (.int (g i j) s.toks) {s with toks:=s.toks+1}->wpAny (model X.prog X.w) X.A (f (.int i t) (.int j u)) Q E s):
  aW X f (oP λi j=>.int (g i j)):=by
 intro U s σ H x y v u Q I rx ry h;obtain⟨i,j,rfl,rfl,q⟩:=h;obtain⟨t,rfl⟩:=rx;obtain⟨t',rfl⟩:=ry;exact rule i j t t' s _ _ ⟨.int (g i j),H,I.tok _,⟨_,Z⟩,q⟩
theorem Ez{g:Int->Int->Bool}
  (rule:∀(i j:Int)(t u:Tok)(s:Shared)(Q:Value->Shared->Prop)(E:Value->Shared->Prop),Q (.bool (g i j)) s->wpAny (model X.prog X.w) X.A (f (.int i t) (.int j u)) Q E s):
  aW X f (oP λi j=>.bl (g i j)):=by
 intro U s σ H x y v u Q I rx ry h;obtain⟨i,j,rfl,rfl,q⟩:=h;obtain⟨t,rfl⟩:=rx;obtain⟨t',rfl⟩:=ry;exact rule i j t t' s _ _ ⟨.bl (g i j),H,I,Z,q⟩
def HM(i j:Int):Prop:=0<j/\j<1073741824
def MA(i j:Int):Prop:=0<=j/\j<=1000000/\i.natAbs<2^64
def EA(i j:Int):Prop:=(-(2^64)<i/\i<2^64)\/(-(2^64)<j/\j<2^64)
theorem EA.ok(h:EA i j):IntMulOk i j:=by
 rcases h with⟨h1,h2⟩|⟨h1,h2⟩
 .exact .of_left (intBits_le_64 h1 h2)
 .exact .of_right (intBits_le_64 h1 h2)
theorem JK:aW X (binaryOp .Add) (oP λi j=>.int (i+j)):=HL λ_ _ _ _ _ _ _ q=>add_int q
theorem Zr:aW X (binaryOp .Sub) (oP λi j=>.int (i-j)):=HL λ_ _ _ _ _ _ _ q=>sub_int q
theorem jz:aW X (binaryOp .Mult) (rI EA λi j=>.int (i*j)):=Al λ_ _ _ _ _ _ _ hc q=>mul_int q hc.ok
theorem qB:aW X (binaryOp .FloorDiv) (rI HM λi j=>.int (i/j)):=Al λi j _ _ _ _ _ hc q=>by
 have h1:(0:Int)<j:=hc.1;have h2:j<1073741824:=hc.2;exact floordiv_int (by lia) (by rw[ycm i (by lia)];exact q) (.inl (ycN (by lia)))
theorem Vp:aW X (binaryOp .Mod) (rI (λ_ j=>0<j) λi j=>.int (i % j)):=Al λi j _ _ _ _ _ hc q=>by
 have h1:(0:Int)<j:=hc;exact mod_int' (by lia) (by rw[ydu i (by lia)];exact q)
theorem yV:aW X (binaryOp .Pow) (rI MA λi j=>.int (i^j.toNat)):=Al λ_ _ _ _ _ _ _ hc q=>pow_int_small hc.1 hc.2.1 hc.2.2 q
theorem MB{g:Int->Int}
  (rule:∀(i:Int)(t:Tok)(s:Shared)(Q:Value->Shared->Prop)(E:Value->Shared->Prop),Q (.int (g i) s.toks) {s with toks:=s.toks+1}->wpAny (model X.prog X.w) X.A (f (.int i t)) Q E s):
  Ex X f (rU λi=>.int (g i)):=by
 intro U s σ H x v Q I rx h;obtain⟨i,rfl,q⟩:=h;obtain⟨t,rfl⟩:=rx;exact rule i t s _ _ ⟨.int (g i),H,I.tok _,⟨_,Z⟩,q⟩
theorem Z0:Ex X (unaryOp .USub) (rU λi=>.int (-i)):=MB λ_ _ _ _ _ q=>neg_int q
end
noncomputable def HN:V->V->Bool
 | .ax,.ax=>true| .ax,.int _=>true| .int _,.ax=>true| .ax,.bl _=>true| .bl _,.ax=>true| .ax,.str _=>true| .str _,.ax=>true
 | .int _,.int _=>true| .bl _,.bl _=>true| .str _,.str _=>true| .cM _,.cM _=>true
 | .int _,.str _=>true| .str _,.int _=>true| .bl _,.str _=>true| .str _,.bl _=>true
 |_,_=>false
def EB:R2:=λx y H Q=>HN x y=true/\Q (.bl (decide (x=y))) H
def MC:R2:=λx y H Q=>HN x y=true/\Q (.bl (!decide (x=y))) H
theorem xA:decide (V.int i=V.int j)=(i==j):=by
 rw[yca];simp
theorem yW:decide (V.bl i=V.bl j)=(i==j):=by
 rw[yca];simp
theorem XZ:decide (V.str i=V.str j)=(i==j):=by
 rw[yca];simp
theorem xB:decide (V.cM i=V.cM j)=(i.toList==j.toList):=by
 rw[yca];cases i;cases j;simp
section
variable {pos:Pos}
theorem Jx{U:List (Addr × Obj)}{σ:St}{k k':Bool}(I:Inv X U σ H s)(q:Q (.bl k) H)(e:k=k'):EP X U σ Q (.bool k') s:=by
 subst e;exact⟨.bl k,H,I,Z,q⟩
theorem Ja:aW X (compareOp .Eq) EB:=by
 intro U s σ H x y v u Q I rx ry h;obtain⟨hs,q⟩:=h;cases x with
 |ax=>
  cases rx;cases y with
  |ax=>cases ry;exact PySem.EqNone.eq_none_none (Jx I q (by simp))
  |bl j=>cases ry;exact PySem.EqNone.eq_none_bool (Jx I q (by simp))
  |int j=>obtain⟨t',rfl⟩:=ry;exact PySem.EqNone.eq_none_int (Jx I q (by simp))
  |str j=>obtain⟨t',rfl⟩:=ry;exact PySem.EqNone.eq_none_str (Jx I q (by simp))
  |_=>exact absurd (show false=true from hs) yar
 |bl i=>
  cases rx;cases y with
  |ax=>cases ry;exact PySem.EqNone.eq_bool_none (Jx I q (by simp))
  |bl j=>cases ry;exact eq_bool (Jx I q yW)
  |str j=>obtain⟨t',rfl⟩:=ry;exact PySem.EqMixed.eq_bool_str (Jx I q (by simp))
  |_=>exact absurd (show false=true from hs) yar
 |int i=>
  obtain⟨t,rfl⟩:=rx;cases y with
  |ax=>cases ry;exact PySem.EqNone.eq_int_none (Jx I q (by simp))
  |int j=>obtain⟨t',rfl⟩:=ry;exact eq_int (Jx I q xA)
  |str j=>obtain⟨t',rfl⟩:=ry;exact PySem.EqMixed.eq_int_str (Jx I q (by simp))
  |_=>exact absurd (show false=true from hs) yar
 |str i=>
  obtain⟨t,rfl⟩:=rx;cases y with
  |ax=>cases ry;exact PySem.EqNone.eq_str_none (Jx I q (by simp))
  |bl j=>cases ry;exact PySem.EqMixed.eq_str_bool (Jx I q (by simp))
  |int j=>obtain⟨t',rfl⟩:=ry;exact PySem.EqMixed.eq_str_int (Jx I q (by simp))
  |str j=>obtain⟨t',rfl⟩:=ry;exact eq_str (Jx I q XZ)
  |_=>exact absurd (show false=true from hs) yar
 |cM i=>
  obtain⟨t,rfl⟩:=rx;cases y with
  |cM j=>obtain⟨t',rfl⟩:=ry;exact eq_bytes (Jx I q xB)
  |_=>exact absurd (show false=true from hs) yar
 |_=>cases y<;>exact absurd (show false=true from hs) yar
theorem Xd:aW X (compareOp .NotEq) MC:=by
 intro U s σ H x y v u Q I rx ry h;obtain⟨hs,q⟩:=h;cases x with
 |ax=>
  cases rx;cases y with
  |ax=>cases ry;exact PySem.EqNone.ne_none_none (Jx I q (by simp))
  |bl j=>cases ry;exact PySem.EqNone.ne_none_bool (Jx I q (by simp))
  |int j=>obtain⟨t',rfl⟩:=ry;exact PySem.EqNone.ne_none_int (Jx I q (by simp))
  |str j=>obtain⟨t',rfl⟩:=ry;exact PySem.EqNone.ne_none_str (Jx I q (by simp))
  |_=>exact absurd (show false=true from hs) yar
 |bl i=>
  cases rx;cases y with
  |ax=>cases ry;exact PySem.EqNone.ne_bool_none (Jx I q (by simp))
  |bl j=>cases ry;exact ne_bool (Jx I q (yaI not yW))
  |str j=>obtain⟨t',rfl⟩:=ry;exact PySem.EqMixed.ne_bool_str (Jx I q (by simp))
  |_=>exact absurd (show false=true from hs) yar
 |int i=>
  obtain⟨t,rfl⟩:=rx;cases y with
  |ax=>cases ry;exact PySem.EqNone.ne_int_none (Jx I q (by simp))
  |int j=>obtain⟨t',rfl⟩:=ry;exact ne_int (Jx I q (yaI not xA))
  |str j=>obtain⟨t',rfl⟩:=ry;exact PySem.EqMixed.ne_int_str (Jx I q (by simp))
  |_=>exact absurd (show false=true from hs) yar
 |str i=>
  obtain⟨t,rfl⟩:=rx;cases y with
  |ax=>cases ry;exact PySem.EqNone.ne_str_none (Jx I q (by simp))
  |bl j=>cases ry;exact PySem.EqMixed.ne_str_bool (Jx I q (by simp))
  |int j=>obtain⟨t',rfl⟩:=ry;exact PySem.EqMixed.ne_str_int (Jx I q (by simp))
  |str j=>obtain⟨t',rfl⟩:=ry;exact ne_str (Jx I q (yaI not XZ))
  |_=>exact absurd (show false=true from hs) yar
 |cM i=>
  obtain⟨t,rfl⟩:=rx;cases y with
  |cM j=>obtain⟨t',rfl⟩:=ry;exact ne_bytes (Jx I q (yaI not xB))
  |_=>exact absurd (show false=true from hs) yar
 |_=>cases y<;>exact absurd (show false=true from hs) yar
theorem K9:aW X (compareOp .Lt) (oP λi j=>.bl (decide (i<j))):=Ez λ_ _ _ _ _ _ _ q=>lt_int q
theorem Wa:aW X (compareOp .Gt) (oP λi j=>.bl (decide (j<i))):=Ez λ_ _ _ _ _ _ _ q=>gt_int q
theorem zw:aW X (compareOp .GtE) (oP λi j=>.bl (decide (j<=i))):=Ez λ_ _ _ _ _ _ _ q=>ge_int q
theorem Jo:aW X (compareOp .In) (λx y H Q=>∃i j,x=.str i/\y=.str j/\Q (.bl (!(Builtin.Str.occurrences j i 0 j.length 1).isEmpty)) H):=by
 intro U s σ H x y v u Q I rx ry h;obtain⟨i,j,rfl,rfl,q⟩:=h;obtain⟨t,rfl⟩:=rx;obtain⟨t',rfl⟩:=ry;exact in_str (Jx I q Z)
theorem Jp:aW X (compareOp .NotIn) (λx y H Q=>∃i j,x=.str i/\y=.str j/\Q (.bl (!(!(Builtin.Str.occurrences j i 0 j.length 1).isEmpty))) H):=by
 intro U s σ H x y v u Q I rx ry h;obtain⟨i,j,rfl,rfl,q⟩:=h;obtain⟨t,rfl⟩:=rx;obtain⟨t',rfl⟩:=ry;exact notIn_str (Jx I q Z)
theorem Qn(b:Expr){op:CmpOp}(h:op≠ .In:=by lia)(h2:op≠ .NotIn:=by lia):behindInMarks op b=false:=by
 have e1:(op==CmpOp.In)=false:=by cases op<;>first|rfl|exact absurd rfl h
 have e2:(op==CmpOp.NotIn)=false:=by cases op<;>first|rfl|exact absurd rfl h2
 cases b<;>simp[behindInMarks,e1,e2]
theorem J0{op:CmpOp}(ho:aW X (compareOp op) r)(ha:PE X a ta)(hb:PE X b tb)(hm:behindInMarks op b=false):PE X (.Compare a [op] [b] pos) (bc r ta tb):=by
 intro U s σ H Q I h;exact wpAny_Compare1 (Ey ha hb I h λv u s2 x y H2 I2 rx ry q=>ho U s2 σ H2 x y v u Q I2 rx ry q) hm
def Wb(t:TE):TT:=λσ H Q=>t σ H λx H'=>∃k,x=.bl k/\Q k H'
theorem Ql{op:CmpOp}(ho:aW X (compareOp op) r)(ha:PE X a ta)(hb:PE X b tb)(hm:behindInMarks op b=false):PT X (.Compare a [op] [b] pos) (Wb (bc r ta tb)):=by
 intro U s σ H Q I h;refine wpAny_isTrue_Compare1 (av (ha U s σ H _ I h) λv s1⟨x,H1,I1,r1,q1⟩=>av (hb U s1 σ H1 _ I1 q1) λu s2⟨y,H2,I2,r2,q2⟩=>
  av (ho U s2 σ H2 x y v u _ I2 r1 r2 q2) λc s3⟨z,H3,I3,r3,k,e,q3⟩=>?_) hm
 subst e;cases r3;exact ybt ⟨H3,I3,q3⟩
def jA(r r':R2)(ta tb tc:TE):TE:=λσ H Q=>ta σ H λx H1=>tb σ H1 λy H2=>r x y H2 λz H3=>∃k,z=.bl k/\
 (if k=true then tc σ H3 λw' H4=>r' y w' H4 Q else Q (.bl false) H3)
theorem jB{op EC:CmpOp}(ho:aW X (compareOp op) r)(ic:aW X (compareOp EC) r')(ha:PE X a ta)(hb:PE X b tb)(hc:PE X c tc)
  (hm:lastMarks [op,EC] [b,c]=false:=by with_unfolding_all rfl):PT X (.Compare a [op,EC] [b,c] pos) (Wb (jA r r' ta tb tc)):=by
 intro U s σ H Q I h;refine isTrue_chain (av (ha U s σ H _ I h) λv s1⟨x,H1,I1,r1,q1⟩=>test_link (av (hb U s1 σ H1 _ I1 q1) λu s2⟨y,H2,I2,r2,q2⟩=>
  av (ho U s2 σ H2 x y v u _ I2 r1 r2 q2) λd s3⟨z,H3,I3,r3,k,e,q3⟩=>?_)) hm
 subst e;cases r3;refine ybt ?_;cases k with
 |false=>
  obtain⟨k',e',q'⟩:=q3;cases e';exact ite_ff ⟨H3,I3,q'⟩
 |true=>
  refine ite_tt (test_last (av (hc U s3 σ H3 _ I3 q3) λw' s4⟨z',H4,I4,r4,q4⟩=>av (ic U s4 σ H4 y z' u w' _ I4 r2 r4 q4) λd' s5⟨z2,H5,I5,r5,k2,e2,q5⟩=>?_));subst e2;cases r5;exact ybt ⟨H5,I5,q5⟩
def Du(K:Frag)(x:V)(H:Hp)(k:Bool):Prop:=
 match x with
 | .ax=>k=false
 | .bl b=>k=b
 | .int i=>k=(i !=0)
 | .str y=>y.length<=sizeLine/\k=((y.length:Int) !=0)
 | .cM y=>y.size<=sizeLine/\k=((y.size:Int) !=0)
 | .ref p=>(∃xs,az K H p xs/\k= !xs.isEmpty)\/(∃xs,aj K H p xs/\k= !xs.isEmpty)\/∃al,H p=some (.dK al)/\k= !al.isEmpty
 |_=>False
theorem zx{al:List (κ × V)}(r:KV al vs):(!vs.isEmpty)= !al.isEmpty:=by
 cases r<;>rfl
theorem Yq{xs:List V}{ap:List Value}(r:Vals xs ap):(!ap.toArray.isEmpty)= !xs.isEmpty:=by
 cases r<;>simp
theorem Wc:(sizeLine:Nat)<2^63:=by rw[yeu];lia
theorem MD:My X (λx H Q=>∃k,Du X.K x H k/\Q k H):=by
 intro U s σ H x v Q I rx h;obtain⟨k,e,q⟩:=h;have hl:=Wc;have hs:sizeLine=16777216:=yeu;cases x with
 |ax=>
  cases rx;have e':k=false:=e;subst e';exact truthy_none ⟨H,I,q⟩
 |bl b=>
  cases rx;have e':k=b:=e;subst e';exact ybt ⟨H,I,q⟩
 |int i=>
  obtain⟨t,rfl⟩:=rx;have e':k=(i !=0):=e;subst e';exact PySem.P.truthy_int ⟨H,I,q⟩
 |str y=>
  obtain⟨t,rfl⟩:=rx;obtain⟨hy,e'⟩:y.length<=sizeLine/\k=((y.length:Int) !=0):=e;subst e';exact PySem.P.truthy_str (by lia) ⟨H,I.tok _,q⟩
 |cM y=>
  obtain⟨t,rfl⟩:=rx;obtain⟨hy,e'⟩:y.size<=sizeLine/\k=((y.size:Int) !=0):=e;subst e';exact truthy_bytes (by lia) ⟨H,I.tok _,q⟩
 |ref p=>
  cases rx;have e':(∃xs,az X.K H p xs/\k= !xs.isEmpty)\/(∃xs,aj X.K H p xs/\k= !xs.isEmpty)\/∃al,H p=some (.dK al)/\k= !al.isEmpty:=e;rcases e' with⟨xs,hx,e'⟩|⟨xs,hx,e'⟩|⟨al,hx,e'⟩
  .subst e';obtain⟨ap,r,pl,hz⟩:=I.list hx;have hlen:=r.length;exact wpAny_truthy_list pl.isList (by simp only[lW];lia) ⟨H,I.tok _,by rw[Yq r];exact q⟩
  .subst e';obtain⟨ap,r,pl,hz⟩:=I.tuple hx;have hlen:=r.length;exact truthy_tuple pl (by simp only[lW];lia) ⟨H,I.tok _,by rw[Yq r];exact q⟩
  .subst e';obtain⟨hz,hS,vs,r,m⟩:al.length<=sizeLine/\(p==sysModules)=false/\∃vs,KV al vs/\s.heap.DictOf (JA X.prog X.w) p vs:=I.ai p _ hx;have hlen:al.length=vs.length:=ydN r;exact wpAny_truthy_dict hS m (by lia) ⟨H,I.tok _,by rw[zx r];exact q⟩
 |_=>exact(show False from e).elim
theorem Je(ha:PE X a ta)(he:∀whole,isTrue a X.env whole=(do let v<-whole;standAt a.pos;holding [v] (truthy v))):
  PT X a (λσ H Q=>ta σ H λx H'=>∃k,Du X.K x H' k/\Q k H'):=by
 intro U s σ H Q I h;exact isTrue_plain (av (ha U s σ H _ I h) λv s1⟨x,H1,I1,r1,q1⟩=>MD U s1 σ H1 x v Q I1 r1 q1) (he _)
theorem Qo:aW X (binaryOp .Add) (λx y H Q=>∃i j,x=.str i/\y=.str j/\i.length+j.length<=sizeLine/\Q (.str (i++j)) H):=by
 intro U s σ H x y v u Q I rx ry h;obtain⟨i,j,rfl,rfl,hz,q⟩:=h;obtain⟨t,rfl⟩:=rx;obtain⟨t',rfl⟩:=ry;exact add_str (λt' tk=>⟨.str (i++j),H,I.tok _,⟨_,Z⟩,q⟩) hz
theorem vals1{us:List Value}(r:Vals [x] us):∃u,us=[u]/\RelV x u:=by
 cases r with
 |cons r1 r2=>cases r2;exact⟨_,Z,r1⟩
theorem vals2{us:List Value}(r:Vals [x,y] us):∃u w',us=[u,w']/\RelV x u/\RelV y w':=by
 cases r with
 |cons r1 r2=>
  cases r2 with
  |cons r3 r4=>cases r4;exact⟨_,_,Z,r1,r3⟩
theorem ZU:Wv X (.builtin "abs") (λxs H Q=>∃i,xs=[.int i]/\Q (.int (if i<0 then-i else i)) H):=by
 intro U s σ H xs us Q I r h;obtain⟨i,rfl,q⟩:=h;obtain⟨u,rfl,t,rfl⟩:=vals1 r;exact call_abs_int λu tk=>⟨.int (if i<0 then-i else i),H,I.tok _,⟨_,Z⟩,q⟩
theorem Uz(hc:X.calm=true):Wv X (.builtin "max") (λxs H Q=>∃i j,xs=[.int i,.int j]/\Q (.int (if j>i then j else i)) H):=by
 intro U s σ H xs us Q I r h;obtain⟨i,j,rfl,q⟩:=h;obtain⟨u,w',rfl,⟨t,rfl⟩,⟨t',rfl⟩⟩:=vals2 r;refine max_two_ints (I.ok.hd hc) λh' tk k=>⟨_,H,I.kept k,?_,q⟩
 by_cases hj:j>i
 .rw[yaf hj,yaf hj];exact⟨_,Z⟩
 .rw[yac hj,yac hj];exact⟨_,Z⟩
theorem Zm:Wv X (.type "str") (λxs H Q=>∃i,xs=[.int i]/\i.natAbs.log2<1920/\Q (.str (toString i)) H):=by
 intro U s σ H xs us Q I r h;obtain⟨i,rfl,hz,q⟩:=h;obtain⟨u,rfl,t,rfl⟩:=vals1 r;exact PySem.P.str_of_int hz ⟨.str _,H,I.tok _,⟨_,Z⟩,q⟩
theorem qC:Wv X (.builtin "divmod") (λxs H Q=>∃i j,xs=[.int i,.int j]/\HM i j/\∀p,H p=none->Q (.ref p) (upd H p (.tup [.int (i/j),.int (i % j)]))):=by
 intro U s σ H xs us Q I r h;obtain⟨i,j,rfl,⟨h1,h2⟩,q⟩:=h;obtain⟨u,w',rfl,⟨t,rfl⟩,⟨t',rfl⟩⟩:=vals2 r;refine divmod_int (by lia) ?_ (.inl (ycN (by lia)));rw[ycm i (by lia),ydu i (by lia)];have hn:H s.heap.objs.size=none:=I.ai.fresh (lA _);refine⟨.ref s.heap.objs.size,_,?_,Z,q _ hn⟩;refine I.laid (λb o e=>yaa _ e) (lA _) ⟨by simp only[lD,ybj];rw[yeu];lia,[.int (i/j) s.toks,.int (i % j) (s.toks+1)],.cons ⟨_,Z⟩ (.cons ⟨_,Z⟩ .nil),?_⟩;exact⟨_,yam s.heap rfl,Z,0,Z,Z⟩
end
structure oQ(h:Heap)(x dx C:Addr)(mA:Str->Option Value):Prop where
 obj:h.get? x=some (instObj C dx)
 ns:h.Ns1 dx mA
 ne:dx≠x
theorem xC{h:Heap}(n:h.Ns1 dx mA):∃od,h.get? dx=some od/\∀name,lookIn name od=some (mA name):=by
 obtain⟨o,es,ep,ho,hd,hk,_,hm⟩:=n;refine⟨o,ho,λname=>?_⟩;have e:=hm name;unfold nsFind findBy at e;rw[<-Array.find?_toList]at e;unfold lookIn;rw[hd];dsimp only
 split
 .rename_i y q;rw[q]at e;exact yaI some e
 .rename_i q;rw[q]at e;have a:es.toList.any (·.refKey)=false:=by
   rw[ybJ];intro y hy;obtain⟨z,t,ED⟩:=hk y (yeo.mp hy);simp[DictEntry.refKey,ED]
  have a':¬ es.toList.any (·.refKey)=true:=by rw[a];exact yar
  rw[yac a'];exact yaI some e
theorem oQ.look(I:oQ h x dx C mA):∃od,PySem.W.InstAt h x (instObj C dx) C (some od)/\∀name,lookIn name od=some (mA name):=
 let ⟨od,ho,hl⟩:=xC I.ns
 ⟨od,⟨I.obj,Z,Z,ho⟩,hl⟩
theorem jx.some_of(r:jx (some v) o):∃u,o=some u/\RelV v u:=by
 cases o with
 |none=>exact(show False from r).elim
 |some u=>exact⟨u,Z,r⟩
section
variable {fs:List (Str × V)}
theorem ME(ai:aZ P w H h)(e:H a=some (.ins C dx fs)):∃mA,oQ h a dx C mA/\(∀f,jx (fs.lookup f) (mA f))/\PySem.Within mA (fs.map (·.1))/\fs.length<=1000/\H dx=some (.own a):=by
 obtain⟨d,z,ne,ob,mA,n,r,q⟩:=(show J3 P w H h a (.ins C dx fs)from ai a _ e);exact⟨mA,⟨ob,n,ne⟩,r,q,z,d⟩
end
structure EE(K:Frag)(C:Addr):Prop where
 pg:plainGet K C Str.empty=true
 hd:hasDictIn K C=true
 po:plainOver K C=true
 sa:findIn K (.ref C) "__setattr__"=some (some (.builtin "object.__setattr__"))
theorem EE.get{K:Frag}(c:EE K C)(f:Str):plainGet K C f=true:=c.pg
section
variable {X:Cx}{U:List (Addr × Obj)}{σ:St}{H:Hp}{s:Shared}{A:Around}{E:Value->Shared->Prop}{Q:Value->Shared->Prop}{c:Value}{b:Bool}
inductive bw (K:Frag) (H:Hp):V->Value->Prop where
 |ax:bw K H .ax (.type "NoneType")
 |bl (x:Bool):bw K H (.bl x) (.type "bool")
 |int (i:Int):bw K H (.int i) (.type "int")
 |str (x:Str):bw K H (.str x) (.type "str")
 |oM (x:UInt64):bw K H (.oM x) (.type "float")
 |lst {a:Addr} {xs:List V} (e:H a=some (.lst xs)):bw K H (.ref a) (.type "list")
 |bR {a:Addr} {o:Obj} {xs:List V} (e:H a=some (.bR o (.lst xs))):bw K H (.ref a) (.type "list")
 |tup {a:Addr} {xs:List V} (e:H a=some (.tup xs)):bw K H (.ref a) (.type "tuple")
 |dK {a:Addr} {al:List (Key × V)} (e:H a=some (.dK al)):bw K H (.ref a) (.type "dict")
 |dT {a:Addr} {al:List (List Key × V)} (e:H a=some (.dT al)):bw K H (.ref a) (.type "dict")
 |ins {a C dx:Addr} {fs:List (Str × V)} (e:H a=some (.ins C dx fs)) (cl:EE K C) (ha:findIn K (.ref C) "__class__"=some (some (.builtin "object.__class__")))
   (hn:specialIn K (.builtin "object.__class__") "__get__"=some (some (.builtin "getset_descriptor.__get__"))) (ss:takesIn K (.builtin "object.__class__")=some true)
   (hm:mroIn K C (.type "object")=some true):bw K H (.ref a) (.ref C)
theorem xD(I:Inv X U σ H s)(rx:RelV x u)(ty:bw X.K H x t)(e:kitOne X.K t c=some b)(h:∀tk,Q (.bool b) {s with toks:=tk}):
  wpAny (model X.prog X.w) A (call (.builtin "isinstance") [u,c]) Q E s:=by
 cases ty with
 |ax=>cases(show u=Value.none from rx);exact ydm kitx_none I.bz True.intro e (λz=>nomatch z) h
 |bl y=>cases(show u=Value.bool y from rx);exact ydm kitx_bool I.bz True.intro e (λz=>nomatch z) h
 |int i=>obtain⟨t,q⟩:=(show ∃t,u=Value.int i t from rx);cases q;exact ydm kitx_int I.bz True.intro e (λz=>nomatch z) h
 |str y=>obtain⟨t,q⟩:=(show ∃t,u=Value.str y t from rx);cases q;exact ydm kitx_str I.bz True.intro e (λz=>nomatch z) h
 |oM y=>obtain⟨t,q⟩:=(show ∃t,u=Value.float y t from rx);cases q;exact ydm kitx_float I.bz True.intro e (λz=>nomatch z) h
 |@lst a xs ea=>
  cases(show u=Value.ref a from rx);obtain⟨_,_,n,_,h1⟩:=(show J3 X.prog X.w H s.heap a (.lst xs)from I.ai a _ ea);exact ydm kitx_list I.bz ⟨_,h1,Z⟩ e (λz=>nomatch z) h
 |@bR a ob xs ea=>
  cases(show u=Value.ref a from rx);obtain⟨_,_,_,n,_,h1⟩:=(show J3 X.prog X.w H s.heap a (.bR ob (.lst xs))from I.ai a _ ea);exact ydm kitx_list I.bz ⟨_,h1,Z⟩ e (λz=>nomatch z) h
 |@tup a xs ea=>
  cases(show u=Value.ref a from rx);obtain⟨_,_,_,p⟩:=(show J3 X.prog X.w H s.heap a (.tup xs)from I.ai a _ ea);obtain⟨o,h1,h2,_⟩:=p;exact ydm kitx_tuple I.bz ⟨o,h1,h2⟩ e (λz=>nomatch z) h
 |@dK a al ea=>
  cases(show u=Value.ref a from rx);obtain⟨_,_,vs,_,p⟩:=(show J3 X.prog X.w H s.heap a (.dK al)from I.ai a _ ea);obtain⟨o,es,ep,h1,h2,_⟩:=p;exact ydm kitx_dict I.bz ⟨o,h1,h2.1⟩ e (λz=>nomatch z) h
 |@dT a al ea=>
  cases(show u=Value.ref a from rx);obtain⟨_,_,xs,_,o,es,ep,h1,h2,_⟩:=(show J3 X.prog X.w H s.heap a (.dT al)from I.ai a _ ea);exact ydm kitx_dict I.bz ⟨o,h1,h2.1⟩ e (λz=>nomatch z) h
 |@ins a C dx fs ea cl ha hn ss hm=>
  cases(show u=Value.ref a from rx);obtain⟨mA,O,_⟩:=ME I.ai ea;obtain⟨od,J,_⟩:=O.look;exact ydm (kitx_own (cl.get _) cl.hd ha hn ss hm) I.bz J e (λz=>nomatch z) h
end
structure aq(k:Nat)(A:Around):Prop where
 hd:A.handled=none
 dp:A.depth+3*k+5<recursionLimit
 un:A.units+16*k+200<cLine
theorem aq.mono(r:aq k A)(h:j<=k):aq j A:=⟨r.hd,by have:=r.dp;lia,by have:=r.un;lia⟩
theorem aq.deeper(r:aq (k+1) A)(env:Env):aq k (A.deeper env):=
 ⟨r.hd,by have:=r.dp;show A.depth+1+3*k+5<_;lia,by have:=r.un;show A.units+3+16*k+200<_;lia⟩
theorem aq.depth(r:aq k A):A.depth<recursionLimit:=by have:=r.dp;lia
theorem aq.units(r:aq k A):A.units+64<cLine:=by have:=r.un;lia
def Ww:TA:=λ_ H Q=>Q [] H
def Jy(ta:TE)(tr:TA):TA:=λσ H Q=>ta σ H λx H1=>tr σ H1 λxs H2=>Q (x::xs) H2
section
variable {pos:Pos}
theorem Qb:PA X [] Ww:=λ_ _ _ _ H Q I h=>ycg ⟨[],H,I,.nil,h⟩
theorem Qa(ha:PE X e te)(hr:PA X es t)(hs:starEach (e::es) X.env=(false,eval e X.env)::starEach es X.env:=by rfl):PA X (e::es) (Jy te t):=by
 intro pos U s σ H Q I h;rw[hs];show wpAny _ _ (spliced ((false,eval e X.env)::backTo pos (starEach es X.env))) _ _ s;refine ybz (av (ha U s σ H _ I h) λu s1⟨x,H1,I1,r1,q1⟩=>?_);exact av (hr pos U s1 σ H1 _ I1 q1) λus s2⟨xs,H2,I2,r2,q2⟩=>⟨x::xs,H2,I2,.cons r1 r2,q2⟩
def Bb(t:TA):TE:=λσ H Q=>t σ H λxs H1=>xs.length<=sizeLine/\∀p,H1 p=none->Q (.ref p) (upd H1 p (.tup xs))
def Dv(t:TA):TE:=λσ H Q=>t σ H λxs H1=>xs.length<=sizeLine/\∀p,H1 p=none->Q (.ref p) (upd H1 p (.lst xs))
theorem Jf{x1}(h:PA X es t):PE X (.Tuple es x1 pos) (Bb t):=by
 intro U s σ H Q I hq;refine wpAny_Tuple_spliced (av (h pos U s σ H _ I hq) λus s1⟨xs,H1,I1,r,z,q⟩=>⟨by rw[<-r.length];exact z,?_⟩);have hf:H1 s1.heap.objs.size=none:=I1.ai.fresh (lA _);refine⟨.ref s1.heap.objs.size,upd H1 s1.heap.objs.size (.tup xs),I1.laid (t':=s1.toks) (λb u e=>yaa _ e) (lA _) ?_,Z,q _ hf⟩;exact⟨z,us,r,⟨_,yam _ rfl,Z,_,Z,Z⟩⟩
theorem ZR(h:PA X es t):PE X (.List es pos) (Dv t):=by
 intro U s σ H Q I hq;refine wpAny_List_spliced (av (h pos U s σ H _ I hq) λus s1⟨xs,H1,I1,r,z,q⟩=>⟨by rw[<-r.length];exact z,?_⟩);have hf:H1 s1.heap.objs.size=none:=I1.ai.fresh (lA _);refine⟨.ref s1.heap.objs.size,upd H1 s1.heap.objs.size (.lst xs),I1.laid (t':=s1.toks) (λb u e=>yaa _ e) (lA _) ?_,Z,q _ hf⟩;exact⟨z,us,0,r,yam _ rfl⟩
end
noncomputable abbrev Sp:=List V->Hp->VK->XK->Prop
noncomputable abbrev dH:=List Env->Hp->Shared->XK->Value->Shared->Prop
structure dW(P:Program)(w:World)(K:Frag)(mg:Str->Option Value)(M:Heap)(A:Around)(L:List Env)(s:Shared)(H:Hp):Prop where
 frames:A.frames=some L
 mod:Mod K mg M
 bs:∀b o,M.get? b=some o->s.heap.get? b=some o/\H b=none
 cN:M.objs.size<=s.heap.objs.size
 qv:s.heap.FunFrames M L
 fM:∀b∈aK L,H b=none
 ai:aZ P w H s.heap
 bare:AllBare s.gens
def CE(L:List Env)(P:Program)(w:World)(H:Hp)(s:Shared)(Q:VK)(u:Value)(s':Shared):Prop:=
 ∃v H',s'.os=s.os/\AllBare s'.gens/\Un (aK L) [] H H' s.heap s'.heap/\aZ P w H' s'.heap/\RelV v u/\Q v H'
def CR(CX:dH)(L:List Env)(P:Program)(w:World)(H:Hp)(s:Shared)(Q:VK)(E:XK)(r:Result)(s':Shared):Prop:=
 match r with
 | .ok (.ret u)=>CE L P w H s Q u s'
 | .ok _=>False
 | .error e=>CX L H s E e s'
structure ag(P:Program)(w:World)(K:Frag)(mg:Str->Option Value)(M:Heap)(CX:dH)(k:Nat)(f:Addr)(fd:FuncData)(ps:List Str)(sp:Sp):Prop where
 len:∀vs H Q E,sp vs H Q E->vs.length=ps.length
 run:∀(A:Around)(L:List Env)(s:Shared)(H:Hp)(args:Args)(us:List Value)(vs:List V)(Q:VK)(E:XK),aq k A->dW P w K mg M A L s H->BindsTo s fd args (ps.zip us)->Vals vs us->sp vs H Q E->
  codeAny (model P w) A (.call (.ref f) args) (CR CX L P w H s Q E) s
section
variable {X:Cx}{U:List (Addr × Obj)}{σ:St}{H:Hp}{s s':Shared}
theorem Inv.Dw(I:Inv X U σ H s):dW X.prog X.w X.K X.mg X.M X.A X.stack s H:=
 ⟨I.ok.frames,I.ok.mod,I.bs,yas I.ok.cN I.sz,I.stack,I.KI,I.ai,I.bare⟩
theorem Inv.after(I:Inv X U σ H s)(h:CE X.stack X.prog X.w H s Q u s'):EP X U σ Q u s':=by
 obtain⟨v,H',os,bare,un,ai,r,q⟩:=h;obtain⟨hh,g,d,t,oR⟩:=s';obtain rfl:oR=s.os:=os;exact⟨v,H',I.call (h':=hh) (g':=g) (d':=d) (t':=t) (ch:=[]) un ai bare (λb z=>absurd z (by simp)),r,q⟩
end
def Wx(sp:Sp)(fR:List V)(E:XK)(t:TA):TE:=λσ H Q=>t σ H λvs H1=>sp (vs++fR) H1 Q E
def Binds(K:Frag)(fd:FuncData)(ps:List Str)(ds:List Value):Prop:=
 ∀(s:Shared)(us:List Value),K.In s.heap->(us++ds).length=ps.length->BindsTo s fd ⟨us,[]⟩ (ps.zip (us++ds))
theorem Binds.all{K:Frag}{fd:FuncData}{ps:List Str}(h:∀us:List Value,us.length=ps.length->bindArgs fd ⟨us,[]⟩=pure (ps.zip us)):Binds K fd ps []:=λs us _ hl=>by
 rw[lS]at hl ⊢;exact .of_eq (h us hl)
def Passes(CX:dH)(X:Cx)(E:XK):Prop:=∀(U:List (Addr × Obj))(σ:St)(H:Hp)(s:Shared)(e:Value)(s':Shared),Inv X U σ H s->CX X.stack H s E e s'->X.xe e s'
section
variable {X:Cx}{CX:dH}{k:Nat}{f:Addr}{fd:FuncData}{ps:List Str}{sp:Sp}{fR:List V}{ds:List Value}{E:XK}{x:Str}{p pos apos:Pos}{e:Expr}{es:List Expr}{t:TA}
theorem yX{U:List (Addr × Obj)}{σ:St}{us:List Value}{vs:List V}(F:ag X.prog X.w X.K X.mg X.M CX k f fd ps sp)(hr:aq k X.A)(hb:Binds X.K fd ps ds)(hd:Vals fR ds)(hx:Passes CX X E)
  (I:Inv X U σ H s) (r:Vals vs us) (h:sp (vs++fR) H Q E):wpAny (model X.prog X.w) X.A (call (.ref f) us) (EP X U σ Q) X.xe s:=by
 have r2:Vals (vs++fR) (us++ds):=r.append hd;have hl:(us++ds).length=ps.length:=by rw[<-r2.length];exact F.len _ _ _ _ h
 refine ydi (ycy (F.run X.A X.stack s H ⟨us,[]⟩ (us++ds) (vs++fR) Q E hr I.Dw (hb s us I.bz hl) r2 h) λr s' hq=>?_);cases r with
 |error e=>exact hx U σ H s e s' I hq
 |ok fl=>
  cases fl with
  |ret u=>exact I.after hq
  |next=>exact False.elim hq
  |brk=>exact False.elim hq
  |cont=>exact False.elim hq
theorem xE(F:ag X.prog X.w X.K X.mg X.M CX k f fd ps sp)(hr:aq k X.A)(hg:Gl X x)(hm:X.mg x=some (.ref f))(hk:keepIn X.K (.ref f)=true)(hb:Binds X.K fd ps ds)(hd:Vals fR ds)(hx:Passes CX X E)
  (ha:PA X (e::es) t) (pr:(x==("__debug__":Str))=false:=by lia) (he:starEach (e::es) X.env=(false,eval e X.env)::starEach es X.env:=by rfl) (mt:(backTo pos (starEach es X.env)).any (·.1)=false:=by rfl):
  PE X (.Call (.Name x p) (e::es) [] pos) (Wx sp fR E t):=by
 intro U s σ H Q I h;refine yaZ (XV I hg hm ?_ pr);refine callWith_K (h₀:=X.M) I.ok.mod.iQ hk (av (ha pos U s σ H _ I h) λus s1⟨vs,H1,I1,r,q⟩=>⟨I1.bz,?_⟩) he mt;exact yX F hr hb hd hx I1 r q
theorem vd(F:ag X.prog X.w X.K X.mg X.M CX k f fd ps sp)(hr:aq k X.A)(hg:Gl X x)(hm:X.mg x=some (.ref f))(hk:keepIn X.K (.ref f)=true)(hb:Binds X.K fd ps ds)(hd:Vals fR ds)(hx:Passes CX X E)
  (pr:(x==("__debug__":Str))=false:=by lia):PE X (.Call (.Name x p) [] [] pos) (Wx sp fR E Ww):=by
 intro U s σ H Q I h;refine yaZ (XV I hg hm ?_ pr);exact callWith_K0 I.bz hk (yX (us:=[]) F hr hb hd hx I .nil h)
end
def PK(X:Cx)(Ty:List Keyword)(t:TA):Prop:=
 ∀(pos:Pos)(U:List (Addr × Obj))(s:Shared)(σ:St)(H:Hp)(Q:List V->Hp->Prop),Inv X U σ H s->t σ H Q->wpAny (model X.prog X.w) X.A (evalAll ((backToKw pos (keywordEach Ty X.env)).map (·.2))) (AP X U σ Q) X.xe s
section
variable {X:Cx}{CX:dH}{k:Nat}{f:Addr}{fd:FuncData}{ps ks:List Str}{sp:Sp}{E:XK}{x:Str}{p pos apos:Pos}{e:Expr}{es:List Expr}{Ty:List Keyword}{t tk:TA}{nm:Option Str}
theorem yY:PK X [] Ww:=λ_ _ _ _ H Q I h=>wpAny_evalAll_nil ⟨[],H,I,.nil,h⟩
theorem YH(ha:PE X e te)(hr:PK X Ty t):PK X (⟨nm,e,EF⟩::Ty) (Jy te t):=by
 intro pos U s σ H Q I h;show wpAny _ _ (evalAll ((do let v<-eval e X.env;standAt pos;pure v)::(backToKw pos (keywordEach Ty X.env)).map (·.2))) _ _ s;refine wpAny_evalAll_cons (yab (av (ha U s σ H _ I h) λu s1⟨x,H1,I1,r1,q1⟩=>yab (ycE (yan ?_))));exact av (hr pos U s1 σ H1 _ I1 q1) λus s2⟨xs,H2,I2,r2,q2⟩=>⟨x::xs,H2,I2,.cons r1 r2,q2⟩
structure cq(K:Frag)(fd:FuncData)(ps ks:List Str)(g:List Value->List Value->List Value)(gV:List V->List V->List V):Prop where
 to:∀(s:Shared)(us ws:List Value),K.In s.heap->(g us ws).length=ps.length->BindsTo s fd ⟨us,ks.zip ws⟩ (ps.zip (g us ws))
 rel:∀{vs:List V}{us:List Value}{zs:List V}{ws:List Value},Vals vs us->Vals zs ws->Vals (gV vs zs) (g us ws)
def jC(sp:Sp)(gV:List V->List V->List V)(E:XK)(t tk:TA):TE:=λσ H Q=>t σ H λvs H1=>tk σ H1 λzs H2=>sp (gV vs zs) H2 Q E
variable {g:List Value->List Value->List Value}{gV:List V->List V->List V}
theorem MF{U:List (Addr × Obj)}{σ:St}{us ws:List Value}{vs zs:List V}(F:ag X.prog X.w X.K X.mg X.M CX k f fd ps sp)(hr:aq k X.A)(hb:cq X.K fd ps ks g gV)(hx:Passes CX X E)
  (I:Inv X U σ H s) (r:Vals vs us) (rz:Vals zs ws) (h:sp (gV vs zs) H Q E):wpAny (model X.prog X.w) X.A (call (.ref f) us (ks.zip ws)) (EP X U σ Q) X.xe s:=by
 have r2:=hb.rel r rz;have hl:(g us ws).length=ps.length:=by rw[<-r2.length];exact F.len _ _ _ _ h
 refine ydi (ycy (F.run X.A X.stack s H ⟨us,ks.zip ws⟩ (g us ws) (gV vs zs) Q E hr I.Dw (hb.to s us ws I.bz hl) r2 h) λr s' hq=>?_);cases r with
 |error e=>exact hx U σ H s e s' I hq
 |ok fl=>
  cases fl with
  |ret u=>exact I.after hq
  |next=>exact False.elim hq
  |brk=>exact False.elim hq
  |cont=>exact False.elim hq
theorem ve(F:ag X.prog X.w X.K X.mg X.M CX k f fd ps sp)(hr:aq k X.A)(hg:Gl X x)(hm:X.mg x=some (.ref f))(hk:keepIn X.K (.ref f)=true)(hb:cq X.K fd ps ks g gV)(hx:Passes CX X E)
  (ha:PA X (e::es) t) (EG:PK X Ty tk) (lv:(backToKw pos (keywordEach Ty X.env)).all (·.1.isSome)=true:=by rfl) (EH:(backToKw pos (keywordEach Ty X.env)).filterMap (·.1)=ks:=by rfl)
  (pr:(x==("__debug__":Str))=false:=by lia) (he:starEach (e::es) X.env=(false,eval e X.env)::starEach es X.env:=by rfl)
  (mt:((backTo pos (starEach (e::es) X.env)).any (·.1)||(backToKw pos (keywordEach Ty X.env)).any (·.1.isNone))=false:=by rfl):
  PE X (.Call (.Name x p) (e::es) Ty pos) (jC sp gV E t tk):=by
 intro U s σ H Q I h;refine yaZ (XV I hg hm ?_ pr);refine callWith_KW (h₀:=X.M) I.ok.mod.iQ hk lv (av (ha pos U s σ H _ I h) λus s1⟨vs,H1,I1,r,q⟩=>?_) mt he;refine av (EG pos U s1 σ H1 _ I1 q) λws s2⟨zs,H2,I2,rz,q2⟩=>⟨I2.bz,?_⟩;rw[EH];exact MF F hr hb hx I2 r rz q2
end
structure aa(N P:List Str)(sc:Scope):Prop where
 kind:sc.kind=.function
 co:sc.isCoroutine=false
 gen:sc.isGenerator=false
 nd:N.Nodup
 pre:N.take P.length=P
 par:∀x∈P,sc.names.lookup x=some .local\/sc.names.lookup x=some .cell
 aX:∀y∈sc.names,y.2≠ .free
theorem UA{kindOf:Str->Option NameKind}:∀{binds:List (Str × Value)}{m:Str->Option Value},(∀v,(x,v)∉binds)->bindL kindOf binds m x=m x
 |[],_,_=>rfl
 |(n,v)::r,m,h=>by
  unfold bindL;rw[UA λw hw=>h w (lG _ hw)]
  split
  .have:x≠n:=by rintro rfl;exact h v lH
   simp[this]
  .rfl
theorem UB{kindOf:Str->Option NameKind}:∀{binds:List (Str × Value)}{m:Str->Option Value},(∀v,(x,v)∉binds)->bindC kindOf binds m x=m x
 |[],_,_=>rfl
 |(n,v)::r,m,h=>by
  unfold bindC;rw[UB λw hw=>h w (lG _ hw)]
  split
  .rfl
  .have:x≠n:=by rintro rfl;exact h v lH
   simp[this]
theorem UC{kindOf:Str->Option NameKind}:∀{P:List Str}{vs:List Value}{i:Nat}{m:Str->Option Value},P.Nodup->P[i]? =some x->vs[i]? =some v->kindOf x=some .local->
  bindL kindOf (P.zip vs) m x=some v
 |[],_,_,_,_,h,_,_=>by simp at h
 |_::_,[],_,_,_,_,h,_=>by simp at h
 |p::P,w::vs,0,m,nd,h1,h2,hk=>by
  simp at h1 h2;subst h1;subst h2;show bindL kindOf ((p,w)::P.zip vs) m p=_;unfold bindL;rw[UA λv hv=>(ycF.mp nd).1 (ydn hv).1,yaf hk];simp
 |p::P,w::vs,i+1,m,nd,h1,h2,hk=>by
  show bindL kindOf ((p,w)::P.zip vs) m x=_;unfold bindL;exact UC (i:=i) (ycF.mp nd).2 (by simpa using h1) (by simpa using h2) hk
theorem UD{kindOf:Str->Option NameKind}:∀{P:List Str}{vs:List Value}{i:Nat}{m:Str->Option Value},P.Nodup->P[i]? =some x->vs[i]? =some v->kindOf x≠some .local->
  bindC kindOf (P.zip vs) m x=some v
 |[],_,_,_,_,h,_,_=>by simp at h
 |_::_,[],_,_,_,_,h,_=>by simp at h
 |p::P,w::vs,0,m,nd,h1,h2,hk=>by
  simp at h1 h2;subst h1;subst h2;show bindC kindOf ((p,w)::P.zip vs) m p=_;unfold bindC;rw[UB λv hv=>(ycF.mp nd).1 (ydn hv).1,yac hk];simp
 |p::P,w::vs,i+1,m,nd,h1,h2,hk=>by
  show bindC kindOf ((p,w)::P.zip vs) m x=_;unfold bindC;exact UD (i:=i) (ycF.mp nd).2 (by simpa using h1) (by simpa using h2) hk
noncomputable def start(N:List Str)(vs:List V):St:=vs.map some++replicate (N.length-vs.length) none
noncomputable def Xe(CX:dH)(P:Program)(w:World)(K:Frag)(mg:Str->Option Value)(M:Heap)(N:List Str)(qual:Str)(scope:Scope)(f:Addr)(cd:Value)(A:Around)(L:List Env)(s:Shared)(H:Hp)(E:XK):Cx where
 prog:=P
 w:=w
 K:=K
 mg:=mg
 M:=M
 A:=A.deeper (envOfC qual scope s.heap.objs.size f cd)
 N:=N
 s₀:=s
 H₀:=H
 env:=envOfC qual scope s.heap.objs.size f cd
 L:=L
 stack:=envOfC qual scope s.heap.objs.size f cd::L
 ex:=[]
 calm:=true
 fn:=λ_=>true
 pn:=[]
 xe:=λe s'=>wpAny (model P w) (A.deeper (envOfC qual scope s.heap.objs.size f cd)) (leaving (envOfC qual scope s.heap.objs.size f cd) e) (λ_ dX=>CX L H s E e dX) (λe' dX=>CX L H s E e' dX) s'
theorem W8{sc:Scope}(h:sc.names.lookup x=some .cell):∃c,(cellsFrom n sc.names []).lookup x=some c:=by
 have q:=cellsFrom_some sc.names n [] (.inl h);exact Option.isSome_iff_exists.mp q
theorem UE{CX:dH}{K:Frag}{M:Heap}{N ps:List Str}{qual:Str}{scope:Scope}{cd:Value}{L:List Env}{s s1:Shared}{H:Hp}{E:XK}{us:List Value}{vs:List V}
  (S:aa N ps scope) (hd:A.handled=none) (e0:dW P w K mg M A L s H) (hl:vs.length=ps.length) (r:Vals vs us)
  (x:InCallC s s.heap.objs.size (bindL (envOfC qual scope s.heap.objs.size f cd).kindOf (ps.zip us) λ_=>none) (cellsFrom (s.heap.objs.size+1) scope.names []) (bindC (envOfC qual scope s.heap.objs.size f cd).kindOf (ps.zip us) λ_=>none) s1):
  Inv (Xe CX P w K mg M N qual scope f cd A L s H E) [] (start N vs) H s1:=by
 have mt:ps.length<=N.length:=by have:=yaI List.length S.pre;rw[lI]at this;lia
 obtain⟨h1,tk,rfl,hk⟩:=x.done;have Bc:∀b:Addr,b∉(Xe CX P w K mg M N qual scope f cd A L s H E).ex:=λb z=>absurd (show b∈([]:List Addr)from z) (by simp);refine⟨⟨e0.mod,S.kind,Z,Z,lA _,λy z c h1 h2=>?_,λy hy=>?_,λy c _ h=>?_,λ_=>hd,Around.frames_deeper e0.frames,.inr ⟨Z,Z⟩,λb z=>absurd z (Bc b),e0.bs,e0.cN,λb _ _=>Bc b,λb z=>absurd z (Bc b),e0.qv,e0.fM⟩,
  Z,e0.bare,Un.kept hk,⟨_,x.toInCall.ns,λi y v h1 h2 h3=>?_⟩,λy c h=>⟨_,x.cell y c h⟩,e0.ai.fresh (lA _),λy c h=>?_,λp hp=>absurd (show p∈([]:List (Addr × Obj))from hp) (by simp),e0.ai.kept hk,?_⟩
 .exact name_of_addr x.apart (yaw h1) (yaw h2)
 .have hy:scope.names.lookup y=some .cell\/scope.names.lookup y=some .free:=hy;rcases hy with hy|hy
  .exact W8 hy
  .exact absurd rfl (S.aX _ (yaw hy))
 .exact ybi (x.above y c (yaw h))
 .have hi:i<vs.length:=by
   unfold start at h2
   by_cases hi:i<vs.length
   .exact hi
   .rw[ycn (by simpa using hi)]at h2;rw[ybr]at h2
    split at h2<;>cases h2
  have ha:vs[i]? =some v:=by
   unfold start at h2;rw[List.getElem?_append_left (by simpa using hi),lK]at h2;cases e:vs[i]? with
   |none=>rw[e]at h2;cases h2
   |some a=>rw[e]at h2;cases h2;rfl
  obtain⟨u,hu,rv⟩:=r.get ha;have hp:ps[i]? =some y:=by
   rw[<-S.pre,List.getElem?_take_of_lt (by lia)];exact h1
  have HQ:ps.Nodup:=by rw[<-S.pre];exact S.nd.sublist (List.take_sublist _ _)
  exists u,rv;rcases S.par y (lM hp)with k|k
  .exact .inl ⟨k,UC HQ hp hu k⟩
  .obtain⟨c,e⟩:=W8 (n:=s.heap.objs.size+1) k;refine .inr ⟨.inl k,c,e,?_⟩;have q:=x.cell y c e;rw[UD HQ hp hu (by show scope.names.lookup y≠_;rw[k];lia)]at q;exact q
 .exact e0.ai.fresh (ybi (x.above y c (yaw h)))
 .unfold start;show _=N.length;rw[lq,lu,lN];lia
theorem HR{CX:dH}{K:Frag}{M:Heap}{k:Nat}{name qual:Str}{params:Arguments}{body:List Stmt}{scope:Scope}{dV kV doc pm ad ct oc:Value}{an od:Option Addr}
  {on:Array (Option Value)} {N ps:List Str} {sp:Sp} (lk:K.lookup f=some ⟨oc,od,.func (fnOf name qual params body scope dV kV doc pm an ad ct),on⟩) (GT:codeIn K ad qual=true) (S:aa N ps scope)
  (len:∀vs H Q E,sp vs H Q E->vs.length=ps.length)
  (ce:∀(A:Around)(L:List Env)(s:Shared)(H:Hp)(vs:List V)(Q:VK)(E:XK),aq k (A.deeper (envOfC qual scope s.heap.objs.size f ad))->sp vs H Q E->
   ∃t,aU (Xe CX P w K mg M N qual scope f ad A L s H E) body t/\t {nx:=λ_ H'=>Q .ax H',rt:=Q} (start N vs) H):
  ag P w K mg M CX (k+1) f (fnOf name qual params body scope dV kV doc pm an ad ct) ps sp:=by
 refine⟨len,λA L s H args us vs Q E hr e0 hb r Os=>?_⟩;have hl:=len _ _ _ _ Os;have KX:K.In s.heap:=e0.mod.iQ.keeps λb o e=>(e0.bs b o e).1;have lim:s.heap.NoLimit:=e0.mod.nolimit.keeps λb o e=>(e0.bs b o e).1;have dY:∀y∈ps.zip us,scope.names.lookup y.1=some .local\/(scope.names.lookup y.1=some .cell/\((cellsFrom (s.heap.objs.size+1) scope.names []).lookup y.1).isSome=true):=λ⟨n,v⟩ hy=>by
  rcases S.par n (ydn hy).1 with q|q
  .exact .inl q
  .exact .inr ⟨q,cellsFrom_some _ _ _ (.inl q)⟩
 refine codeAny_call_function hr.depth (KX _ _ lk) rfl S.co S.gen rfl (codeRec_of KX GT) (hb _ _ _ _ ?_);refine ydv S.kind dY λenv he s1 x=>?_;subst he;refine⟨lim.keeps x.toInCall.keep,codeAny_func ?_⟩;obtain⟨t,ht,hq⟩:=ce A L s H vs Q E (hr.deeper _) Os;have I:Inv (Xe CX P w K mg M N qual scope f ad A L s H E) [] (start N vs) H s1:=UE S hr.hd e0 hl r x;refine yaB (ht [] s1 (start N vs) H _ I hq) (λfl s' hs=>?_) λe s' hs=>hs;have fin:∀{σ':St}{H':Hp}{v:V}{u:Value},Inv (Xe CX P w K mg M N qual scope f ad A L s H E) [] σ' H' s'->RelV v u->Q v H'->CE L P w H s Q u s':=
  λ{σ' H' v u} J rv q=>⟨v,H',J.os,J.bare,J.M,J.ai,rv,q⟩
 cases fl with
 |ret u=>
  obtain⟨v,σ',H',J,rv,q⟩:=hs;exact fin J rv q
 |next=>
  obtain⟨σ',H',J,q⟩:=hs;exact fin (v:=V.ax) (u:=Value.none) J rfl q
 |brk=>
  obtain⟨_,_,_,q⟩:=hs;exact False.elim q
 |cont=>
  obtain⟨_,_,_,q⟩:=hs;exact False.elim q
section
variable {X:Cx}{x:Str}{p pos:Pos}{e:Expr}{es:List Expr}{t:TA}{id T:String}{r:List V->Hp->VK->Prop}
def oS(r:List V->Hp->VK->Prop)(t:TA):TE:=λσ H Q=>t σ H λvs H1=>r vs H1 Q
theorem Qq(hc:Wv X (.builtin id) r)(hg:Gl X x)(hm:X.mg x=none)(hv:bootBuiltins x=some (.builtin id))(ha:PA X (e::es) t)(hn:x≠"__name__":=by lia)(pr:(x==("__debug__":Str))=false:=by lia)
  (he:starEach (e::es) X.env=(false,eval e X.env)::starEach es X.env:=by rfl) (mt:(backTo pos (starEach es X.env)).any (·.1)=false:=by rfl):PE X (.Call (.Name x p) (e::es) [] pos) (oS r t):=by
 intro U s σ H Q I h;refine yaZ (WS I hg hm hv ?_ hn pr);exact PyProof.Rows.callWith_builtin1 (av (ha pos U s σ H _ I h) λus s1⟨vs,H1,I1,r1,q1⟩=>hc U s1 σ H1 vs us Q I1 r1 q1) he mt
theorem Jh(hc:Wv X (.type T) r)(hg:Gl X x)(hm:X.mg x=none)(hv:bootBuiltins x=some (.type T))(ha:PA X (e::es) t)(hn:x≠"__name__":=by lia)(pr:(x==("__debug__":Str))=false:=by lia)
  (he:starEach (e::es) X.env=(false,eval e X.env)::starEach es X.env:=by rfl) (mt:(backTo pos (starEach es X.env)).any (·.1)=false:=by rfl):PE X (.Call (.Name x p) (e::es) [] pos) (oS r t):=by
 intro U s σ H Q I h;refine yaZ (WS I hg hm hv ?_ hn pr);exact yaT (av (ha pos U s σ H _ I h) λus s1⟨vs,H1,I1,r1,q1⟩=>hc U s1 σ H1 vs us Q I1 r1 q1) he mt
end
end L2
namespace HT
open PySem PyProof.Rows
section
open PySem.SeqAt
open PySem.AutoSeq1 (wpAny_loadPart')
open PySem.MeetsSeq PySem.MeetsSeq2 PySem.MeetsSeq3
end
section
variable {prog:Program}
noncomputable def aI(n d:Nat):Option Int->Nat
 |none=>d
 |some v=>if v<0 then(v+(n:Int)).toNat else min v.toNat n
theorem jD(n d:Nat):aI n d none=d:=rfl
theorem YI(n d k:Nat):aI n d (some (k:Int))=min k n:=by
 show(if(k:Int)<0 then((k:Int)+(n:Int)).toNat else min (k:Int).toNat n)=min k n;rw[yac (by lia),lZ]
theorem MG(n d:Nat)(hd:d<=n)(o:Option Int):aI n d o<=n:=by
 cases o with
 |none=>exact hd
 |some v=>
  show(if v<0 then(v+(n:Int)).toNat else min v.toNat n)<=n
  by_cases hv:v<0
  .rw[yaf hv];lia
  .rw[yac hv];exact Nat.min_le_right _ _
theorem xF(v:Int)(n d:Nat):(if v<0 then max (v+(n:Int)) 0 else min v (n:Int))=((aI n d (some v):Nat):Int):=by
 show(if v<0 then max (v+(n:Int)) 0 else min v (n:Int))=(((if v<0 then(v+(n:Int)).toNat else min v.toNat n):Nat):Int)
 by_cases hv:v<0
 .simp only[yaf hv];lia
 .simp only[yac hv];lia
theorem zy(lo hi:Option Int)(n:Nat):Builtin.Slice.sliceAdjust lo hi 1 (n:Int)=(((aI n 0 lo:Nat):Int),((aI n n hi:Nat):Int)):=by
 have h1:¬ ((1:Int)<0):=by lia
 unfold Builtin.Slice.sliceAdjust;simp only[h1,ycu];refine Prod.ext ?_ ?_
 .cases lo with
  |none=>rfl
  |some v=>exact xF v n 0
 .cases hi with
  |none=>rfl
  |some v=>exact xF v n n
theorem zA(i j:Nat):Builtin.Slice.slicePlaces (i:Int) (j:Int) 1=j-i:=by
 unfold Builtin.Slice.slicePlaces;have h1:(1:Int)>0:=by lia
 simp only[h1,ybK,yed]
 split<;>lia
theorem Yr(p:IsPart v o)(h:Q o s):wpAny (model prog w) A (Builtin.Slice.slicePartIndex v) Q E s:=by
 cases p with
 |none=>exact slicePart_none h
 |int i t=>exact slicePart_int h
theorem W1{lo hi:Option Int}{n:Nat}(hs:s.heap.IsSliceOf sl vl vu .none)(pl:IsPart vl lo)(pu:IsPart vu hi)
  (h:Q (((aI n 0 lo:Nat):Int),1,aI n n hi-aI n 0 lo) s):wpAny (model prog w) A (Builtin.Slice.sliceApplied (.ref sl) (pure (n:Int))) Q E s:=by
 obtain⟨os,Bd,oU,Dx⟩:=id hs;unfold Builtin.Slice.sliceApplied Builtin.Slice.sliceFields;refine yab (yab (ybB Bd Dx (x:=vl) Z (yab (ybB Bd Dx (x:=vu) Z (yab (ybB Bd Dx (x:=.none) Z (yan ?_)))))));refine yab (slicePart_none ?_);show wpAny _ _ (if((1:Int)==0)=true then _ else _) _ _ s;rw[yac (by lia)];refine yab (Yr pl (yab (Yr pu (yab (yan ?_)))));show wpAny _ _ (match Builtin.Slice.sliceAdjust lo hi 1 (n:Int)with|(lo,hi)=>pure (lo,(1:Int),Builtin.Slice.slicePlaces lo hi 1)) _ _ s;rw[zy lo hi n];show wpAny _ _ (pure (((aI n 0 lo:Nat):Int),(1:Int),Builtin.Slice.slicePlaces ((aI n 0 lo:Nat):Int) ((aI n n hi:Nat):Int) 1)) _ _ s;rw[zA];exact yan h
theorem vf(xs:Array Value)(i k:Nat):((List.range k).filterMap λ(m:Nat)=>xs[((i:Int)+(m:Int)*1).toNat]?).toArray=((xs.toList.drop i).take k).toArray:=by
 have e:(λ(m:Nat)=>xs[((i:Int)+(m:Int)*1).toNat]?)=λm=>xs[i+m]? :=by
  funext m
  have:((i:Int)+(m:Int)*1).toNat=i+m:=by lia
  rw[this]
 rw[e];have:=pick_run xs i k;rw[List.filterMap_map]at this;have e2:((λx=>xs[x]?)∘λx=>i+x)=λm=>xs[i+m]? :=rfl;rw[e2]at this;rw[this]
theorem Wy{items:Array Value}{lo hi:Option Int}(ht:IsTup s.heap t items)(hs:s.heap.IsSliceOf sl vl vu .none)(pl:IsPart vl lo)(pu:IsPart vu hi)
  (hw:¬ (aI items.size 0 lo=0/\aI items.size items.size hi=items.size))
  (h:Q (.ref s.heap.objs.size) {s with heap:=s.heap.push {cls:=.type "tuple",data:=.seq ((items.toList.drop (aI items.size 0 lo)).take (aI items.size items.size hi-aI items.size 0 lo)).toArray}})
  (hsz:items.size<=sizeLine):wpAny (model prog w) A (getItem (.ref t) (.ref sl)) Q E s:=by
 have cS:sizeOk (.seq ((items.toList.drop (aI items.size 0 lo)).take (aI items.size items.size hi-aI items.size 0 lo)).toArray):=by
  show((items.toList.drop (aI items.size 0 lo)).take (aI items.size items.size hi-aI items.size 0 lo)).toArray.size<=sizeLine;rw[lW,lI,lJ,lV];lia
 have hj:aI items.size items.size hi<=items.size:=MG _ _ (lA _) hi;obtain⟨os,Bd,oU,Dx⟩:=id hs;have MH:s.TypeIs (.ref sl) "slice":=⟨os,Bd,oU⟩;unfold getItem
 try with_reducible refine ycD ?_
 first|refine yab (yan ?_)|skip
 refine yab (wpAny_sequenceKey ht.typeIs (by lia) ?_);refine yab (ycG (name:=Str.ofString "__getitem__") ht.typeIs ycR
  (ydR ycR ht.typeIs entry_tuple_getitem ?_ (args_tuple_getitem _ _)))
 show wpAny _ _ (Builtin.Tuple.tupleItemsOf (.ref t)>>=_) _ _ s;refine yab (tupleItemsOf_ ht ?_);refine yab (ydy MH ?_);rw[yaf (by lia)];refine yab (W1 hs pl pu ?_);have de:¬ ((((aI items.size 0 lo:Nat):Int)==0&&(1:Int)==1&&(aI items.size items.size hi-aI items.size 0 lo)==items.size)=true):=by
  intro q;rw[yaO,yaO]at q;have q1:((aI items.size 0 lo:Nat):Int)=0:=eq_of_beq q.1.1;have q2:aI items.size items.size hi-aI items.size 0 lo=items.size:=eq_of_beq q.2;exact hw ⟨by lia,by lia⟩
 show wpAny _ _ (if(((aI items.size 0 lo:Nat):Int)==0&&(1:Int)==1&&(aI items.size items.size hi-aI items.size 0 lo)==items.size)=true then _ else _) _ _ s;rw[yac de,vf]
 first
  |exact yab (m:=Builtin.Tuple.tupleExact _) (yaX (yan ⟨_,rfl,yan h⟩) cS)
  |exact yab (m:=Builtin.Tuple.tupleExact _) (yaX (yab (yan (yan ⟨_,rfl,yan h⟩))) cS)
  |exact yab (yab (m:=Builtin.Tuple.tupleExact _) (yaX (yan (yan ⟨_,rfl,yan h⟩)) cS))
  |exact yab (yab (m:=Builtin.Tuple.tupleExact _) (yaX (yan ⟨_,rfl,yan h⟩) cS))
end
end HT
namespace L2
open PySem PySem.Spec PyProof.Rows
noncomputable abbrev TO:=St->Hp->(Option Int->Hp->Prop)->Prop
def PO(X:Cx)(e:Option Expr)(t:TO):Prop:=
 ∀(U:List (Addr × Obj))(s:Shared)(σ:St)(H:Hp)(Q:Option Int->Hp->Prop),Inv X U σ H s->t σ H Q->
  wpAny (model X.prog X.w) X.A (evalPart e X.env) (λu s'=>∃o H',Inv X U σ H' s'/\IsPart u o/\Q o H') X.xe s
def qD:TO:=λ_ H Q=>Q none H
def EI(t:TE):TO:=λσ H Q=>t σ H λx H1=>∃i,x=.int i/\Q (some i) H1
section
variable {lo:Option Expr}{pos:Pos}
theorem Ju:PO X none qD:=by
 intro U s σ H Q I h;rw[evalPart_none];exact yan ⟨none,H,I,.none,h⟩
theorem Q2(h:PE X e te):PO X (some e) (EI te):=by
 intro U s σ H Q I hw;rw[evalPart_some];refine av (h U s σ H _ I hw) λu s1⟨x,H1,I1,r1,q1⟩=>?_;obtain⟨i,rfl,q⟩:=q1;obtain⟨t,rfl⟩:=r1;exact⟨some i,H1,I1,.int i t,q⟩
def Dy(X:Cx)(r:V->Option Int->Option Int->Hp->VK->Prop):Prop:=
 ∀(U:List (Addr × Obj))(s:Shared)(σ:St)(H:Hp)(x:V)(v vl vu:Value)(lo hi:Option Int)(sl:Addr)(Q:VK),Inv X U σ H s->RelV x v->s.heap.IsSliceOf sl vl vu .none->IsPart vl lo->IsPart vu hi->r x lo hi H Q->
  ∃T id,typeLookup (.type T) "__getitem__"=pure (some (.builtin id))/\s.TypeIs v T/\wpAny (model X.prog X.w) X.A (getItem v (.ref sl)) (EP X U σ Q) X.xe s
def EJ(r:V->Option Int->Option Int->Hp->VK->Prop)(te:TE)(tl th:TO):TE:=λσ H Q=>te σ H λx H1=>tl σ H1 λl H2=>th σ H2 λu H3=>r x l u H3 Q
theorem QZ(hr:Dy X r)(he:PE X e te)(hl:PO X lo tl)(hu:PO X hi th):PE X (.Subscript e (.Slice lo hi none p2) pos) (EJ r te tl th):=by
 intro U s σ H Q I h;refine Subscript_ (av (he U s σ H _ I h) λv s1⟨x,H1,I1,r1,q1⟩=>?_);refine wpAny_Slice (av (hl U s1 σ H1 _ I1 q1) λvl s2⟨l,H2,I2,pl,q2⟩=>av (hu U s2 σ H2 _ I2 q2) λvu s3⟨u,H3,I3,pu,q3⟩=>?_);rw[evalPart_none];refine yan ?_;have I4:Inv X U σ H3 {s3 with heap:=s3.heap.push {cls:=.type "slice",data:=.fields #[vl,vu,.none]}}:=I3.kept (t':=s3.toks) λb ob q=>yaa _ q;obtain⟨T,id,hT,ht,hg⟩:=hr U {s3 with heap:=s3.heap.push {cls:=.type "slice",data:=.fields #[vl,vu,.none]}} σ H3 x v vl vu l u s3.heap.objs.size Q I4 r1 (Heap.IsSliceOf.new ..) pl pu q3;show wpAny (model X.prog X.w) X.A (subscriptTail e (.Slice lo hi none p2) v (.ref s3.heap.objs.size)) (EP X U σ Q) X.xe {s3 with heap:=s3.heap.push {cls:=.type "slice",data:=.fields #[vl,vu,.none]}};exact tail_any (ops:=[.ref s3.heap.objs.size,v]) ht hT hg (by with_unfolding_all rfl)
noncomputable def xn(xs:List V)(lo hi:Option Int):List V:=(xs.drop (HT.aI xs.length 0 lo)).take (HT.aI xs.length xs.length hi-HT.aI xs.length 0 lo)
theorem Vq(xs:List V)(lo hi:Option Int):(xn xs lo hi).length<=xs.length:=by
 unfold xn;rw[lI,lJ];lia
def MI(K:Frag):V->Option Int->Option Int->Hp->VK->Prop:=λx lo hi H Q=>∃a xs,x=.ref a/\aj K H a xs/\
 ¬ (HT.aI xs.length 0 lo=0/\HT.aI xs.length xs.length hi=xs.length)/\∀p,H p=none->Q (.ref p) (upd H p (.tup (xn xs lo hi)))
theorem MJ:Dy X (MI X.K):=by
 intro U s σ H x v vl vu lo hi sl Q I rx hs pl pu h;obtain⟨a,xs,rfl,hx,hw,q⟩:=h;cases rx;obtain⟨ap,r,ht,hz⟩:=I.tuple hx;have hlen:ap.toArray.size=xs.length:=by rw[lW];exact r.length.symm
 exists "tuple",_,PyProof.Rows.slot_tuple_getitem.lookup,ht.typeIs;refine HT.Wy ht hs pl pu (by rw[hlen];exact hw) ?_ (by rw[hlen];exact hz);rw[hlen];refine⟨.ref s.heap.objs.size,_,I.laid (t':=s.toks) (o:=.tup (xn xs lo hi)) (λb ob q=>yaa _ q) (lA _) ?_,Z,q _ (I.ai.fresh (lA _))⟩;exact⟨yas (Vq xs lo hi) hz,_,(r.drop (HT.aI xs.length 0 lo)).take (HT.aI xs.length xs.length hi-HT.aI xs.length 0 lo),Yo.new _ _⟩
end
noncomputable def fS(n:Nat)(i:Int):Option Nat:=if 0<=i then(if i<n then some i.toNat else none)else if-(n:Int)<=i then some (i+n).toNat else none
noncomputable def ck{α:Type}(xs:List α)(i:Int):Option α:=(fS xs.length i).bind λj=>xs[j]?
theorem xG(h:fS n i=some j):seqIndex? i n=some j/\j<n/\ -(n:Int)<=i/\i<n:=by
 unfold fS at h
 by_cases h0:0<=i
 .rw[yaf h0]at h
  by_cases h1:i<n
  .rw[yaf h1]at h;have e:i.toNat=j:=lB h;exact⟨by rw[seqIndex_of h0 h1,e],by lia,by lia,h1⟩
  .rw[yac h1]at h;cases h
 .rw[yac h0]at h
  by_cases h1: -(n:Int)<=i
  .rw[yaf h1]at h;have e:(i+n).toNat=j:=lB h;exact⟨by rw[seqIndex_neg (by lia) h1,e],by lia,h1,by lia⟩
  .rw[yac h1]at h;cases h
theorem qE{xs:List α}(h:ck xs i=some v):∃j,seqIndex? i xs.length=some j/\xs[j]? =some v/\j<xs.length/\ -(xs.length:Int)<=i/\i<xs.length:=by
 unfold ck at h;cases e:fS xs.length i with
 |none=>rw[e]at h;cases h
 |some j=>
  rw[e]at h;obtain⟨h1,h2,h3,h4⟩:=xG e;exact⟨j,h1,h,h2,h3,h4⟩
theorem Zc{α:Type}{xs:List α}{j:Nat}{v:α}(h:xs[j]? =some v):ck xs (j:Int)=some v:=by
 have hj:j<xs.length:=(yaj.mp h).1;have e:fS xs.length (j:Int)=some j:=by
  unfold fS;rw[yaf (by lia),yaf (by lia)];simp
 unfold ck;rw[e];exact h
theorem Kl(xs:List α)(v:α):ck (xs++[v]) (-1)=some v:=by
 have hl:(xs++[v]).length=xs.length+1:=by simp
 have e:fS (xs++[v]).length (-1)=some xs.length:=by
  unfold fS;rw[hl,yac (by lia),yaf (by lia)]
  congr 1
  lia
 unfold ck;rw[e];show(xs++[v])[xs.length]? =some v;simp
def MK(b:Expr):Prop:=∀o i,subscripted b false o i=operate [o,i] (getItem o i)
def ij(X:Cx)(r:R2):Prop:=
 ∀(value slice:Expr)(U:List (Addr × Obj))(s:Shared)(σ:St)(H:Hp)(x y:V)(v u:Value)(Q:VK),Inv X U σ H s->RelV x v->RelV y u->r x y H Q->
  subscripted slice false v u=operate [v,u] (getItem v u)->wpAny (model X.prog X.w) X.A (subscriptTail value slice v u) (EP X U σ Q) X.xe s
def cu(X:Cx)(id:String)(r:V->List V->Hp->VK->Prop):Prop:=
 ∀(U:List (Addr × Obj))(s:Shared)(σ:St)(H:Hp)(x:V)(xs:List V)(v:Value)(us:List Value)(Q:VK),Inv X U σ H s->RelV x v->Vals xs us->r x xs H Q->
  wpAny (model X.prog X.w) X.A (call (.builtin id) (v::us)) (EP X U σ Q) X.xe s
section
variable {pos:Pos}
theorem ij.or(h:ij X r)(h':ij X r'):ij X (λx y H Q=>r x y H Q\/r' x y H Q):=by
 intro value slice U s σ H x y v u Q I rx ry q hs;rcases q with q|q
 .exact h value slice U s σ H x y v u Q I rx ry q hs
 .exact h' value slice U s σ H x y v u Q I rx ry q hs
theorem QS(hr:ij X r)(ha:PE X a ta)(hb:PE X b tb)(hs:MK b):PE X (.Subscript a b pos) (bc r ta tb):=by
 intro U s σ H Q I h;exact Subscript_ (Ey ha hb I h λv u s2 x y H2 I2 rx ry q=>hr a b U s2 σ H2 x y v u Q I2 rx ry q (hs _ _))
def Am(K:Frag):R2:=λx y H Q=>∃p xs i v,x=.ref p/\y=.int i/\az K H p xs/\ck xs i=some v/\Q v H
def qw(K:Frag):R2:=λx y H Q=>∃p xs i v,x=.ref p/\y=.int i/\aj K H p xs/\ck xs i=some v/\Q v H
def HS:R2:=λx y H Q=>∃z i c,x=.str z/\y=.int i/\z.length<=sizeLine/\ck z.cps.toList i=some c/\Q (.str ⟨#[c]⟩) H
theorem Jc:ij X (Am X.K):=by
 intro value slice U s σ H x y v u Q I rx ry h hs;obtain⟨p,xs,i,z,rfl,rfl,hq,he,q⟩:=h;cases rx;obtain⟨t,rfl⟩:=ry;obtain⟨ap,r,pl,hz⟩:=I.list hq;obtain⟨j,h1,h2,h3,h4,h5⟩:=qE he;obtain⟨w,ew,IR⟩:=r.get h2;have hl:=r.length;have hn:=Wc;have fin:EP X U σ Q w s:=⟨z,H,I,IR,q⟩
 by_cases h0:0<=i
 .have hj:i.toNat=j:=by
   rw[seqIndex_of h0 h5]at h1;exact lB h1
  exact item_listR pl.isList h0 (by lia) (by rw[hj];simpa using ew) fin hs
 .have hj:(i+(ap.toArray.size:Int)).toNat=j:=by
   rw[seqIndex_neg (by lia) h4]at h1;rw[lW, <-hl];exact lB h1
  exact subscriptTail_builtinR (x:=w) pl.isList.typeIs slot_list_getitem.lookup
   (wpAny_getItem_list_neg (Q:=λr s'=>r=w/\EP X U σ Q r s') pl.isList (by lia) (by rw[lW]<;>lia) (by lia) (by rw[hj];simpa using ew) ⟨Z,fin⟩) hs
theorem Jl:ij X (qw X.K):=by
 intro value slice U s σ H x y v u Q I rx ry h hs;obtain⟨p,xs,i,z,rfl,rfl,hq,he,q⟩:=h;cases rx;obtain⟨t,rfl⟩:=ry;obtain⟨ap,r,pl,hz⟩:=I.tuple hq;obtain⟨j,h1,h2,h3,h4,h5⟩:=qE he;obtain⟨w,ew,IR⟩:=r.get h2;have hl:=r.length;have hn:=Wc;have fin:EP X U σ Q w s:=⟨z,H,I,IR,q⟩;exact subscriptTail_builtinR (x:=w) pl.typeIs slot_tuple_getitem.lookup
  (getItem_tuple (j:=j) (Q:=λr s'=>r=w/\EP X U σ Q r s') pl (by lia) (by lia) (by rw[lW, <-hl];exact h1) (by simpa using ew) ⟨Z,fin⟩) hs
theorem Z1:ij X HS:=by
 intro value slice U s σ H x y v u Q I rx ry h hs;obtain⟨z,i,c,rfl,rfl,hz,he,q⟩:=h;obtain⟨t,rfl⟩:=rx;obtain⟨t',rfl⟩:=ry;obtain⟨j,h1,h2,h3,h4,h5⟩:=qE he;have hl:z.cps.toList.length=z.length:=by simp[Str.length]
 rw[hl]at h1 h4 h5;have hn:=Wc;exact tail_any (ybW s z t) slot_str_getitem.lookup (getItem_str (c:=c) (by
  have e1:decide (i< -(2^63:Int))=false:=lx (by lia);have e2:decide (i≥2^63)=false:=lx (by lia);rw[e1,e2,ydd]) (by rw[h1];simpa using h2) ⟨.str ⟨#[c]⟩,H,I.tok _,⟨_,Z⟩,q⟩) hs
def ML(K:Frag):R2:=λx y H Q=>Am K x y H Q\/qw K x y H Q\/HS x y H Q
theorem MM:ij X (ML X.K):=Jc.or (Jl.or Z1)
theorem zB(ap:List Value)(n j:Nat)(u:Value):Obj.mapSeq (·.setIfInBounds j u) {cls:=.type "list",data:=.seq ap.toArray n}={cls:=.type "list",data:=.seq (ap.set j u).toArray n}:=by
 simp[Obj.mapSeq]
theorem Inv.lst{U:List (Addr × Obj)}{σ:St}{H:Hp}{s:Shared}{p:Addr}{xs:List V}(I:Inv X U σ H s)(h:H p=some (.lst xs)):
  ∃(ap:List Value)(n:Nat),Vals xs ap/\s.heap.get? p=some {cls:=.type "list",data:=.seq ap.toArray n}/\xs.length<=sizeLine:=by
 obtain⟨z,ap,n,r,e⟩:=I.ai p _ h;exact⟨ap,n,r,e,z⟩
theorem Inv.MN{U:List (Addr × Obj)}{σ:St}{xs ys:List V}{ap its':List Value}{n n':Nat}(I:Inv X U σ H s)(h:H p=some (.lst xs))
  (ho:s.heap.get? p=some {cls:=.type "list",data:=.seq ap.toArray n}) (hf:f {cls:=.type "list",data:=.seq ap.toArray n}={cls:=.type "list",data:=.seq its'.toArray n'}) (r:Vals ys its') (hz:ys.length<=sizeLine) (t:Nat):
  Inv X U σ (upd H p (.lst ys)) {s with heap:=s.heap.update p f,toks:=t}:=by
 have e:(s.heap.update p f).get? p=some {cls:=.type "list",data:=.seq its'.toArray n'}:=by
  rw[Heap.get?_update_self f ho (by rw[hf]<;>rfl),hf]
 refine I.write (x:=p) (e:=p) (by rw[h];trivial) (.inl Z) (λb u hb q=>(ycO _ _ (Ne.symm hb)).trans q) ⟨_,e⟩ ?_;exact⟨hz,its',n',r,e⟩
def MO:V->V->V->Hp->(Hp->Prop)->Prop:=λo i v H Q=>∃p xs k j,o=.ref p/\i=.int k/\H p=some (.lst xs)/\fS xs.length k=some j/\Q (upd H p (.lst (xs.set j v)))
theorem set_list:HG X MO:=by
 intro U s σ H o i v ov iv u Q I ro ri rv h;obtain⟨p,xs,k,j,rfl,rfl,hp,hj,q⟩:=h;cases ro;obtain⟨t,rfl⟩:=ri;obtain⟨ap,n,r,ho,hz⟩:=I.lst hp;obtain⟨h1,h2,h3,h4⟩:=xG hj;have hl:=r.length;have hn:=Wc;have I':Inv X U σ (upd H p (.lst (xs.set j v))) {s with heap:=s.heap.update p (Obj.mapSeq (·.setIfInBounds j u))}:=
  I.MN hp ho (zB ap n j u) (r.set rv j) (by rw[ycb];exact hz) s.toks
 by_cases h0:0<=k
 .have hk:k.toNat=j:=by
   rw[seqIndex_of h0 h4]at h1;exact lB h1
  exact ki_setAt ho h0 (by lia) (by rw[lW, <-hl];exact h4) (by rw[hk];exact⟨_,I',q⟩)
 .have hk:(k+(ap.toArray.size:Int)).toNat=j:=by
   rw[seqIndex_neg (by lia) h3]at h1;rw[lW, <-hl];exact lB h1
  exact ki_setBack ho (by lia) (by rw[lW, <-hl];exact h3) (by lia) (by rw[hk];exact⟨_,I',q⟩)
theorem UF(lo hi:Option Int)(n:Nat):(sliceBounds lo hi none n).1=((HT.aI n 0 lo:Nat):Int)/\(sliceBounds lo hi none n).2.1=((HT.aI n n hi:Nat):Int)/\(sliceBounds lo hi none n).2.2=1:=by
 refine⟨?_,?_,Z⟩
 .cases lo with
  |none=>simp[sliceBounds,HT.aI]
  |some i=>
   simp only[sliceBounds,HT.aI,Option.getD_none,show(1:Int)>0 by lia,ybK]
   by_cases h:i<0
   .simp only[h,ybK]<;>lia
   .simp only[h,ycu]<;>lia
 .cases hi with
  |none=>simp[sliceBounds,HT.aI]
  |some i=>
   simp only[sliceBounds,HT.aI,Option.getD_none,show(1:Int)>0 by lia,ybK]
   by_cases h:i<0
   .simp only[h,ybK]<;>lia
   .simp only[h,ycu]<;>lia
theorem YJ(ap:List Value)(lo hi:Option Int):slicePick ap.toArray lo hi none=((ap.drop (HT.aI ap.length 0 lo)).take (HT.aI ap.length ap.length hi-HT.aI ap.length 0 lo)).toArray:=by
 obtain⟨h1,h2,h3⟩:=UF lo hi ap.toArray.size;unfold slicePick;rw[h1,h2,h3];simp only[sliceRange_one,pick_run,lW]<;>rfl
def EK(K:Frag):V->Option Int->Option Int->Hp->VK->Prop:=λx lo hi H Q=>∃a xs,x=.ref a/\az K H a xs/\∀p,H p=none->Q (.ref p) (upd H p (.lst (xn xs lo hi)))
theorem YK:Dy X (EK X.K):=by
 intro U s σ H x v vl vu lo hi sl Q I rx hs pl pu h;obtain⟨a,xs,rfl,hx,q⟩:=h;cases rx;obtain⟨ap,r,ht,hz⟩:=I.list hx;have hlen:=r.length;exists "list",_,slot_list_getitem.lookup,ht.isList.typeIs;refine wpAny_getItem_list_slice ht.isList hs pl pu .none (by simp) ?_ (by rw[lW]<;>lia);rw[YJ, <-hlen];refine⟨.ref s.heap.objs.size,_,I.laid (t':=s.toks) (o:=.lst (xn xs lo hi)) (λb ob q=>yaa _ q) (lA _) ?_,Z,q _ (I.ai.fresh (lA _))⟩;exact⟨yas (Vq xs lo hi) hz,_,0,(r.drop (HT.aI xs.length 0 lo)).take (HT.aI xs.length xs.length hi-HT.aI xs.length 0 lo),yam _ rfl⟩
noncomputable def XT:V->Bool
 | .ax=>true
 | .bl _=>true
 | .int _=>true
 | .str _=>true
 |_=>false
noncomputable def bW:V->V->Bool
 | .ax,.ax=>true
 | .bl a,.bl b=>a==b
 | .bl a,.int b=>(if a then 1 else 0)==b
 | .int a,.bl b=>a==(if b then 1 else 0)
 | .int a,.int b=>a==b
 | .str a,.str b=>a==b
 |_,_=>false
theorem yZ(ry:RelV y u)(rx:RelV x v)(fy:XT y=true)(fx:XT x=true):SeqAt.EqAt A s u v (bW y x):=by
 cases y with
 |ax=>
  cases ry;cases x with
  |ax=>cases rx;exact SeqAt.EqAt.same _
  |bl b=>cases rx;exact SeqAt.EqAt.none_bool b
  |int b=>obtain⟨t,rfl⟩:=rx;exact SeqAt.EqAt.none_int b t
  |str b=>obtain⟨t,rfl⟩:=rx;exact SeqAt.EqAt.none_str b t
  |_=>exact absurd (show false=true from fx) yar
 |bl a=>
  cases ry;cases x with
  |ax=>cases rx;exact SeqAt.EqAt.bool_none a
  |bl b=>cases rx;exact SeqAt.EqAt.bool_bool a b
  |int b=>obtain⟨t,rfl⟩:=rx;exact SeqAt.EqAt.bool_int a b t
  |str b=>obtain⟨t,rfl⟩:=rx;exact SeqAt.EqAt.bool_str a b t
  |_=>exact absurd (show false=true from fx) yar
 |int a=>
  obtain⟨t',rfl⟩:=ry;cases x with
  |ax=>cases rx;exact SeqAt.EqAt.int_none a t'
  |bl b=>cases rx;exact SeqAt.EqAt.int_bool a t' b
  |int b=>obtain⟨t,rfl⟩:=rx;exact SeqAt.EqAt.int_int a t' b t
  |str b=>obtain⟨t,rfl⟩:=rx;exact SeqAt.EqAt.int_str a t' b t
  |_=>exact absurd (show false=true from fx) yar
 |str a=>
  obtain⟨t',rfl⟩:=ry;cases x with
  |ax=>cases rx;exact SeqAt.EqAt.str_none a t'
  |bl b=>cases rx;exact SeqAt.EqAt.str_bool a t' b
  |int b=>obtain⟨t,rfl⟩:=rx;exact SeqAt.EqAt.str_int a t' b t
  |str b=>obtain⟨t,rfl⟩:=rx;exact SeqAt.EqAt.str_str a t' b t
  |_=>exact absurd (show false=true from fx) yar
 |_=>exact absurd (show false=true from fy) yar
noncomputable def bU(x:V)(u:Value):Bool:=match u with
 | .none=>bW .ax x
 | .bool b=>bW (.bl b) x
 | .int i _=>bW (.int i) x
 | .str z _=>bW (.str z) x
 |_=>false
theorem jE(r:RelV y u)(f:XT y=true):bU x u=bW y x:=by
 cases y with
 |ax=>cases r;rfl
 |bl b=>cases r;rfl
 |int i=>obtain⟨t,rfl⟩:=r;rfl
 |str z=>obtain⟨t,rfl⟩:=r;rfl
 |_=>exact absurd (show false=true from f) yar
theorem Vr:∀{xs:List V}{us:List Value},Vals xs us->xs.all XT=true->us.any (bU x)=xs.any λy=>bW y x
 |_,_,.nil,_=>rfl
 |y::xs,u::us,.cons r t,f=>by
  rw[yde,yaO]at f;rw[ych,ych,jE r f.1,Vr t f.2]
theorem XE(rx:RelV x v)(fx:XT x=true):∀{xs:List V}{us:List Value},Vals xs us->xs.all XT=true->∀u∈us,SeqAt.EqAt A s u v (bU x u)
 |_,_,.nil,_=>λu hu=>by cases hu
 |y::xs,u::us,.cons r t,f=>λu' hu=>by
  rw[yde,yaO]at f;rcases yag.mp hu with rfl|hu
  .rw[jE r f.1];exact yZ r rx f.1 fx
  .exact XE rx fx t f.2 u' hu
noncomputable def dI(x:V)(xs:List V):Bool:=xs.any λy=>bW y x
def iV(K:Frag)(neg:Bool):R2:=λx y H Q=>∃p xs,y=.ref p/\(az K H p xs\/aj K H p xs)/\XT x=true/\xs.all XT=true/\Q (.bl (if neg then !dI x xs else dI x xs)) H
theorem XC:aW X (compareOp .In) (iV X.K false):=by
 intro U s σ H x y v u Q I rx ry h;obtain⟨p,xs,rfl,hq,fx,fs,q⟩:=h;cases ry;rcases hq with hq|hq
 .obtain⟨ap,r,pl,hz⟩:=I.list hq;refine SeqAt.in_listAt (bU x) pl.isList (λw hw=>XE rx fx r fs w (by simpa using hw)) ⟨.bl _,H,I,Z,?_⟩;rw[show ap.toArray.any (bU x)=ap.any (bU x) by simp,Vr r fs];exact q
 .obtain⟨ap,r,pl,hz⟩:=I.tuple hq;refine SeqAt.in_tupleAt (bU x) pl (λw hw=>XE rx fx r fs w (by simpa using hw)) ⟨.bl _,H,I,Z,?_⟩;rw[show ap.toArray.any (bU x)=ap.any (bU x) by simp,Vr r fs];exact q
theorem Xg:aW X (compareOp .NotIn) (iV X.K true):=by
 intro U s σ H x y v u Q I rx ry h;obtain⟨p,xs,rfl,hq,fx,fs,q⟩:=h;cases ry;rcases hq with hq|hq
 .obtain⟨ap,r,pl,hz⟩:=I.list hq;refine SeqAt.notIn_listAt (bU x) pl.isList (λw hw=>XE rx fx r fs w (by simpa using hw)) ⟨.bl _,H,I,Z,?_⟩;rw[show ap.toArray.any (bU x)=ap.any (bU x) by simp,Vr r fs];exact q
 .obtain⟨ap,r,pl,hz⟩:=I.tuple hq;refine SeqAt.notIn_tupleAt (bU x) pl (λw hw=>XE rx fx r fs w (by simpa using hw)) ⟨.bl _,H,I,Z,?_⟩;rw[show ap.toArray.any (bU x)=ap.any (bU x) by simp,Vr r fs];exact q
theorem QX:Wv X (.builtin "len") (λxs H Q=>∃p ys,xs=[.ref p]/\(az X.K H p ys\/aj X.K H p ys)/\Q (.int ys.length) H):=by
 intro U s σ H xs us Q I r h;obtain⟨p,ys,rfl,hq,q⟩:=h;obtain⟨u,rfl,rx⟩:=vals1 r;cases rx;have hn:=Wc;rcases hq with hq|hq
 .obtain⟨ap,r',pl,hz⟩:=I.list hq;have hlen:=r'.length;exact Calls.call_len_list pl.isList (by simp only[lW]<;>lia) ⟨.int ys.length,H,I.tok _,⟨s.toks+1,by rw[lW,hlen]⟩,q⟩
 .obtain⟨ap,r',pl,hz⟩:=I.tuple hq;have hlen:=r'.length;exact len_tuple pl (by simp only[lW]<;>lia) ⟨.int ys.length,H,I.tok _,⟨s.toks+1,by rw[lW,hlen]⟩,q⟩
theorem QH:Wv X (.builtin "len") (λxs H Q=>∃z,xs=[.str z]/\z.length<=sizeLine/\Q (.int z.length) H):=by
 intro U s σ H xs us Q I r h;obtain⟨z,rfl,hz,q⟩:=h;obtain⟨u,rfl,t,rfl⟩:=vals1 r;have hn:=Wc;exact len_str (by lia) ⟨.int z.length,H,I.tok _,⟨_,Z⟩,q⟩
def Dz(K:Frag)(T:String)(x:V)(H:Hp):Prop:=match x with
 | .str _=>T="str"
 | .int _=>T="int"
 | .ref p=>(T="list"/\∃xs,az K H p xs)\/(T="tuple"/\∃o,K.lookup p=some o/\o.cls=.type "tuple"/\o.dict=none)\/
   (T="dict"/\((∃al,H p=some (.dK al))\/∃al,H p=some (.dT al)))\/(T="set"/\∃S n,H p=some (.set S n))\/(T="tuple"/\∃xs,H p=some (.tup xs))
 |_=>False
theorem HU{U:List (Addr × Obj)}{σ:St}{T:String}{x:V}(I:Inv X U σ H s)(r:RelV x v)(ty:Dz X.K T x H):
  s.TypeIs v T/\∀a,v=.ref a->∃ob,s.heap.get? a=some ob/\ob.dict=none:=by
 cases x with
 |str z=>
  obtain⟨t,rfl⟩:=r;cases(show T="str" from ty);exact⟨ybW s z t,λ_ e=>nomatch e⟩
 |int i=>
  obtain⟨t,rfl⟩:=r;cases(show T="int" from ty);exact⟨typeIs_int s i t,λ_ e=>nomatch e⟩
 |ref p=>
  cases r;rcases ty with⟨rfl,xs,hq⟩|⟨rfl,o,hk,hc,hd⟩|⟨rfl,hk⟩|⟨rfl,S,n,hk⟩|⟨rfl,xs,hk⟩
  .obtain⟨ap,_,pl,_⟩:=I.list hq;refine⟨pl.isList.typeIs,λa e=>?_⟩;cases e;obtain⟨o,n,e,c,hd,_⟩:=pl;exact⟨o,e,hd⟩
  .refine⟨⟨o,I.bz p o hk,hc⟩,λa e=>?_⟩;cases e;exact⟨o,I.bz _ o hk,hd⟩
  .have z:∃o,s.heap.get? p=some o/\o.ExactDict:=by
    rcases hk with⟨al,hk⟩|⟨al,hk⟩
    .obtain⟨_,_,_,_,o,_,_,e,ex,_⟩:=I.ai p _ hk;exact⟨o,e,ex⟩
    .obtain⟨_,_,_,_,o,_,_,e,ex,_⟩:=I.ai p _ hk;exact⟨o,e,ex⟩
   obtain⟨o,e,ex⟩:=z;refine⟨⟨o,e,ex.1⟩,λa e2=>?_⟩;cases e2;exact⟨o,e,ex.2.1⟩
  .obtain⟨o,_,_,_,e,ex,_⟩:=I.ai p _ hk;refine⟨⟨o,e,ex.1⟩,λa e2=>?_⟩;cases e2;exact⟨o,e,ex.2.1⟩
  .obtain⟨_,ap,_,o,h1,h2,n,h3,h4⟩:=(show J3 X.prog X.w H s.heap p (.tup xs)from I.ai p _ hk);exact⟨⟨o,h1,h2⟩,λa e=>by cases e;exact⟨o,h1,h4⟩⟩
 |_=>exact False.elim ty
def MP(K:Frag)(T:String)(r:V->List V->Hp->VK->Prop)(to:TE):TE:=λσ H Q=>to σ H λx H1=>Dz K T x H1/\r x [] H1 Q
def DA(K:Frag)(T:String)(r:V->List V->Hp->VK->Prop)(to:TE)(t:TA):TE:=λσ H Q=>to σ H λx H1=>Dz K T x H1/\t σ H1 λxs H2=>r x xs H2 Q
variable {to:TE}{name:Str}{apos bv:Pos}{id:String}
theorem MQ(pa:PlainAttrs T)(slot:Slot T name id)(Be:typeOf (.builtin id)=pure (.type "method_descriptor"))(hm:cu X id r)(ho:PE X o to)
  (Da:attributeBase o name X.env (eval o X.env)=eval o X.env:=by rfl) (ge:(apos.endLine==bv.line)=true:=by rfl):PE X (.Call (.Attribute o name apos) [] [] bv) (MP X.K T r to):=by
 intro U s σ H Q I h;refine wpAny_Call_method0_late Da ge (av (ho U s σ H _ I h) λv s1⟨x,H1,I1,r1,ty,q1⟩=>?_);obtain⟨h1,h2⟩:=HU I1 r1 ty;exact⟨T,id,pa,slot,Be,h1,h2,ybY rfl (PySem.evalArgs_none (hm U s1 σ H1 x [] v [] Q I1 r1 .nil q1))⟩
theorem Zd(pa:PlainAttrs T)(slot:Slot T name id)(Be:typeOf (.builtin id)=pure (.type "method_descriptor"))(hm:cu X id r)(ho:PE X o to)(ha:PA X (e::es) t)
  (Da:attributeBase o name X.env (eval o X.env)=eval o X.env:=by rfl)
  (EL:((backTo bv (starEach (e::es) X.env)).all (λx=> !x.1)&&(backToKw bv (keywordEach [] X.env)).all (λx=>x.1.isSome)
   &&decide ((e::es).length+([]:List Keyword).length+(if([]:List Keyword).isEmpty then 0 else 1)<30))=true:=by rfl)
  (ge:(apos.endLine==bv.line)=true:=by rfl) (hs:starEach (e::es) X.env=(false,eval e X.env)::starEach es X.env:=by rfl) (oW:(backTo bv (starEach es X.env)).any (·.1)=false:=by rfl):
  PE X (.Call (.Attribute o name apos) (e::es) [] bv) (DA X.K T r to t):=by
 intro U s σ H Q I h;refine wpAny_Call_method_late Da EL ge rfl (av (ho U s σ H _ I h) λv s1⟨x,H1,I1,r1,ty,q1⟩=>?_);obtain⟨h1,h2⟩:=HU I1 r1 ty;exists T,id,pa,slot,Be,h1,h2;have hA:=ha bv U s1 σ H1 _ I1 q1;rw[hs]at hA ⊢;refine ybY (by show(false||(backTo bv (starEach es X.env)).any (·.1))=false;rw[oW]<;>rfl) (yco ?_);exact av hA λus s2⟨vs,H2,I2,r2,q2⟩=>hm U s2 σ H2 x vs v us Q I2 r1 r2 q2
end
def EM(X:Cx)(id:String)(r:V->List V->Hp->VK->Prop):Prop:=
 ∀(U:List (Addr × Obj))(s:Shared)(σ:St)(H:Hp)(x:V)(xs:List V)(v:Value)(us:List Value)(Q:VK),Inv X U σ H s->RelV x v->Vals xs us->r x xs H Q->
  wpAny (model X.prog X.w) X.A (call (.builtin id) (v::us)) (EP X U σ Q) X.xe s
theorem Vals.one:∀{x:V}{us:List Value},Vals [x] us->∃u,us=[u]/\RelV x u
 |_,_,.cons r .nil=>⟨_,Z,r⟩
theorem Vals.zero:∀{us:List Value},Vals [] us->us=[]
 |_,.nil=>rfl
theorem Vals.dropLast{xs:List V}{us:List Value}(h:Vals xs us):Vals xs.dropLast us.dropLast:=by
 induction h with
 |nil=>exact .nil
 |cons r t ih=>
  cases t with
  |nil=>exact .nil
  |cons q t'=>exact .cons r ih
theorem Vals.eraseIdx:∀{xs:List V}{us:List Value}(i:Nat),Vals xs us->Vals (xs.eraseIdx i) (us.eraseIdx i)
 |_,_,_,.nil=>.nil
 |_,_,0,.cons _ t=>t
 |_,_,i+1,.cons r t=>.cons r (Vals.eraseIdx i t)
theorem Vals.rep{xs:List V}{us:List Value}(h:Vals xs us):∀k:Nat,Vals (replicate k xs).flatten (replicate k us).flatten
 |0=>.nil
 |k+1=>by
  rw[yaz,yaz,ybu,ybu];exact Vals.append h (Vals.rep h k)
theorem zC{α:Type}(l:List α):l.eraseIdx (l.length-1)=l.dropLast:=by
 induction l with
 |nil=>rfl
 |cons a r ih=>
  cases r with
  |nil=>rfl
  |cons b r=>
   have e:(a::b::r).length-1=((b::r).length-1)+1:=by
    have h1:(a::b::r).length=r.length+2:=rfl;have h2:(b::r).length=r.length+1:=rfl;lia
   rw[e,List.eraseIdx_cons_succ,ih]
   all_goals rfl
theorem UG{α:Type}:∀(l:List α)(i:Nat),(l.eraseIdx i).length<=l.length
 |[],_=>lA _
 |_::_,0=>Nat.le_succ _
 |_::r,i+1=>ybV (UG r i)
theorem foldl_rep(ap:List Value):∀(k:Nat)(acc:List Value),
  List.foldl (λx1 x2=>x1++x2) acc.toArray (replicate k ap.toArray)=(acc++(replicate k ap).flatten).toArray
 |0,acc=>by simp
 |k+1,acc=>by
  have e:acc.toArray++ap.toArray=(acc++ap).toArray:=by simp
  have e2:(acc++ap)++(replicate k ap).flatten=acc++(replicate (k+1) ap).flatten:=by
   rw[yaz,ybu,lP]
  rw[<-e2, <-foldl_rep ap k (acc++ap), <-e,yaz,ycH]
section
variable {X:Cx}{U:List (Addr × Obj)}{σ:St}{H:Hp}{s:Shared}{l:Addr}{xs ys zs:List V}
theorem Inv.EN{ap its':List Value}(I:Inv X U σ H s)(hH:H l=some (.lst xs))
  (e:s.heap.get? l=some {cls:=.type "list",data:=.seq ap.toArray n}) (hf:f ap.toArray=its'.toArray) (hv:Vals ys its') (hz:ys.length<=sizeLine):
  Inv X U σ (upd H l (.lst ys)) {s with heap:=s.heap.update l (Obj.mapSeq f),toks:=t'}:=by
 have q:=PySem.IsL.update e f;rw[hf]at q;refine I.write (x:=l) (e:=l) (by rw[hH];exact trivial) (.inl Z) (λb' u hb hu=>(ycO s.heap (Obj.mapSeq f) (Ne.symm hb)).trans hu) ⟨_,q⟩ ?_;exact⟨hz,its',_,hv,q⟩
theorem Inv.HV{ap:List Value}(I:Inv X U σ H s)(hv:Vals ys ap)(hz:ys.length<=sizeLine):
  Inv X U σ (upd H s.heap.objs.size (.lst ys)) {s with heap:=s.heap.push {cls:=.type "list",data:=.seq ap.toArray},toks:=t'}:=
 I.laid (λ_ _ q=>yaa _ q) (lA _) ⟨hz,ap,0,hv,yam _ rfl⟩
theorem Inv.fresh(I:Inv X U σ H s):H s.heap.objs.size=none:=I.ai.fresh (lA _)
theorem Inv.vg(I:Inv X U σ H s)(hH:H l=some (.lst xs)):xs.length<=sizeLine/\∃(ap:List Value)(n:Nat),Vals xs ap/\xs.length=ap.length/\s.heap.get? l=some {cls:=.type "list",data:=.seq ap.toArray n}:=by
 obtain⟨z,ap,n,r,e⟩:=I.ai l _ hH;exact⟨z,ap,n,r,r.length,e⟩
theorem vh(h:n<=sizeLine):Builtin.List.listTooLong n=false:=by
 unfold Builtin.List.listTooLong;exact lx (by lia)
end
section
def MR:V->List V->Hp->VK->Prop:=λx vs H Q=>∃l xs y,x=.ref l/\vs=[y]/\H l=some (.lst xs)/\xs.length<sizeLine/\Q .ax (upd H l (.lst (xs++[y])))
theorem ZG:EM X "list.append" MR:=by
 intro U s σ H x vs v us Q I rx rv h;obtain⟨l,xs,y,rfl,rfl,hH,hz,q⟩:=h;cases rx;obtain⟨u,rfl,ru⟩:=rv.one;obtain⟨z,ap,n,r,hl,e⟩:=I.vg hH;refine ycS F.slot_list_append ⟨_,e,Z⟩ F.entry_list_append (F.args_list_append_2 _ _) (PySem.list_append l ap.toArray n u (by rw[lW];lia)) ⟨e,?_⟩;refine⟨.ax,_,I.EN (its':=ap++[u]) hH e (by simp) (r.append (.cons ru .nil)) ?_,Z,q⟩;rw[lq,lC];lia
def MS:V->List V->Hp->VK->Prop:=λx vs H Q=>∃l xs y,x=.ref l/\vs=[]/\H l=some (.lst xs)/\xs[xs.length-1]? =some y/\Q y (upd H l (.lst xs.dropLast))
theorem MT:EM X "list.pop" MS:=by
 intro U s σ H x vs v us Q I rx rv h;obtain⟨l,xs,y,rfl,rfl,hH,hy,q⟩:=h;cases rx;have MU:=rv.zero;subst MU;obtain⟨z,ap,n,r,hl,e⟩:=I.vg hH;obtain⟨u,hu,ru⟩:=r.get hy;have MV:ap.toArray[ap.toArray.size-1]? =some u:=by
  show ap.toArray[ap.length-1]? =some u;rw[<-ycc, <-hl];exact hu
 refine ycS F.slot_list_pop ⟨_,e,Z⟩ F.entry_list_pop (F.args_list_pop_1 _) (MeetsSeq.list_pop_last l ap.toArray n u MV (by rw[lW];lia)) ⟨e,?_⟩;refine⟨y,_,I.EN (its':=ap.dropLast) hH e ?_ r.dropLast ?_,ru,q⟩
 .show ap.toArray.eraseIdxIfInBounds (ap.toArray.size-1)=ap.dropLast.toArray;rw[lW,ycT,zC]
 .rw[yaN];lia
def MW:V->List V->Hp->VK->Prop:=λx vs H Q=>∃l xs i k y,x=.ref l/\vs=[.int i]/\H l=some (.lst xs)/\ -(2^63)<=i/\i<2^63/\seqIndex? i xs.length=some k/\xs[k]? =some y/\Q y (upd H l (.lst (xs.eraseIdx k)))
theorem vi:EM X "list.pop" MW:=by
 intro U s σ H x vs v us Q I rx rv h;obtain⟨l,xs,i,k,y,rfl,rfl,hH,h1,h2,hk,hy,q⟩:=h;cases rx;obtain⟨u,rfl,ru⟩:=rv.one;obtain⟨t,rfl⟩:=ru;obtain⟨z,ap,n,r,hl,e⟩:=I.vg hH;obtain⟨w,hw,IR⟩:=r.get hy;refine ycS F.slot_list_pop ⟨_,e,Z⟩ F.entry_list_pop (F.args_list_pop_2 _ _)
  (MeetsSeq.list_pop_at l ap.toArray n i t k w (fitsIndex_both h1 h2) (by rw[lW, <-hl];exact hk) (by rw[<-ycc];exact hw) (by rw[lW];lia)) ⟨e,?_⟩
 refine⟨y,_,I.EN (its':=ap.eraseIdx k) hH e ?_ (r.eraseIdx k) ?_,IR,q⟩
 .show ap.toArray.eraseIdxIfInBounds k=(ap.eraseIdx k).toArray;rw[ycT]
 .have:=UG xs k;lia
def MX:R2:=λx y H Q=>∃l b xs zs,x=.ref l/\y=.ref b/\H l=some (.lst xs)/\H b=some (.lst zs)/\xs.length+zs.length<=sizeLine/\∀p,H p=none->Q (.ref p) (upd H p (.lst (xs++zs)))
theorem Vs:aW X (binaryOp .Add) MX:=by
 intro U s σ H x y v u Q I rx ry h;obtain⟨l,b,xs,zs,rfl,rfl,hH,hB,hz,q⟩:=h;cases rx;cases ry;obtain⟨z,ap,n,r,hl,e⟩:=I.vg hH;obtain⟨z2,Db,n2,r2,oX,e2⟩:=I.vg hB;refine PySem.P.add_list e e2 ?_ (by rw[lW,lW];lia);have ea:ap.toArray++Db.toArray=(ap++Db).toArray:=by simp
 rw[ea];exact⟨.ref _,_,I.HV (t':=s.toks) (r.append r2) (by rw[lq];lia),Z,q _ I.fresh⟩
def MY:R2:=λx y H Q=>∃l k xs,x=.ref l/\y=.int k/\H l=some (.lst xs)/\ -(2^63)<=k/\k<2^63/\xs.length*k.toNat<=sizeLine/\
 ∀p,H p=none->Q (.ref p) (upd H p (.lst (replicate k.toNat xs).flatten))
theorem len_rep{α:Type}(xs:List α)(k:Nat):(replicate k xs).flatten.length=k*xs.length:=by
 induction k with
 |zero=>simp
 |succ k ih=>rw[yaz,ybu,lq,ih,Nat.succ_mul,yeC]
theorem MZ:aW X (binaryOp .Mult) MY:=by
 intro U s σ H x y v u Q I rx ry h;obtain⟨l,k,xs,rfl,rfl,hH,h1,h2,hz,q⟩:=h;cases rx;obtain⟨t,rfl⟩:=ry;obtain⟨z,ap,n,r,hl,e⟩:=I.vg hH;have hlen:ap.toArray.size*k.toNat<=sizeLine:=by rw[lW, <-hl];exact hz
 have EO:¬ ap.toArray.size*k.toNat>(2^63-1)/8:=by
  have:(sizeLine:Nat)<=(2^63-1)/8:=by lia
  lia
 have oY:¬ (!Builtin.List.listFitsIndex k)=true:=by
  rw[fitsIndex_both h1 h2];exact yar
 have Bf:¬ Builtin.List.listTooLong (ap.toArray.size*k.toNat)=true:=by
  rw[vh hlen];exact yar
 have ER:List.foldl (λx1 x2=>x1++x2) #[] (replicate (if ap.toArray.isEmpty=true then 0 else k.toNat) ap.toArray)=(replicate k.toNat ap).flatten.toArray:=by
  have f0:∀m:Nat,List.foldl (λx1 x2=>x1++x2) #[] (replicate m ap.toArray)=(replicate m ap).flatten.toArray:=λm=>by
   have:=foldl_rep ap m [];rw[lR]at this;exact this
  rw[f0];cases ap with
  |nil=>simp
  |cons a r'=>rw[yac (by simp)]
 refine wpAny_binaryOp_repeat_ref (T:="list") (U:="int") (by lia) ⟨_,e,Z⟩ (λs'=>typeIs_int s' k t) noFill_list_mul F.fills_int_mul F.slot_int_rmul repeat_list F.slot_int_index.lookup
  (ycS F.slot_int_rmul (typeIs_int s k t) F.entry_int_rmul (F.args_int_rmul_2 _ _) (int___rmul___int_list k t l ap.toArray n)
   ⟨e,Z,⟨_,e,Z⟩,ycS F.slot_list_mul ⟨_,e,Z⟩ F.entry_list_mul (F.args_list_mul_2 _ _) (AutoListH.list___mul___list_int_3 l ap.toArray n k t oY EO Bf) ⟨e,?_⟩⟩)
 rw[ER];exact⟨.ref _,_,I.HV (t':=s.toks) (r.rep k.toNat) (by rw[len_rep,ydz];exact hz),Z,q _ I.fresh⟩
end
section
variable {κ:Type}[DecidableEq κ]
noncomputable def Wz(al:List (κ × V))(k:κ):Option V:=(al.find? λkv=>decide (kv.1=k)).map (·.2)
noncomputable def putK(al:List (κ × V))(k:κ)(v:V):List (κ × V):=
 if(al.any λkv=>decide (kv.1=k))=true then al.map (λkv=>if kv.1=k then(kv.1,v)else kv)else al++[(k,v)]
theorem Wd{r:List (κ × V)}(e:p.1=k):Wz (p::r) k=some p.2:=by simp[Wz,ybL,e]
theorem W9{r:List (κ × V)}(e:¬ p.1=k):Wz (p::r) k=Wz r k:=by simp[Wz,ybL,e]
theorem jF(k:κ):∀al:List (κ × V),(al.any λkv=>decide (kv.1=k))=(Wz al k).isSome
 |[]=>rfl
 |p::r=>by
  rw[ych]
  by_cases e:p.1=k
  .simp only[Wd e,ly e,yeD,ydA]
  .rw[W9 e,lx e,ydf];exact jF k r
theorem KL(al:List (κ × V))(k:κ)(v:V):(putK al k v).length<=al.length+1:=by
 unfold putK
 split
 .rw[lu];lia
 .rw[lq,lD,ybj];lia
theorem jx.Vt(r:jx o u):o.isSome=u.isSome:=by
 cases o with
 |none=>cases u with
  |none=>rfl
  |some _=>exact(show False from r).elim
 |some _=>cases u with
  |none=>exact(show False from r).elim
  |some _=>rfl
theorem jx.getD(r:jx o u)(rd:RelV d d'):RelV (o.getD d) (u.getD d'):=by
 cases o with
 |none=>cases u with
  |none=>exact rd
  |some _=>exact(show False from r).elim
 |some _=>cases u with
  |none=>exact(show False from r).elim
  |some _=>exact r
theorem KV.val{al:List (κ × V)}(r:KV al vs)(k:κ):jx (Wz al k) (valueAt vs k):=by
 unfold KV at r
 induction r with
 |nil=>exact True.intro
 |@cons p q ps qs h t ih=>
  obtain⟨h1,h2⟩:=h
  by_cases e:p.1=k
  .have e':q.1=k:=h1.symm.trans e;have b:valueAt (q::qs) k=some q.2:=by simp[valueAt,ybL,e']
   rw[Wd e,b];exact h2
  .have e':¬ q.1=k:=λz=>e (h1.trans z);have b:valueAt (q::qs) k=valueAt qs k:=by simp[valueAt,ybL,e']
   rw[W9 e,b];exact ih
theorem KV.any{al:List (κ × V)}(r:KV al vs)(k:κ):(al.any λkv=>decide (kv.1=k))=vs.any λkv=>decide (kv.1=k):=by
 unfold KV at r
 induction r with
 |nil=>rfl
 |cons h t ih=>rw[ych,ych,ih,h.1]
theorem KV.ES{al:List (κ × V)}(r:KV al vs)(k:κ)(ry:RelV y u):
  KV (al.map λkv=>if kv.1=k then(kv.1,y)else kv) (vs.map λkv=>if kv.1=k then(kv.1,u)else kv):=by
 unfold KV at r ⊢
 induction r with
 |nil=>exact .nil
 |@cons p q ps qs h t ih=>
  rw[lU,lU];refine .cons ?_ ih;obtain⟨h1,h2⟩:=h
  by_cases e:p.1=k
  .rw[yaf e,yaf (h1.symm.trans e)];exact⟨h1,ry⟩
  .rw[yac e,yac (λz=>e (h1.trans z))];exact⟨h1,h2⟩
theorem KV.put{al:List (κ × V)}(r:KV al vs)(k:κ)(ry:RelV y u):KV (putK al k y) (stored vs k u):=by
 unfold putK stored;rw[r.any k]
 by_cases e:(vs.any λkv=>decide (kv.1=k))=true
 .rw[yaf e,yaf e];exact r.ES k ry
 .rw[yac e,yac e];exact Paired.snoc r ⟨Z,ry⟩
theorem KV.length{al:List (κ × V)}(r:KV al vs):al.length=vs.length:=ydN r
end
theorem UH(r:RelV (kV k) u):(JA P w).is k u=true:=by
 cases k with
 |inl i=>obtain⟨t,e⟩:=(show ∃t,u=Value.int i t from r);subst e;exact qy P w i t
 |inr x=>obtain⟨t,e⟩:=(show ∃t,u=Value.str x t from r);subst e;exact JS P w x t
theorem UI:∀{ks:List Key}{us:List Value},Vals (ks.map kV) us->ItemsAre (JA P w) ks us
 |[],_,r=>by rw[ycz]at r;cases r;exact .nil
 |k::ks,_,r=>by
  rw[lU]at r;cases r with
  |cons h t=>exact .cons (UH h) (UI t)
abbrev KT(H:Hp):List (List Key × V)->List (List Key × Addr × Value)->Prop:=Paired λp q=>p.1=q.1/\H q.2.1=some (.tup (p.1.map kV))/\RelV p.2 q.2.2
theorem KT.val{al:List (List Key × V)}{xs:List (List Key × Addr × Value)}(r:KT H al xs)(k:List Key):jx (Wz al k) ((atKey xs k).map (·.2)):=by
 induction r with
 |nil=>exact True.intro
 |@cons p q ps qs h t ih=>
  obtain⟨h1,_,h2⟩:=h
  by_cases e:p.1=k
  .have e':q.1=k:=h1.symm.trans e;have b:atKey (q::qs) k=some q.2:=by simp[atKey,ybL,e']
   rw[Wd e,b];exact h2
  .have e':¬ q.1=k:=λz=>e (h1.trans z);have b:atKey (q::qs) k=atKey qs k:=by simp[atKey,ybL,e']
   rw[W9 e,b];exact ih
theorem KT.ES{al:List (List Key × V)}{xs:List (List Key × Addr × Value)}(r:KT H al xs)(k:List Key)(ry:RelV y u):
  KT H (al.map λkv=>if kv.1=k then(kv.1,y)else kv) (xs.map (putAt k u)):=by
 induction r with
 |nil=>exact .nil
 |@cons p q ps qs h t ih=>
  rw[lU,lU];refine .cons ?_ ih;obtain⟨h1,h2,h3⟩:=h;unfold putAt
  by_cases e:p.1=k
  .rw[yaf e,yaf (h1.symm.trans e)];exact⟨h1,h2,ry⟩
  .rw[yac e,yac (λz=>e (h1.trans z))];exact⟨h1,h2,h3⟩
theorem KT.put{al:List (List Key × V)}{xs:List (List Key × Addr × Value)}(r:KT H al xs)(k:List Key)(hb:H b=some (.tup (k.map kV)))(ry:RelV y u):
  KT H (putK al k y) (storedH xs k b u):=by
 have e:(al.any λkv=>decide (kv.1=k))=(atKey xs k).isSome:=by
  rw[jF,(r.val k).Vt,Option.isSome_map]
 unfold putK storedH;rw[e]
 by_cases q:(atKey xs k).isSome=true
 .rw[yaf q,yaf q];exact r.ES k ry
 .rw[yac q,yac q];exact Paired.snoc r ⟨Z,hb,ry⟩
theorem KT.keeps{al:List (List Key × V)}{xs:List (List Key × Addr × Value)}(r:KT H al xs)(ht:∀b ys,H b=some (.tup ys)->H' b=some (.tup ys)):KT H' al xs:=
 Paired.El r λ_ _ z=>⟨z.1,ht _ _ z.2.1,z.2.2⟩
section
theorem HW(ok:aZ P w H h)(e:Rd H a u):J3 P w H h a u:=e.ok ok
theorem xH{al:List (Key × V)}(ok:aZ P w H h)(e:Rd H a (.dK al)):al.length<=sizeLine/\(a==sysModules)=false/\∃vs,KV al vs/\h.DictOf (JA P w) a vs:=
 show J3 P w H h a (.dK al)from HW ok e
theorem HX{al:List (Key × V)}(ok:aZ P w H h)(e:H a=some (.dK al)):al.length<=sizeLine/\(a==sysModules)=false/\∃vs,KV al vs/\h.DictOf (JA P w) a vs:=xH ok (.inl e)
theorem jG(ok:aZ P w H h)(e:H a=some (.tup (ks.map kV))):(tupleKind (JA P w)).is h ks a:=by
 obtain⟨_,ap,r,o,h1,h2,n,h3,_⟩:=(show J3 P w H h a (.tup (ks.map kV))from ok a _ e);exact⟨o,ap.toArray,n,h1,h2,h3,by simpa using UI r⟩
theorem xI{al:List (List Key × V)}(ok:aZ P w H h)(e:Rd H a (.dT al)):al.length<=sizeLine/\(a==sysModules)=false/\
  ∃xs,KT H al xs/\h.DictOfH (tupleKind (JA P w)) a xs:=by
 obtain⟨z,y,xs,r,o,es,ep,h1,h2,h3,h4,h5⟩:=(show J3 P w H h a (.dT al)from HW ok e);refine⟨z,y,xs,r,o,es,ep,h1,h2,h3,h4,λx hx=>?_,h5⟩;have all:∀{l:List (List Key × V)}{m:List (List Key × Addr × Value)},KT H l m->∀x∈m,(tupleKind (JA P w)).is h x.1 x.2.1:=by
  intro l m q
  induction q with
  |nil=>intro x hx;exact nomatch hx
  |@cons p q ps qs hq t ih=>
   intro x hx;rcases yag.mp hx with e|hx
   .subst e;exact jG ok (by rw[<-hq.1];exact hq.2.1)
   .exact ih x hx
 exact all r x hx
theorem M0{al:List (List Key × V)}(ok:aZ P w H h)(e:H a=some (.dT al)):al.length<=sizeLine/\(a==sysModules)=false/\
  ∃xs,KT H al xs/\h.DictOfH (tupleKind (JA P w)) a xs:=xI ok (.inl e)
end
def zD(H:Hp)(a:Addr)(y:V)(r:Option V):Prop:=
 (∃al k,Rd H a (.dK al)/\y=kV k/\r=Wz al k)\/∃al k b,Rd H a (.dT al)/\y=.ref b/\H b=some (.tup (k.map kV))/\r=Wz al k
def iW(H:Hp)(a:Addr)(y v:V)(H':Hp):Prop:=
 (∃al k,H a=some (.dK al)/\y=kV k/\al.length<sizeLine/\H'=upd H a (.dK (putK al k v)))\/
 ∃al k b,H a=some (.dT al)/\y=.ref b/\H b=some (.tup (k.map kV))/\al.length<sizeLine/\H'=upd H a (.dT (putK al k v))
theorem zD.k{H:Hp}{a:Addr}{al:List (Key × V)}{k:Key}(e:H a=some (.dK al)):zD H a (kV k) (Wz al k):=.inl ⟨al,k,.inl e,Z,Z⟩
theorem iW.k{H:Hp}{al:List (Key × V)}{k:Key}{v:V}(e:H a=some (.dK al))(hl:al.length<sizeLine):iW H a (kV k) v (upd H a (.dK (putK al k v))):=.inl ⟨al,k,e,Z,hl,Z⟩
section
variable {X:Cx}{U:List (Addr × Obj)}{σ:St}{H:Hp}{s:Shared}{a:Addr}{y v:V}{u r:Value}{A:Around}{E:Value->Shared->Prop}
theorem Inv.big(I:Inv X U σ H s):sysModules<s.heap.objs.size:=by
 have h:mainGlobals<s.heap.objs.size:=(I.mod.glob.keeps I.bk).lt;exact yaD (by lia) h
theorem xJ(hu:A.units+1<cLine)(I:Inv X U σ H s)(g:zD H a y (some v))(ry:RelV y u)(h:∀w' s',Inv X U σ H s'->RelV v w'->Q w' s'):
  wpAny (model X.prog X.w) A (getItem (.ref a) u) Q E s:=by
 rcases g with⟨al,k,e,ey,l⟩|⟨al,k,b,e,ey,eb,l⟩
 .subst ey;obtain⟨z,hd,vs,rel,dd⟩:=xH I.ai e;obtain⟨w',hw,IR⟩:=jx.some_of (v:=v) (o:=valueAt vs k) (by rw[l];exact rel.val k);exact wpAny_getItem_of (UH ry) dd.mapOf hw (h w' _ (I.tok _) IR)
 .subst ey;cases(show u=Value.ref b from ry);obtain⟨z,hd,xs,rel,dd⟩:=xI I.ai e;obtain⟨w',hw,IR⟩:=jx.some_of (v:=v) (o:=(atKey xs k).map (·.2)) (by rw[l];exact rel.val k);obtain⟨p,hp,im⟩:=yaS.mp hw;refine wpAny_getItem_heap (ydB hu) (jG I.ai eb) dd hp ?_;rw[im];exact h w' _ (I.tok _) IR
theorem qF(I:Inv X U σ H s)(mu:AV (H a))(hs:Heap.SameBut a s.heap h')(he:∃q,h'.get? a=some q) (new:J3 X.prog X.w (upd H a ob) h' a ob):
  Inv X U σ (upd H a ob) {s with heap:=h',toks:=t'}:=
 I.write (x:=a) (e:=a) mu (.inl Z) (λb q hb z=>(hs.2 b hb).trans z) he new
theorem HY{al:List (Key × V)}(z:al.length<=sizeLine)(hd:(a==sysModules)=false)(rel:KV al vs)(dd:h'.DictOf (JA P w) a vs):
  J3 P w H' h' a (.dK al):=⟨z,hd,vs,rel,dd⟩
theorem xK(hu:A.units+1<cLine)(I:Inv X U σ H s)(g:iW H a y v H')(ry:RelV y u)(rv:RelV v r)(h:∀s',Inv X U σ H' s'->Q () s'):
  wpAny (model X.prog X.w) A (setItem (.ref a) u r) Q E s:=by
 rcases g with⟨al,k,e,ey,l,eH⟩|⟨al,k,b,e,ey,eb,l,eH⟩
 .subst ey eH;obtain⟨z,hd,vs,rel,dd⟩:=HX I.ai e;have hz:vs.length<=sizeLine:=by rw[<-rel.length];exact z
  have hl:(putK al k v).length<=sizeLine:=by have:=KL al k v;lia
  refine wpAny_setItem_pairs (hsz:=hz) (UH ry) dd λh' oZ hs=>h _ ?_;have he:∃q,h'.get? a=some q:=let ⟨q,_,_,hq,_⟩:=oZ;⟨q,hq⟩;exact qF I (by rw[e];exact True.intro) hs he (HY hl hd (rel.put k rv) oZ)
 .subst ey eH;cases(show u=Value.ref b from ry);obtain⟨z,hd,xs,rel,dd⟩:=M0 I.ai e;have hz:xs.length<=sizeLine:=by rw[<-ydN rel];exact z
  have hl:(putK al k v).length<=sizeLine:=by have:=KL al k v;lia
  refine wpAny_setItem_heap (hsz:=hz) (ydB hu) (jG I.ai eb) dd λh' oZ hs=>h _ ?_;obtain⟨q,es,ep,hq,h2,h3,h4,_,h5⟩:=oZ;refine qF I (by rw[e];exact True.intro) hs ⟨q,hq⟩ ⟨hl,hd,_,(rel.put k eb rv).keeps λc ys ec=>?_,q,es,ep,hq,h2,h3,h4,h5⟩;rw[Qx (Mi ec e (λz=>nomatch z))];exact ec
end
def ET(i:Expr):Prop:=∀ov iv,subscripted i false ov iv=operate [ov,iv] (getItem ov iv)
theorem xL{prog:Program}{env:Env}{value slice:Expr}{pos:Pos}{T id:String}
  (hl:typeLookup (.type T) "__getitem__"=pure (some (.builtin id))) (hs:ET slice)
  (h:wpAny (model prog w) A (eval value env) (λo s₁=>wpAny (model prog w) A (eval slice env) (λi s₂=>s₂.TypeIs o T/\wpAny (model prog w) A (getItem o i) Q E s₂) E s₁) E s):
  wpAny (model prog w) A (eval (.Subscript value slice pos) env) Q E s:=by
 refine Subscript_ (yaB h (λo s₁ h₁=>yaB h₁ (λi s₂ h₂=>?_) λ_ _ x=>x) λ_ _ x=>x);obtain⟨hT,h₂⟩:=h₂;unfold subscriptTail;refine yab ?_;rw[getitemInPython_of_ne hT.not_modules];refine yab (ydo hT hl ?_);have fin:wpAny (model prog w) A (subscripted slice false o i) (λr s₃=>wpAny (model prog w) A (letTemporaryGo value o r>>=λ_=>pure r) Q E s₃) E s₂:=by
  rw[hs o i];exact wpAny_operating (yaB h₂ (λr s₃ h₃=>yab (wpAny_letTemporaryGo (yan h₃))) λ_ _ x=>x)
 first
  |exact yan (yab fin)
  |exact yab (yan (yab fin))
  |exact yab fin
theorem qG{X:Cx}{U:List (Addr × Obj)}{σ:St}{y:V}(I:Inv X U σ H s)(g:zD H a y o):s.TypeIs (.ref a) "dict":=by
 rcases g with⟨al,k,e,_,_⟩|⟨al,k,b,e,_,_,_⟩
 .obtain⟨_,_,vs,_,dd⟩:=xH I.ai e;exact dd.typeIs
 .obtain⟨_,_,xs,_,dd⟩:=xI I.ai e;exact dd.typeIs
def M1(td ty:TE):TE:=λσ H Q=>td σ H λx H1=>ty σ H1 λy H2=>∃a v,x=.ref a/\zD H2 a y (some v)/\Q v H2
def HZ(td ty tv:TE):TS:=λD σ H=>tv σ H λv H1=>td σ H1 λx H2=>ty σ H2 λy H3=>∃a H4,x=.ref a/\iW H3 a y v H4/\D.nx σ H4
section
variable {value:Expr}{pos pos':Pos}{ty tv:TE}
theorem X0(hu:X.A.units+1<cLine)(ho:PE X o td)(hi:PE X i ty)(hs:ET i):PE X (.Subscript o i pos) (M1 td ty):=by
 intro U s σ H Q I h;refine xL PySem.F.slot_dict_getitem.lookup hs (av (ho U s σ H _ I h) λu s1⟨x,H1,I1,rx,q1⟩=>av (hi U s1 σ H1 _ I1 q1) λiv s2⟨y,H2,I2,ry,a,v,ex,g,q2⟩=>?_);subst ex;obtain rfl:u=Value.ref a:=rx;exact⟨qG I2 g,xJ hu I2 g ry λw' s3 I3 IR=>⟨v,H2,I3,IR,q2⟩⟩
theorem M4(hu:X.A.units+1<cLine)(ho:PE X o td)(hi:PE X i ty)(hv:PE X value tv)(hs:swapsWith value (some (.Subscript o i pos')) pos.line X.env=pure false):
  PS X (.Assign [.Subscript o i pos'] value pos) (HZ td ty tv):=by
 intro U s σ H D I h;refine wpAny_Assign_Subscript (av (hv U s σ H _ I h) λr s1⟨v,H1,I1,rv,q1⟩=>av (ho U s1 σ H1 _ I1 q1) λu s2⟨x,H2,I2,rx,q2⟩=>av (hi U s2 σ H2 _ I2 q2) λiv s3⟨y,H3,I3,ry,a,H4,ex,g,q3⟩=>?_) hs;subst ex;obtain rfl:u=Value.ref a:=rx;exact xK hu I3 g ry rv λs4 I4=>⟨σ,H4,I4,q3⟩
end
theorem jH(h:Heap)(hb:sysModules<h.objs.size):J3 P w H (h.push {cls:=.type "dict",data:=.dict #[]}) h.objs.size (.dK []):=
 ⟨lX _,yaC.mpr (Ne.symm (yal hb)),[],.nil,Heap.DictOf.new h⟩
def Ia:TE:=λ_ H Q=>∀p,H p=none->Q (.ref p) (upd H p (.dK []))
section
variable {pos:Pos}
theorem vj:PE X (.Dict [] [] pos) Ia:=λU s σ H Q I h=>
 wpAny_Dict_empty ⟨.ref s.heap.objs.size,_,I.laid (a:=s.heap.objs.size) (o:=.dK []) (t':=s.toks) (λ_ _ q=>yaa _ q) (lA _) (jH s.heap I.big),Z,h _ (I.ai.fresh (lA _))⟩
end
def jI:List (TE × TE)->St->Hp->(List (V × V)->Hp->Prop)->Prop
 |[],_,H,Q=>Q [] H
 |(tk,tv)::r,σ,H,Q=>tk σ H λx H1=>tv σ H1 λy H2=>jI r σ H2 λps H3=>Q ((x,y)::ps) H3
abbrev VV:List (V × V)->List (Value × Value)->Prop:=Paired λp q=>RelV p.1 q.1/\RelV p.2 q.2
def Bg(X:Cx)(pos:Pos)(keys:List (Option Expr))(values:List Expr)(Ps:List (TE × TE)):Prop:=
 ∀(U:List (Addr × Obj))(s:Shared)(σ:St)(H:Hp)(Q:List (V × V)->Hp->Prop),Inv X U σ H s->jI Ps σ H Q->
  wpAny (model X.prog X.w) X.A (evalPairs (pairTrees keys values X.env pos)) (λvs s'=>∃ps H',Inv X U σ H' s'/\VV ps vs/\Q ps H') X.xe s
theorem xM{pos:Pos}:Bg X pos [] [] []:=λU s σ H Q I h=>pairTrees_nil_walk ⟨[],H,I,.nil,h⟩
theorem YL{pos:Pos}{tk tv:TE}{Ps:List (TE × TE)}(hk:PE X k tk)(hv:PE X v tv)(hr:Bg X pos ks vs Ps):
  Bg X pos (some k::ks) (v::vs) ((tk,tv)::Ps):=λU s σ H Q I h=>
 pairTrees_cons_walk (av (hk U s σ H _ I h) λu s1⟨x,H1,I1,rx,q1⟩=>av (hv U s1 σ H1 _ I1 q1) λw2 s2⟨y,H2,I2,ry,q2⟩=>
  av (hr U s2 σ H2 _ I2 q2) λws s3⟨ps,H3,I3,rel,q3⟩=>⟨(x,y)::ps,H3,I3,.cons ⟨rx,ry⟩ rel,q3⟩)
noncomputable def WV(al more:List (Key × V)):List (Key × V):=more.foldl (λacc kv=>putK acc kv.1 kv.2) al
theorem KV.merge:∀{more:List (Key × V)}{rs:List (Key × Value)}{al:List (Key × V)}{vs:List (Key × Value)},KV more rs->KV al vs->KV (WV al more) (merged vs rs):=by
 intro more rs al vs r;unfold KV at r
 induction r generalizing al vs with
 |nil=>intro q;exact q
 |@cons p q ps qs h t ih=>
  intro r0;have e:KV (putK al p.1 p.2) (stored vs q.1 q.2):=by
   have:=r0.put p.1 h.2;rw[<-h.1];exact this
  exact ih e
theorem We:∀(more al:List (Key × V)),(WV al more).length<=al.length+more.length
 |[],al=>by show al.length<=al.length+0;lia
 |p::r,al=>by
  have h1:=We r (putK al p.1 p.2);have h2:=KL al p.1 p.2;show(WV (putK al p.1 p.2) r).length<=_;rw[lD];lia
theorem Ys:∀{al:List (Key × V)}{ws:List (Value × Value)},VV (al.map λkv=>(kV kv.1,kv.2)) ws->∃rs,Carries (JA P w) ws rs/\KV al rs
 |[],_,r=>by rw[ycz]at r;cases r;exact⟨[],True.intro,.nil⟩
 |p::al,_,r=>by
  rw[lU]at r;cases r with
  |@cons a b as bs h t=>
   obtain⟨rs,c,q⟩:=Ys (P:=P) (w:=w) t;obtain⟨b1,b2⟩:=b;exact⟨(p.1,b2)::rs,⟨UH h.1,Z,c⟩,.cons ⟨Z,h.2⟩ q⟩
def vk(Ps:List (TE × TE)):TE:=λσ H Q=>∀p,H p=none->jI Ps σ (upd H p (.dK [])) λps H2=>H2 p=some (.dK [])/\∃al:List (Key × V),ps=al.map (λkv=>(kV kv.1,kv.2))/\al.length<=15/\Q (.ref p) (upd H2 p (.dK (WV [] al)))
theorem xN{pos:Pos}{keys:List (Option Expr)}{values:List Expr}{Ps:List (TE × TE)}(h:Bg X pos keys values Ps)(lv:keys.all (·.isSome)=true)(hl:keys.length=values.length)(h0:keys≠[])
  (EU:keys.length<=15):PE X (.Dict keys values pos) (vk Ps):=by
 intro U s σ H Q I q;have hn:=I.ai.fresh (lA s.heap.objs.size);have I1:=I.laid (a:=s.heap.objs.size) (o:=.dK []) (h':=s.heap.push {cls:=.type "dict",data:=.dict #[]}) (t':=s.toks) (λ_ _ q=>yaa _ q) (lA _) (jH s.heap I.big);refine wpAny_Dict_walk (knd:=JA X.prog X.w) lv hl h0 EU (av (h U _ σ _ _ I1 (q _ hn)) λws s2⟨ps,H2,I2,rel,e,al,ep,lk,q2⟩=>?_);subst ep;obtain⟨rs,c,rk⟩:=Ys (P:=X.prog) (w:=X.w) rel;obtain⟨z,hd,vs0,r0,dd⟩:=HX I2.ai e;cases r0;refine⟨rs,c,dd,λh' oZ hs=>⟨.ref s.heap.objs.size,_,?_,Z,q2⟩⟩;have hz:(WV [] al).length<=sizeLine:=by
  have h1:=We al [];rw[ybj]at h1;rw[yeu];lia
 have he:∃q,h'.get? s.heap.objs.size=some q:=let ⟨q,_,_,hq,_⟩:=oZ;⟨q,hq⟩;exact qF I2 (by rw[e];exact True.intro) hs he (HY hz hd (rk.merge .nil) oZ)
structure M2(X:Cx)(o:Expr)(m:Str)(apos:Pos)(e f:Expr)(bv:Pos):Prop where
 M:attributeBase o m X.env (eval o X.env)=eval o X.env
 M5:((backTo bv (starEach [e,f] X.env)).all (λx=> !x.1)&&(backToKw bv (keywordEach [] X.env)).all (λx=>x.1.isSome)
  &&decide (([e,f]:List Expr).length+([]:List Keyword).length+(if([]:List Keyword).isEmpty then 0 else 1)<30))=true
 line:(apos.endLine==bv.line)=true
 trees:backTo bv (starEach [e,f] X.env)=[(false,eval e X.env),(false,eval f X.env)]
def Ib(H:Hp)(a:Addr):Prop:=(∃al,Rd H a (.dK al))\/∃al,Rd H a (.dT al)
theorem M6{X:Cx}{U:List (Addr × Obj)}{σ:St}(I:Inv X U σ H s)(d:Ib H a):
  s.TypeIs (.ref a) "dict"/\(∀b,Value.ref a=.ref b->∃ob,s.heap.get? b=some ob/\ob.dict=none)/\(a==sysModules)=false:=by
 rcases d with⟨al,e⟩|⟨al,e⟩
 .obtain⟨_,hd,vs,_,dd⟩:=xH I.ai e;refine⟨dd.typeIs,λb q=>?_,hd⟩;cases q;obtain⟨ob,_,_,h1,h2,_⟩:=dd;exact⟨ob,h1,h2.2.1⟩
 .obtain⟨_,hd,xs,_,dd⟩:=xI I.ai e;refine⟨dd.typeIs,λb q=>?_,hd⟩;cases q;obtain⟨ob,_,_,h1,h2,_⟩:=dd;exact⟨ob,h1,h2.2.1⟩
section
variable {X:Cx}{U:List (Addr × Obj)}{σ:St}{H:Hp}{s:Shared}{a:Addr}{y d:V}{u r:Value}{o:Option V}{A:Around}{E:Value->Shared->Prop}
theorem M7(hu:A.units+1<cLine)(I:Inv X U σ H s)(g:zD H a y o)(ry:RelV y u)(rd:RelV d r)(h:∀w' s',Inv X U σ H s'->RelV (o.getD d) w'->Q w' s'):
  wpAny (model X.prog X.w) A (call (.builtin "dict.get") [.ref a,u,r]) Q E s:=by
 rcases g with⟨al,k,e,ey,l⟩|⟨al,k,b,e,ey,eb,l⟩
 .subst ey;obtain⟨z,hd,vs,rel,dd⟩:=xH I.ai e;refine call_meetsIn slot_dict_get dd.typeIs entry_dict_get (args_dict_get_3 _ _ _) (meets_dict_get_default (JA X.prog X.w) a (UH ry) hd r) ⟨_,dd.mapOf,h _ _ (I.tok _) ?_⟩;rw[l];exact(rel.val k).getD rd
 .subst ey;cases(show u=Value.ref b from ry);obtain⟨z,hd,xs,rel,dd⟩:=xI I.ai e;refine call_meetsIn slot_dict_get dd.typeIs entry_dict_get (args_dict_get_3 _ _ _) (meetsH_dict_get_default (tupleKind (JA X.prog X.w)) a b hd r) ⟨ydB hu,k,xs,jG I.ai eb,dd,h _ _ (I.tok _) ?_⟩;rw[l];exact(rel.val k).getD rd
end
def M8(td ty tx:TE):TE:=λσ H Q=>td σ H λx H1=>∃a,x=.ref a/\Ib H1 a/\ty σ H1 λy H2=>tx σ H2 λz H3=>∃o,zD H3 a y o/\Q (o.getD z) H3
section
variable {apos bv:Pos}{ty tx:TE}
theorem vm(hu:X.A.units+1<cLine)(ho:PE X o td)(he:PE X e ty)(hf:PE X f tx)(m:M2 X o "get" apos e f bv):PE X (.Call (.Attribute o "get" apos) [e,f] [] bv) (M8 td ty tx):=by
 intro U s σ H Q I h;refine wpAny_Call_method m.M m.M5 m.line plainAttrs_dict slot_dict_get type_dict_get (av (ho U s σ H _ I h) λu s1⟨x,H1,I1,rx,a,ex,d,q1⟩=>?_);subst ex;obtain rfl:u=Value.ref a:=rx;obtain⟨t1,t2,_⟩:=M6 I1 d;exists t1,t2;rw[m.trees];refine ybY rfl (yco (ybz (av (he U s1 σ H1 _ I1 q1) λiv s2⟨y,H2,I2,ry,q2⟩=>
  ybz (av (hf U s2 σ H2 _ I2 q2) λfv s3⟨z,H3,I3,rz,ov,g,q3⟩=>ycg ?_))))
 exact M7 hu I3 g ry rz λw' s4 I4 IR=>⟨_,H3,I4,IR,q3⟩
end
end L2
namespace Ic
open PySem PySem.W PySem.Calls PyProof.Rows
theorem Vu:∀(ns:List Int)(vs:List Value),WellAll P h vs (ns.map WData.int)->IntsAre vs ns:=by
 intro ns
 induction ns with
 |nil=>
  intro vs w;rw[ycz]at w;cases w;exact .nil
 |cons n ns ih=>
  intro vs w;rw[lU]at w;cases w with
  |cons a b=>
   cases a;exact .cons _ _ (ih _ b)
theorem xO{l:OpenLaw}{n:Nat}(hn:l.most=some n){P:Params}{h:Heap}{args:List WData}{vals:List Value}
  (df:l.row.toRowW.claim.pre args=true) (iX:WellAll P h vals args):
  ∃a vs ns,vals=[Value.ref a]/\args=[WData.list (ns.map WData.int)]/\h.get? a=some {cls:=.type "list",data:=.seq vs.toArray}/\IntsAre vs ns/\ns.length<=n:=by
 have M9:WShape.hasAll [] args [.list .int]=true:=(pre_splitW df).1;have hc:l.pre.holds [] {args:=args}=true:=(pre_splitW df).2;obtain⟨d,r,rfl,h1,h2⟩:=hasAllW_cons M9;obtain rfl:=hasAllW_nil h2;obtain⟨xs,rfl,h3⟩:=hasW_list h1;obtain⟨ns,rfl⟩:=items_int h3;have hlen:ns.length<=n:=by
  unfold OpenLaw.pre at hc;have h4:(WTm.not (.lt (.lit (.int (n:Int))) (.len (.arg 0)))).holds [] {args:=[.list (ns.map .int)]}=true:=by
   have h4:=(holds_andW hc).1;rw[hn]at h4;exact h4
  have h5:=condW_of h4 (w_not (w_lt w_lit (w_len_list (w_arg Z))));rw[lu]at h5;refine Nat.le_of_not_lt λq=>?_;have q':(n:Int)<((ns.length:Nat):Int):=by lia
  first
   |(rw[ly q']at h5;exact absurd h5 (by lia))
   |(simp at h5;lia)
 cases iX with
 |cons w1 w2=>
  cases w2;cases w1 with
  |list ho lv=>exact⟨_,_,ns,Z,Z,ho,Vu ns _ lv,hlen⟩
theorem xP(l:OpenLaw)(args:List WData):l.row.toRowW.claim.post args (.bool true) args=true:=
 postW_of (r:=l.row.toRowW) (X:=(true==true))
  (show WShape.has [] (.bool true) .bool=true by first|rfl|decide|simp[WShape.has,WShape.arms,WShape.armsAll])
  (show(WTm.eq .res (.lit (.bool true))).value [] {args:=args,res:=some (.bool true),after:=args}=some (.bool (true==true))from w_eq_bool (w_res Z) w_lit) rfl
theorem qH{l:OpenLaw}{n:Nat}{loose:List Str}{d:DefRec}
  (hn:l.most=some n) (EV:d.params.defaults=[])
  (call:∀(w:World)(s₀ s₁:Shared)(mg mb:Str->Option Value)(fa:Addr)(o:Obj)(pm cd doc:Value)(a:Addr)(vs:List Value)(ns:List Int),
   Ground q loose [] XP w s₀ mg mb s₁.heap->YP w s₁.heap->
   s₁.heap.get? fa=some o->o.data=.func (docDef d.name d.params d.body d.scope pm cd doc)->s₁.heap.CodeRec cd d.name->mg d.name=some (.ref fa)->
   s₁.heap.get? a=some {cls:=.type "list",data:=.seq vs.toArray}->IntsAre vs ns->ns.length<=n->s₁.gens= #[]->
   codeAny (model l.prog w) callerA (.call (.ref fa) ⟨[.ref a],[]⟩) (λr s'=>r=.ok (.ret (.bool true))/\OldK s₁.heap s'.heap/\s'.os=s₁.os/\AllBare s'.gens) s₁):
  WalkO q loose XP YP l.row.toRowW d [] (λf vs=>PySem.call f vs):=by
 intro w s₀ s₁ mg mb G qYa fa o pm cd doc dV kV ho hd GT hD Bh hg args vals as df M' DB iX Do;obtain rfl:dV=.none:=Dflts.none hD EV;obtain rfl:kV=.none:=Dflts.noKw hD;obtain⟨a,vs,ns,rfl,rfl,o3,hints,hlen⟩:=xO hn df iX;refine enter_call (ycy (call w s₀ s₁ mg mb fa o pm cd doc a vs ns G qYa ho (fd_plain hd) GT Bh o3 hints hlen hg) λr s' hq=>?_);obtain⟨rfl,h2,h3,h4⟩:=hq;exact⟨.inl ⟨.bool true,.bool true,[],Z,λ_=>rfl,.bool true,xP l _,λ_=>⟨List.Pairwise.nil,λ_ hm=>(nomatch hm)⟩⟩,h2,h3,h4⟩
end Ic
namespace L2
open PySem PySem.Spec PyProof.Rows
theorem UJ:∀{vs:List Value}{ns:List Int},IntsAre vs ns->Vals (ns.map V.int) vs
 |_,_,.nil=>.nil
 |_,_,.cons n t h=>.cons ⟨t,Z⟩ (UJ h)
noncomputable def J1(s:Stmt):Arguments:=match s with
 | .FunctionDef _ a _ _ _ _ _ _ _ _=>a
 |_=>{posonlyargs:=[],args:=[],vararg:=none,kwonlyargs:=[],kw_defaults:=[],kwarg:=none,defaults:=[]}
noncomputable def QK(s:Stmt):List Stmt:=match s with
 | .FunctionDef _ _ b _ _ _ _ _ _ _=>b
 |_=>[]
noncomputable def Qe(s:Stmt):Scope:=match s with
 | .FunctionDef _ _ _ _ _ _ sc _ _ _=>sc
 |_=>{kind:=.function,names:=[],isGenerator:=false,isCoroutine:=false}
abbrev E0:XK:=λ_ _ _=>False
structure aA(K:Frag)(x qual:Str)(st:Stmt)(f:Addr)(fd:FuncData):Prop where
 ex:∃(oc:Value)(od:Option Addr)(kV doc pm:Value)(an:Option Addr)(ad ct:Value)(on:Array (Option Value)),
  fd=fnOf x qual (J1 st) (QK st) (Qe st) .none kV doc pm an ad ct/\K.lookup f=some ⟨oc,od,.func fd,on⟩/\codeIn K ad qual=true
 kp:keepIn K (.ref f)=true
section
variable {K:Frag}
theorem aA.binds{x qual:Str}{st:Stmt}{fd:FuncData}(F:aA K x qual st f fd)
  (h:∀(kV doc pm:Value)(an:Option Addr)(ad ct:Value)(us:List Value),us.length=ps.length->bindArgs (fnOf x qual (J1 st) (QK st) (Qe st) .none kV doc pm an ad ct) ⟨us,[]⟩=pure (ps.zip us)):Binds K fd ps []:=by
 obtain⟨oc,od,kV,doc,pm,an,ad,ct,on,rfl,lk,GT⟩:=F.ex;exact .all (h kV doc pm an ad ct)
end
theorem xQ(hr:aq k A):A.units+1<cLine:=yba (Nat.add_le_add_left (by decide:1<=64) _) hr.units
section
variable {X:Cx}
theorem pv(i:Nat){pos:Pos}(hN:X.N[i]? =some x:=by rfl)(hv:Ag X.env.scope x:=by first|exact Or.inl rfl|exact Or.inr (Or.inl rfl)|exact Or.inr (Or.inr rfl))(hd:(x==("__debug__":Str))=false:=by lia)
  (GT:(x==("__classdict__":Str))=false:=by lia):PE X (.Name x pos) (ZN i):=yT hN hv hd GT
end
theorem QW{A B:Prop}(h:B):if false=true then A else B:=by
 rw[yac yar];exact h
theorem Q4{A B:Prop}(h:A):if true=true then A else B:=by
 rw[yaf rfl];exact h
def Qs(H H':Hp):Prop:=∀b o,H b=some o->H' b=some o
theorem Qs.refl(H:Hp):Qs H H:=λ_ _ h=>h
theorem Qs.trans{H H1 H2:Hp}(a:Qs H H1)(b:Qs H1 H2):Qs H H2:=λc o h=>b c o (a c o h)
theorem J3.ex(x:J3 P w H h a o):∃ob,h.get? a=some ob:=by
 cases o with
 |lst xs=>obtain⟨_,_,_,_,e⟩:=x;exact⟨_,e⟩
 |tup xs=>obtain⟨_,_,_,ob,e,_⟩:=x;exact⟨_,e⟩
 |dK al=>obtain⟨_,_,_,_,o,_,_,e,_⟩:=x;exact⟨_,e⟩
 |dT al=>obtain⟨_,_,_,_,o,_,_,e,_⟩:=x;exact⟨_,e⟩
 |set S n=>obtain⟨o,_,_,_,e,_⟩:=x;exact⟨_,e⟩
 |ins C dx fs=>obtain⟨_,_,_,e,_⟩:=x;exact⟨_,e⟩
 |own y=>exact x
 |xd fs=>obtain⟨_,⟨_,_,_,e,_⟩,_⟩:=x;exact⟨_,e⟩
 |Dl lo hi=>obtain⟨_,_,_,e⟩:=x;exact⟨_,e⟩
 |bR ob u=>obtain⟨e,_⟩:=x;exact⟨_,e⟩
 |bT ps=>exact⟨_,(show h.get? a=some _ from x)⟩
 |met f y=>exact⟨_,(show h.get? a=some _ from x)⟩
 |ext φ=>obtain⟨_,e,_⟩:=x;exact e
def EW(h:Heap)(e T:Addr)(cls:Value):Prop:=
 ∃oe vs oT ts a0,h.get? e=some oe/\oe.cls=cls/\oe.data=.fields vs/\vs[0]? =some a0/\vs[1]? =some (.ref T)/\T≠e/\h.get? T=some oT/\oT.data=.fields ts/\ts[3]? =some .none
def ao(P:Program)(w:World):dH:=λL H s E e s'=>
 ∃a T cls H',e=.ref a/\EW s'.heap a T cls/\s.heap.get? a=none/\s.heap.get? T=none/\H' a=none/\H' T=none/\s'.os=s.os/\AllBare s'.gens/\
  Un (aK L) [] H H' s.heap s'.heap/\aZ P w H' s'.heap/\E cls none H'
theorem Qy:Passes (ao P w) X E0:=by
 rintro _ _ _ _ _ _ _ ⟨_,_,_,_,_,_,_,_,_,_,_,_,_,_,h⟩;exact h.elim
section
variable {X:Cx}{U:List (Addr × Obj)}{σ:St}{H:Hp}{s:Shared}
theorem UK{cls a0:Value}(I:Inv X U σ H s)(hex:X.ex=[])(PP:X.stack=X.env::X.L)
  (EX:∀y∈ys,H y=none/\X.s₀.heap.get? y=none) (ha:H a=none) (Na:X.s₀.heap.get? a=none)
  (fl:Heap.FlyingW (hideAll s.heap (aK X.stack++ys)) X.L a cls a0 An) (up:∀b∈aK X.stack,∀o,s.heap.get? b=some o->(∀vs,o.data≠ .fields vs)->∃sl,An.get? b=some {o with slots:=sl}) (hE:E cls none H):
  ao X.prog X.w X.L X.H₀ X.s₀ E (.ref a) {s with heap:=An}:=by
 obtain⟨f1,f2,f3,oe,vs,T,oT,ts,t1,⟨t2,t3⟩,t4,t5,t6,t7,t8,t9,o4⟩:=fl;have T0:∀b:Addr,b∉X.ex:=λb hb=>by rw[hex]at hb;cases hb
 have o6:∀b o,s.heap.get? b=some o->b∉aK X.stack->b∉ys->An.get? b=some o:=λb o e n1 n2=>
  f1 b o (hideAll_get _ e λhm=>(yao.mp hm).elim n1 n2)
 have fr:∀b∈aK X.stack,∃o,s.heap.get? b=some o/\∀vs,o.data≠ .fields vs:=λb hb=>(I.stack.mem hb).2;have old:∀b o,X.s₀.heap.get? b=some o->b∉ys:=λb o e hb=>by rw[(EX b hb).2]at e;cases e
 have EY:∀b,b∈aK X.stack->b∈X.env.locals::X.fs:=I.K8;have ie:∀b o,X.s₀.heap.get? b=some o->b≠X.env.locals:=λb o e=>yal (yad (yae e) I.ok.above);have Ie:∀o,s.heap.get? T=some o->T∉ys->False:=λo e n2=>by
  by_cases hf:T∈aK X.stack
  .obtain⟨o2,e2,d2⟩:=fr T hf;obtain⟨sl,e3⟩:=up T hf o2 e2 d2;rw[t8]at e3;cases e3;exact d2 _ t9
  .have:=hideAll_get (aK X.stack++ys) e λhm=>(yao.mp hm).elim hf n2;rw[t6]at this;cases this
 refine⟨a,T,cls,H,Z,⟨oe,vs,oT,ts,a0,t1,t2,t4,t3,t5,t7,t8,t9,o4⟩,Na,?_,ha,?_,I.os,I.bare,⟨λb o e n hb hx=>?_,λb o e n hb hx=>?_,λb o e n hx=>I.M.free b o e n (T0 b),λb o e hx=>?_,I.M.bx,I.M.bq,I.M.bt⟩,λb o e=>?_,hE⟩
 .cases q:X.s₀.heap.get? T with
  |none=>rfl
  |some o=>
   obtain⟨o',e'⟩:=I.M.there T o q (T0 T);exact(Ie o' e' (old T o q)).elim
 .cases q:H T with
  |none=>rfl
  |some u=>
   obtain⟨ob,e⟩:=(I.ai T u q).ex;exact(Ie ob e λhm=>by rw[(EX T hm).1]at q;cases q).elim
 .refine o6 b o (I.M.keep b o e n hb (T0 b)) (λhm=>?_) (old b o e);rcases yag.mp (EY b hm)with z|z
  .exact ie b o e z
  .exact hb z
 .obtain⟨sl,e1⟩:=I.M.slot b o e n hb (T0 b);have hm:b∈aK X.stack:=by rw[PP];unfold aK;rw[ybR];split<;>first|exact hb|exact lG _ hb
  obtain⟨o2,e2,d2⟩:=fr b hm;rw[e1]at e2;cases e2;obtain⟨Ai,e3⟩:=up b hm _ e1 d2;exact⟨Ai,e3⟩
 .obtain⟨o',e1⟩:=I.M.there b o e (T0 b)
  by_cases hm:b∈aK X.stack
  .obtain⟨o2,e2,d2⟩:=fr b hm;obtain⟨Ai,e3⟩:=up b hm _ e2 d2;exact⟨_,e3⟩
  .exact⟨o',o6 b o' e1 hm (old b o e)⟩
 .refine(I.ai b o e).K7 (λc u hc q=>o6 c u q (λhm=>?_) λhm=>?_) (λ_ q=>q) λ_ _ q=>q
  .have z:=I.KI c hm;rcases hc with rfl|hc
   .rw[e]at z;cases z
   .rw[hc]at z;cases z
  .have z:=(EX c hm).1;rcases hc with rfl|hc
   .rw[e]at z;cases z
   .rw[hc]at z;cases z
theorem KO(I:Inv X U σ H s)(ys:List Addr):s.heap.FunFrames (hideAll s.heap (aK X.stack++ys)) X.stack:=
 funFrames_hide I.stack λenv he a hf=>lF _ (ydx.mpr ⟨env,he,hf⟩)
end
def Ig(X:Cx)(E:XK):Prop:=∀(U:List (Addr × Obj))(σ:St)(H:Hp)(s:Shared)(h':Heap)(a:Addr)(cls:Value)(args:List Value),
 Inv X U σ H s->Heap.MadeExcOf s.heap h' a cls args->E cls none H->X.xe (.ref a) {s with heap:=h'}
structure ik(X:Cx)(E:XK):Prop where
 ex:X.ex=[]
 cp:X.stack=X.env::X.L
 fr:X.env.frame=some X.env.locals
 xe:∀e s',wpAny (model X.prog X.w) X.A (leaving X.env e) (λ_ dX=>ao X.prog X.w X.L X.H₀ X.s₀ E e dX) (λe' dX=>ao X.prog X.w X.L X.H₀ X.s₀ E e' dX) s'->X.xe e s'
theorem Zy{K:Frag}{M:Heap}{N:List Str}{qual:Str}{scope:Scope}{cd:Value}{L:List Env}{H:Hp}{E:XK}:
  ik (Xe (ao P w) P w K mg M N qual scope f cd A L s H E) E:=⟨Z,Z,Z,λ_ _ h=>h⟩
section
theorem Zg(F:ik X E):Ig X E:=by
 intro U σ H1 s1 h' a cls args I hx hE;have T0:∀b:Addr,b∉X.ex:=λb hb=>by rw[F.ex]at hb;cases hb
 refine F.xe _ _ ?_;have ff:s1.heap.FunFrames (hideAll s1.heap (aK X.stack++[])) (X.env::X.L):=by
  have z:=KO I [];rw[F.cp]at z ⊢;exact z
 refine wpAny_leaves_madeW (s:={s1 with heap:=h'}) (h:=s1.heap) (base:=hideAll s1.heap (aK X.stack++[])) (by rw[<-F.cp];exact I.ok.frames) F.fr
  (λb o q=>of_hideAll _ q) ff hx λAn t fl _ _ up=>?_
 refine UK (s:=s1) (ys:=[]) I F.ex F.cp (λy hy=>nomatch hy) ?_ ?_ fl (λb _ o e d=>?_) hE
 .cases q:H1 a with
  |none=>rfl
  |some u=>
   obtain⟨ob,e⟩:=(I.ai a u q).ex;have:=hx.new;rw[e]at this;cases this
 .cases q:X.s₀.heap.get? a with
  |none=>rfl
  |some o=>
   obtain⟨o',e'⟩:=I.M.there a o q (T0 a);have:=hx.new;rw[e']at this;cases this
 .exact up b o (hx.keeps b o e) d
theorem Jb(F:ik X E):Passes (ao X.prog X.w) X E:=by
 intro U σ H1 s1 e s' I h;obtain⟨a,T,cls,H',rfl,⟨oe,vs,oT,ts,a0,t1,t2,t3,t4,t5,t6,t7,t8,t9⟩,n1,n2,ha,hT,os,bare,un,ai,hE⟩:=h;have T0:∀b:Addr,b∉X.ex:=λb hb=>by rw[F.ex]at hb;cases hb
 have I':Inv X U σ H' s':=I.xt os un ai bare λb hb=>nomatch hb;have old:∀b,s1.heap.get? b=none->X.s₀.heap.get? b=none:=λb hb=>by
  cases q:X.s₀.heap.get? b with
  |none=>rfl
  |some o=>
   obtain⟨o',e'⟩:=I.M.there b o q (T0 b);rw[hb]at e';cases e'
 refine F.xe _ _ ?_;have ff:s'.heap.FunFrames (hideAll s'.heap (aK X.stack++[a,T])) (X.env::X.L):=by
  have z:=KO I' [a,T];rw[F.cp]at z ⊢;exact z
 refine wpAny_leaves_onW (base:=hideAll s'.heap (aK X.stack++[a,T])) (cls:=cls) (a0:=a0) (by rw[<-F.cp];exact I.ok.frames) F.fr
  ⟨λb o q=>of_hideAll _ q,ydw _ (lE _ (by simp)),ff,oe,vs,T,oT,ts,t1,⟨t2,t4⟩,t3,t5,ydw _ (lE _ (by simp)),t6,t7,t8,t9⟩
  λAn fl up=>?_
 refine UK I' F.ex F.cp (λy hy=>?_) ha (old a n1) fl (λb _ o e d=>up b o e d) hE;rcases yag.mp hy with rfl|hy
 .exact⟨ha,old _ n1⟩
 .obtain rfl:=yak.mp hy;exact⟨hT,old _ n2⟩
end
section
structure iY(K:Frag)(C:Addr):Prop where
 ex:excIn K C [.type "ValueError",.type "Exception",.type "BaseException",.type "object"] "ValueError.__new__"=true
def Nb(C:Addr)(E:XK)(t:TA):TS:=λ_ σ H=>t σ H λvs H1=>vs.length<=sizeLine/\E (.ref C) none H1
theorem ZD{np bv pos:Pos}{rest:List Expr}(T:Ig X E)(hc:X.calm=true)(hg:Gl X x)(hm:X.mg x=some (.ref C))(hC:iY X.K C)(ha:PA X (e₀::rest) t)
  (he:starEach (e₀::rest) X.env=(false,eval e₀ X.env)::starEach rest X.env:=by rfl) (mt:(backTo bv (starEach rest X.env)).any (·.1)=false:=by rfl) (pr:(x==("__debug__":Str))=false:=by lia):
  PS X (.Raise (some (.Call (.Name x np) (e₀::rest) [] bv)) none pos) (Nb C E t):=by
 intro U s σ H D I h;have q:=hC.ex;have O:∃bm N nm q bs hdct sn sub ab col dd k0 k1 k2 k3 k5 mN,X.M.get? C=some (excClassObj nm q C N bs bm hdct sn sub ab col dd k0 k1 k2 k3 k5 "ValueError.__new__")/\X.M.Ns N mN/\mN "__init__"=none/\
   OwnTail X.M [.type "ValueError",.type "Exception",.type "BaseException",.type "object"] bm:=by
  have KX:=I.mod.iQ;unfold excIn at q
  split at q
  .rename_i dd cd sl ho
   split at q
   .rename_i C' bm k0 k1 k2 k3 n k5 hm hs;simp only[yaO,yci,ybM]at q;obtain⟨⟨⟨⟨⟨rfl,rfl⟩,dZ⟩,ht⟩,ai⟩,DC⟩:=q;obtain⟨nm,bs,mro,ns,qn,hd,sn,sub,ab,col,del⟩:=cd;dsimp only at hm dZ ai DC;subst hm dZ;have dh:sl= #[k0,k1,k2,k3,some (.builtin "ValueError.__new__"),k5]:=by
     obtain⟨l⟩:=sl;simp only at hs;rw[hs]
    subst dh;exact⟨bm,ns,nm,qn,bs,hd,sn,sub,ab,col,dd,k0,k1,k2,k3,k5,_,KX _ _ ho,.of_isNs (isNs_of_in KX ai),nsMap_none_of_in KX ai DC,tail_of_in KX ht⟩
   .cases q
  .cases q
 obtain⟨tl,Nn,nm,qq,bs,hdct,sn,sub,ab,col,dd,k0,k1,k2,k3,k5,mN,h1,h2,h3,h4⟩:=O;refine wpAny_Raise_call_subT (C:=C) (nm:=nm) (q:=qq) (N:=Nn) (bs:=bs) (bm:=tl) (hdct:=hdct) (sn:=sn) (sub:=sub) (ab:=ab) (col:=col) (dd:=dd) (k0:=k0) (k1:=k1) (k2:=k2) (k3:=k3) (k5:=k5)
  excBase_ValueError (mN:=mN) (h4.hasType excBase_ValueError.hasBase) (I.ok.hd hc) (by rw[he];show(false||(backTo bv (starEach rest X.env)).any (·.1))=false;rw[mt];rfl) h3 ?_
 refine XV I hg hm ⟨Z,?_⟩ (hd:=pr);have w1:=ha bv U s σ H _ I h;rw[he]at w1 ⊢;refine yco (yaB w1 (λus s2 q2=>?_) λ_ _ y=>y);obtain⟨vs,H',I2,rv,hl,hE⟩:=q2;refine⟨Z,?_,I2.bk _ _ h1,h2.keeps I2.bk,h4.keeps I2.bk,λh' e hm=>T U σ H' s2 h' e (.ref C) _ I2 hm hE⟩;show us.length<=sizeLine;rw[<-rv.length];exact hl
end
section
variable {X:Cx}{U:List (Addr × Obj)}{σ:St}{H:Hp}{s:Shared}{h':Heap}
theorem Inv.Nc{ch:List Addr}(I:Inv X U σ H s)
  (Cl:∀b∈ch,X.s₀.heap.get? b=none/\b≠X.env.locals/\(∀x c,X.env.cells.lookup x=some c->c≠b)/\∀p∈X.pn++U,p.1≠b)
  (keep:∀b o,b≠X.env.locals->b∉X.fs->b∉ch->s.heap.get? b=some o->H b=none->h'.get? b=some o)
  (slot:∀b o,b≠X.env.locals->b∈X.fs->b∉ch->s.heap.get? b=some o->H b=none->∃sl,h'.get? b=some {o with slots:=sl})
  (there:∀b o,b∉ch->s.heap.get? b=some o->∃o',h'.get? b=some o')
  (ns:∀m,s.heap.Ns X.env.locals m->h'.Ns X.env.locals m) (ai:aZ X.prog X.w H h'):
  Inv X U σ H {s with heap:=h',toks:=t'}:=by
 have ie:∀b o,X.s₀.heap.get? b=some o->b≠X.env.locals:=λb o e=>yal (yad (yae e) I.ok.above);have iR:∀b o,X.s₀.heap.get? b=some o->b∉ch:=λb o e hb=>by
  have z:=(Cl b hb).1;rw[e]at z;cases z
 have cellK:∀x c,X.env.cells.lookup x=some c->∀v,s.heap.IsCell c v->h'.IsCell c v:=λx c e v⟨o,ho,hd⟩=>by
  have fN:c∉ch:=λz=>(Cl c z).2.2.1 x c e rfl
  by_cases hc:c∈X.fs
  .obtain⟨sl,q⟩:=slot c o (I.dE x c e) hc fN ho (I.aD x c e);exact⟨_,q,hd⟩
  .exact⟨o,keep c o (I.dE x c e) hc fN ho (I.aD x c e),hd⟩
 refine⟨I.ok,I.os,I.bare,⟨λb o e n hb hx=>?_,λb o e n hb hx=>?_,I.M.free,λb o e hx=>?_,I.M.bx,I.M.bq,I.M.bt⟩,?_,λx c e=>?_,I.free,I.aD,λp hp=>?_,ai,I.len⟩
 .exact keep b o (ie b o e) hb (iR b o e) (I.M.keep b o e n hb hx) (I.M.free b o e n hx)
 .obtain⟨sl,e1⟩:=I.M.slot b o e n hb hx;obtain⟨Ai,e2⟩:=slot b _ (ie b o e) hb (iR b o e) e1 (I.M.free b o e n hx);exact⟨Ai,e2⟩
 .obtain⟨o',e1⟩:=I.M.there b o e hx;exact there b o' (iR b o e) e1
 .obtain⟨m,hn,hl⟩:=I.loc;refine⟨m,ns m hn,λi x v e1 e2 e3=>?_⟩;obtain⟨u,r,l⟩:=hl i x v e1 e2 e3;exists u,r;rcases l with l|⟨k,c,e,z⟩
  .exact .inl l
  .exact .inr ⟨k,c,e,cellK x c e _ z⟩
 .obtain⟨v,z⟩:=I.cell x c e;exact⟨v,cellK x c e v z⟩
 .obtain⟨e,n,ne,nf,d⟩:=I.pin p hp;have fN:p.1∉ch:=λz=>(Cl p.1 z).2.2.2 p hp rfl;exact⟨keep p.1 p.2 ne nf fN e n,n,ne,nf,d⟩
noncomputable def xR(a:Addr)(cls:Value):HO:=.ext λh=>∃o vs,h.get? a=some o/\o.cls=cls/\o.data=.fields vs
theorem Nd{cls:Value}(e:h.get? a=some o)(hc:o.cls=cls)(hd:o.data=.fields vs):J3 P w H h a (xR a cls):=
 ⟨⟨o,vs,e,hc,hd⟩,⟨o,e⟩,λ_ _⟨o,vs,e,r⟩ k=>⟨o,vs,k o e,r⟩⟩
theorem Inv.vn(I:Inv X U σ H s)(hn:H a=none)(h0:X.s₀.heap.get? a=none)(hL:a≠X.env.locals)(hc:∀x c,X.env.cells.lookup x=some c->c≠a) (hp:∀p∈X.pn++U,p.1≠a)
  (new:J3 X.prog X.w (upd H a o) s.heap a o):Inv X U σ (upd H a o) s:=by
 refine⟨I.ok,I.os,I.bare,⟨I.M.keep,I.M.slot,λb u e n hx=>?_,I.M.there,λb xs e=>?_,λb u xs e=>?_,λb ps e=>?_⟩,I.loc,I.cell,?_,λx c e=>?_,λp q=>?_,λb u e=>?_,I.len⟩
 .rw[Qx λz=>by rw[z,h0]at e;cases e];exact I.M.free b u e n hx
 .have q:=I.M.bx b xs e;rw[Qx (Qz q hn)];exact q
 .have q:=I.M.bq b u xs e;rw[Qx (Qz q hn)];exact q
 .obtain⟨m,q⟩:=I.M.bt b ps e;exact⟨m,by rw[Qx (Qz q hn)];exact q⟩
 .rw[Qx hL.symm];exact I.free
 .rw[Qx (hc x c e)];exact I.aD x c e
 .obtain⟨e,n,r⟩:=I.pin p q;exact⟨e,by rw[Qx (hp p q)];exact n,r⟩
 .by_cases hb:b=a
  .subst hb;rw[Qd]at e;cases e;exact new
  .rw[Qx hb]at e;exact(I.ai b u e).K7 (λc v _ q=>q) (λc q=>by rw[Qx (Qz q hn)];exact q) λc xs q=>by rw[Qx (Qz q hn)];exact q
end
noncomputable abbrev Cx.alt(X:Cx)(pn:List (Addr × Obj))(xe:Value->Shared->Prop):Cx:={X with pn:=pn,xe:=xe}
noncomputable abbrev Cx.marked(X:Cx)(v:Value)(xe:Value->Shared->Prop):Cx:={X with A:=X.A.mark (some v),calm:=false,xe:=xe}
section
variable {X:Cx}{U:List (Addr × Obj)}{σ:St}{H:Hp}{s:Shared}
theorem Inv.Nf(I:Inv X U σ H s)(xe:Value->Shared->Prop):Inv (X.alt (X.pn++U) xe) [] σ H s:=
 ⟨⟨I.ok.mod,I.ok.kind,I.ok.glob,I.ok.blt,I.ok.above,I.ok.inj,I.ok.has,I.ok.fL,I.ok.hd,I.ok.frames,I.ok.cp,I.ok.Ah,I.ok.bs,I.ok.cN,I.ok.bI,I.ok.b7,I.ok.qv,I.ok.fM⟩,I.os,I.bare,I.M,I.loc,I.cell,I.free,I.aD,
  λp hp=>I.pin p (by simpa using hp),I.ai,I.len⟩
theorem Inv.ofAlt(I:Inv (X.alt (X.pn++U) xe) iZ σ H s):Inv X U σ H s:=
 ⟨⟨I.ok.mod,I.ok.kind,I.ok.glob,I.ok.blt,I.ok.above,I.ok.inj,I.ok.has,I.ok.fL,I.ok.hd,I.ok.frames,I.ok.cp,I.ok.Ah,I.ok.bs,I.ok.cN,I.ok.bI,I.ok.b7,I.ok.qv,I.ok.fM⟩,I.os,I.bare,I.M,I.loc,I.cell,I.free,I.aD,
  λp hp=>I.pin p (lF _ hp),I.ai,I.len⟩
theorem Inv.jJ(I:Inv X U σ H s)(v:Value)(xe:Value->Shared->Prop):Inv (X.marked v xe) U σ H s:=
 ⟨⟨I.ok.mod,I.ok.kind,I.ok.glob,I.ok.blt,I.ok.above,I.ok.inj,I.ok.has,I.ok.fL,(λz=>nomatch z),I.ok.frames,I.ok.cp,I.ok.Ah,I.ok.bs,I.ok.cN,I.ok.bI,I.ok.b7,I.ok.qv,I.ok.fM⟩,I.os,I.bare,I.M,I.loc,I.cell,I.free,I.aD,
  I.pin,I.ai,I.len⟩
theorem Inv.Va(I:Inv (X.marked v xe) U σ H s)(hh:X.A.handled=none):Inv X U σ H s:=
 ⟨⟨I.ok.mod,I.ok.kind,I.ok.glob,I.ok.blt,I.ok.above,I.ok.inj,I.ok.has,I.ok.fL,λ_=>hh,I.ok.frames,I.ok.cp,I.ok.Ah,I.ok.bs,I.ok.cN,I.ok.bI,I.ok.b7,I.ok.qv,I.ok.fM⟩,I.os,I.bare,I.M,I.loc,I.cell,I.free,I.aD,
  I.pin,I.ai,I.len⟩
theorem name_goes{pos:Pos}(I:Inv X U σ H s)(hN:X.N.Nodup)(hi:X.N[i]? =some n)(hl:X.env.scope.names.lookup n=some .local)
  (h:∀s',Inv X U (σ.set i none) H s'->Q () s'):wpAny qMa A (do bindName X.env n .none;unbindBehindTheSuite X.env n pos) Q E s:=by
 have hp:(X.env.scope.kind==.class||(X.env.scope.kind==.module&&X.env.locals !=X.env.globals))=false:=by rw[I.ok.kind];rfl
 have hk:X.env.kindOf n=some .local:=hl;refine yab (ycq (ZS (v:=V.ax) I hN hi (.inl hl) Z (λs1 I1=>?_) (.inr hl)));unfold unbindBehindTheSuite;refine ydg ?_;unfold unbindName;refine yab (wpAny_point (yab ?_));unfold deleteName;simp only[hk,hp];rw[yac (by lia)];obtain⟨m,hn,il⟩:=id I1.loc;obtain⟨u,ru,lk⟩:=il i n V.ax hi (by rw[ycM (by rw[I.len];exact(yaj.mp hi).1)]) (.inl hl);have Ng:(m n).isSome=true:=by
  rcases lk with⟨_,e⟩|⟨z,_⟩
  .rw[e];rfl
  .have z':X.env.scope.names.lookup n=some .cell\/X.env.scope.names.lookup n=some .free:=z;rcases z' with z'|z'<;>(rw[hl]at z';cases z')
 refine yab (wpAny_nsDel_keeps hn λh' v Er hs=>?_);rw[Ng];simp only[Bool.not_true,ycI,ycu];refine yan (wpAny_point (h _ ?_));obtain⟨oL,_,_,HC,_⟩:=id hn;have kp:∀b o,b≠X.env.locals->s1.heap.get? b=some o->h'.get? b=some o:=λb o hb e=>(hs.2 b hb).trans e;refine⟨I1.ok,I1.os,I1.bare,⟨λb o e n hb hx=>?_,λb o e n hb hx=>?_,I1.M.free,λb o e hx=>?_,I1.M.bx,I1.M.bq,I1.M.bt⟩,⟨_,Er,λj y w e1 e2 e3=>?_⟩,λy c e=>?_,I1.free,I1.aD,λp hp=>?_,λb ob e=>?_,?_⟩
 .exact kp b o (yal (yad (yae e) I1.ok.above)) (I1.M.keep b o e n hb hx)
 .obtain⟨sl,e1⟩:=I1.M.slot b o e n hb hx;exact⟨sl,kp b _ (yal (yad (yae e) I1.ok.above)) e1⟩
 .obtain⟨o',e1⟩:=I1.M.there b o e hx;exact⟨o',kp b _ (yal (yad (yae e) I1.ok.above)) e1⟩
 .by_cases hj:j=i
  .subst hj;rw[List.getElem?_set]at e2;simp only[ybK]at e2
   split at e2<;>cases e2
  .rw[ybF (Ne.symm hj)]at e2;obtain⟨u',r',q⟩:=il j y w e1 (by rw[ybF (Ne.symm hj)];exact e2) e3;exists u',r';rcases q with⟨k,e⟩|⟨k,c,e,z⟩
   .refine .inl ⟨k,?_⟩;have:y≠n:=λe=>hj (YF hN e1 (e▸hi));simp only[this,ycu];exact e
   .exact .inr ⟨k,c,e,z.sameBut hs (I1.dE y c e)⟩
 .obtain⟨w',z⟩:=I1.cell y c e;exact⟨w',z.sameBut hs (I1.dE y c e)⟩
 .obtain⟨e,n,ne,nf,d⟩:=I1.pin p hp;exact⟨kp p.1 p.2 ne e,n,ne,nf,d⟩
 .refine(I1.ai b ob e).K7 (λc w' hc q=>kp c w' ?_ q) (λ_ q=>q) λ_ _ q=>q;rintro rfl;have z:=I1.free;rcases hc with rfl|hc
  .rw[e]at z;cases z
  .rw[hc]at z;cases z
 .rw[ycb];exact I.len
theorem Inv.looked{cls:Value}(I:Inv X U σ H s)(PP:X.stack=X.env::X.L)(F:EW s.heap a T cls)(ha:H a=none)(hT:H T=none)(f1:X.s₀.heap.get? a=none)(f2:X.s₀.heap.get? T=none)
  (ed:∀p∈X.pn++U,p.1≠a/\p.1≠T) (st:(hideAll s.heap (aK X.stack++[a,T])).StaysIn h5) (up:s.heap.UpToSlots h5):
  Inv X U σ H {s with heap:=h5,toks:=t'}:=by
 obtain⟨oe,vs,oT,ts,a0,t1,t2,t3,t4,t5,t6,t7,t8,t9⟩:=F;have two:∀b,b∈[a,T]->b=a\/b=T:=λb hb=>by simpa using hb
 have Bi:∀b,b∈[a,T]->∃o vs,s.heap.get? b=some o/\o.data=.fields vs:=λb hb=>by
  rcases two b hb with rfl|rfl
  .exact⟨_,_,t1,t3⟩
  .exact⟨_,_,t7,t8⟩
 have o6:∀b o,s.heap.get? b=some o->b∉aK X.stack->b∉[a,T]->h5.get? b=some o:=λb o e n1 n2=>
  st b o (hideAll_get _ e λhm=>(yao.mp hm).elim n1 n2)
 have fr:∀b∈aK X.stack,∃o,s.heap.get? b=some o/\∀vs,o.data≠ .fields vs:=λb hb=>(I.stack.mem hb).2;have Nh:∀b∈X.fs,b∈aK X.stack:=λb hb=>by rw[PP];unfold aK;rw[ybR];split<;>first|exact hb|exact lG _ hb
 refine I.Nc (ch:=[a,T]) (λb hb=>⟨?_,?_,λx c e z=>?_,λp hp=>?_⟩) (λb o hL hb hc e n=>?_) (λb o hL hb hc e n=>?_) (λb o hc e=>?_) (λm hm=>up.ns hm) λb u e=>?_
 .rcases two b hb with rfl|rfl
  .exact f1
  .exact f2
 .obtain⟨o,ws,e,d⟩:=Bi b hb;rintro rfl;obtain⟨m,⟨o',es,ep,e',d',_⟩,_⟩:=I.loc;rw[e]at e';cases e';rw[d]at d';cases d'
 .obtain⟨o,ws,e1,d⟩:=Bi b hb;obtain⟨v,o',e',d'⟩:=I.cell x c e;rw[z,e1]at e';cases e';rw[d]at d';cases d'
 .rcases two b hb with rfl|rfl
  .exact(ed p hp).1
  .exact(ed p hp).2
 .exact o6 b o e (λhm=>(yag.mp (I.K8 b hm)).elim hL hb) hc
 .obtain⟨o2,e2,d2⟩:=fr b (Nh b hb);rw[e]at e2;cases e2;exact up b o e d2
 .by_cases hm:b∈aK X.stack
  .obtain⟨o2,e2,d2⟩:=fr b hm;obtain⟨sl,q⟩:=up b o2 e2 d2;exact⟨_,q⟩
  .exact⟨o,o6 b o e hm hc⟩
 .refine(I.ai b u e).K7 (λc v hc q=>o6 c v q (λhm=>?_) λhm=>?_) (λ_ q=>q) λ_ _ q=>q
  .have z:=I.KI c hm;rcases hc with rfl|hc
   .rw[e]at z;cases z
   .rw[hc]at z;cases z
  .have z:H c=none:=by
    rcases two c hm with rfl|rfl
    .exact ha
    .exact hT
   rcases hc with rfl|hc
   .rw[e]at z;cases z
   .rw[hc]at z;cases z
def Ni(K:Frag)(C:Addr)(i n:Nat)(tb:XK->TS)(th:TS):TS:=λD σ H=>
 tb (λcls _ H'=>exmOne K cls (.ref C)=some true/\∀a,H' a=none->
  th {nx:=λσ2 H2=>D.nx (σ2.set i none) H2,rt:=D.rt,bk:=λσ2 H2=>D.bk (σ2.set i none) H2,ct:=λσ2 H2=>D.ct (σ2.set i none) H2} ((replicate n none).set i (some (.ref a))) (upd H' a (xR a cls))) D σ H
theorem Nj{body eg:List Stmt}{x nm:Str}{np eh pos:Pos}(hc:X.calm=true)(hex:X.ex=[])(PP:X.stack=X.env::X.L)(ip:X.env.frame=some X.env.locals)
  (hg:Gl X x) (hm:X.mg x=some (.ref C)) (hN:X.N.Nodup) (hi:X.N[i]? =some nm) (hl:X.env.scope.names.lookup nm=some .local)
  (hb:∀(E:XK)(pn:List (Addr × Obj))(xe:Value->Shared->Prop),Passes (ao X.prog X.w) (X.alt pn xe) E->aU (X.alt pn xe) body (tb E))
  (hs:∀v:Value,aU (X.marked v λ_ _=>False) (b₀::eg) th) (pr:(x==("__debug__":Str))=false:=by lia):
  PS X (.Try body [.ExceptHandler (some (.Name x np)) (some nm) (b₀::eg) eh] [] [] pos) (Ni X.K C i X.N.length tb th):=by
 intro U s σ H D I h;refine wpAny_Try_except ?_;have Bj:Passes (ao X.prog X.w) (X.alt (X.pn++U) λe s'=>∃a T cls σ' H',e=.ref a/\Inv X U σ' H' s'/\EW s'.heap a T cls/\H' a=none/\H' T=none/\X.s₀.heap.get? a=none/\X.s₀.heap.get? T=none/\
   (∀p∈X.pn++U,p.1≠a/\p.1≠T)/\exmOne X.K cls (.ref C)=some true/\∀a,H' a=none->
  th {nx:=λσ2 H2=>D.nx (σ2.set i none) H2,rt:=D.rt,bk:=λσ2 H2=>D.bk (σ2.set i none) H2,ct:=λσ2 H2=>D.ct (σ2.set i none) H2} ((replicate X.N.length none).set i (some (.ref a))) (upd H' a (xR a cls)))
   (λcls _ H'=>exmOne X.K cls (.ref C)=some true/\∀a,H' a=none->
  th {nx:=λσ2 H2=>D.nx (σ2.set i none) H2,rt:=D.rt,bk:=λσ2 H2=>D.bk (σ2.set i none) H2,ct:=λσ2 H2=>D.ct (σ2.set i none) H2} ((replicate X.N.length none).set i (some (.ref a))) (upd H' a (xR a cls))):=by
  intro iZ σ2 H2 s2 e s' I2 q;obtain⟨a,T,cls,H',rfl,fl,n1,n2,ha,hT,os,bare,un,ai,hE⟩:=q;have I3:=I2.xt os un ai bare λb hb=>nomatch hb;have Bk:∀b,s2.heap.get? b=none->X.s₀.heap.get? b=none:=λb hb=>by
   cases q:X.s₀.heap.get? b with
   |none=>rfl
   |some o=>
    obtain⟨o',e'⟩:=I2.M.there b o q (by show b∉X.ex;rw[hex];simp);rw[hb]at e';cases e'
  have pn:∀b,s2.heap.get? b=none->∀p∈X.pn++U,p.1≠b:=λb hb p hp z=>by
   have:=(I2.pin p (lF _ hp)).1;rw[z,hb]at this;cases this
  exact⟨a,T,cls,σ2,H',Z,I3.ofAlt,fl,ha,hT,Bk a n1,Bk T n2,λp hp=>⟨pn a n1 p hp,pn T n2 p hp⟩,hE⟩
 refine yaB (hb _ (X.pn++U) _ Bj [] s σ H D (I.Nf _) h) (λf s1 q=>?_) (λe s1 q=>?_)
 .cases f with
  |next=>obtain⟨σ',H',I',q⟩:=q;exact ycC ⟨σ',H',I'.ofAlt,q⟩
  |brk=>obtain⟨σ',H',I',q⟩:=q;exact⟨σ',H',I'.ofAlt,q⟩
  |cont=>obtain⟨σ',H',I',q⟩:=q;exact⟨σ',H',I'.ofAlt,q⟩
  |ret u=>obtain⟨v,σ',H',I',q⟩:=q;exact⟨v,σ',H',I'.ofAlt,q⟩
 .obtain⟨a,T,cls,σ',H',rfl,I1,F1,ha,hT,f1,f2,ed,hx,hh⟩:=q;obtain⟨oe,vs,oT,ts,a0,t1,t2,t3,t4,t5,t6,t7,t8,t9⟩:=id F1;have EZ:X.A.frames=some (X.env::X.L):=by rw[<-PP];exact I1.ok.frames
  have ff:s1.heap.FunFrames (hideAll s1.heap (aK X.stack++[a,T])) (X.env::X.L):=by
   have z:=KO I1 [a,T];rw[PP]at z ⊢;exact z
  have Nl:Heap.FlyingW (hideAll s1.heap (aK X.stack++[a,T])) (X.env::X.L) a cls a0 s1.heap:=
   ⟨λb o q=>of_hideAll _ q,ydw _ (lE _ (by simp)),ff,oe,vs,T,oT,ts,t1,⟨t2,t4⟩,t3,t5,ydw _ (lE _ (by simp)),t6,t7,t8,t9⟩
  refine wpAny_looks_onW EZ ip Nl λh4 held Nm=>?_;refine wpAny_landsW held λh5 E1 Np=>?_;have Bl:s1.heap.UpToSlots h5:=Nm.trans Np;have I5:Inv X U σ' H' {s1 with heap:=h5}:=I1.looked (t':=s1.toks) PP F1 ha hT f1 f2 ed E1.1 Bl;obtain⟨oe5,vs5,e5,c5,d5,_⟩:=E1.first;refine wpAny_handleBy_cons (codeAny_handlers_test ?_) (by intro q;cases q);refine XV (X:=X.marked (.ref a) λ_ _=>False) (I5.jJ (.ref a) _) hg hm ?_ (hd:=pr);have LT:Looks (model X.prog X.w) h5 (typeOf (.ref a)) cls:=by
   subst c5;exact(Looks.ld e5).andThen .now
  refine(exm_one (M:=model X.prog X.w) I5.bz LT hx).here ?_;show codeAny _ _ (.handlers (.ref a) [.ExceptHandler none (some nm) (b₀::eg) eh] X.env) _ _;refine codeAny_handlers_suite_as ?_;refine lands_againW E1 λh6 Ih Nq=>?_;have E2:s1.heap.UpToSlots h6:=Bl.trans Nq;have I6:Inv X U σ' H' {s1 with heap:=h6}:=I1.looked (t':=s1.toks) PP F1 ha hT f1 f2 ed Ih.1 E2;obtain⟨Nr,vs6,e6,c6,d6,_⟩:=Ih.first;have aL:a≠X.env.locals:=by
   rintro rfl;obtain⟨m,⟨o',es,ep,e',d',_⟩,_⟩:=I1.loc;rw[t1]at e';cases e';rw[t3]at d';cases d'
  have aC:∀x c,X.env.cells.lookup x=some c->c≠a:=λx c e z=>by
   obtain⟨v,o',e',d'⟩:=I1.cell x c e;rw[z,t1]at e';cases e';rw[t3]at d';cases d'
  refine Vl (X:=X.marked (.ref a) λ_ _=>False) (v:=V.ref a) (I6.jJ (.ref a) λ_ _=>False) hN hi (.inl hl) rfl (λs7 I7 sb=>?_) (.inr hl);have e7:s7.heap.get? a=some Nr:=by
   obtain⟨b,hs,hb⟩:=sb;rw[hs.2 a ?_]
   .exact e6
   .rcases hb with rfl|hb
    .exact aL
    .exact(aC _ _ hb).symm
  have I8:Inv (X.marked (.ref a) λ_ _=>False) U ((replicate X.N.length none).set i (some (.ref a))) H' s7:=I7.weak (by rw[ycb,ycb,lN];exact I1.len.symm) λj v e=>by
   by_cases hj:j=i
   .subst hj;rw[List.getElem?_set]at e ⊢;simp only[ybK,lN]at e ⊢
    split at e
    .rename_i bn;rw[yaf (by rw[I1.len];exact bn)];exact e
    .cases e
   .rw[ybF (Ne.symm hj),ybr]at e
    split at e<;>cases e
  have I9:=I8.vn (o:=xR a cls) ha f1 aL aC (λp hp=>(ed p hp).1) (Nd e7 c6 d6);refine yaB (hs (.ref a) U s7 _ _ _ I9 (hh a ha)) (λf s8 q8=>?_) (λ_ _ z=>z.elim);have DD:=I.ok.hd hc;cases f with
  |next=>obtain⟨σ8,H8,J,q⟩:=q8;exact name_goes (J.Va DD) hN hi hl λs9 J9=>⟨_,_,J9,q⟩
  |brk=>obtain⟨σ8,H8,J,q⟩:=q8;exact name_goes (J.Va DD) hN hi hl λs9 J9=>⟨_,_,J9,q⟩
  |cont=>obtain⟨σ8,H8,J,q⟩:=q8;exact name_goes (J.Va DD) hN hi hl λs9 J9=>⟨_,_,J9,q⟩
  |ret u=>obtain⟨v,σ8,H8,J,q⟩:=q8;exact name_goes (J.Va DD) hN hi hl λs9 J9=>⟨v,_,_,J9,q⟩
end
noncomputable def KP(a:Addr)(q:Str):HO:=.ext λh=>∃o vs t,h.get? a=some o/\o.data=.fields vs/\vs[1]? =some (.str q t)
theorem vo(e:h.CodeRec (.ref a) q):J3 P w H h a (KP a q):=by
 obtain⟨c,o,vs,t,e1,e2,e3,e4⟩:=e;cases e1;exact⟨⟨o,vs,t,e2,e3,e4⟩,⟨o,e2⟩,λ_ _⟨o,vs,t,e,r⟩ k=>⟨o,vs,t,k o e,r⟩⟩
theorem xS(e:J3 P w H h a (KP a q)):h.CodeRec (.ref a) q:=by
 obtain⟨⟨o,vs,t,e2,e3,e4⟩,_⟩:=e;exact⟨a,o,vs,t,Z,e2,e3,e4⟩
def V9(H:Hp)(P:Addr)(q:Str):Prop:=
 ∃ps:Array Value,H P=some (.bT ps)/\TriplesOk ps.toList/\∀pos cv,codeAmong pos ps.toList=some cv->∃a,cv=.ref a/\H a=some (KP a q)
structure b8(mg:Str->Option Value)(M:Heap)(c P:Addr):Prop where
 hd:CodeHd M c P
 bm:∃bm ob,mg "__builtins__"=some (.ref bm)/\bm≠builtinsNs/\M.get? bm=some ob/\ob.cls=.type "module"/\ob.dict=some builtinsNs/\ob.data=.plain
theorem UL(l:List Value)(h:TriplesOk l):TriplesOk (l++[.int a ta,.int b tb,c]):=by
 fun_induction TriplesOk l with
 |case1=>simp[TriplesOk]
 |case2 a' t b' u x rest ih=>exact ih h
 |case3=>exact h.elim
theorem zE(l:List Value)(h:TriplesOk l)(e:codeAmong p (l++[.int a ta,.int b tb,c])=some cv):codeAmong p l=some cv\/cv=c:=by
 fun_induction TriplesOk l with
 |case1=>
  simp only[lR,codeAmong]at e
  split at e
  .cases e;exact .inr rfl
  .cases e
 |case2 a' t b' u x rest ih=>
  simp only[lQ,codeAmong]at e ⊢
  split at e
  .rename_i q;rw[yaf q];exact .inl e
  .rename_i q;rw[yac q];exact ih h e
 |case3=>exact h.elim
section
variable {X:Cx}{U:List (Addr × Obj)}{σ:St}{H:Hp}{s:Shared}
theorem vp{params:Arguments}{body:Expr}{scope:Scope}{pos:Pos}{cl:List (Str × Addr)}(I:Inv X U σ H s)(qLa:b8 X.mg X.M c P)(Ix:X.env.code=.ref c)(hq:q=X.env.qual++"<lambda>")
  (ei:defaultsOf params X.env=([],[])) (E3:closureFor scope X.env=pure cl) (T:V9 H P q)
  (h:∀f c' pm rc H' s',Inv X U σ H' s'->s'.heap.get? f=some (kla_obj "<lambda>" q params body scope cl pm c' rc)->H' f=none->s.heap.objs.size<=f->H' c'=some (KP c' q)->V9 H' P q->
   (∀b o,H b=some o->b≠P->H' b=some o)->(∀b o,s.heap.get? b=some o->b≠P->s'.heap.get? b=some o)->Q (.ref f) s'):
  wpAny (model X.prog X.w) X.A (eval (.Lambda params body scope pos) X.env) Q X.xe s:=by
 subst hq;obtain⟨ps,hP,ht,hc⟩:=T;obtain⟨bm,ob,b1,b2,b3,b4,b5,b6⟩:=qLa.bm;have DE:s.heap.get? P=some (tabObj ps):=I.ai P _ hP;have hg:s.heap.Ns mainGlobals X.mg:=I.mod.glob.keeps I.bk;have Nt:mainGlobals≠P:=λz=>by
  obtain⟨o,es,ep,e,hd,_⟩:=hg;rw[z,DE]at e;cases e;cases hd
 have Bm:=I.bk _ _ b3;have Nu:bm≠mainGlobals:=λz=>by
  obtain⟨o,es,ep,e,hd,_⟩:=hg;rw[z,e]at Bm;cases Bm;rw[hd]at b6;cases b6
 have iq:bm≠P:=λz=>by
  rw[z,DE]at Bm;cases Bm;cases b4
 have hB:s.heap.BuiltinsAt X.mg P:=⟨bm,ob,b1,b2,Nu,iq,Bm,b4,b5,b6⟩;refine kla_eval ei ?_;cases ha:codeAmong pos ps.toList with
 |some cv=>
  obtain⟨c',rfl,cQ⟩:=hc pos cv ha;refine kla_makeFunctionHit E3 I.ok.glob hg Ix (qLa.hd.keeps I.bk) DE ht ha hB λrc h' tk k hsz=>?_;have kp:∀b o,s.heap.get? b=some o->(h'.push (kla_obj "<lambda>" (X.env.qual++"<lambda>") params body scope cl ((X.mg "__name__").getD .none) c' rc)).get? b=some o:=λb o e=>yaa _ (k b o e);exact h h'.objs.size c' _ rc H _ (I.kept kp) (yam _ Z) (I.ai.fresh hsz) hsz cQ ⟨ps,hP,ht,hc⟩ (λ_ _ e _=>e) λb o e _=>kp b o e
 |none=>
  refine kla_makeFunction E3 I.ok.glob hg Ix (qLa.hd.keeps I.bk) DE ht ha Nt hB λc' rc h' tk ext cw bn o7 Ii=>?_;have kp:∀b o,s.heap.get? b=some o->b≠P->(h'.push (kla_obj "<lambda>" (X.env.qual++"<lambda>") params body scope cl ((X.mg "__name__").getD .none) c' rc)).get? b=some o:=λb o e n=>yaa _ (ext b o n e);have E4:H c'=none:=I.ai.fresh cw;have Nv:c'≠P:=λz=>by rw[z,hP]at E4;cases E4
  have Hk:∀b o,H b=some o->b≠P->upd (upd H P (.bT (ps++ #[rawInt pos.line,rawInt pos.col,.ref c']))) c' (KP c' (X.env.qual++"<lambda>")) b=some o:=λb o e n=>by
   rw[Qx (Qz e E4),Qx n];exact e
  have HP:upd (upd H P (.bT (ps++ #[rawInt pos.line,rawInt pos.col,.ref c']))) c' (KP c' (X.env.qual++"<lambda>")) P=some (.bT (ps++ #[rawInt pos.line,rawInt pos.col,.ref c'])):=by
   rw[Qx Nv.symm,Qd]
  have hsz:s.heap.objs.size<=h'.objs.size:=ybi (yba cw bn);refine h h'.objs.size c' _ rc (upd (upd H P (.bT (ps++ #[rawInt pos.line,rawInt pos.col,.ref c']))) c' (KP c' (X.env.qual++"<lambda>"))) _ (I.un (t':=tk) ⟨λb o e n hb hx=>?_,λb o e n hb hx=>?_,λb o e n hx=>?_,λb o e hx=>?_,λb xs e=>?_,λb o u e=>?_,λb qs e=>?_⟩ λb u e=>?_) (yam _ Z) ?_ hsz (Qd) ⟨_,HP,?_,λp cv e=>?_⟩ Hk λb o e n=>kp b o e n
  .exact kp b o e λz=>by rw[z,hP]at n;cases n
  .exact⟨o.slots,kp b o e λz=>by rw[z,hP]at n;cases n⟩
  .have n1:b≠P:=λz=>by rw[z,hP]at n;cases n
   have n2:b≠c':=yal (yad (yae e) cw);rw[Qx n2,Qx n1];exact n
  .by_cases z:b=P
   .exact⟨_,by rw[z];exact yaa _ Ii⟩
   .exact⟨o,kp b o e z⟩
  .exact Hk b _ e λz=>by rw[z,hP]at e;cases e
  .exact Hk b _ e λz=>by rw[z,hP]at e;cases e
  .by_cases z:b=P
   .subst z;rw[hP]at e;cases e;exact⟨_,HP⟩
   .exact⟨#[],by rw[Hk b _ e z];simp⟩
  .by_cases z1:b=c'
   .subst z1;rw[Qd]at e;cases e;exact vo (o7.keeps λb o e=>yaa _ e)
   .by_cases z2:b=P
    .subst z2;rw[HP]at e;cases e;exact(yaa _ Ii:_)
    .rw[Qx z1,Qx z2]at e;refine(I.ai b u e).K7 (λd v hd q'=>kp d v q' λz=>?_) (λd q'=>Hk d _ q' λz=>by rw[z,hP]at q';cases q') λd xs q'=>Hk d _ q' λz=>by rw[z,hP]at q';cases q'
     rcases hd with rfl|hd
     .exact z2 z
     .rw[z,hP]at hd;cases hd
  .have n2:h'.objs.size≠c':=yby bn;have n0:H h'.objs.size=none:=I.ai.fresh hsz;have n1:h'.objs.size≠P:=λz=>by rw[z,hP]at n0;cases n0
   show upd _ _ _ _=none;rw[Qx n2,Qx n1];exact n0
  .rw[Array.toList_append];exact UL _ ht
  .rw[Array.toList_append]at e;rcases zE _ ht e with e|rfl
   .obtain⟨a,rfl,E5⟩:=hc p cv e;exact⟨a,Z,Hk a _ E5 λz=>by rw[z,hP]at E5;cases E5⟩
   .exact⟨c',Z,Qd⟩
end
noncomputable def zF(P:Program)(w:World)(K:Frag)(mg:Str->Option Value)(M:Heap)(N:List Str)(q:Str)(scope:Scope)(f c':Addr)(cl:List (Str × Addr))(A:Around)(L:List Env)(s:Shared)(H:Hp)(E:XK):Cx where
 prog:=P
 w:=w
 K:=K
 mg:=mg
 M:=M
 A:=A.deeper (envX q scope s.heap.objs.size f (.ref c') cl)
 N:=N
 s₀:=s
 H₀:=H
 env:=envX q scope s.heap.objs.size f (.ref c') cl
 L:=L
 stack:=envX q scope s.heap.objs.size f (.ref c') cl::L
 ex:=[]
 calm:=true
 fn:=λ_=>false
 pn:=[]
 xe:=λe s'=>wpAny (model P w) (A.deeper (envX q scope s.heap.objs.size f (.ref c') cl)) (leaving (envX q scope s.heap.objs.size f (.ref c') cl) e) (λ_ dX=>ao P w L H s E e dX) (λe' dX=>ao P w L H s E e' dX) s'
theorem Vb{K:Frag}{M:Heap}{N:List Str}{q:Str}{scope:Scope}{cl:List (Str × Addr)}{L:List Env}{H:Hp}{E:XK}:
  ik (zF P w K mg M N q scope f c' cl A L s H E) E:=⟨Z,Z,Z,λ_ _ h=>h⟩
structure CellsOk(N:List Str)(σ:St)(scope:Scope)(cl:List (Str × Addr))(H:Hp)(fs:List Addr)(h:Heap):Prop where
 inj:∀x y c,cl.lookup x=some c->cl.lookup y=some c->x=y
 has:∀x,scope.names.lookup x=some .free->∃c,cl.lookup x=some c
 none_:∀y∈scope.names,y.2≠ .local/\y.2≠ .cell
 cell:∀x c,cl.lookup x=some c->H c=none/\c∉fs/\∃v,h.IsCell c v
 val:∀(i:Nat)(x:Str)(v:V),N[i]? =some x->σ[i]? =some (some v)->scope.names.lookup x=some .free->∃u c,RelV v u/\cl.lookup x=some c/\h.IsCell c (some u)
section
variable {X:Cx}{U:List (Addr × Obj)}{σ1:St}{H:Hp}{s:Shared}
theorem vq{params:Arguments}{body:Expr}{scope:Scope}{cl:List (Str × Addr)}{pm rc:Value}(I:Inv X U σ1 H s)(hh:X.A.handled=none)(hr:aq (k+1) X.A)
  (ho:s.heap.get? f=some (kla_obj "<lambda>" q params body scope cl pm c' rc)) (cQ:H c'=some (KP c' q)) (hk:scope.kind=.function) (Nw:scope.isCoroutine=false) (E6:scope.isGenerator=false)
  (Ev:bindArgs (kla_fn "<lambda>" q params body scope cl pm (.ref c') rc) ⟨[],[]⟩=pure []) (hlen:σ.length=N.length)
  (C:CellsOk N σ scope cl H (aK X.stack) s.heap) (hx:Passes (ao X.prog X.w) X E)
  (hb:aq k (X.A.deeper (envX q scope s.heap.objs.size f (.ref c') cl))->PE (zF X.prog X.w X.K X.mg X.M N q scope f c' cl X.A X.stack s H E) body te) (h:te σ H Q):
  wpAny (model X.prog X.w) X.A (call (.ref f) []) (EP X U σ1 Q) X.xe s:=by
 have Id:∀x∈scope.names,x.2≠ .cell:=λx hx=>(C.none_ x hx).2;refine ydi (ycy (R:=CR (ao X.prog X.w) X.stack X.prog X.w H s Q E) ?_ λr s' hq=>?_)
 .refine kla_callFunE hr.depth ho rfl Nw E6 rfl (xS (I.ai c' _ cQ)) ?_;rw[Ev];refine yan (wpAny_newFunctionEnv Id (λy hy=>nomatch hy) (λh₁ DF Ij=>⟨I.nolimit.fresh _ Ij,?_⟩) hk);show codeAny _ _ (.expr body (envX q scope s.heap.objs.size f (.ref c') cl)) _ _;have DG:∀b o,s.heap.get? b=some o->h₁.get? b=some o:=λb o e=>Ij.extBut b o (yal (yae e)) (yaa _ e);have Dt:∀x,Ag scope x->scope.names.lookup x=some .free:=λx hv=>by
   rcases hv with z|z|z
   .exact absurd rfl (C.none_ _ (yaw z)).1
   .exact absurd rfl (C.none_ _ (yaw z)).2
   .exact z
  have J:Inv (zF X.prog X.w X.K X.mg X.M N q scope f c' cl X.A X.stack s H E) [] σ H {s with heap:=h₁,toks:=s.toks+([]:List (Str × Value)).length}:=by
   refine⟨⟨I.ok.mod,hk,Z,Z,lA _,C.inj,λx f8=>?_,(λx c z _=>nomatch z),λ_=>hh,Around.frames_deeper I.ok.frames,.inr ⟨Z,Z⟩,λb z=>absurd (show b∈([]:List Addr)from z) (by simp),I.bs,yas I.ok.cN I.sz,λb _ _ z=>absurd (show b∈([]:List Addr)from z) (by simp),λb z=>absurd (show b∈([]:List Addr)from z) (by simp),I.stack,I.KI⟩,
    Z,I.bare,Un.kept DG,⟨_,DF,λi x v h1 h2 h3=>?_⟩,λx c e=>?_,I.ai.fresh (lA _),λx c e=>(C.cell x c e).1,λp hp=>absurd (show p∈([]:List (Addr × Obj))from hp) (by simp),I.ai.kept DG,hlen⟩
   .have E7:scope.names.lookup x=some .cell\/scope.names.lookup x=some .free:=f8;rcases E7 with z|z
    .exact absurd rfl (C.none_ _ (yaw z)).2
    .exact C.has x z
   .obtain⟨u,c,r,e,⟨o,e1,e2⟩⟩:=C.val i x v h1 h2 (Dt x h3);exact⟨u,r,.inr ⟨.inr (Dt x h3),c,e,⟨o,DG _ _ e1,e2⟩⟩⟩
   .obtain⟨_,_,v,o,e1,e2⟩:=C.cell x c e;exact⟨v,o,DG _ _ e1,e2⟩
  refine kla_codeExpr (yaB (hb (hr.deeper _) [] _ σ H Q J h) (λv s' hq=>?_) λe s' hq=>hq);obtain⟨y,H',J',r,q'⟩:=hq;exact⟨y,H',J'.os,J'.bare,J'.M,J'.ai,r,q'⟩
 .cases r with
  |error e=>exact hx U σ1 H s e s' I hq
  |ok fl=>
   cases fl with
   |ret u=>exact I.after hq
   |next=>exact False.elim hq
   |brk=>exact False.elim hq
   |cont=>exact False.elim hq
end
theorem Nx{CX:dH}{K:Frag}{M:Heap}{k:Nat}{name qual:Str}{params:Arguments}{body:List Stmt}{scope:Scope}{dV kV doc pm ad ct oc:Value}{an od:Option Addr}
  {on:Array (Option Value)} {N ps:List Str}  {L:List Env}  {H:Hp} {args:Args} {us:List Value} {vs:List V} {Q:VK} {E:XK}
  (lk:K.lookup f=some ⟨oc,od,.func (fnOf name qual params body scope dV kV doc pm an ad ct),on⟩) (GT:codeIn K ad qual=true) (S:aa N ps scope)
  (hr:aq (k+1) A) (e0:dW P w K mg M A L s H) (hb:BindsTo s (fnOf name qual params body scope dV kV doc pm an ad ct) args (ps.zip us)) (r:Vals vs us) (hl:vs.length=ps.length)
  (ce:aq k (A.deeper (envOfC qual scope s.heap.objs.size f ad))->
   ∃t,aU (Xe CX P w K mg M N qual scope f ad A L s H E) body t/\t {nx:=λ_ H'=>Q .ax H',rt:=Q} (start N vs) H):
  codeAny (model P w) A (.call (.ref f) args) (CR CX L P w H s Q E) s:=by
 have KX:K.In s.heap:=e0.mod.iQ.keeps λb o e=>(e0.bs b o e).1;have lim:s.heap.NoLimit:=e0.mod.nolimit.keeps λb o e=>(e0.bs b o e).1;have dY:∀y∈ps.zip us,scope.names.lookup y.1=some .local\/(scope.names.lookup y.1=some .cell/\((cellsFrom (s.heap.objs.size+1) scope.names []).lookup y.1).isSome=true):=λ⟨n,v⟩ hy=>by
  rcases S.par n (ydn hy).1 with q|q
  .exact .inl q
  .exact .inr ⟨q,cellsFrom_some _ _ _ (.inl q)⟩
 refine codeAny_call_function hr.depth (KX _ _ lk) rfl S.co S.gen rfl (codeRec_of KX GT) (hb _ _ _ _ ?_);refine ydv S.kind dY λenv he s1 x=>?_;subst he;refine⟨lim.keeps x.toInCall.keep,codeAny_func ?_⟩;obtain⟨t,ht,hq⟩:=ce (hr.deeper _);have I:Inv (Xe CX P w K mg M N qual scope f ad A L s H E) [] (start N vs) H s1:=UE S hr.hd e0 hl r x;refine yaB (ht [] s1 (start N vs) H _ I hq) (λfl s' hs=>?_) λe s' hs=>hs;have fin:∀{σ':St}{H':Hp}{v:V}{u:Value},Inv (Xe CX P w K mg M N qual scope f ad A L s H E) [] σ' H' s'->RelV v u->Q v H'->CE L P w H s Q u s':=
  λ{σ' H' v u} J rv q=>⟨v,H',J.os,J.bare,J.M,J.ai,rv,q⟩
 cases fl with
 |ret u=>
  obtain⟨v,σ',H',J,rv,q⟩:=hs;exact fin J rv q
 |next=>
  obtain⟨σ',H',J,q⟩:=hs;exact fin (v:=V.ax) (u:=Value.none) J rfl q
 |brk=>
  obtain⟨_,_,_,q⟩:=hs;exact False.elim q
 |cont=>
  obtain⟨_,_,_,q⟩:=hs;exact False.elim q
structure bJ(X:Cx)(N:List Str)(σ:St)(q:Str)(params:Arguments)(body:Expr)(scope:Scope)(f c':Addr)(cl:List (Str × Addr))(pm rc:Value):Prop where
 ob:X.s₀.heap.get? f=some (kla_obj "<lambda>" q params body scope cl pm c' rc)
 un:X.H₀ f=none
 fr:f∉X.fs
 code:X.H₀ c'=some (KP c' q)
 kind:scope.kind=.function
 co:scope.isCoroutine=false
 gen:scope.isGenerator=false
 bind:bindArgs (kla_fn "<lambda>" q params body scope cl pm (.ref c') rc) ⟨[],[]⟩=pure []
 len:σ.length=N.length
 cells:CellsOk N σ scope cl X.H₀ X.fs X.s₀.heap
def Ny(i:Nat)(f c':Addr)(q:Str)(σ:St)(te:TE):TE:=λσ1 H Q=>σ1[i]? =some (some (.ref f))/\H c'=some (KP c' q)/\te σ H Q
section
theorem Nz{p pos:Pos}{params:Arguments}{body:Expr}{scope:Scope}{cl:List (Str × Addr)}{pm rc:Value}
  (qLa:bJ X N σ q params body scope f c' cl pm rc) (hex:X.ex=[]) (Bn:X.calm=true) (hN:X.N[i]? =some x) (hv:Ag X.env.scope x) (hr:aq (k+1) X.A) (hx:Passes (ao X.prog X.w) X E)
  (il:∀x c,cl.lookup x=some c->c<X.s₀.heap.objs.size)
  (hb:∀s H,aq k (X.A.deeper (envX q scope s.heap.objs.size f (.ref c') cl))->PE (zF X.prog X.w X.K X.mg X.M N q scope f c' cl X.A X.stack s H E) body te)
  (hd:(x==("__debug__":Str))=false:=by lia) (GT:(x==("__classdict__":Str))=false:=by lia):PE X (.Call (.Name x p) [] [] pos) (Ny i f c' q σ te):=by
 intro U s σ1 H Q I h;obtain⟨h1,h2,h3⟩:=h;have T0:∀b:Addr,b∉X.ex:=λb z=>by rw[hex]at z;cases z
 have ho:=I.M.keep f _ qLa.ob qLa.un qLa.fr (T0 f);refine yaZ (av (yT (X:=X) hN hv hd GT U s σ1 H (λv H'=>v=.ref f/\H'=H) I ⟨_,h1,Z,Z⟩) λu s1⟨v,H',I1,rv,e,e2⟩=>?_);subst e e2;obtain rfl:u=Value.ref f:=rv;have Ao:=I1.M.keep f _ qLa.ob qLa.un qLa.fr (T0 f);have ie:∀b,b<X.s₀.heap.objs.size->b≠X.env.locals:=λb hb=>yal (yad hb I1.ok.above);refine callWith_of (P:=λh=>h=s1.heap) rfl (λh e=>⟨.frame,.inl rfl,by subst e;exact(Looks.ld (part:=none) Ao).andThen .now⟩) (PyProof.Rows.evalArgs_nil3 ⟨Z,?_⟩);refine vq I1 (I1.ok.hd Bn) hr Ao h2 qLa.kind qLa.co qLa.gen qLa.bind qLa.len ?_ hx (hb s1 H') h3;refine⟨qLa.cells.inj,qLa.cells.has,qLa.cells.none_,λx c e=>?_,λj y v e1 e2 e3=>?_⟩
 .obtain⟨a1,a2,v,o,a3,a4⟩:=qLa.cells.cell x c e;refine⟨I1.M.free c o a3 a1 (T0 c),λz=>?_,v,o,I1.M.keep c o a3 a1 a2 (T0 c),a4⟩;rcases yag.mp (I1.K8 c z)with z|z
  .exact ie c (il x c e) z
  .exact a2 z
 .obtain⟨u,c,r,e,o,a3,a4⟩:=qLa.cells.val j y v e1 e2 e3;obtain⟨a1,a2,_⟩:=qLa.cells.cell y c e;exact⟨u,c,r,e,o,I1.M.keep c o a3 a1 a2 (T0 c),a4⟩
theorem jK(h:i.natAbs<2^2000):Builtin.Int.intBits i<=2^20:=yas (intBits_le h) (by lia)
def NC(i j:Int):Prop:=i.natAbs<2^2000/\j.natAbs<2^2000
theorem YM:aW X (binaryOp .Mult) (rI NC λi j=>.int (i*j)):=Al λ_ _ _ _ _ _ _ hc q=>mul_int q (IntMulOk.of_bits (jK hc.1) (jK hc.2))
def ND(i j:Int):Prop:=0<j/\j.natAbs<2^2000
theorem YN:aW X (binaryOp .FloorDiv) (rI ND λi j=>.int (i/j)):=Al λi j _ _ _ _ _ hc q=>by
 have hp:Builtin.divisionGoesByPylong i j=false:=PyProof.noPylong_of_log2 (by
  by_cases h0:j.natAbs=0
  .rw[h0];lia
  .have:=(ydp h0).mpr hc.2;lia)
 refine floordiv_int (ybP hc.1) ?_ (.inl hp);rw[ycm _ (ycA hc.1)];exact q
noncomputable def Ya(x:Str)(n:Nat):Str:=⟨(replicate n x.cps).foldl (· ++ ·) #[]⟩
theorem zG:aW X (binaryOp .Mult) (λx y H Q=>∃z n,x=.str z/\y=.int n/\0<=n/\z.length*n.toNat<=sizeLine/\n<2^40/\Q (.str (Ya z n.toNat)) H):=by
 intro U s σ H x y v u Q I rx ry h;obtain⟨z,n,rfl,rfl,h0,hl,hn,q⟩:=h;obtain⟨t,rfl⟩:=rx;obtain⟨t',rfl⟩:=ry;have hlen:∀k:Nat,(Ya z k).cps.toList=(replicate k z.cps.toList).flatten:=λk=>by
  unfold Ya;have:∀(l:List (Array Nat))(acc:Array Nat),(l.foldl (· ++ ·) acc).toList=acc.toList++(l.map (·.toList)).flatten:=by
   intro l
   induction l with
   |nil=>intro acc;simp
   |cons a r ih=>intro acc;rw[ycH,ih];simp
  rw[this];simp
 refine PySem.P.mul_str ?_ ?_ ?_ ?_
 .rw[lx (by lia),lx (by lia)];rfl
 .intro h1 h2 h3;have:(z.length:Int)*n<=2^63-1:=by
   have e:((z.length*n.toNat:Nat):Int)=(z.length:Int)*n:=by push_cast;rw[Int.toNat_of_nonneg h0]
   have:=Wc;lia
  have:=(Int.le_ediv_iff_mul_le (by lia:0<n)).mpr this;lia
 .intro h1 h2;have:=hl;exact lx (yeA.mpr hl)
 .by_cases h1:n<1
  .rw[yaf h1];have e:Ya z n.toNat=Str.empty:=by rw[show n=0 by lia];rfl
   exact⟨by lia,.str (Ya z n.toNat),H,I.tok _,⟨_,by rw[e]⟩,q⟩
  .rw[yac h1]
   by_cases h2:(n==1||z.length==0)=true
   .rw[yaf h2];have e:Ya z n.toNat=z:=by
     have:(Ya z n.toNat).cps.toList=z.cps.toList:=by
      rw[hlen];simp only[Bool.or_eq_true,yci]at h2;rcases h2 with h2|h2
      .rw[h2];simp
      .have:z.cps.toList=[]:=by
        have h3:z.cps.size=0:=h2;rw[Array.eq_empty_of_size_eq_zero h3]
       rw[this];simp
     have:(Ya z n.toNat).cps=z.cps:=by rw[<-Array.toList_inj];exact this
     cases z;cases hh:Ya _ n.toNat;rw[hh]at this;simp only at this;rw[this]
    exact⟨.str (Ya z n.toNat),H,I,⟨t,by rw[e]⟩,q⟩
   .rw[yac h2];refine⟨?_,.str (Ya z n.toNat),H,I.tok _,⟨_,Z⟩,q⟩;show(Ya z n.toNat).cps.size<=sizeLine;rw[<-lV,hlen,List.length_flatten,List.map_replicate,List.sum_replicate_nat];have e:z.cps.toList.length=z.length:=by rw[lV];rfl
    rw[e,ydz];exact hl
theorem Jg:Wv X (.type "int") (λxs H Q=>∃x n,xs=[.str x]/\PySem.intText? x=some n/\x.length<=640/\Q (.int n) H):=by
 intro U s σ H xs us Q I r h;obtain⟨x,n,rfl,hn,hl,q⟩:=h;obtain⟨u,rfl,t,rfl⟩:=vals1 r;exact PySem.W.KIN.call_text hn hl ⟨.int n,H,I.tok _,⟨_,Z⟩,q⟩
inductive eu (K:Frag) (H:Hp):Nat->V->V->Bool->Prop where
 |flat {n:Nat} {x y:V} (fx:XT x=true) (fy:XT y=true):eu K H n x y (bW x y)
 |tup {n:Nat} {a b:Addr} {xs ys:List V} {e:Nat->Bool} (ne:a≠b) (ha:aj K H a xs) (hb:aj K H b ys) (he:∀j x y,xs[j]? =some x->ys[j]? =some y->eu K H n x y (e j)):
   eu K H (n+1) (.ref a) (.ref b) ((List.range (min xs.length ys.length)).all e&&xs.length==ys.length)
theorem Vv{U:List (Addr × Obj)}{σ:St}{H:Hp}{s:Shared}{A:Around}{xs ys:List V}{ap Db:List Value}{e:Nat->Bool}{n:Nat}(r1:Vals xs ap)(r2:Vals ys Db)
  (he:∀j x y u v,xs[j]? =some x->ys[j]? =some y->RelV x u->RelV y v->SeqAt.EqAt A s u v (e j)):∀j(h1:j<ap.toArray.size)(h2:j<Db.toArray.size),SeqAt.EqAt A s ap.toArray[j] Db.toArray[j] (e j):=by
 intro j h1 h2;have l1:=r1.length;have l2:=r2.length;rw[lW]at h1 h2;have k1:xs[j]? =some xs[j]:=yah (by lia);have k2:ys[j]? =some ys[j]:=yah (by lia);obtain⟨u,e1,q1⟩:=r1.get k1;obtain⟨v,e2,q2⟩:=r2.get k2;have z1:ap.toArray[j]=u:=by
  rw[yah h1]at e1;simpa using lB e1
 have z2:Db.toArray[j]=v:=by
  rw[yah h2]at e2;simpa using lB e2
 rw[z1,z2];exact he j _ _ u v k1 k2 q1 q2
theorem eu.at{U:List (Addr × Obj)}{σ:St}(I:Inv X U σ H s){n:Nat}{k:Bool}(d:eu X.K H n x y k):∀{A:Around}{u v:Value},A.units+n<cLine->RelV x u->RelV y v->SeqAt.EqAt A s u v k:=by
 induction d with
 |flat fx fy=>intro A u v _ rx ry;exact yZ rx ry fx fy
 |@tup n a b xs ys e ne ha hb he ih=>
  intro A u v hu rx ry;obtain rfl:u=Value.ref a:=rx;obtain rfl:v=Value.ref b:=ry;obtain⟨ap,r1,p1,_⟩:=I.tuple ha;obtain⟨Db,r2,p2,_⟩:=I.tuple hb;have l1:=r1.length;have l2:=r2.length;have z:=SeqAt.RcAt.tuples (A:=A) (s:=s) (e:=e) p1 p2 (by lia) (Vv (U:=U) (σ:=σ) (H:=H) (n:=n) r1 r2 λj x y u v h1 h2 q1 q2=>ih j x y h1 h2 (A:=A.in1) (by show A.units+1+n<cLine;lia) q1 q2);rw[lW,lW, <-l1, <-l2]at z;exact .of_refs ne z
def Ik(K:Frag)(n:Nat)(neg:Bool):R2:=λx y H Q=>∃a b xs ys e k,x=.ref a/\y=.ref b/\aj K H a xs/\aj K H b ys/\(∀j x y,xs[j]? =some x->ys[j]? =some y->eu K H n x y (e j))/\
 ((List.range (min xs.length ys.length)).all e&&xs.length==ys.length)=k/\Q (.bl (if neg then !k else k)) H
theorem jL(hu:X.A.units+1+n<cLine):aW X (compareOp .NotEq) (Ik X.K n true):=by
 intro U s σ H x y v u Q I rx ry h;obtain⟨a,b,xs,ys,e,k,rfl,rfl,ha,hb,he,hk,q⟩:=h;obtain rfl:v=Value.ref a:=rx;obtain rfl:u=Value.ref b:=ry;obtain⟨ap,r1,p1,_⟩:=I.tuple ha;obtain⟨Db,r2,p2,_⟩:=I.tuple hb;have l1:=r1.length;have l2:=r2.length;refine SeqAt.RcNeAt.tuples (e:=e) p1 p2 (by lia) (Vv (U:=U) (σ:=σ) (H:=H) (n:=n) r1 r2 λj x y u v h1 h2 q1 q2=>(he j x y h1 h2).at I (A:=X.A.in1) (by show X.A.units+1+n<cLine;lia) q1 q2) X.prog X.w X.xe _ ?_;rw[lW,lW, <-l1, <-l2,hk];exact⟨.bl (!k),H,I,Z,q⟩
def NF:V->List V->Hp->VK->Prop:=λx vs H Q=>∃l xs y,x=.ref l/\vs=[y]/\H l=some (.lst xs)/\XT y=true/\xs.all XT=true/\Q (.int (xs.countP λz=>bW z y)) H
theorem Yt:∀{xs:List V}{us:List Value},Vals xs us->xs.all XT=true->us.countP (bU y)=xs.countP λz=>bW z y
 |_,_,.nil,_=>rfl
 |x::xs,u::us,.cons r t,h=>by
  rw[yde,yaO]at h;rw[List.countP_cons,List.countP_cons,Yt t h.2,jE r h.1]
theorem vt:cu X "list.count" NF:=by
 intro U s σ H x vs v us Q I rx rv h;obtain⟨l,xs,y,rfl,rfl,hH,fy,fs,q⟩:=h;obtain rfl:v=Value.ref l:=rx;obtain⟨u,rfl,ru⟩:=vals1 rv;obtain⟨z,ap,n,r,hl,e⟩:=I.vg hH;refine ycS slot_list_count ⟨_,e,Z⟩ entry_list_count (args_list_count_2 _ _) (SeqAt.list_countAt l ap.toArray n none #[] u (bU y)) ⟨e,λw hw=>XE ru fy r fs w (by simpa using hw),?_⟩;rw[show ap.toArray.toList=ap from rfl,Yt r fs];exact⟨.int _,H,I.tok _,⟨_,Z⟩,q⟩
def NG:V->List V->Hp->VK->Prop:=λx vs H Q=>∃l xs y j,x=.ref l/\vs=[y]/\H l=some (.lst xs)/\XT y=true/\xs.all XT=true/\(∃z,xs[j]? =some z/\bW z y=true)/\(∀i z,i<j->xs[i]? =some z->bW z y=false)/\Q (.int (j:Nat)) H
theorem vv:cu X "list.index" NG:=by
 intro U s σ H x vs v us Q I rx rv h;obtain⟨l,xs,y,j,rfl,rfl,hH,fy,fs,⟨zj,hz,hit⟩,de,q⟩:=h;obtain rfl:v=Value.ref l:=rx;obtain⟨u,rfl,ru⟩:=vals1 rv;obtain⟨z,ap,n,r,hl,e⟩:=I.vg hH;have hj:j<xs.length:=(yaj.mp hz).1;have at_:∀(i:Nat)(hi:i<ap.toArray.size)(w:V),xs[i]? =some w->bU y ap.toArray[i]=bW w y:=λi hi w hw=>by
  obtain⟨w',e1,q1⟩:=r.get hw;have NH:i<ap.length:=by simpa using hi
  rw[yah NH]at e1;have z1:ap.toArray[i]=w':=by simpa using lB e1
  rw[z1];refine jE q1 ?_;exact ybw.mp fs w (lM hw)
 have hsz:ap.toArray.size=xs.length:=by rw[lW];exact hl.symm
 refine ycS slot_list_index ⟨_,e,Z⟩ entry_list_index (args_list_index_2 _ _)
  (SeqAt.list_indexAt l ap.toArray n none #[] u (bU y) j (by lia) (by have:=Wc;lia) ?_ ?_) ⟨e,λw hw=>XE ru fy r fs w (by simpa using hw),⟨.int _,H,I.tok _,⟨_,Z⟩,q⟩⟩
 .rw[at_ j (by lia) zj hz];exact hit
 .intro m hm bn;have:xs[m]? =some xs[m]:=yah (by lia);rw[at_ m hm _ this];exact de m _ bn this
end
structure bE(K:Frag)(C:Addr):Prop where
 ex:excIn K C [.type "ValueError",.type "Exception",.type "BaseException",.type "object"] "ValueError.__new__"=true
 ga:findIn K (.ref C) "__getattribute__"=some (some (.builtin "BaseException.__getattribute__"))
 gn:findIn K (.ref C) "__getattr__"=some none
 cl:findIn K (.ref C) "__class__"=some (some (.builtin "object.__class__"))
theorem bE.err{K:Frag}(e:bE K C):iY K C:=⟨e.ex⟩
theorem YO{K:Frag}(KX:K.In h)(e:iY K C):∃bm N nm q bs hdct sn sub ab col dd k0 k1 k2 k3 k5,h.get? C=some (excClassObj nm q C N bs bm hdct sn sub ab col dd k0 k1 k2 k3 k5 "ValueError.__new__")/\
  OwnTail h [.type "ValueError",.type "Exception",.type "BaseException",.type "object"] bm:=by
 have q:=e.ex;unfold excIn at q
 split at q
 .rename_i dd cd sl ho
  split at q
  .rename_i C' bm k0 k1 k2 k3 n k5 hm hs;simp only[yaO,yci,ybM]at q;obtain⟨⟨⟨⟨⟨rfl,rfl⟩,dZ⟩,ht⟩,ai⟩,DC⟩:=q;obtain⟨nm,bs,mro,ns,qn,hd,sn,sub,ab,col,del⟩:=cd;dsimp only at hm dZ ai DC;subst hm dZ;have dh:sl= #[k0,k1,k2,k3,some (.builtin "ValueError.__new__"),k5]:=by
    obtain⟨l⟩:=sl;simp only at hs;rw[hs]
   subst dh;exact⟨bm,ns,nm,qn,bs,hd,sn,sub,ab,col,dd,k0,k1,k2,k3,k5,KX _ _ ho,tail_of_in KX ht⟩
  .cases q
 .cases q
section
variable {prog:Program}{w:World}{A:Around}{E:Value->Shared->Prop}{h:Heap}{g:Array GenState}{d:Drawn}{t:Nat}{os:OsState}{K:Frag}{a C:Addr}{o:Obj}
theorem YQ(KX:K.In h)(e:bE K C)(hx:h.get? a=some o)(hc:o.cls=.ref C)(hq:R (.ok (.ret (.ref C))) ⟨h,g,d,t,os⟩):
  codeAny (model prog w) A (.call (.builtin "getset_descriptor.__get__") ⟨[.builtin "object.__class__",.ref a,.ref C],[]⟩) R ⟨h,g,d,t,os⟩:=by
 obtain⟨bm,N,nm,q,bs,hdct,sn,sub,ab,col,dd,k0,k1,k2,k3,k5,hC,T⟩:=YO KX e.err;have Il:(⟨h,g,d,t,os⟩:Shared).TypeIs (.builtin "object.__class__") "getset_descriptor":=ycW;have dJ:(Value.ref C::bm).contains (.type (".".intercalate ("object.__class__".cutAt '.').dropLast))=true:=by
  rw[F.owner_object_class,ycJ,T.hasType (X:="object") (b:=true) (by lia)];rfl
 refine ycp F.slot_gs_get.plain F.entry_gs_get (F.slot_gs_get.check _ _ _ _ _ _ _ _ Il (F.args_gs_get _ _ _) ?_)
 repeat (any_goals (first|assumption|(with_reducible refine ycj hx ?_;rw[hc])|(with_reducible refine wpAny_isSubtype_exc hC ?_;rw[dJ])|wp_step))
 refine⟨Code.quiet_builtin _ (by rfl'),yee F.entry_object_class ?_⟩
 repeat (any_goals (first|assumption|(with_reducible refine ycj hx ?_;rw[hc])|wp_step))
theorem Vw{tk:Tok}(KX:K.In h)(e:bE K C)(hx:h.get? a=some o)(hc:o.cls=.ref C)(hq:Q (.done (.ret (.ref C))) ⟨h,g,d,t,os⟩):
  wpAny (model prog w) A (Builtin.«object.__getattribute__» ⟨[.ref a,.str "__class__" tk],[]⟩) Q E ⟨h,g,d,t,os⟩:=by
 have qLa:=looks_findIn (M:=model prog w) KX e.cl;have Il:(⟨h,g,d,t,os⟩:Shared).TypeIs (.builtin "object.__class__") "getset_descriptor":=ycW;have f5:=ycW;have f6:=F.slot_gs_get.lookup;have f7:=F.slot_gs_set.lookup
 repeat (any_goals (first|assumption|(with_reducible refine ycj hx ?_;rw[hc])|with_reducible refine Looks.at qLa ?_|wp_step))
 refine YQ KX e hx hc ?_
 repeat (any_goals (first|assumption|wp_step))
theorem Vx(KX:K.In h)(e:bE K C)(hx:h.get? a=some o)(hc:o.cls=.ref C)(hq:Q () ⟨h,g,d,t,os⟩):
  wpAny qMa A (checkBuiltinCall "BaseException.__getattribute__" ⟨[.ref a,i0],[]⟩) Q E ⟨h,g,d,t,os⟩:=by
 obtain⟨bm,N,nm,q,bs,hdct,sn,sub,ab,col,dd,k0,k1,k2,k3,k5,hC,T⟩:=YO KX e.err;have hk:builtinKind "BaseException.__getattribute__"=some .slot:=by rfl'
 have o8:splitId "BaseException.__getattribute__"=some ("BaseException","__getattribute__"):=by rfl'
 have dJ:(Value.ref C::bm).contains (.type "BaseException")=true:=by rw[ycJ,T.hasType (X:="BaseException") (b:=true) (by lia)];rfl
 have ha:=F.args_bexc_ga (.ref a) i0;simp only[checkBuiltinCall,hk,o8];refine yab ?_
 .unfold isInstance
  repeat (first|(with_reducible refine ycj hx ?_;rw[hc])|(with_reducible refine wpAny_isSubtype_exc hC ?_;rw[dJ])|wp_step)
  exact hq
theorem Yb{tk:Tok}(KX:K.In h)(e:bE K C)(hx:h.get? a=some o)(hc:o.cls=.ref C)(hq:R (.ok (.ret (.ref C))) ⟨h,g,d,t,os⟩):
  codeAny (model prog w) A (.call (.builtin "BaseException.__getattribute__") ⟨[.ref a,.str "__class__" tk],[]⟩) R ⟨h,g,d,t,os⟩:=
 ycp F.excAttr_ValueError.ga.plain F.entry_bexc_ga (Vx KX e hx hc (Vw KX e hx hc hq))
theorem UM{tk:Tok}(KX:K.In h)(e:bE K C)(hx:h.get? a=some o)(hc:o.cls=.ref C)(hq:Q (.ref C) ⟨h,g,d,t,os⟩):
  wpAny (model prog w) A (getAttrBy (.ref a) (.str "__class__" tk) false) Q E ⟨h,g,d,t,os⟩:=by
 have L1:=looks_findIn (M:=model prog w) KX e.ga;have L2:=looks_findIn (M:=model prog w) KX e.gn;have f3:=F.excAttr_ValueError.ga.bind (.ref a);have ii:(Value.builtin "BaseException.__getattribute__"==Value.builtin "object.__getattribute__")=false:=by rfl'
 have di:(onTheHeap (Value.ref C)&&Value.builtin "BaseException.__getattribute__"==Value.builtin "object.__getattribute__")=false:=by rw[ii];rfl
 repeat (any_goals (first|assumption|(with_reducible refine ycj hx ?_;rw[hc])|with_reducible refine Looks.at L1 ?_|with_reducible refine Looks.at L2 ?_|wp_step))
 refine Yb KX e hx hc ?_
 repeat (any_goals (first|assumption|wp_step))
theorem Yc(KX:K.In h)(e:bE K C)(hx:h.get? a=some o)(hc:o.cls=.ref C)(hq:Q (some (.ref C)) ⟨h,g,d,t+1,os⟩):
  wpAny (model prog w) A (getAttr? (.ref a) "__class__") Q E ⟨h,g,d,t,os⟩:=by
 unfold getAttr? getAttrBy?
 repeat (any_goals (first|assumption|with_reducible apply UM KX e hx hc|wp_step))
end
theorem vw{K:Frag}{a C:Addr}(e:bE K C):KitX K (.ref a) (.ref C) (λh=>∃o,h.get? a=some o/\o.cls=.ref C) where
 ty:=λqMa h X⟨o,e1,e2⟩=>by
  rw[<-e2];exact(Looks.ld e1).andThen .now
 it:=λqMa h X _=>by
  obtain⟨bm,N,nm,q,bs,hdct,sn,sub,ab,col,dd,k0,k1,k2,k3,k5,hC,T⟩:=YO X e.err;intro A' Q' E' s' k q;unfold isType loadHead;exact yab (wpAny_loadPart (k _ _ hC) (yan q))
 ne:=λh tp dd ap n sl X Im=>by
  obtain⟨bm,N,nm,q,bs,hdct,sn,sub,ab,col,dd,k0,k1,k2,k3,k5,hC,T⟩:=YO X e.err;refine Bool.eq_false_iff.mpr λq=>?_;have e:C=tp:=Value.ref.inj (yci.mp q);subst e;rw[hC]at Im;exact absurd (Value.type.inj (yaI Obj.cls (lB Im))) (by lia)
 ca:=λ{prog w A E Q s} X⟨o,e1,e2⟩ k=>by
  obtain⟨h,g,d,t,os⟩:=s;exact Yc X e e1 e2 k
section
noncomputable def E8:V->Bool
 | .ref _=>true
 | .ty _=>true
 |_=>false
noncomputable def o9:V->Value
 | .ref C=>.ref C
 | .ty n=>.type n
 |_=>.none
theorem NI(h:E8 c=true)(r:RelV c u):u=o9 c:=by
 cases c<;>first|exact r|cases h
def NJ(K:Frag):List V->Hp->VK->Prop:=λxs H Q=>∃x c b,xs=[x,c]/\E8 c=true/\((∃t,bw K H x t/\kitOne K t (o9 c)=some b)\/∃a C,x=.ref a/\H a=some (xR a (.ref C))/\bE K C/\kitOne K (.ref C) (o9 c)=some b)/\Q (.bl b) H
theorem JJ:Wv X (.builtin "isinstance") (NJ X.K):=by
 intro U s σ H xs us Q I r h;obtain⟨x,c,b,rfl,hc,hx,q⟩:=h;obtain⟨u,u2,rfl,ru,NK⟩:=vals2 r;obtain rfl:=NI hc NK;rcases hx with⟨t,ty,k⟩|⟨a,C,rfl,hH,e,k⟩
 .exact xD I ru ty k λtk=>⟨.bl b,H,I.tok tk,Z,q⟩
 .obtain rfl:u=Value.ref a:=ru;obtain⟨⟨o,vs,e1,e2,_⟩,_⟩:=(show J3 X.prog X.w H s.heap a (xR a (.ref C))from I.ai a _ hH);exact ydm (vw e) I.bz ⟨o,e1,e2⟩ k (λz=>nomatch z) λtk=>⟨.bl b,H,I.tok tk,Z,q⟩
end
def vx(P:Addr)(H:Hp):Prop:=H P=some (.bT #[])/\∀b,b≠P->H b=none\/∃o xs,H b=some (.bR o (.lst xs))
noncomputable def qI(K:Frag):Bool:=K.all λp=>match p.2.cls with
 | .type n=> !(n=="list")
 |_=>true
theorem zH{K:Frag}{o:Obj}(h:qI K=true)(e:K.lookup a=some o):o.cls≠ .type "list":=λz=>by
 have q:=ybw.mp h (a,o) (mem_of_lookupK e);dsimp only at q;rw[z]at q;exact absurd q (by lia)
theorem xT{K:Frag}{CX:dH}{k:Nat}{fd:FuncData}{x:Str}{sp:Sp}{vs:List Value}{ns:List Int}
  (KX:K.In s₁.heap) (nL:qI K=true) (nT:noTabs K=true) (DF:s₁.heap.Ns mainGlobals mg) (hb:s₁.heap.Ns builtinsNs mb) (E9:∀x:Str,x≠"__name__"->mb x=bootBuiltins x) (Fb:s₁.heap.NoLimit) (hg:s₁.gens= #[])
  (hC:CodeHd s₁.heap c P) (hP:s₁.heap.get? P=some (tabObj #[])) (NL:∃bm ob,mg "__builtins__"=some (.ref bm)/\bm≠builtinsNs/\s₁.heap.get? bm=some ob/\ob.cls=.type "module"/\ob.dict=some builtinsNs/\ob.data=.plain)
  (ha:s₁.heap.get? a=some {cls:=.type "list",data:=.seq vs.toArray}) (hi:IntsAre vs ns) (hl:ns.length<=sizeLine) (hr:aq k callerA)
  (F:∀M:Heap,K.In M->M.Ns mainGlobals mg->b8 mg M c P->ag Pr w K mg M CX k fa fd [x] sp) (Ev:∀(s:Shared)(u:Value),BindsTo s fd ⟨[u],[]⟩ [(x,u)])
  (Os:∀H:Hp,vx P H->(∃o,H a=some (.bR o (.lst (ns.map V.int))))->sp [.ref a] H (λv _=>v=.bl true) λ_ _ _=>False)
  (Fc:∀H e s',CX [] H s₁ (λ_ _ _=>False) e s'->False):
  codeAny (model Pr w) callerA (.call (.ref fa) ⟨[.ref a],[]⟩) (λr s'=>r=.ok (.ret (.bool true))/\OldK s₁.heap s'.heap/\s'.os=s₁.os/\AllBare s'.gens) s₁:=by
 have rv:=UJ hi;have NN:=hi.length;have NO:P≠a:=λz=>by rw[z,ha]at hP;cases hP
 have NP:K.lookup P=none:=by
  cases q:K.lookup P with
  |none=>rfl
  |some o=>
   have e:=KX P o q;rw[hP]at e;cases e;have z:=ybw.mp nT (P,_) (mem_of_lookupK q);exact absurd (show false=true from z) yar
 have core:∀H:Hp,vx P H->(∃o,H a=some (.bR o (.lst (ns.map V.int))))->aZ Pr w H s₁.heap->(∀b,H b≠none->b=a\/b=P)->(H a≠none->K.lookup a=none)->
   codeAny (model Pr w) callerA (.call (.ref fa) ⟨[.ref a],[]⟩) (λr s'=>r=.ok (.ret (.bool true))/\OldK s₁.heap s'.heap/\s'.os=s₁.os/\AllBare s'.gens) s₁:=by
  intro H hO hS ai hA hK;have BT:∀{b:Addr}{o:Obj},s₁.heap.get? b=some o->H b=none->(qu s₁.heap H).get? b=some o:=λe n=>wX e n;have Io:∀{b:Addr}{o:Obj},s₁.heap.get? b=some o->(∀vs n,o.data≠ .seq vs n)->(o.cls≠ .none)->H b=none:=λ{b o} e d1 d2=>by
   cases q:H b with
   |none=>rfl
   |some u=>
    rcases hA b (by rw[q];simp)with z|z
    .subst z;rw[ha]at e;cases e;exact absurd rfl (d1 _ _)
    .subst z;rw[hP]at e;cases e;exact absurd rfl d2
  have Bc:∀{b:Addr}{o:Obj}{es:Array DictEntry}{ep:Nat},s₁.heap.get? b=some o->o.data=.dict es ep->H b=none:=λ{b o es ep} e d=>by
   cases q:H b with
   |none=>rfl
   |some u=>
    rcases hA b (by rw[q];simp)with z|z
    .subst z;rw[ha]at e;cases e;cases d
    .subst z;rw[hP]at e;cases e;cases d
  have DH:∀{b:Addr}{m:Str->Option Value},s₁.heap.Ns b m->(qu s₁.heap H).Ns b m:=λ{b m}⟨o,es,ep,e,d,r⟩=>⟨o,es,ep,BT e (Bc e d),d,r⟩;have Ip:K.In (qu s₁.heap H):=λb o e=>BT (KX b o e) (by
   cases q:H b with
   |none=>rfl
   |some u=>
    rcases hA b (by rw[q];simp)with z|z
    .subst z;rw[hK (by rw[q];simp)]at e;cases e
    .subst z;rw[NP]at e;cases e)
  have hM:Mod K mg (qu s₁.heap H):=⟨Ip,DH DF,⟨mb,DH hb,E9⟩,let ⟨mc,h1,h2⟩:=Fb;⟨mc,DH h1,h2⟩⟩;have e0:dW Pr w K mg (qu s₁.heap H) callerA [] s₁ H:=⟨Z,hM,λb o e=>Mk e,ycX (xr _ _),trivial,λb hb=>absurd (show b∈([]:List Addr)from hb) (by simp),ai,.of_eq hg⟩;have qLa:b8 mg (qu s₁.heap H) c P:=by
   obtain⟨o,Ch,file,tf,flags,tg,NQ,text,tt,e1,r1,r2,r⟩:=hC;obtain⟨bm,ob,b1,b2,b3,b4,b5,b6⟩:=NL;exact⟨⟨o,Ch,file,tf,flags,tg,NQ,text,tt,BT e1 (Io e1 (λvs n z=>by rw[r2]at z;cases z) λz=>by rw[r1]at z;cases z),r1,r2,r⟩,
    ⟨bm,ob,b1,b2,BT b3 (Io b3 (λvs n z=>by rw[b6]at z;cases z) λz=>by rw[b4]at z;cases z),b4,b5,b6⟩⟩
  refine ycy ((F _ Ip (DH DF) qLa).run callerA [] s₁ H ⟨[.ref a],[]⟩ [.ref a] [.ref a] _ _ hr e0 (Ev s₁ (.ref a)) (.cons Z .nil) (Os H hO hS)) λr s' h=>?_;cases r with
  |error e=>exact(Fc H e s' h).elim
  |ok fl=>
   cases fl with
   |next=>exact False.elim h
   |brk=>exact False.elim h
   |cont=>exact False.elim h
   |ret u=>
    obtain⟨v,H',os,bare,un,Bo,r',q⟩:=h;have q':v=.bl true:=q;subst q';obtain rfl:u=Value.bool true:=r';have Bp:∃ps,s'.heap.get? P=some (tabObj ps):=by
     obtain⟨more,e⟩:=un.bt P #[] hO.1;exact⟨_,Bo P _ e⟩
    have keep:∀b o,b≠P->s₁.heap.get? b=some o->s'.heap.get? b=some o:=λb o iq e=>by
     cases q:H b with
     |none=>exact un.keep b o e q (by intro z;exact absurd (show b∈([]:List Addr)from z) (by simp)) (by simp)
     |some u=>
      rcases hO.2 b iq with z|⟨ob,xs,z⟩
      .rw[q]at z;cases z
      .have z2:=un.bq b ob _ z;obtain⟨e1,_⟩:=ai b _ z;obtain⟨e2,_⟩:=Bo b _ z2;rw[e]at e1;cases e1;exact e2
    refine⟨Z,⟨λb o e=>?_,λb o e=>?_⟩,os,bare⟩
    .by_cases iq:b=P
     .subst iq;rw[hP]at e;cases e;obtain⟨ps,e2⟩:=Bp;exact .inr (.inl ⟨(hC.tab hP).isCodeTable,Z, #[],ps,Z,by rw[Array.empty_append];exact e2⟩)
     .exact .inl (keep b o iq e)
    .by_cases iq:b=P
     .subst iq;obtain⟨ps,e2⟩:=Bp;exact⟨_,e2⟩
     .exact⟨o,keep b o iq e⟩
 cases hk:K.lookup a with
 |some o=>
  have e:=KX a o hk;rw[ha]at e;cases e;exact absurd rfl (zH nL hk)
 |none=>
  refine core (λb=>if b=a then some (.bR {cls:=.type "list",data:=.seq vs.toArray} (.lst (ns.map V.int)))else if b=P then some (.bT #[])else none) ⟨?_,λb hb=>?_⟩ ⟨{cls:=.type "list",data:=.seq vs.toArray},yaf rfl⟩ (λb u z=>?_) (λb z=>?_) λ_=>hk
  .show(if P=a then _ else if P=P then _ else _)=_;rw[yac NO,yaf rfl]
  .by_cases h1:b=a
   .exact .inr ⟨_,_,yaf h1⟩
   .exact .inl (by show(if b=a then _ else if b=P then _ else _)=_;rw[yac h1,yac hb])
  .by_cases h1:b=a
   .have z':=(yaf h1).symm.trans z;cases z';subst h1;exact⟨ha,by rw[lu];exact hl,vs,_,rv,ha⟩
   .have z1:=(yac h1).symm.trans z
    by_cases hb:b=P
    .subst hb;have z':=(yaf Z).symm.trans z1;cases z';exact hP
    .have z':=(yac hb).symm.trans z1;cases z'
  .by_cases h1:b=a
   .exact .inl h1
   .by_cases hb:b=P
    .exact .inr hb
    .exact absurd ((yac h1).trans (yac hb)) z
theorem vy{l:PySem.W.OpenLaw}{n k:Nat}{q:Program}{loose:List Str}{d d':DefRec}{K:Params->Frag}{CX:World->dH}{sp:World->Addr->Sp}{x:Str}
  (hn:l.most=some n) (NR:n<=sizeLine) (EV:d.params.defaults=[]) (hr:aq k callerA)
  (hY:∀(w:World)(h:Heap),YP w h->(K w.params).In h) (nL:∀w:World,qI (K w.params)=true) (nT:∀w:World,noTabs (K w.params)=true) (o7:(recsOf q).find? (λe=>e.name==d.name)=some d')
  (hT:∀w:World,∃c P,tabIn (K w.params) d.name=some (c,P))
  (F:∀(w:World)(mg:Str->Option Value)(fa:Addr)(h:Heap),(K w.params).In h->h.Ns mainGlobals mg->mg d.name=some (.ref fa)->
   ∃fd:FuncData,(∀(s:Shared)(u:Value),BindsTo s fd ⟨[u],[]⟩ [(x,u)])/\
    ∀(M:Heap)(c P:Addr),tabIn (K w.params) d.name=some (c,P)->(K w.params).In M->M.Ns mainGlobals mg->b8 mg M c P->ag l.prog w (K w.params) mg M (CX w) k fa fd [x] (sp w P))
  (Os:∀(w:World)(H:Hp)(a P:Addr)(ns:List Int),ns.length<=n->vx P H->(∃o,H a=some (.bR o (.lst (ns.map V.int))))->sp w P [.ref a] H (λv _=>v=.bl true) λ_ _ _=>False)
  (Fc:∀(w:World)(H:Hp)(s:Shared)(e:Value)(s':Shared),CX w [] H s (λ_ _ _=>False) e s'->False):
  PySem.W.WalkO q loose XP YP l.row.toRowW d [] (λf vs=>PySem.call f vs):=by
 refine Ic.qH hn EV λw s₀ s₁ mg mb fa o pm cd doc a vs ns G qYa ho hd GT Bh o3 hints hlen hg=>?_;have KX:=hY w _ qYa;obtain⟨fd,hb,hF⟩:=F w mg fa _ KX G.T.g Bh;obtain⟨c,P,ht⟩:=hT w;obtain⟨hC,hP⟩:=tab_of G.T KX o7 ht;exact xT (c:=c) (P:=P) (sp:=sp w P) KX (nL w) (nT w) G.T.g G.T.b G.T.builtins G.T.nolimit hg hC hP G.T.bmain o3 hints (yas hlen NR) hr (λM kb nb qLa=>hF M c P ht kb nb qLa) hb (λH hO hS=>Os w H a P ns hlen hO hS) λH e s'=>Fc w H s₁ e s'
section
def NS(i j k:Nat)(ta:TA):TS:=λD σ H=>ta σ H λvs H1=>∃v w z,vs=[v,w,z]/\D.nx (((σ.set i (some v)).set j (some w)).set k (some z)) H1
theorem NT{px py pz pt pos:Pos}{kt k2 oO}(hc:X.calm=true)(hN:X.N.Nodup)(hi:X.N[i]? =some x)(hj:X.N[j]? =some y)(hk:X.N[k]? =some z)(Ew:i≠j)(NU:i≠k)(NV:j≠k)
  (hx:X.env.scope.names.lookup x=some .local) (hy:X.env.scope.names.lookup y=some .local) (hz:X.env.scope.names.lookup z=some .local) (ha:PA X [a,b,c] ta)
  (hw:swappedStores [.Tuple [.Name x px,.Name y py,.Name z pz] kt pt] (.Tuple [a,b,c] k2 oO) X.env=pure (some [x,y,z]))
  (hs:swapsWithSole [.Tuple [.Name x px,.Name y py,.Name z pz] kt pt] (.Tuple [a,b,c] k2 oO) pos.line X.env=pure false:=by rfl):
  PS X (.Assign [.Tuple [.Name x px,.Name y py,.Name z pz] kt pt] (.Tuple [a,b,c] k2 oO) pos) (NS i j k ta):=by
 intro U s σ H D I h;rw[exec_Assign_arm];refine yab (ycE ?_);rw[hs];refine yab (yan ?_);rw[yac (by lia)];refine yab (Tuple_ (av (ha _ U s σ H _ I h) λus s1⟨vs,H1,I1,r1,q1⟩=>?_));obtain⟨v,w,u,e1,q1⟩:=q1;subst e1;obtain⟨u1,u2,u3,rfl,rv,IR,ru⟩:∃u1 u2 u3,us=[u1,u2,u3]/\RelV v u1/\RelV w u2/\RelV u u3:=by
  cases r1 with
  |cons p q=>
   cases q with
   |cons p' q'=>
    cases q' with
    |cons Fd Fe=>
     cases Fe;exact⟨_,_,_,Z,p,p',Fd⟩
 refine yaX ?_ (by show 3<=sizeLine;lia);have I2:Inv X U σ H1 {s1 with heap:=s1.heap.push {cls:=.type "tuple",data:=.seq [u1,u2,u3].toArray}}:=I1.kept (t':=s1.toks) λb o e=>yaa _ e;rw[hw];refine yab (yan ?_);show wpAny (model X.prog X.w) X.A (do rule "assign.swapped-stores";let items<-unpackItems (.ref s1.heap.objs.size) 3 none;assignInOrder [λv=>bindName X.env z v,λv=>bindName X.env y v,λv=>bindName X.env x v] items.reverse;pure Flow.next) _ _ _;refine yab (wpAny_rule (yab (unpackItems_tuple (items:= #[u1,u2,u3]) (I.ok.hd hc) (IsTup.new s1.heap _) λh' f8=>?_)));have I3:=I2.kept (h':=h') (t':=s1.toks) λb o e=>f8 b o (yal (yae e)) e;show wpAny _ _ (assignInOrder [λv=>bindName X.env z v,λv=>bindName X.env y v,λv=>bindName X.env x v] [u3,u2,u1]>>=λ_=>pure Flow.next) _ _ _;refine yab (ybx (ycq (ZS I3 hN hk (.inl hz) ru (λs2 I4=>?_) (.inr hz))));refine ybx (ycq (ZS I4 hN hj (.inl hy) IR (λs3 I5=>?_) (.inr hy)));refine ybx (ycq (ZS I5 hN hi (.inl hx) rv (λs4 I6=>assignInOrder_nil (yan ?_)) (.inr hx)));have e:((σ.set k (some u)).set j (some w)).set i (some v)=((σ.set i (some v)).set j (some w)).set k (some u):=by
  rw[ydO _ _ (Ne.symm NV),ydO _ _ (Ne.symm NU),ydO (i:=j) (j:=i) _ _ (Ne.symm Ew)]
 rw[e]at I6;exact⟨_,H1,I6,q1⟩
end
noncomputable def Zs(cells:List (Str × Addr)):List (Str × NameKind)->List (Str × Addr)->List (Str × Addr)
 |[],acc=>acc
 |(n,k)::r,acc=>Zs cells r (if k==.free then(n,(cells.lookup n).getD 0)::acc else acc)
theorem xU{env:Env}:∀(names:List (Str × NameKind))(acc:List (Str × Addr)),(∀y∈names,y.2=.free->∃c,env.cells.lookup y.1=some c)->
  (forIn names acc λx(cs:List (Str × Addr))=>(do
   let (name,kind):=x
   if kind==.free then
    let c<-cellOf env name
    pure (ForInStep.yield ((name,c)::cs))
   else pure (ForInStep.yield cs):Sem (ForInStep (List (Str × Addr)))))=pure (Zs env.cells names acc)
 |[],acc,_=>rfl
 |(n,k)::r,acc,h=>by
  rw[yef];have ih:=λP3=>xU (env:=env) r P3 λy hy=>h y (lG _ hy)
  by_cases hk:k=.free
  .subst hk;obtain⟨c,hc⟩:=h (n,.free) lH rfl;have cQ:env.cells.lookup n=some c:=hc;show _=pure (Zs env.cells r (if NameKind.free==NameKind.free then _ else _));have e:cellOf env n=pure c:=by unfold cellOf;rw[cQ]
   simp only[ycZ,ybK,e,pure_bind,cQ,Option.getD_some];exact ih _
  .have hb:(k==NameKind.free)=false:=yaC.mpr hk;show _=pure (Zs env.cells r (if k==NameKind.free then _ else _));simp only[hb,ycI,ycu,pure_bind];exact ih _
theorem XF{scope:Scope}{env:Env}(h:∀y∈scope.names,y.2=.free->∃c,env.cells.lookup y.1=some c):closureFor scope env=pure (Zs env.cells scope.names []):=by
 unfold closureFor;have:=xU (env:=env) scope.names [] h;simp only[bind_pure]at this ⊢;exact this
theorem Vy{cells:List (Str × Addr)}:∀(names:List (Str × NameKind))(acc:List (Str × Addr)),(∀y∈names,y.2=.free->∃c,cells.lookup y.1=some c)->(acc.lookup x=some c->cells.lookup x=some c)->
  (Zs cells names acc).lookup x=some c->cells.lookup x=some c
 |[],_,_,h,e=>h e
 |(n,k)::r,acc,h0,h,e=>by
  unfold Zs at e;refine Vy r _ (λy hy=>h0 y (lG _ hy)) (λe'=>?_) e
  split at e'
  .rename_i hk;rw[ybn]at e'
   split at e'
   .rename_i hx;have f8:x=n:=eq_of_beq hx;subst f8;obtain⟨d,hd⟩:=h0 (x,k) lH (eq_of_beq hk);have oN:cells.lookup x=some d:=hd;rw[oN]at e' ⊢;exact e'
   .exact h e'
  .exact h e'
theorem Wf{cells:List (Str × Addr)}:∀(names:List (Str × NameKind))(acc:List (Str × Addr)),((∃c,acc.lookup x=some c)\/(x,NameKind.free)∈names)->∃c,(Zs cells names acc).lookup x=some c
 |[],acc,h=>by
  rcases h with h|h
  .exact h
  .cases h
 |(n,k)::r,acc,h=>by
  unfold Zs;refine Wf r _ ?_;rcases h with⟨c,h⟩|h
  .refine .inl ?_
   split
   .rw[ybn]
    split
    .exact⟨_,Z⟩
    .exact⟨c,h⟩
   .exact⟨c,h⟩
  .rcases yag.mp h with e|h
   .cases e;refine .inl ?_;rw[yaf (by rfl),ybn,ycZ];exact⟨_,Z⟩
   .exact .inr h
section
variable {P:Program}{w:World}{K:Frag}{mg:Str->Option Value}{M:Heap}
theorem eB{x qual:Str}{st:Stmt}{fd:FuncData}{sp:Sp}(F:aA K x qual st f fd)(S:aa N ps (Qe st))(len:∀vs H Q E,sp vs H Q E->vs.length=ps.length)
  (ce:∀(ad:Value)(A:Around)(L:List Env)(s:Shared)(H:Hp)(vs:List V)(Q:VK)(E:XK),aq k (A.deeper (envOfC qual (Qe st) s.heap.objs.size f ad))->sp vs H Q E->
   ∃t,aU (Xe (ao P w) P w K mg M N qual (Qe st) f ad A L s H E) (QK st) t/\t {nx:=λ_ H'=>Q .ax H',rt:=Q} (start N vs) H):ag P w K mg M (ao P w) (k+1) f fd ps sp:=by
 obtain⟨oc,od,kV,doc,pm,an,ad,ct,on,rfl,lk,GT⟩:=F.ex;exact HR lk GT S len λA L s H vs Q E hr Os=>ce ad A L s H vs Q E hr Os
theorem okN{x qual:Str}{st:Stmt}{fd:FuncData}{sp:Sp}(F:aA K x qual st f fd)(S:aa N ps (Qe st))(len:∀vs H Q E,sp vs H Q E->vs.length=ps.length)
  (ce:∀(ad:Value)(A:Around)(L:List Env)(s:Shared)(H:Hp)(vs:List V)(Q:VK)(E:XK),aq k (A.deeper (envOfC qual (Qe st) s.heap.objs.size f ad))->sp vs H Q E->
   ∃t,aU (Xe (ao P w) P w K mg M N qual (Qe st) f ad A L s H E).bD (QK st) t/\t {nx:=λ_ H'=>Q .ax H',rt:=Q} (start N vs) H):ag P w K mg M (ao P w) (k+1) f fd ps sp:=
 eB F S len λad A L s H vs Q E hr Os=>by
  obtain⟨t,h,q⟩:=ce ad A L s H vs Q E hr Os;exact⟨t,h.bD,q⟩
end
structure ae(X:Cx)(e:Expr)(t:TE):Prop where
 pe:PE X e t
structure aN(X:Cx)(e:List Stmt)(t:TS):Prop where
 ps:aU X e t
theorem NW{k1 k2 v1 v2:Expr}{pos pos':Pos}{t1 t2 u1 u2:TE}(h1:ae X k1 t1)(h2:ae X v1 u1)(h3:ae X k2 t2)(h4:ae X v2 u2):aN X [.Return (some (.Dict [some k1,some k2] [v1,v2] pos)) pos'] (AX (vk [(t1,u1),(t2,u2)])):=
 ⟨Qp (QG (xN (YL h1.pe h2.pe (YL h3.pe h4.pe xM)) Z Z (List.cons_ne_nil _ _) (ycd Z)))⟩
theorem zI:aN X [.Return (some (.Dict [some (.Constant (.str x) j1 p1),some (.Constant (.str y) j2 p2)] [.Constant (.int i) j3 p3,.Dict [] [] p4] p5)) p6] (AX (vk [(tC (.str x),tC (.int i)),(tC (.str y),Ia)])):=
 NW ⟨Qc⟩ ⟨Qi⟩ ⟨Qc⟩ ⟨vj⟩
theorem qx{K:Frag}{M:Heap}{x qual:Str}{st:Stmt}{fd:FuncData}{N ps:List Str}{k:Nat}{sp:Sp}(F:aA K x qual st f fd)(S:aa N ps (Qe st))(len:∀vs H Q E,sp vs H Q E->vs.length=ps.length)
  (ce:∀(ad:Value)(A:Around)(L:List Env)(s:Shared)(H:Hp)(vs:List V)(Q:VK)(E:XK),aq k (A.deeper (envOfC qual (Qe st) s.heap.objs.size f ad))->sp vs H Q E->
   ∃t,aN (Xe (ao P w) P w K mg M N qual (Qe st) f ad A L s H E).bD (QK st) t/\t {nx:=λ_ H'=>Q .ax H',rt:=Q} (start N vs) H):ag P w K mg M (ao P w) (k+1) f fd ps sp:=
 okN F S len λad A L s H vs Q E hr Os=>by
  obtain⟨t,h,q⟩:=ce ad A L s H vs Q E hr Os;exact⟨t,h.ps,q⟩
structure Def(P:Program)(w:World)(K:Frag)(mg:Str->Option Value)(M:Heap)(k:Nat)(x:Str)(ps:List Str)(sp:Sp):Prop where
 ex:∃f fd,mg x=some (.ref f)/\keepIn K (.ref f)=true/\Binds K fd ps []/\ag P w K mg M (ao P w) k f fd ps sp
section
variable {X:Cx}{k k':Nat}{x:Str}{ps:List Str}{sp:Sp}{E:XK}{p pos:Pos}{e:Expr}{es:List Expr}{t:TA}
theorem Def.pe(D:Def X.prog X.w X.K X.mg X.M k x ps sp)(hr:aq k' X.A)(hk:k<=k')(hg:Gl X x)(hx:Passes (ao X.prog X.w) X E)(ha:PA X (e::es) t)(pr:(x==("__debug__":Str))=false:=by lia)
  (he:starEach (e::es) X.env=(false,eval e X.env)::starEach es X.env:=by rfl) (mt:(backTo pos (starEach es X.env)).any (·.1)=false:=by rfl):PE X (.Call (.Name x p) (e::es) [] pos) (Wx sp [] E t):=by
 obtain⟨f,fd,h1,h2,h3,h4⟩:=D.ex;exact xE h4 (hr.mono hk) hg h1 h2 h3 .nil hx ha pr he mt
theorem Def.pq(D:Def X.prog X.w X.K X.mg X.M k x ps sp)(hr:aq k' X.A)(hx:Passes (ao X.prog X.w) X E)(ha:PA X (e::es) t)(hk:k<=k':=by lia)(hg:Gl X x:=by exact rfl)(pr:(x==("__debug__":Str))=false:=by lia)
  (he:starEach (e::es) X.env=(false,eval e X.env)::starEach es X.env:=by rfl) (mt:(backTo pos (starEach es X.env)).any (·.1)=false:=by rfl):PE X (.Call (.Name x p) (e::es) [] pos) (Wx sp [] E t):=D.pe hr hk hg hx ha pr he mt
theorem Def.NX(D:Def X.prog X.w X.K X.mg X.M k x ps sp)(hr:aq k' X.A)(hk:k<=k')(hg:Gl X x)(hx:Passes (ao X.prog X.w) X E)(pr:(x==("__debug__":Str))=false:=by lia):
  PE X (.Call (.Name x p) [] [] pos) (Wx sp [] E Ww):=by
 obtain⟨f,fd,h1,h2,h3,h4⟩:=D.ex;exact vd h4 (hr.mono hk) hg h1 h2 h3 .nil hx pr
end
theorem aG{c:Bool}{A B:Prop}(hT:c=true->A)(hF:c=false->B):if c=true then A else B:=by
 cases c with
 |true=>rw[yaf rfl];exact hT rfl
 |false=>rw[yac (by lia)];exact hF rfl
theorem Iq(x y:Bool):(!decide (V.bl x=V.bl y))=(x !=y):=by cases x<;>cases y<;>rfl
theorem xV(x y:Int):(!decide (V.int x=V.int y))=decide (x≠y):=by
 by_cases h:x=y
 .subst h;simp
 .rw[lx (λe=>h (V.int.inj e)),ly h];rfl
theorem Xo(x y:Int):decide (V.int x=V.int y)=decide (x=y):=by
 by_cases h:x=y
 .subst h;simp
 .rw[lx (λe=>h (V.int.inj e)),lx h]
theorem qJ(hr:aq k A):A.units+1+1<cLine:=yba (by lia:A.units+1+1<=A.units+64) hr.units
theorem az.upd{K:Frag}{H:Hp}{o:HO}{xs:List V}(h:az K H a xs)(n:a≠b):az K (upd H b o) a xs:=by
 rcases h with(h|⟨o',h⟩)|h
 .exact .inl (.inl (by rw[Qx n];exact h))
 .exact .inl (.inr ⟨o',by rw[Qx n];exact h⟩)
 .exact .inr h
theorem aj.same{K:Frag}{xs:List V}(e:Qs H H')(h:aj K H a xs):aj K H' a xs:=by
 rcases h with(h|⟨o,h⟩)|h
 .exact .inl (.inl (e _ _ h))
 .exact .inl (.inr ⟨o,e _ _ h⟩)
 .exact .inr h
theorem Qs.new(h:H p=none):Qs H (upd H p o):=λb u e=>by rw[Qx (Qz e h)];exact e
structure aE(H:Hp)(t r:Addr)(c:Int)(rs:List (Key × V)):Prop where
 tw:H t=some (.dK [(Sum.inr "count",.int c),(Sum.inr "rests",.ref r)])
 rt:H r=some (.dK rs)
 vs:∀kv∈rs,∃k z,kv=(Sum.inl k,V.int z)
 c0:0<=c
 ln:(rs.length:Int)<=c
 ne:t≠r
theorem aE.same{c:Int}{rs:List (Key × V)}(T:aE H t r c rs)(e:Qs H H'):aE H' t r c rs:=⟨e _ _ T.tw,e _ _ T.rt,T.vs,T.c0,T.ln,T.ne⟩
def Apart(t r:Addr)(H H':Hp):Prop:=∀b o,H b=some o->b≠t->b≠r->H' b=some o
theorem Apart.trans{H H1 H2:Hp}(a:Apart t r H H1)(b:Apart t r H1 H2):Apart t r H H2:=λc o e n1 n2=>b c o (a c o e n1 n2) n1 n2
theorem Apart.of{t r:Addr}{H H1:Hp}(a:Qs H H1):Apart t r H H1:=λc o e _ _=>a c o e
theorem Apart.seq{K:Frag}{xs:List V}(e:Apart t r H H')(h:az K H a xs)(n1:a≠t)(n2:a≠r):az K H' a xs:=by
 rcases h with(h|⟨o,h⟩)|h
 .exact .inl (.inl (e _ _ h n1 n2))
 .exact .inl (.inr ⟨o,e _ _ h n1 n2⟩)
 .exact .inr h
theorem UN{rs:List (Key × V)}(h:∀kv∈rs,∃k z,kv=(Sum.inl k,V.int z)) (k:Int) (d:Int):∃z,(Wz rs (Sum.inl k:Key)).getD (.int d)=.int z:=by
 cases e:rs.find? λkv=>decide (kv.1=(Sum.inl k:Key))with
 |none=>exact⟨d,by unfold Wz;rw[e];rfl⟩
 |some p=>
  obtain⟨k',z,rfl⟩:=h p (List.mem_of_find?_eq_some e);exact⟨z,by unfold Wz;rw[e];rfl⟩
theorem UO{rs:List (Key × V)}(h:∀kv∈rs,∃k z,kv=(Sum.inl k,V.int z)) (k z:Int):(∀kv∈putK rs (Sum.inl k:Key) (.int z),∃k z,kv=(Sum.inl k,V.int z))/\(putK rs (Sum.inl k:Key) (.int z)).length<=rs.length+1:=by
 unfold putK
 split
 .refine⟨λkv hm=>?_,by rw[lu];lia⟩;obtain⟨p,hp,rfl⟩:=ybQ.mp hm;obtain⟨k',z',rfl⟩:=h p hp
  split
  .exact⟨k',z,Z⟩
  .exact⟨k',z',Z⟩
 .refine⟨λkv hm=>?_,by rw[lq];exact lA _⟩;rcases yao.mp hm with hm|hm
  .exact h kv hm
  .exact⟨k,z,yak.mp hm⟩
theorem xW:¬ ((Sum.inr "count":Key)=(Sum.inr "rests":Key)):=by
 have h:¬ ("count":Str)="rests":=by rfl'
 exact λe=>h (ydk e)
theorem vz(c d:Int)(r:Addr):putK [((Sum.inr "count":Key),V.int c),(Sum.inr "rests",V.ref r)] (Sum.inr "count") (.int d)=[((Sum.inr "count":Key),V.int d),((Sum.inr "rests":Key),V.ref r)]:=by
 have h:¬ ((Sum.inr "rests":Key)=(Sum.inr "count":Key)):=λe=>xW e.symm;unfold putK;rw[yaf (by simp)];simp only[lU,ycz,ybK,yac h]
theorem Km(h:H t=some (.dK [(Sum.inr "count",.int c),(Sum.inr "rests",.ref r)])):zD H t (.str "count") (some (.int c)):=by
 have e:=zD.k (k:=(Sum.inr "count":Key)) h;rw[Wd rfl]at e;exact e
theorem Kn(h:H t=some (.dK [(Sum.inr "count",.int c),(Sum.inr "rests",.ref r)])):zD H t (.str "rests") (some (.ref r)):=by
 have e:=zD.k (k:=(Sum.inr "rests":Key)) h;rw[W9 xW,Wd rfl]at e;exact e
theorem zJ(d:Int)(h:H t=some (.dK [(Sum.inr "count",.int c),(Sum.inr "rests",.ref r)])):iW H t (.str "count") (.int d) (upd H t (.dK [(Sum.inr "count",.int d),(Sum.inr "rests",.ref r)])):=by
 have e:=iW.k (k:=(Sum.inr "count":Key)) (v:=.int d) h (by show 2<sizeLine;lia);rw[vz]at e;exact e
def Z2(K:Frag):Sp:=λvs H Q _=>∃(a t r:Addr)(ns:List Int)(c many:Int)(rs:List (Key × V)),vs=[.ref a,.ref t,.int many]/\az K H a (ns.map V.int)/\aE H t r c rs/\a≠t/\a≠r/\ns.length<=63/\c<100000/\0<many/\many<1000000/\
 ∀(v:Int)(cx:List (Key × V))(H':Hp),0<=v->v<many->aE H' t r (c+1) cx->Apart t r H H'->Q (.int v) H'
def qK:Sp:=λvs H Q _=>vs=[]/\∀(t r:Addr)(H':Hp),H t=none->H r=none->aE H' t r 0 []->Qs H H'->Q (.ref t) H'
structure Own(mg:Str->Option Value):Prop where
 len:mg "len"=none
 range:mg "range"=none
 abs:mg "abs"=none
 max:mg "max"=none
 int:mg "int"=none
 bf:mg "isinstance"=none
 bool:mg "bool"=none
 val:mg "ValueError"=none
 reversed:mg "reversed"=none
 divmod:mg "divmod"=none
 str:mg "str"=none
 sum:mg "sum"=none
def Ff:XK:=λ_ _ _=>False
theorem bJ.alt{params:Arguments}{body:Expr}{scope:Scope}{cl:List (Str × Addr)}{pm rc:Value}
  (qLa:bJ X N σ q params body scope f c' cl pm rc):bJ (X.alt pn xe) N σ q params body scope f c' cl pm rc:=
 ⟨qLa.ob,qLa.un,qLa.fr,qLa.code,qLa.kind,qLa.co,qLa.gen,qLa.bind,qLa.len,qLa.cells⟩
def DI(P:Addr)(q:Str)(th:St->Addr->Addr->Hp->VK->Prop):TE:=λσ H Q=>V9 H P q/\∀(f c':Addr)(H1:Hp),H1 f=none->H1 c'=some (KP c' q)->V9 H1 P q->(∀b o,H b=some o->b≠P->H1 b=some o)->th σ f c' H1 Q
section
variable {qual:Str}{st:Stmt}{fd:FuncData}{params:Arguments}{body:Expr}{scope:Scope}{bv:Pos}
theorem zK(F:aA X.K x qual st fa fd)(S:aa N [p1] (Qe st))(hm:X.mg x=some (.ref fa))(hg:Gl X x)(hb:Binds X.K fd [p1] [])(hr:aq (k+1) X.A)(hx:Passes (ao X.prog X.w) X E)
  (qLa:b8 X.mg X.M c P) (Ix:X.env.code=.ref c) (hq:q=X.env.qual++"<lambda>") (ei:defaultsOf params X.env=([],[])) (ig:∀y,X.fn y=true)
  (sk:scope.kind=.function) (Fg:scope.isCoroutine=false) (sd:scope.isGenerator=false) (eC:∀y∈scope.names,y.2≠ .local/\y.2≠ .cell) (cT:∀y∈scope.names,y.2=.free->X.env.scope.names.lookup y.1=some .cell)
  (Ev:∀cl pm c' rc,bindArgs (kla_fn "<lambda>" q params body scope cl pm (.ref c') rc) ⟨[],[]⟩=pure [])
  (ce:∀(ad:Value)(σ:St)(f c':Addr)(cl:List (Str × Addr))(pm rc:Value)(s1:Shared)(H1:Hp)(Q:VK),
   bJ (Xe (ao X.prog X.w) X.prog X.w X.K X.mg X.M N qual (Qe st) fa ad X.A X.stack s1 H1 E) X.N σ q params body scope f c' cl pm rc->
   (∀x c,cl.lookup x=some c->c<s1.heap.objs.size)->aq k (X.A.deeper (envOfC qual (Qe st) s1.heap.objs.size fa ad))->th σ f c' H1 Q->
   ∃t,aU (Xe (ao X.prog X.w) X.prog X.w X.K X.mg X.M N qual (Qe st) fa ad X.A X.stack s1 H1 E) (QK st) t/\t {nx:=λ_ H'=>Q .ax H',rt:=Q} (start N [.ref f]) H1)
  (pr:(x==("__debug__":Str))=false:=by lia):PE X (.Call (.Name x p) [.Lambda params body scope ir] [] bv) (DI P q th):=by
 intro U s σ H Q I h;obtain⟨hT,h⟩:=h;obtain⟨oc,od,kV,doc,pm',an,ad,ct,on,rfl,lk,GT⟩:=F.ex;have has:∀y∈scope.names,y.2=.free->∃c,X.env.cells.lookup y.1=some c:=λy hy e=>I.ok.has y.1 (.inl (cT y hy e));refine yaZ (XV I hg hm ?_ pr);refine callWith_K (h₀:=X.M) I.ok.mod.iQ F.kp ?_ rfl rfl;show wpAny _ _ (spliced ((false,eval (.Lambda params body scope ir) X.env)::[])) _ _ s;refine ybz (vp I qLa Ix hq ei (XF has) hT λf c' pm rc H1 s1 I1 ob un fr code T1 keep kp=>ycg ⟨I1.bz,?_⟩);have NY:∀b∈aK X.stack,∃o,s.heap.get? b=some o:=λb hb=>let ⟨o,e,_⟩:=(I.stack.mem hb).2;⟨o,e⟩;have cs:∀y d,(Zs X.env.cells scope.names []).lookup y=some d->X.env.cells.lookup y=some d:=λy d e=>Vy scope.names [] has (λz=>nomatch z) e;have NZ:∀b∈aK X.stack,b=X.env.locals\/b∈X.fs:=λb hb=>yag.mp (I.K8 b hb);have LA:bJ (Xe (ao X.prog X.w) X.prog X.w X.K X.mg X.M N qual (Qe st) fa ad X.A X.stack s1 H1 E) X.N σ q params body scope f c' (Zs X.env.cells scope.names []) pm rc:=by
  refine⟨ob,un,λhf=>?_,code,sk,Fg,sd,Ev _ _ _ _,I.len,⟨λy z d e1 e2=>I.ok.inj y z d (cs y d e1) (cs z d e2),λy hy=>Wf scope.names [] (.inr (yaw hy)),eC,λy d e=>?_,λj y v e1 e2 e3=>?_⟩⟩
  .obtain⟨o,e⟩:=NY f hf;exact absurd (yae e) (yeA.mpr fr)
  .refine⟨I1.aD y d (cs y d e),λhf=>?_,I1.cell y d (cs y d e)⟩;rcases NZ d hf with z|z
   .exact I.dE y d (cs y d e) z
   .obtain⟨o,eo⟩:∃o,X.s₀.heap.get? d=some o:=let ⟨o,e,_⟩:=(I.ok.qv.mem z).2;⟨o,e⟩;exact absurd (yae eo) (yeA.mpr (I.ok.fL y d (ig y) (cs y d e)))
  .have hy:X.env.scope.names.lookup y=some .cell:=cT _ (yaw e3) rfl;obtain⟨m,_,hl⟩:=I1.loc;obtain⟨u,r,N0⟩:=hl j y v e1 e2 (.inr (.inl hy));obtain⟨d,hd⟩:=I.ok.has y (.inl hy);rcases N0 with⟨kk,_⟩|⟨_,d',oN,hc⟩
   .have z:X.env.scope.names.lookup y=some .local:=kk;rw[hy]at z;cases z
   .obtain⟨d2,hd2⟩:=Wf (cells:=X.env.cells) scope.names [] (.inr (yaw e3));have:=cs y d2 hd2;rw[oN]at this;cases this;exact⟨u,d',r,hd2,hc⟩
 have Do:∀y d,(Zs X.env.cells scope.names []).lookup y=some d->d<s1.heap.objs.size:=λy d e=>by
  obtain⟨v,o,e1,_⟩:=I1.cell y d (cs y d e);exact yae e1
 have hB:=hb s1 [.ref f] I1.bz rfl;refine ydi (ycy (Nx (N:=N) (ps:=[p1]) (Q:=Q) (E:=E) lk GT S hr I1.Dw hB (vs:=[.ref f]) (.cons Z .nil) Z λN1=>ce ad σ f c' _ pm rc s1 H1 Q LA Do N1 (h f c' H1 un code T1 keep)) λr s' hq=>?_);cases r with
 |error e=>exact hx U σ H1 s1 e s' I1 hq
 |ok fl=>
  cases fl with
  |ret u=>exact I1.after hq
  |next=>exact False.elim hq
  |brk=>exact False.elim hq
  |cont=>exact False.elim hq
end
noncomputable def xX(sc L:Scope):Bool:=sc.names.all λy=> !(y.2==.free)||L.names.lookup y.1==some .cell
theorem UP{sc L:Scope}(h:xX sc L=true):∀y∈sc.names,y.2=.free->L.names.lookup y.1=some .cell:=λy hy e=>by
 have q:=ybw.mp h y hy;rw[e]at q;simpa using q
structure se(K:Frag)(x qual:Str)(st:Stmt)(f:Addr)(fd:FuncData)(ad:Value):Prop where
 ex:∃(oc:Value)(od:Option Addr)(kV doc pm:Value)(an:Option Addr)(ct:Value)(on:Array (Option Value)),
  fd=fnOf x qual (J1 st) (QK st) (Qe st) .none kV doc pm an ad ct/\K.lookup f=some ⟨oc,od,.func fd,on⟩/\codeIn K ad qual=true
theorem N2{K:Frag}{M:Heap}{x qual:Str}{st:Stmt}{fd:FuncData}{ad:Value}{N ps:List Str}{k:Nat}{sp:Sp}(F:se K x qual st f fd ad)(S:aa N ps (Qe st))(len:∀vs H Q E,sp vs H Q E->vs.length=ps.length)
  (ce:∀(A:Around)(L:List Env)(s:Shared)(H:Hp)(vs:List V)(Q:VK)(E:XK),aq k (A.deeper (envOfC qual (Qe st) s.heap.objs.size f ad))->sp vs H Q E->
   ∃t,aU (Xe (ao P w) P w K mg M N qual (Qe st) f ad A L s H E).bD (QK st) t/\t {nx:=λ_ H'=>Q .ax H',rt:=Q} (start N vs) H):ag P w K mg M (ao P w) (k+1) f fd ps sp:=by
 obtain⟨oc,od,kV,doc,pm,an,ct,on,rfl,lk,GT⟩:=F.ex;exact HR lk GT S len λA L s H vs Q E hr Os=>by
  obtain⟨t,h,q⟩:=ce A L s H vs Q E hr Os;exact⟨t,h.bD,q⟩
structure af(K:Frag)(x:Str)(st:Stmt):Prop where
 ex:∃f fd,nsIn K mainGlobals x=some (some (.ref f))/\aA K x x st f fd
theorem vA{K:Frag}{x:Str}{st:Stmt}{od an:Option Addr}{on:Array (Option Value)}{kV doc pm ad ct:Value}(a:nsIn K mainGlobals x=some (some (.ref f)))
  (l:K.lookup f=some ⟨oc,od,.func (fnOf x x (J1 st) (QK st) (Qe st) .none kV doc pm an ad ct),on⟩) (c:codeIn K ad x=true) (k:keepIn K (.ref f)=true):af K x st:=
 ⟨f,_,a,⟨⟨oc,od,kV,doc,pm,an,ad,ct,on,Z,l,c⟩,k⟩⟩
section
variable {P:Program}{w:World}{K:Frag}{mg:Str->Option Value}{M h:Heap}{x:Str}{st:Stmt}{k:Nat}{ps:List Str}{sp:Sp}
theorem af.def(D:af K x st)(X:K.In h)(G:h.Ns mainGlobals mg)(ai:∀f fd,aA K x x st f fd->ag P w K mg M (ao P w) k f fd ps sp)
  (hb:∀(kV doc pm:Value)(an:Option Addr)(ad ct:Value)(us:List Value),us.length=ps.length->bindArgs (fnOf x x (J1 st) (QK st) (Qe st) .none kV doc pm an ad ct) ⟨us,[]⟩=pure (ps.zip us)):Def P w K mg M k x ps sp:=by
 obtain⟨f,fd,a,F⟩:=D.ex;exact⟨f,fd,mg_of X G a,F.kp,F.binds hb,ai f fd F⟩
end
theorem N3{K:Frag}{x:Str}{on sf:Array (Option Value)}{fd:FuncData}(a:nsIn K mainGlobals x=some (some (.ref f)))(l:K.lookup f=some ⟨oc,od,.func fd,on⟩)(hc:fd.code=.ref c)
  (lc:K.lookup c=some ⟨Fi,Fj,.fields vs,sf⟩) (hv:(vs[11]? :Option Value)=some (.ref P)):tabIn K x=some (c,P):=by
 unfold tabIn;simp only[a,l,hc,lc,hv]
theorem JB{k:Bool}{ta tb:TE}{σ:St}{H:Hp}{Q:VK}(Good:V->Hp->Prop)(hT:k=true->(∀v H',Good v H'->Q v H')->ta σ H Q) (hF:k=false->(∀v H',Good v H'->Q v H')->tb σ H Q) (rest:∀v H',Good v H'->Q v H'):if k=true then ta σ H Q else tb σ H Q:=by
 cases k with
 |true=>rw[yaf rfl];exact hT rfl rest
 |false=>rw[yac (by lia)];exact hF rfl rest
theorem N4(a:Str):bW (.str a) (.str a)=true:=by simp[bW]
theorem eu.str{K:Frag}{H:Hp}{n:Nat}{a:Str}:eu K H n (.str a) (.str a) true:=by
 have:=eu.flat (K:=K) (H:=H) (n:=n) (x:=.str a) (y:=.str a) rfl rfl;rw[N4]at this;exact this
theorem all_true(n:Nat):(List.range n).all (λ_=>true)=true:=ybw.mpr λ_ _=>rfl
inductive bH (K:Frag) (H:Hp) (n:Nat):List V->List V->Prop where
 |nil:bH K H n [] []
 |cons {x y:V} {xs ys:List V} (h:eu K H n x y true) (t:bH K H n xs ys):bH K H n (x::xs) (y::ys)
theorem bH.len{K:Frag}{H:Hp}{n:Nat}{xs ys:List V}(l:bH K H n xs ys):xs.length=ys.length:=by
 induction l with
 |nil=>rfl
 |cons h t ih=>rw[lD,lD,ih]
theorem bH.at{K:Frag}{H:Hp}{n:Nat}{xs ys:List V}(l:bH K H n xs ys):∀(j:Nat)(x y:V),xs[j]? =some x->ys[j]? =some y->eu K H n x y true:=by
 induction l with
 |nil=>intro j x y h;cases h
 |cons h t ih=>
  intro j x y h1 h2;cases j with
  |zero=>cases h1;cases h2;exact h
  |succ j=>exact ih j x y h1 h2
theorem Vc{K:Frag}{H:Hp}{n:Nat}{neg:Bool}{xs ys:List V}{Q:VK}(ha:aj K H a xs)(hb:aj K H b ys)(l:bH K H n xs ys)(k:Q (.bl (!neg)) H):Ik K n neg (.ref a) (.ref b) H Q:=by
 refine⟨a,b,xs,ys,λ_=>true,true,Z,Z,ha,hb,l.at,by rw[all_true,l.len];simp,?_⟩;cases neg<;>exact k
structure aw(H:Hp)(a t r Pa:Addr)(q:Str)(ns:List Int)(c:Int):Prop where
 sc:∃o,H a=some (.bR o (.lst (ns.map V.int)))
 tw:∃rs,aE H t r c rs
 tab:V9 H Pa q
 ln:ns.length<=63
theorem V9.same{q:Str}(T:V9 H P q)(e:Qs H H'):V9 H' P q:=by
 obtain⟨ps,h1,h2,h3⟩:=T;exact⟨ps,e _ _ h1,h2,λp cv z=>let ⟨a,z1,z2⟩:=h3 p cv z;⟨a,z1,e _ _ z2⟩⟩
section
variable {H H':Hp}{a t r Pa:Addr}{q:Str}{ns:List Int}{c c':Int}{K:Frag}
theorem aw.same(S:aw H a t r Pa q ns c)(e:Qs H H'):aw H' a t r Pa q ns c:=
 ⟨let ⟨o,h⟩:=S.sc;⟨o,e _ _ h⟩,let ⟨rs,h⟩:=S.tw;⟨rs,h.same e⟩,S.tab.same e,S.ln⟩
theorem aw.nat(S:aw H a t r Pa q ns c):a≠t:=λz=>by
 obtain⟨o,h⟩:=S.sc;obtain⟨rs,h2⟩:=S.tw;rw[z,h2.tw]at h;cases h
theorem aw.bX(S:aw H a t r Pa q ns c):a≠r:=λz=>by
 obtain⟨o,h⟩:=S.sc;obtain⟨rs,h2⟩:=S.tw;rw[z,h2.rt]at h;cases h
theorem aw.sq(S:aw H a t r Pa q ns c):az K H a (ns.map V.int):=let ⟨o,h⟩:=S.sc; .inl (.inr ⟨o,h⟩)
theorem aw.keep(S:aw H a t r Pa q ns c)(A:Apart t r H H')(e:H b=some o)(n:∀al,o≠ .dK al):H' b=some o:=by
 obtain⟨rs,h2⟩:=S.tw;refine A b o e (λz=>?_) λz=>?_
 .rw[z,h2.tw]at e;cases e;exact n _ rfl
 .rw[z,h2.rt]at e;cases e;exact n _ rfl
theorem aw.tup(S:aw H a t r Pa q ns c)(A:Apart t r H H'){b:Addr}{xs:List V}(e:H b=some (.tup xs)):H' b=some (.tup xs):=S.keep A e λ_ z=>nomatch z
theorem aw.drawn(S:aw H a t r Pa q ns c)(A:Apart t r H H'){rs:List (Key × V)}(T:aE H' t r c' rs):aw H' a t r Pa q ns c':=by
 obtain⟨o,h⟩:=S.sc;obtain⟨ps,h1,h2,h3⟩:=S.tab;exact⟨⟨o,S.keep A h λ_ z=>nomatch z⟩,⟨rs,T⟩,⟨ps,S.keep A h1 (λ_ z=>nomatch z),h2,λp cv z=>let ⟨b,z1,z2⟩:=h3 p cv z;⟨b,z1,S.keep A z2 λ_ z=>nomatch z⟩⟩,S.ln⟩
theorem aw.zL(S:aw H a t r Pa q ns c)(k:∀b o,H b=some o->b≠Pa->H' b=some o)   (e:H b=some o) (n:∀ps,o≠ .bT ps):H' b=some o:=by
 obtain⟨ps,h1,_⟩:=S.tab;refine k b o e λz=>?_;rw[z,h1]at e;cases e;exact n _ rfl
theorem aw.lam(S:aw H a t r Pa q ns c)(k:∀b o,H b=some o->b≠Pa->H' b=some o) (T:V9 H' Pa q):aw H' a t r Pa q ns c:=by
 obtain⟨o,h⟩:=S.sc;obtain⟨rs,h2⟩:=S.tw;exact⟨⟨o,S.zL k h λ_ z=>nomatch z⟩,⟨rs,S.zL k h2.tw (λ_ z=>nomatch z),S.zL k h2.rt (λ_ z=>nomatch z),h2.vs,h2.c0,h2.ln,h2.ne⟩,T,S.ln⟩
end
noncomputable def xY(scope:Scope)(env:Env)(C:Addr):Env:=
 {scope:=scope,locals:=C,globals:=env.globals,cells:=cellsFrom (C+1) scope.names [],qual:=env.qual,func:=none,code:=env.code,frame:=env.frame,builtins:=env.builtins}
noncomputable abbrev Zp(X:Cx)(NB:List Str)(scope:Scope)(s:Shared)(H:Hp)(ex:List Addr):Cx:=
 {X with N:=NB,s₀:=s,H₀:=H,env:=xY scope X.env s.heap.objs.size,L:=X.stack,ex:=ex,fn:=λ_=>true,pn:=[],xe:=λ_ _=>False}
structure b9(NB:List Str)(scope:Scope):Prop where
 kind:scope.kind=.function
 nd:NB.Nodup
 aX:∀y∈scope.names,y.2≠ .free
 loc:∀y∈scope.names,y.2=.local->scope.names.lookup y.1=some .local
theorem WW{scope:Scope}{env:Env}(h:∀y∈scope.names,y.2≠ .free):relabel scope env=scope:=by
 obtain⟨k,names,g,c,m⟩:=scope;have e:∀l:List (Str × NameKind),(∀y∈l,y.2≠ .free)->(l.map λ(n,k)=>if(k==NameKind.free&&env.scope.kind==.function&&env.kindOf n==some .cell)then(n,NameKind.cell)else(n,k))=l:=by
  intro l
  induction l with
  |nil=>intro _;rfl
  |cons y r ih=>
   intro hl;obtain⟨n,k⟩:=y;have hk:(k==NameKind.free)=false:=yaC.mpr (hl (n,k) lH);rw[lU,ih λy hy=>hl y (lG _ hy)];simp only[hk,ycr,ycI,ycu]
 unfold relabel;simp only[e names h]
theorem UQ{scope:Scope}{env:Env}(h:∀y∈scope.names,y.2≠ .free):closureFor scope env=pure []:=by
 rw[XF λy hy e=>absurd e (h y hy)];have e:∀(l:List (Str × NameKind))(acc:List (Str × Addr)),(∀y∈l,y.2≠ .free)->Zs env.cells l acc=acc:=by
  intro l
  induction l with
  |nil=>intro acc _;rfl
  |cons y r ih=>
   intro acc hl;obtain⟨n,k⟩:=y;have hk:(k==NameKind.free)=false:=yaC.mpr (hl (n,k) lH);unfold Zs;rw[hk];exact ih acc λy hy=>hl y (lG _ hy)
 rw[e _ _ h]
theorem KA{scope:Scope}{globals:Addr}{qual:Str}{env:Env}(hk:scope.kind=.function)
  (hQ:∀Re s',Re={scope:=scope,locals:=s.heap.objs.size,globals:=globals,cells:=cellsFrom (s.heap.objs.size+1) scope.names [],qual:=qual,func:=none,code:=env.code,frame:=env.frame,builtins:=env.builtins}->
   InCallC s s.heap.objs.size (λ_=>none) (cellsFrom (s.heap.objs.size+1) scope.names []) (λ_=>none) s'->Q Re s'):
  wpAny qMa A (newFunctionEnv scope globals [] [] qual none .none (some env)) Q E s:=by
 simp only[newFunctionEnv,ydA,ybK];refine yab (wpAny_alloc ?_);refine yab (wpAny_layCells _ (λname kind cells=>by cases Fl:kind==NameKind.cell<;>simp[Fl]) _ _ _ _ ?_);have ok:=cellsFrom_ok scope.names (s.heap.push {cls:=.type "dict",data:=.dict #[]}) (s.heap.objs.size+1) [] ⟨λ_ _ hm=>(nomatch hm),List.Pairwise.nil⟩ (by rw[ybg];exact lA _);rw[ybg]at ok;rw[show({s with heap:=s.heap.push {cls:=.type "dict",data:=.dict #[]}}:Shared).heap.objs.size=s.heap.objs.size+1 from ybg ..];refine yab (yan (yan (hQ _ _ Z ?_)));exact⟨⟨⟨_,_,Z⟩,(Heap.Ns.new s.heap (.type "dict")).keeps (pushCells_keeps _ _),λb o e=>pushCells_keeps _ _ b o (yaa _ e),lA _⟩,
   λn c hc=>(ok.empty n c (mem_of_lookup hc)).1,ok.apart,λn c hm=>(ok.empty n c hm).2⟩
section
variable {prog:Program}
theorem Vz{elt target iter:Expr}{ifs:List Expr}{scope:Scope}{pos:Pos}{it acc:Value}{env:Env}(I:Nat->Shared->Prop)
  (turn:∀n s,I n s->wpAny (model prog w) A (pyNext it) (λr s₁=>match r with
   |none=>R (.ok .next) s₁
   |some v=>wpAny (model prog w) A (letOwnedTupleGo target it v) (λ_ Ir=>wpAny (model prog w) A (assign target env v) (λ_ s₂=>
     wpAny (model prog w) A (forIn ifs true λc r=>if r=true then do let ok<-isTrue c env (eval c env);pure (ForInStep.yield ok)else pure (ForInStep.yield r)) (λok s₃=>
      if ok=true then wpAny (model prog w) A (eval elt env) (λx s₄=>
       wpAny (model prog w) A (call (.builtin "list.append") [acc,x]) (λ_ s₅=>∃m,m<n/\I m s₅) (notedBy (model prog w) A env λe s'=>R (.error e) s') s₄) (notedBy (model prog w) A env λe s'=>R (.error e) s') s₃
      else ∃m,m<n/\I m s₃) (notedBy (model prog w) A env λe s'=>R (.error e) s') s₂) (notedBy (model prog w) A env λe s'=>R (.error e) s') Ir) (notedBy (model prog w) A env λe s'=>R (.error e) s') s₁) (notedBy (model prog w) A env λe s'=>R (.error e) s') s)
  (n:Nat) (h:I n s):
  codeAny (model prog w) A (.compLoop (.ListComp elt [⟨target,iter,ifs,0⟩] scope pos) 0 it acc env) R s:=by
 refine codeAny_loop rfl I (λn s hI=>?_) n h;show wpAny _ A ((compTurn (.ListComp elt [⟨target,iter,ifs,0⟩] scope pos) 0 it acc env).onRaise (λx=>do noteFrame x env;theTreesLotGoes x)) _ _ s;refine wpAny_noted ?_;rw[compTurn_list];refine yab (ycE (yab (yaB (turn n s hI) (λr s₁ h₁=>?_) λ_ _ h'=>h')));cases r with
 |none=>exact yan h₁
 |some v=>
  refine yab (yaB h₁ (λ_ Ir N5=>?_) λ_ _ h'=>h');refine yab (yaB N5 (λ_ s₂ h₂=>yab (yaB h₂ (λok s₃ h₃=>?_) λ_ _ h'=>h')) λ_ _ h'=>h');cases ok with
  |false=>exact yan ⟨Z,h₃⟩
  |true=>
   exact yab (yab (yaB h₃ (λx s₄ h₄=>yab (yaB h₄ (λ_ s₅ h₅=>yan (yan ⟨Z,h₅⟩)) λ_ _ h'=>h')) λ_ _ h'=>h'))
end
def Bq(X:Cx)(ifs:List Expr)(t:TT):Prop:=
 ∀(U:List (Addr × Obj))(s:Shared)(σ:St)(H:Hp)(Q:Bool->Hp->Prop),Inv X U σ H s->t σ H Q->
  wpAny (model X.prog X.w) X.A (forIn ifs true λc r=>if r=true then do let ok<-isTrue c X.env (eval c X.env);pure (ForInStep.yield ok)else pure (ForInStep.yield r)) (TP X U σ Q) X.xe s
def vB:TT:=λ_ H Q=>Q true H
theorem XG:Bq X [] vB:=λU s σ H Q I h=>wpAny_tests_nil ⟨H,I,h⟩
theorem X1(h:PT X c t):Bq X [c] t:=λU s σ H Q I q=>wpAny_tests_one (h U s σ H Q I q)
def Yd(NB:List Str)(wi:TI)(g:TG)(tt:TT)(te:TE):TE:=λσ H Q=>wi σ H λJ H1=>∃W:Nat->Nat->List V->Hp->Prop,(∃m,W 0 m [] H1)/\∀i m vs H,W i m vs H->
 (J.stop i H/\∀p,H p=none->Q (.ref p) (upd H p (.lst vs)))\/(J.go i H/\vs.length<sizeLine/\∃N:List V->Hp->Prop,(∀Ch H',N Ch H'->∃m',m'<m/\W (i+1) m' Ch H')/\
  ∀x H',J.cR i H x H'->g x (replicate NB.length none) H' λσ2 H2=>tt σ2 H2 λb H3=>if b=true then te σ2 H3 λv H4=>N (vs++[v]) H4 else N vs H3)
noncomputable abbrev Kw(ys:List Value):Obj:={cls:=.type "list",data:=.seq ys.toArray ys.length}
section
theorem Zt{elt tg iter:Expr}{ifs:List Expr}{scope:Scope}{pos:Pos}{tt:TT}(hc:X.calm=true)(S:b9 NB scope)(hi:PI X tg iter wi)
  (hg:∀s H ex,PG (Zp X NB scope s H ex) tg g) (ht:∀s H ex,Bq (Zp X NB scope s H ex) ifs tt) (he:∀s H ex,PE (Zp X NB scope s H ex) elt te)
  (hs:∀x,foldedSetIterable iter X.env x=pure x:=by intro _;rfl):PE X (.ListComp elt [⟨tg,iter,ifs,0⟩] scope pos) (Yd NB wi g tt te):=by
 intro U s σ H Q I h;rw[eval_ListComp];refine ycB (use:=none) (cl:=[]) rfl hs (UQ S.aX) S.kind S.loc (av (hi U s σ H _ I h) λv s1 h1=>av h1 λBa s2 h2=>?_);obtain⟨it,fp,tn,J,H2,e,I2,T,fP,f2,W,⟨m0,w0⟩,turn⟩:=h2;subst e;refine yaX ?_;have cU:∀b o,s2.heap.get? b=some o->(s2.heap.push {cls:=.type "list",data:=.seq ([]:List Value).toArray}).get? b=some o:=λb o e=>yaa _ e;have I3:Inv X U σ H2 {s2 with heap:=s2.heap.push {cls:=.type "list",data:=.seq ([]:List Value).toArray}}:=I2.kept (t':=s2.toks) cU;have dU:tn 0 (s2.heap.push {cls:=.type "list",data:=.seq ([]:List Value).toArray}):=T.keep _ _ _ fP λb _ o e=>cU b o e;have cV:(s2.heap.push {cls:=.type "list",data:=.seq ([]:List Value).toArray}).get? s2.heap.objs.size=some (Kw []):=yam _ rfl;have i4:H2 s2.heap.objs.size=none:=I2.ai.fresh (lA _);have Sc:∀b o,s2.heap.get? b=some o->b≠s2.heap.objs.size:=λb o e=>yal (yae e);have i5:∀b∈fp,∃o,s2.heap.get? b=some o:=λb hb=>let ⟨o,e,_⟩:=T.obj _ _ fP b hb;⟨o,e⟩;have sw:X.s₀.heap.objs.size<=s2.heap.objs.size:=I2.sz;have eE:s2.heap.objs.size≠X.env.locals:=yby I2.lt;have dM:∀x c,X.env.cells.lookup x=some c->c≠s2.heap.objs.size:=λx c e=>let ⟨v,o,e1,_⟩:=I2.cell x c e;Sc c o e1;have eF:∀p∈X.pn++U,p.1≠s2.heap.objs.size:=λp hp=>Sc p.1 _ (I2.pin p hp).1;have eG:s2.heap.objs.size∉aK X.stack:=λz=>let ⟨o,e,_⟩:=(I2.stack.mem z).2;Sc _ o e rfl;generalize Br:({s2 with heap:=s2.heap.push {cls:=.type "list",data:=.seq ([]:List Value).toArray}}:Shared)=s3 at I3 ⊢;have Bs:s3.heap=s2.heap.push {cls:=.type "list",data:=.seq ([]:List Value).toArray}:=by rw[<-Br]
 rw[<-Bs]at dU cV cU;generalize s2.heap.objs.size=D at cV i4 Sc sw eE dM eF eG ⊢;refine KA S.kind λRe s4 eI x4=>?_;subst eI;rw[WW S.aX];have eJ:∀b o,s3.heap.get? b=some o->b<s3.heap.objs.size:=λb o e=>yae e;have fT:∀b∈fp,b<s3.heap.objs.size:=λb hb=>let ⟨o,e⟩:=i5 b hb;eJ b o (cU b o e);have LE:D<s3.heap.objs.size:=eJ D _ cV;have SC:∀b∈fp,b≠D:=λb hb=>let ⟨o,e⟩:=i5 b hb;Sc b o e;obtain⟨h4,iu,rfl,TD⟩:=x4.done;have Bt:∀b o,X.M.get? b=some o->b∉D::fp:=λb o e hb=>by
  rcases yag.mp hb with rfl|hb
  .exact absurd (yad (yae (I2.ok.bs b o e).1) sw) (lY _)
  .obtain⟨_,_,_,f3,_⟩:=f2 b hb;rcases f3 with z|z
   .exact I2.ok.bI b o e z
   .exact absurd (yad (yae (I2.ok.bs b o e).1) z) (lY _)
 have i6:∀b∈D::fp,b∉aK X.stack:=λb hb hf=>by
  rcases yag.mp hb with rfl|hb
  .exact eG hf
  .obtain⟨_,f1,Bu,_⟩:=f2 b hb;rcases yag.mp (I2.K8 b hf)with z|z
   .exact f1 z
   .exact Bu z
 have eK:∀y c,(cellsFrom (s3.heap.objs.size+1) scope.names []).lookup y=some c->s3.heap.objs.size<c:=λy c e=>x4.above y c (yaw e);have cy:∀b∈D::fp,b<s3.heap.objs.size:=λb hb=>by
  rcases yag.mp hb with rfl|hb
  .exact LE
  .exact fT b hb
 have Bv:(Zp X NB scope s3 H2 (D::fp)).Ok:=by
  refine⟨I3.ok.mod,S.kind,I3.ok.glob,I3.ok.blt,lA _,λy z c h1 h2=>?_,λy hy=>?_,λy c _ h=>ybi (eK y c h),I3.ok.hd,I3.ok.frames,.inl rfl,λb hb=>⟨yal (cy b hb),λy c e z=>?_⟩,I3.bs,yas I3.ok.cN I3.sz,Bt,i6,I3.stack,I3.KI⟩
  .exact name_of_addr x4.apart (yaw h1) (yaw h2)
  .have hy:scope.names.lookup y=some .cell\/scope.names.lookup y=some .free:=hy;rcases hy with hy|hy
   .exact W8 hy
   .exact absurd rfl (S.aX _ (yaw hy))
  .have:=eK y c e;rw[z]at this;exact absurd (yaD this (cy b hb)) (lY _)
 have rep:∀(j:Nat)(v:V),(replicate NB.length (none:Option V))[j]? ≠some (some v):=λj v z=>by
  rw[ybr]at z
  split at z<;>cases z
 have IB:Inv (Zp X NB scope s3 H2 (D::fp)) [(D,Kw [])] (replicate NB.length none) H2 {s3 with heap:=h4,toks:=iu}:=by
  refine⟨Bv,Z,I3.bare,Un.kept TD,⟨_,x4.toInCall.ns,λi y v h1 h2 h3=>absurd h2 (rep i v)⟩,λy c h=>⟨_,x4.cell y c h⟩,I3.ai.fresh (lA _),λy c h=>I3.ai.fresh (ybi (eK y c h)),λp hp=>?_,I3.ai.kept TD,by rw[lN]⟩;obtain rfl:p=(D,Kw []):=by simpa using hp
  exact⟨TD _ _ cV,i4,yal LE,eG,λv z=>nomatch z⟩
 have pi:∀{H':Hp}{ys:List Value},(∀b∈fp,H' b=none)->∀b∈fp,xw (Zp X NB scope s3 H2 (D::fp)) [(D,Kw ys)] H' b:=λhn b hb=>
  ⟨hn b hb,yal (fT b hb),i6 b (lG _ hb),.inl (lG _ hb),λy c e z=>by
   have:=eK y c e;rw[z]at this;exact absurd (yaD this (fT b hb)) (lY _),λp hp=>by
    obtain rfl:p=(D,_):=by simpa using hp
    exact(SC b hb).symm⟩
 have i7:tn 0 h4:=T.keep _ _ _ dU λb _ o e=>TD b o e;have Bw:∀b∈fp,H2 b=none:=λb hb=>(f2 b hb).1;have dJ:(Zp X NB scope s3 H2 (D::fp)).calm=true:=hc;have loop:codeAny (model X.prog X.w) X.A (.compLoop (.ListComp elt [⟨tg,iter,ifs,0⟩] scope pos) 0 (.ref it) (.ref D) (xY scope X.env s3.heap.objs.size))
   (compPost (model X.prog X.w) X.A X.xe none (EP X U σ Q) (.ref D) s3.heap.objs.size) {s3 with heap:=h4,toks:=iu}:=by
  refine Vz (λn s'=>∃i vs ys H',Inv (Zp X NB scope s3 H2 (D::fp)) [(D,Kw ys)] (replicate NB.length none) H' s'/\Vals vs ys/\vs.length<=sizeLine/\tn i s'.heap/\(∀b∈fp,H' b=none)/\W i n vs H') ?_ m0 ⟨0,[],[],H2,IB,.nil,lX _,i7,Bw,w0⟩;rintro n s5 ⟨i,vs,ys,H5,I5,rv,eM,dG,fQ,w5⟩;rcases turn i n vs H5 w5 with⟨stop,qn⟩|⟨go,bn,N,hN,step⟩
  .refine yaB (T.done (Zp X NB scope s3 H2 (D::fp)) Z Z Z dJ i _ s5 _ H5 (λ_ _=>False) I5 (pi fQ) dG stop) (λr s6⟨hr,I6⟩=>?_) (λ_ _ z=>z.elim);subst hr;obtain⟨m6,By,_⟩:=id I6.loc;refine⟨m6,By,λh7 Fm=>?_⟩;have eN:∀b o,b≠s3.heap.objs.size->s6.heap.get? b=some o->h7.get? b=some o:=λb o hb e=>(Fm.2 b hb).trans e;have si:H5 s3.heap.objs.size=none:=I6.free;have Bz:Un (aK X.stack) (D::fp) H2 H5 s3.heap h7:=by
    have u:=I6.M;refine⟨λb o e n hb hx=>eN b o (yal (yae e)) (u.keep b o e n hb hx),λb o e n hb hx=>?_,u.free,λb o e hx=>?_,u.bx,u.bq,u.bt⟩
    .obtain⟨sl,q⟩:=u.slot b o e n hb hx;exact⟨sl,eN b _ (yal (yae e)) q⟩
    .obtain⟨o',q⟩:=u.there b o e hx;exact⟨o',eN b _ (yal (yae e)) q⟩
   have sj:aZ X.prog X.w H5 h7:=λb u e=>(I6.ai b u e).K7 (λc w' dF q=>eN c w' (by
    rintro rfl;rcases dF with rfl|dF
    .rw[si]at e;cases e
    .rw[si]at dF;cases dF) q) (λ_ q=>q) λ_ _ q=>q
   have I7:Inv X U σ H5 {s6 with heap:=h7}:=I3.xt (s':={s6 with heap:=h7}) I6.os Bz sj I6.bare λb hb=>by
    rcases yag.mp hb with rfl|hb
    .exact⟨.inr sw,eE,dM,eF⟩
    .obtain⟨_,f1,_,f3,f4,f5⟩:=f2 b hb;exact⟨f3,f1,f4,f5⟩
   obtain⟨eD,nD,_⟩:=I6.pin (D,Kw ys) (by simp);have i8:H5 D=none:=nD;have BA:h7.get? D=some (Kw ys):=eN D _ (yal LE) eD;have BB:X.s₀.heap.get? D=none:=by
    cases q:X.s₀.heap.get? D with
    |none=>rfl
    |some o=>exact absurd (yad (yae q) sw) (lY _)
   exact⟨.ref D,upd H5 D (.lst vs),I7.vn i8 BB eE dM eF ⟨eM,ys,ys.length,rv,BA⟩,Z,qn D i8⟩
  .refine yaB (T.item (Zp X NB scope s3 H2 (D::fp)) Z Z Z dJ i _ s5 _ H5 (λ_ _=>False) I5 (pi fQ) dG go) (λr s6⟨u,hr,h6⟩=>?_) (λ_ _ z=>z.elim);subst hr;refine yaB h6 (λ_ s7⟨x,H7,I7,r7,y7,eO,BC⟩=>?_) (λ_ _ z=>z.elim);have BD:=I7.pinned (pi BC) (T.obj _ _ eO);refine yaB (hg s3 H2 (D::fp) _ s7 _ H7 x u _ BD r7 (step x H7 y7)) (λ_ s8⟨σ8,H8,I8,q8⟩=>?_) (λ_ _ z=>z.elim);refine yaB (ht s3 H2 (D::fp) _ s8 σ8 H8 _ I8 q8) (λok s9⟨H9,I9,q9⟩=>?_) (λ_ _ z=>z.elim);have i9:∀{σ':St}{H':Hp}{s':Shared},Inv (Zp X NB scope s3 H2 (D::fp)) ([(D,Kw ys)]++Vn fp s7.heap) σ' H' s'->tn (i+1) s'.heap/\∀b∈fp,H' b=none:=λJ=>
    ⟨T.keep _ _ _ eO λb hb o e=>(J.pin (b,o) (lE _ (lE _ (Zl hb e)))).1,λb hb=>by
     obtain⟨o,e,d⟩:=T.obj _ _ eO b hb;exact(J.pin (b,o) (lE _ (lE _ (Zl hb e)))).2.1⟩
   have wk:∀{σ':St}{H':Hp}{s':Shared}{pl:List (Addr × Obj)},Inv (Zp X NB scope s3 H2 (D::fp)) pl σ' H' s'->Inv (Zp X NB scope s3 H2 (D::fp)) pl (replicate NB.length none) H' s':=λJ=>
    J.weak (by rw[lN];exact J.len.symm) λj v z=>absurd z (rep j v)
   cases ok with
   |false=>
    rw[yac (by lia)]at q9;rw[yac (by lia)];obtain⟨m',hm,w9⟩:=hN vs H9 q9;obtain⟨t9,f9⟩:=i9 I9;exact⟨m',hm,i+1,vs,ys,H9,wk I9.ZT,rv,eM,t9,f9,w9⟩
   |true=>
    rw[yaf rfl]at q9;rw[yaf rfl];refine yaB (he s3 H2 (D::fp) _ s9 σ8 H9 _ I9 q9) (λy cW⟨v,No,eP,eQ,BE⟩=>?_) (λ_ _ z=>z.elim);obtain⟨eD,nD,_,nf,_⟩:=eP.pin (D,Kw ys) (by simp);have BF:=rv.length;refine append_at (hsz:=by show ys.toArray.size<=sizeLine;rw[lW, <-BF];exact eM) eD λi' eR eS=>?_;obtain⟨m',hm,BG⟩:=hN (vs++[v]) No BE;obtain⟨o4,BH⟩:=i9 eP;have eT:=eP.ZT;have j':∀b o,b≠D->cW.heap.get? b=some o->i'.get? b=some o:=λb o hb e=>(eR.2 b hb).trans e;have IE:Inv (Zp X NB scope s3 H2 (D::fp)) [] σ8 No cW:=eT.XU λp hp=>nomatch hp;have BI:Inv (Zp X NB scope s3 H2 (D::fp)) [] σ8 No {cW with heap:=i'}:=IE.turned (t':=cW.toks) j' nD (yal LE) (.inl lH) (λy' c e z=>by
     have:=eK y' c e;rw[z]at this;exact absurd (yaD this LE) (lY _)) (λp hp=>absurd (show p∈([]:List (Addr × Obj))from hp) (by simp))
    have eL:({cls:=.type "list",data:=.seq (ys.toArray.push y) (ys.length+1)}:Obj)=Kw (ys++[y]):=by
     show({cls:=.type "list",data:=.seq (ys.toArray.push y) (ys.length+1)}:Obj)={cls:=.type "list",data:=.seq (ys++[y]).toArray (ys++[y]).length};rw[lq,lC,ydJ]
    refine⟨m',hm,i+1,vs++[v],ys++[y],No,wk (BI.XU λp hp=>?_),rv.append (.cons eQ .nil),by rw[lq,lC];exact bn,T.keep _ _ _ o4 λb hb o e=>j' b o (SC b hb) e,BH,BG⟩;obtain rfl:p=(D,Kw (ys++[y])):=by simpa using hp
    exact⟨by rw[<-eL];exact eS,nD,yal LE,nf,λv z=>nomatch z⟩
 exact ycP loop (T.self _ 0 _ _ _ i7 loop)
end
open Builtin Builtin.Str
section
variable {prog:Program}
theorem yck{name:Str}{id:String}{rest:List Value}(slot:Slot "str" name id)(entry:entryFor table id=some B)(args:argsOk id ⟨.str x t::rest,[]⟩)
  (g:Gives (B ⟨.str x t::rest,[]⟩) m) (h:m.post Q s):wpAny (model prog w) A (call (.builtin id) (.str x t::rest)) Q E s:=
 ydi (ycp slot.plain entry (slot.check _ _ _ _ _ _ _ _ (ybW _ _ _) args (g prog w A (wants Q E) s h)))
end
section
def DJ(C:Str->Str->Prop)(f:Str->Str->V):V->List V->Hp->VK->Prop:=λx vs H Q=>∃z y,x=.str z/\vs=[.str y]/\C z y/\Q (f z y) H
def N6(z _:Str):Prop:=z.length<=sizeLine
theorem Xh:cu X "str.strip" (DJ N6 λz y=>.str (Txt.stripChars z y)):=by
 intro U s σ H x vs v us Q I rx rv h;obtain⟨z,y,rfl,rfl,hl,q⟩:=h;obtain⟨t,rfl⟩:=rx;obtain⟨u,rfl,t',rfl⟩:=vals1 rv;exact yck F.slot_str_strip F.entry_str_strip (F.args_str_strip_2 _ _) (gives_str_strip_chars z y t t') (ycv (λ_=>fits_stripped _ _ _ hl) λt2 k=>⟨.str _,H,I.tok k,⟨t2,Z⟩,q⟩)
theorem YR:cu X "str.startswith" (DJ (λ_ _=>True) λz y=>.bl (Txt.startswith z y)):=by
 intro U s σ H x vs v us Q I rx rv h;obtain⟨z,y,rfl,rfl,_,q⟩:=h;obtain⟨t,rfl⟩:=rx;obtain⟨u,rfl,t',rfl⟩:=vals1 rv;exact yck F.slot_str_startswith F.entry_str_startswith (F.args_str_startswith_2 _ _) (gives_str_startswith z y t t') ⟨.bl _,H,I,Z,q⟩
theorem xZ:cu X "str.find" (DJ (λ_ _=>True) λz y=>.int (Txt.find z y)):=by
 intro U s σ H x vs v us Q I rx rv h;obtain⟨z,y,rfl,rfl,_,q⟩:=h;obtain⟨t,rfl⟩:=rx;obtain⟨u,rfl,t',rfl⟩:=vals1 rv;exact yck F.slot_str_find F.entry_str_find (F.args_str_find_2 _ _) (gives_str_find z y t t') ⟨.int _,H,I.tok _,⟨_,Z⟩,q⟩
theorem Vd:cu X "str.zfill" (λx vs H Q=>∃z i,x=.str z/\vs=[.int i]/\PadOk i=true/\Q (.str (Txt.zfill z i)) H):=by
 intro U s σ H x vs v us Q I rx rv h;obtain⟨z,i,rfl,rfl,hp,q⟩:=h;obtain⟨t,rfl⟩:=rx;obtain⟨u,rfl,t',rfl⟩:=vals1 rv;exact yck F.slot_str_zfill F.entry_str_zfill (F.args_str_zfill_2 _ _) (gives_str_zfill z i t t' (yce hp).1 (yce hp).2) (ycv (fits_zfilled (yce hp).2) λt2 k=>⟨.str _,H,I.tok k,⟨t2,Z⟩,q⟩)
theorem J2:Dy X (λx lo hi H Q=>∃z,x=.str z/\z.length<=sizeLine/\Q (.str (StrLaws.sliceText z lo hi)) H):=by
 intro U s σ H x v vl vu lo hi sl Q I rx hs pl pu h;obtain⟨z,rfl,hl,q⟩:=h;obtain⟨t,rfl⟩:=rx;have part:∀{v:Value}{o:Option Int},IsPart v o->∃p:Option (Int × Tok),v=partValue p/\p.map (·.1)=o:=λp=>by
  cases p with
  |none=>exact⟨none,Z,Z⟩
  |int i t=>exact⟨some (i,t),Z,Z⟩
 obtain⟨p,rfl,rfl⟩:=part pl;obtain⟨p2,rfl,rfl⟩:=part pu;exists "str",_,F.slot_str_getitem.lookup,ybW _ _ _;refine wpAny_getItem_str_slice (l:=p) (u:=p2) (st:=none) hs rfl ?_;unfold sliceMade slicePicked;refine ycv (λ_=>?_) λt2 k=>⟨.str (StrLaws.sliceText z (p.map (·.1)) (p2.map (·.1))),H,I.tok k,⟨t2,Z⟩,q⟩;show(List.filterMap _ _).toArray.size<=sizeLine;rw[lW];exact yas (List.length_filterMap_le _ _) (yas (sliceIndices_le _ _ _) hl)
end
theorem x0:typeLookup (.type "list_reverseiterator") "__len__"=pure none:=by rw[typeLookup_type,builtinLookup_eq_fast];kernel_rfl
theorem vC:typeLookup (.type "list_reverseiterator") "__length_hint__"=pure (some (.builtin "list_reverseiterator.__length_hint__")):=by rw[typeLookup_type,builtinLookup_eq_fast];kernel_rfl
section
variable {prog:Program}
theorem ka(hh:A.handled=none)(I l:Addr)(ul:l≠I)(items:Array Value):
  WalksS prog w A I [I,l] [I] (λa b=>a=b) items.size (λi v=>items[items.size-1-i]? =some v) (λi s=>i<=items.size/\s.heap.IsRevIter I l ((items.size:Int)-1-(i:Int))/\s.heap.IsList l items) where
 sub:=λb hb=>by simp at hb;simp[hb]
 grefl:=λ_=>rfl
 gtrans:=λ_ _ _ a b=>a.trans b
 frame:=λi s h' tk x _ hk=>⟨x.1,x.2.1.at λo e=>hk I (by simp) o e,x.2.2.at λo e=>hk l (by simp) o e⟩
 item:=λi s Q E hi x hQ=>by
  have e:(items.size:Int)-1-(i:Int)=((items.size-1-i:Nat):Int):=by lia
  have hit:=x.2.1;rw[e]at hit;have hx:items[items.size-1-i]? =some (items[items.size-1-i]'(by lia)):=ycs (by lia);refine wpAny_pyNext_rev_item hit x.2.2 hx λh' BJ Iu=>?_;have e2:((items.size-1-i:Nat):Int)-1=(items.size:Int)-1-((i+1:Nat):Int):=by lia
  rw[e2]at BJ;exact hQ _ _ hx ⟨hi,BJ,x.2.2.at λo eo=>(Iu.2 l ul).trans eo⟩ ⟨λb o hb eo=>Iu.extBut b o (λh=>hb (by simp[h])) eo,Z,Z,Z,lA _⟩
 done:=λs Q E x hQ=>by
  have e:(items.size:Int)-1-(items.size:Int)= -1:=by lia
  have hit:=x.2.1;rw[e]at hit;exact wpAny_pyNext_rev_end hh hit λh' N7=>hQ _ ⟨λb o hb eo=>N7 b o (λh=>hb (by simp[h])) eo,Z,Z,Z,lA _⟩
 self:=λ_ _ _ _ x hQ=>wpAny_pyIter_revIter x.2.1 hQ
variable {wr:List Addr}{St:Nat->Shared->Prop}
theorem qL(W:WalksS prog w A.in1 I fp wr G n P St)(hT:∀i s,St i s->s.TypeIs (.ref I) "list_reverseiterator") (gt:St 0 s) (Fn:∀b∈fp,b<s.heap.objs.size) (hI:I∈fp)
  (hQ:∀s' acc,Moved wr G s s'->ItemsOf P acc n->Q acc.toList s') (hn:n<=sizeLine):wpAny (model prog w) A (collect (.ref I)) Q E s:=by
 have Iv:s.heap.objs.size∉fp:=λhm=>lY _ (Fn _ hm);have Fo:s.heap.objs.size≠I:=λe=>Iv (e▸hI);unfold collect;refine yab (wpAny_runValue (yee F.entry_proto_collect ?_));rw[Around.under_plainId F.plain_proto_collect _];show wpAny _ A.in1 (newList []>>=λl=>again (.builtin "list.__iadd__" ⟨[l,.ref I],[]⟩)) _ _ s;refine yab (yaX ?_);refine yan ⟨plainId_quiet F.plain_list_iadd _,yee F.entry_list_iadd ?_⟩;rw[Around.under_plainId F.plain_list_iadd _];have dj:=W.frame 0 s (s.heap.push {cls:=.type "list",data:=.seq ([]:List Value).toArray}) s.toks gt (lA _) λb _ o e=>yaa _ e;have N8:(s.heap.push {cls:=.type "list",data:=.seq ([]:List Value).toArray}).get? s.heap.objs.size=some {cls:=.type "list",data:=.seq ([]:List Value).toArray}:=yam _ rfl;have h1:Builtin.List.listSameRef (.ref s.heap.objs.size) (.ref I)=false:=by simp[Builtin.List.listSameRef,Fo]
 show wpAny _ A.in1 (Builtin.List.listExtendWith (.ref s.heap.objs.size) (.ref I) (.ref s.heap.objs.size)) _ _ _;unfold Builtin.List.listExtendWith;refine yab (ydy (hT 0 _ dj) ?_);rw[yac (by rw[h1];lia)];refine yab (W.self 0 _ _ _ dj ?_);refine yab (ycD ?_);unfold Builtin.List.listLengthHint;refine yab (ydo (hT 0 _ dj) x0 ?_);show wpAny _ A.in1 (specialOf (Value.ref I) (Str.ofString "__length_hint__")>>=_) _ _ _;refine yab (ydo (hT 0 _ dj) vC ?_);generalize aS:("list_reverseiterator.__length_hint__":String)=DK
 (fail_if_success (clear aS DK))
 wp_delta
 rw[show splitId DK=some ("list_reverseiterator","__length_hint__")from by subst aS;rfl'];subst aS;refine yab (ydS (b:=true) (hT 0 _ dj) (by rw[isSubtype_type];kernel_rfl) ?_);refine yan ?_;rw[yac (by lia)];refine yan ⟨plainId_quiet F.plain_extend_loop _,codeAny_extend_loopS W hn _ Iv _ n 0 _ _ _ rfl (lX _) dj N8 (ItemsOf.nil P) λs' P3 c' hm Fp SL=>?_⟩;show wpAny _ A (load s.heap.objs.size>>=_) _ _ s';refine yab (wpAny_load Fp ?_);exact yan (hQ s' P3 (Moved.drop_new (o:={cls:=.type "list",data:=.seq ([]:List Value).toArray}) (tk:=s.toks) hm (lA _)) SL)
theorem vD(W:WalksS prog w A.in1.in1 I fp wr G n P St)(hT:∀i s,St i s->s.TypeIs (.ref I) "list_reverseiterator") (gt:St 0 s) (Fn:∀b∈fp,b<s.heap.objs.size) (hI:I∈fp)
  (Fq:∀i v,P i v->∃y u,v=Value.str y u)
  (hq:∀s'(l:List (Str × Tok)),Moved wr G s s'->ItemsOf P (strValues l).toArray n->JoinOk x (l.map (·.1))=true/\∀t' k,Q (.str (Txt.join x (l.map (·.1))) t') {s' with toks:=k}) (hsz:n<=sizeLine):
  wpAny (model prog w) A (call (.builtin "str.join") [.str x t,.ref I]) Q E s:=by
 refine ydi (ycp F.slot_str_join.plain F.entry_str_join (F.slot_str_join.check _ _ _ _ _ _ _ _ (ybW _ _ _) (F.args_str_join_2 _ _) ?_));rw[join_tree_other];refine yab (ydy (hT 0 s gt) ?_);show wpAny _ A.in1 ((pyIter (.ref I)).tryCatch _>>=λit=>collect it>>=λitems=>joinTail x items) _ _ s;refine yab (wpAny_tryCatch (W.of_in1.self 0 s _ _ gt ?_));refine yab (qL W hT gt Fn hI (λs' acc hm SL=>?_) hsz);obtain⟨l,hl⟩:=exists_strValues acc.toList λv hv=>by
  obtain⟨j,hj,rfl⟩:=Array.mem_iff_getElem.mp (yeo.mp hv);exact Fq j _ (SL.2 j _ (ycs hj))
 rw[<-hl];have BK:ItemsOf P (strValues l).toArray n:=by rw[hl];simpa using SL
 obtain⟨ai,BL⟩:=hq s' l hm BK;unfold JoinOk at ai;rw[ybM]at ai;have g:Gives (joinTail x (strValues l)) (joinMade x l):=by
  have g0:=gives_joinTail x l ai;cases l with
  |nil=>exact g0
  |cons p r=>cases r with
   |nil=>exact g0
   |cons q r'=>exact g0
 exact g prog w A (wants Q E) s' (post_join l ⟨joinFit_length ai,BL⟩)
end
theorem boot_reversed:bootBuiltins "reversed"=some (.type "reversed"):=by boot_by_name
section
def N9(to te:TE):TE:=λσ H Q=>to σ H λx H1=>∃z,x=.str z/\te σ H1 λy H2=>∃(l:Addr)(ys:List Str),y=.ref l/\H2 l=some (.lst (ys.map V.str))/\JoinOk z ys.reverse=true/\Q (.str (Txt.join z ys.reverse)) H2
theorem zM{to te:TE}{apos BM bv p:Pos}(hc:X.calm=true)(hg:Gl X "reversed")(hm:X.mg "reversed"=none)(ho:PE X o to)(he:PE X e te)
  (Da:attributeBase o "join" X.env (eval o X.env)=eval o X.env:=by rfl) (ge:(apos.endLine==bv.line)=true:=by rfl) (hs:starEach [e] X.env=[(false,eval e X.env)]:=by rfl):
  PE X (.Call (.Attribute o "join" apos) [.Call (.Name "reversed" p) [e] [] BM] [] bv) (N9 to te):=by
 intro U s σ H Q I h;refine wpAny_Call_method_late Da rfl ge rfl (av (ho U s σ H _ I h) λv s1⟨x,H1,I1,r1,q1⟩=>?_);obtain⟨z,rfl,q1⟩:=q1;obtain⟨t,rfl⟩:=r1;refine⟨"str","str.join",yaA,slot_str_join,type_str_join,ybW _ _ _,(λ_ e=>nomatch e),?_⟩;refine ybY rfl (yco ?_);show wpAny _ _ (spliced ((false,eval (.Call (.Name "reversed" p) [e] [] BM) X.env)::[])) _ _ s1;refine ybz ?_;refine yaZ (WS I1 hg hm boot_reversed ?_ (by lia) (by lia));refine yaT ?_ hs rfl;rw[hs];show wpAny _ _ (spliced ((false,eval e X.env)::[])) _ _ s1;refine ybz (av (he U s1 σ H1 _ I1 q1) λy s2⟨yv,H2,I2,r2,l,ys,e2,hl,hj,q2⟩=>ycg ?_);subst e2;obtain rfl:y=Value.ref l:=r2;obtain⟨zz,ap,n,rv,hlen,eo⟩:=I2.vg hl;have fU:s2.heap.IsList l ap.toArray:=⟨_,eo,Z,n,Z⟩;have BN:ap.length=ys.length:=by rw[<-rv.length,lu]
 refine call_reversed_list fU ?_;refine ycg ?_;have up:∀b o,s2.heap.get? b=some o->(s2.heap.push (revObj l ((ap.toArray.size:Int)-1))).get? b=some o:=λb o e=>yaa _ e;have I3:Inv X U σ H2 {s2 with heap:=s2.heap.push (revObj l ((ap.toArray.size:Int)-1))}:=I2.kept (t':=s2.toks) up;have ul:l≠s2.heap.objs.size:=yal (yae eo);have hh:X.A.in1.in1.handled=none:=I2.ok.hd hc;have BO:∀(i:Nat)(u:Value),ap.toArray[ap.toArray.size-1-i]? =some u->∃y t,u=Value.str y t:=λi u hu=>by
  have h1:ap[ap.toArray.size-1-i]? =some u:=by simpa using hu
  have bn:=(yaj.mp h1).1;have h2:(ys.map V.str)[ap.toArray.size-1-i]? =some ((ys.map V.str)[ap.toArray.size-1-i]'(by rw[lu];lia)):=yah _;obtain⟨u',e',r'⟩:=rv.get h2;rw[h1]at e';cases e';rw[List.getElem_map]at r';obtain⟨t',rfl⟩:=r';exact⟨_,_,Z⟩
 show wpAny _ _ (call (.builtin "str.join") [.str z t,.ref s2.heap.objs.size]) _ _ _;refine vD (ka hh s2.heap.objs.size l ul ap.toArray) (λi s x=>x.2.1.typeIs) ⟨lX _,⟨_,yam _ rfl,Z,by simp[revObj]⟩,fU.push _⟩ (λb hb=>?_) (by simp) BO (λs' ls hm hi=>?_) ?_
 .show b<(s2.heap.push _).objs.size;rw[ybg];rcases yag.mp hb with rfl|hb
  .exact ydT _
  .rw[yak.mp hb];exact ydK (yae eo)
 .have N':ls.map (·.1)=ys.reverse:=by
   have hsz:ls.length=ap.length:=by
    have:=hi.1;unfold strValues at this;simpa using this
   refine List.ext_getElem? λj=>?_
   by_cases hj:j<ls.length
   .have e1:(strValues ls).toArray[j]? =some (Value.str ls[j].1 ls[j].2):=by
     unfold strValues;simp[hj]
    have e2:=hi.2 j _ e1;have e3:ap[ap.toArray.size-1-j]? =some (Value.str ls[j].1 ls[j].2):=by simpa using e2
    have h2:(ys.map V.str)[ap.toArray.size-1-j]? =some ((ys.map V.str)[ap.toArray.size-1-j]'(by rw[lu,lW];lia)):=yah _;obtain⟨u',e',r'⟩:=rv.get h2;rw[e3]at e';cases e';rw[List.getElem_map]at r';obtain⟨t',r'⟩:=r';have hq:=(Value.str.inj r').1;rw[lK,yah hj,List.getElem?_reverse (by lia)];simp only[Option.map_some];have Fs:ap.toArray.size-1-j=ys.length-1-j:=by rw[lW,BN]
    simp only[Fs]at hq;rw[yah (by lia),hq]
   .rw[yeg (by rw[lu];lia),yeg (by rw[ydq];lia)]
  rw[N'];refine⟨hj,λt' k=>?_⟩;obtain⟨h',g',d',DL,oR⟩:=s';obtain rfl:g'=s2.gens:=hm.gens.symm;obtain rfl:d'=s2.drawn:=hm.drawn;obtain rfl:oR=s2.os:=hm.os;have fr:H2 s2.heap.objs.size=none:=I2.ai.fresh (lA _);have F3:=I2.wU (lA _) fr;obtain⟨f0,f1,f2,f3,f4,f5⟩:=F3;refine⟨.str _,H2,?_,⟨t',Z⟩,q2⟩;exact(I3.turned (h':=h') (t':=k) (it:=s2.heap.objs.size) (λb o hb e=>hm.heap b o (by simpa using hb) e) f0 f1 f3 f4 f5:)
 .rw[lW,BN, <-lu (f:=V.str)];exact zz
theorem QB:aW X (binaryOp .Mult) (λx y H Q=>∃z n,x=.str z/\y=.int n/\ -(2^40)<n/\z.length*n.toNat<=sizeLine/\n<2^40/\Q (.str (Ya z n.toNat)) H):=by
 intro U s σ H x y v u Q I rx ry h;obtain⟨z,n,ex,ey,h0,hl,hn,q⟩:=h
 by_cases hz:0<=n
 .exact zG U s σ H x y v u Q I rx ry ⟨z,n,ex,ey,hz,hl,hn,q⟩
 .subst ex ey;obtain⟨t,rfl⟩:=rx;obtain⟨t',rfl⟩:=ry;refine PySem.P.mul_str ?_ ?_ ?_ ?_
  .rw[lx (by lia),lx (by lia)];rfl
  .intro h1 h2 h3;lia
  .intro h1 h2;lia
  .rw[yaf (by lia)];have e:Ya z n.toNat=Str.empty:=by rw[show n.toNat=0 by lia];rfl
   exact⟨by lia,.str (Ya z n.toNat),H,I.tok _,⟨_,by rw[e]⟩,q⟩
theorem Oa(hu:X.A.units+1+n<cLine):aW X (compareOp .NotEq) (λx y H Q=>∃a b xs ys,x=.ref a/\y=.ref b/\az X.K H a xs/\az X.K H b ys/\bH X.K H n xs ys/\Q (.bl false) H):=by
 intro U s σ H x y v u Q I rx ry h;obtain⟨a,b,xs,ys,rfl,rfl,ha,hb,lk,q⟩:=h;obtain rfl:v=Value.ref a:=rx;obtain rfl:u=Value.ref b:=ry;obtain⟨ap,r1,p1,_⟩:=I.list ha;obtain⟨Db,r2,p2,_⟩:=I.list hb;have l1:=r1.length;have l2:=r2.length;have l3:=lk.len;refine SeqAt.RcNeAt.lists (e:=λ_=>true) p1.isList p2.isList (by rw[lW,lW];lia) (by lia) (Vv (U:=U) (σ:=σ) (H:=H) (n:=n) r1 r2 λj x y u v h1 h2 q1 q2=>(lk.at j x y h1 h2).at I (A:=X.A.in1) (by show X.A.units+1+n<cLine;lia) q1 q2) X.prog X.w X.xe _ ?_;rw[all_true];exact⟨.bl false,H,I,Z,q⟩
end
noncomputable def BP(lo c:Int)(n:Nat):It:=⟨λi _=>i<n,λi H x H'=>H'=H/\x=.int (lo+i*c),λi _=>n<=i⟩
theorem qM{P:Program}{w:World}{K:Frag}{tg:Expr}(it:Addr)(lo c:Int)(n:Nat):Turn P w K tg (BP lo c n) [it] it (λi h=>IsRangeIter h it (lo+(i:Nat)*c) ((n:Int)-(i:Nat)) c) where
 mem:=by simp
 obj:=λi h st b hb=>by
  have e:b=it:=by simpa using hb
  subst e;exact⟨_,st,λv z=>by
   have z':Data.fields _=Data.cell v:=z;cases z'⟩
 keep:=λi h h' st k=>k it (by simp) _ st
 item:=by
  intro X hP hw hK hc i U s σ H E I hf st hg;subst hP hw hK;obtain⟨f0,f1,f2,f3,f4,f5⟩:=hf it (by simp);have W:=Walks.range (prog:=X.prog) (w:=X.w) (I.ok.hd hc) it lo c n;refine W.item i s _ _ hg st λv h' tk hv Tm kk=>?_;obtain⟨t,rfl⟩:=hv;have I1:Inv X U σ H {s with heap:=h',toks:=tk}:=I.turned (λb o hb e=>kk b o (by simpa using hb) e) f0 f1 f3 f4 f5;exact⟨_,Z,xx (s:={s with heap:=h',toks:=tk}) (n:="range_iterator") Tm rfl rfl (by lia) ⟨.int (lo+i*c),H,I1,⟨t,Z⟩,⟨Z,Z⟩,Tm,λb hb=>(hf b hb).1⟩⟩
 done:=by
  intro X hP hw hK hc i U s σ H E I hf st hg;subst hP hw hK;obtain⟨f0,f1,f2,f3,f4,f5⟩:=hf it (by simp);exact wpAny_pyNext_range_end (I.ok.hd hc) st (by have:n<=i:=hg;lia) λh' eb=>⟨Z,I.turned (t':=s.toks) (λb o hb e=>eb b o hb e) f0 f1 f3 f4 f5⟩
 self:=λ_ _ _ _ _ st h=>wpAny_pyIter_rangeiter st h
section
variable {X:Cx}{tg:Expr}
def Ob(ta:TA):TI:=λσ H R=>ta σ H λvs H1=>∃(i j c:Int)(n:Nat),vs=[.int i,.int j,.int c]/\(-(2^40)<=i/\i<2^40/\ -(2^40)<=j/\j<2^40/\0<c/\c<2^20)/\Builtin.Range.rangeSize i j c=(n:Int)/\R (BP i c n) H1
theorem kc{p pos:Pos}(hg:Gl X "range")(hm:X.mg "range"=none)(ha:PA X [a,b,d] ta)(hs:starEach [a,b,d] X.env=(false,eval a X.env)::starEach [b,d] X.env:=by rfl)(hp:(backTo pos (starEach [b,d] X.env)).any (·.1)=false:=by rfl):
  PI X tg (.Call (.Name "range" p) [a,b,d] [] pos) (Ob ta):=by
 intro U s σ H R I h;refine Call_ (WS I hg hm boot_range (yaT (av (ha pos U s σ H _ I h) λus s1⟨vs,H1,I1,r1,q1⟩=>?_) hs hp));obtain⟨i,j,c,n,e,⟨b1,b2,b3,b4,b5,b6⟩,hn,q⟩:=q1;subst e;obtain⟨u1,u2,u3,rfl,⟨t1,rfl⟩,⟨t2,rfl⟩,⟨t3,rfl⟩⟩:∃u1 u2 u3,us=[u1,u2,u3]/\RelV (.int i) u1/\RelV (.int j) u2/\RelV (.int c) u3:=by
  cases r1 with
  |cons p q=>
   cases q with
   |cons p' q'=>
    cases q' with
    |cons Fd Fe=>
     cases Fe;exact⟨_,_,_,Z,p,p',Fd⟩
 refine call_range_3 (by lia) ?_ (.inl (ycN (by lia)));refine wpAny_pyIter_range (IsRange.new ..) ?_ ?_
 .have Iw:0<=(n:Int):=Int.natCast_nonneg n;have EQ:(n:Int)<=2^41:=by
   rw[<-hn];unfold Builtin.Range.rangeSize;rw[yaf b5]
   split
   .have:(j-i-1)/c<=(j-i-1)/1:=by
     rw[yed];exact Int.ediv_le_self _ (by lia)
    rw[yed]at this;lia
   .lia
  unfold Builtin.Range.small;simp only[hn];unfold Builtin.Range.rangeFitsLong;rw[yaf b5];rw[ly (show-(2^63)<=i by lia),ly (show i<2^63 by lia),ly (show-(2^63)<=j by lia),ly (show j<2^63 by lia),ly (show-(2^63)<=c by lia),ly (show c<2^63 by lia),ly (show-(2^63)<=(n:Int) by lia),ly (show(n:Int)<2^63 by lia),
   ly (show-(2^63)<=j+(c-1) by lia),ly (show j+(c-1)<2^63 by lia)]
  simp
 have I2:Inv X U σ H1 {s1 with heap:=s1.heap.push {cls:=.type "range",data:=.fields #[.int i t1,.int j t2,.int c t3]},toks:=s1.toks}:=I1.kept λb o e=>yaa _ e;refine⟨(s1.heap.push {cls:=.type "range",data:=.fields #[.int i t1,.int j t2,.int c t3]}).objs.size,[(s1.heap.push {cls:=.type "range",data:=.fields #[.int i t1,.int j t2,.int c t3]}).objs.size],_,_,H1,Z,
  I2.kept (t':=s1.toks) λb o e=>yaa _ e,qM _ i c n,?_,λb hb=>?_,q⟩
 .have e1:i+((0:Nat):Int)*c=i:=by simp
  have e2:((n:Nat):Int)-((0:Nat):Int)=Builtin.Range.rangeSize i j c:=by rw[hn];simp
  show IsRangeIter _ _ (i+((0:Nat):Int)*c) (((n:Nat):Int)-((0:Nat):Int)) c;rw[e1,e2];exact yam _ rfl
 .have e:b=(s1.heap.push {cls:=.type "range",data:=.fields #[.int i t1,.int j t2,.int c t3]}).objs.size:=by simpa using hb
  subst e;exact I2.wU (lA _) (I2.ai.fresh (lA _))
theorem zN{lo c:Int}{n:Nat}{g:TG}{tb:TS}{D:Ends}{σ:St}{H:Hp}(Pv:Nat->St->Hp->Prop)(h0:Pv 0 σ H)
  (hs:∀i σ H,i<n->Pv i σ H->g (.int (lo+i*c)) σ H λσ2 H2=>tb {D with nx:=Pv (i+1),ct:=Pv (i+1),bk:=D.nx} σ2 H2) (hd:∀σ H,Pv n σ H->D.nx σ H):
  ∃W:Nat->Nat->St->Hp->Prop,(∃m,W 0 m σ H)/\∀i m σ H,W i m σ H->
   ((BP lo c n).stop i H/\D.nx σ H)\/((BP lo c n).go i H/\∃N:St->Hp->Prop,(∀σ' H',N σ' H'->∃m',m'<m/\W (i+1) m' σ' H')/\∀x H',(BP lo c n).cR i H x H'->g x σ H' λσ2 H2=>tb {D with nx:=N,ct:=N,bk:=D.nx} σ2 H2):=by
 refine⟨λi m σ H=>m=n-i/\i<=n/\Pv i σ H,⟨n,by simp,lX _,h0⟩,?_⟩;rintro i m σ H ⟨rfl,hi,p⟩
 by_cases bn:i<n
 .refine .inr ⟨bn,Pv (i+1),λσ' H' p'=>⟨n-(i+1),by lia,Z,bn,p'⟩,λx H' y=>?_⟩;obtain⟨e,y⟩:=y;subst e y;exact hs i σ _ bn p
 .have e:i=n:=by lia
  subst e;exact .inl ⟨lA _,hd σ H p⟩
end
structure Ap(X:Cx)(es:List Expr)(t:TA):Prop where
 pa:PA X es t
structure aO(X:Cx)(st:Stmt)(t:TS):Prop where
 ps:PS X st t
section
theorem QO:Ap X [] Ww:=⟨Qb⟩
theorem Z3{pos:Pos}(h:Ap X es t):ae X (.List es pos) (Dv t):=⟨ZR h.pa⟩
theorem Qg{st:Stmt}{rest:List Stmt}{t1 t2:TS}(h:aO X st t1)(hr:aN X rest t2):aN X (st::rest) (Wu t1 t2):=⟨Qj h.ps hr.ps⟩
theorem Qr{st:Stmt}(h:aO X st t):aN X [st] t:=⟨Qp h.ps⟩
end
theorem Oc{K:Frag}{M:Heap}{x qual:Str}{st:Stmt}{fd:FuncData}{ad:Value}{N ps:List Str}{k:Nat}{sp:Sp}(F:se K x qual st f fd ad)(S:aa N ps (Qe st))(len:∀vs H Q E,sp vs H Q E->vs.length=ps.length)
  (ce:∀(A:Around)(L:List Env)(s:Shared)(H:Hp)(vs:List V)(Q:VK)(E:XK),aq k (A.deeper (envOfC qual (Qe st) s.heap.objs.size f ad))->sp vs H Q E->
   ∃t,aN (Xe (ao P w) P w K mg M N qual (Qe st) f ad A L s H E).bD (QK st) t/\t {nx:=λ_ H'=>Q .ax H',rt:=Q} (start N vs) H):ag P w K mg M (ao P w) (k+1) f fd ps sp:=
 N2 F S len λA L s H vs Q E hr Os=>by
  obtain⟨t,h,q⟩:=ce A L s H vs Q E hr Os;exact⟨t,h.ps,q⟩
noncomputable def ke(z y:Str)(i:Int):Int:=match occurrences z y (fromIndex z.length i) z.length 1 with|k::_=>(k:Int)|[]=> -1
theorem UR:∀{ys:List Str}{us:List Value},Vals (ys.map V.str) us->∃l:List (Str × Tok),us=strValues l/\l.map (·.1)=ys
 |[],_,.nil=>⟨[],Z,Z⟩
 |y::ys,_,.cons r t=>by
  obtain⟨l,e1,e2⟩:=UR t;obtain⟨tk,rfl⟩:=r;exact⟨(y,tk)::l,by rw[e1];rfl,by rw[lU,e2]⟩
section
theorem kg:cu X "str.join" (λx vs H Q=>∃(z:Str)(p:Addr)(ys:List Str),x=.str z/\vs=[.ref p]/\az X.K H p (ys.map V.str)/\JoinOk z ys=true/\Q (.str (Txt.join z ys)) H):=by
 intro U s σ H x vs v us Q I rx rv h;obtain⟨z,p,ys,rfl,rfl,hq,hj,q⟩:=h;obtain⟨t,rfl⟩:=rx;obtain⟨u,rfl,ru⟩:=vals1 rv;obtain rfl:u=Value.ref p:=ru;obtain⟨ap,rv,pl,hl⟩:=I.list hq;obtain⟨l,e1,e2⟩:=UR rv;subst e1;have ai:=hj;unfold JoinOk at ai;rw[ybM, <-e2]at ai;refine ycS F.slot_str_join (ybW _ _ _) F.entry_str_join (F.args_str_join_2 _ _) (meets_str_join_list z t p l ai) ⟨pl.isList,?_⟩;refine post_join l ⟨joinFit_length ai,λt' k=>⟨.str (Txt.join z (l.map (·.1))),H,I.tok k,⟨t',Z⟩,?_⟩⟩;rw[e2];exact q
theorem vE:cu X "str.find" (λx vs H Q=>∃(z y:Str)(i:Int),x=.str z/\vs=[.str y,.int i]/\Q (.int (ke z y i)) H):=by
 intro U s σ H x vs v us Q I rx rv h;obtain⟨z,y,i,rfl,rfl,q⟩:=h;obtain⟨t,rfl⟩:=rx;obtain⟨u1,u2,rfl,⟨t1,rfl⟩,⟨t2,rfl⟩⟩:=vals2 rv;exact yck F.slot_str_find F.entry_str_find (F.args_str_find_3 _ _ _) (gives_str_find_from z y i t t1 t2) ⟨.int _,H,I.tok _,⟨_,Z⟩,q⟩
end
theorem Yu{prog:Program}{w:World}{A:Around}(hh:A.handled=none)(I l:Addr)(ul:l≠I)(items:Array Value):
  WalksS prog w A I [I,l] [I] (λa b=>a=b) items.size (λi v=>items[i]? =some v) (λi s=>s.heap.IsListIter I l i/\s.heap.IsList l items) where
 sub:=λb hb=>by simp at hb;simp[hb]
 grefl:=λ_=>rfl
 gtrans:=λ_ _ _ a b=>a.trans b
 frame:=λi s h' tk x _ hk=>⟨x.1.at λo e=>hk I (by simp) o e,x.2.at λo e=>hk l (by simp) o e⟩
 item:=λi s Q E hi x hQ=>by
  have hx:items[i]? =some (items[i]'hi):=ycs hi;refine wpAny_pyNext_list_item x.1 x.2 hx λh' Tm sb=>?_;exact hQ _ _ hx ⟨Tm,x.2.at λo eo=>(sb.2 l ul).trans eo⟩ ⟨λb o hb eo=>(sb.2 b (λh=>hb (by simp[h]))).trans eo,Z,Z,Z,lA _⟩
 done:=λs Q E x hQ=>wpAny_pyNext_list_end hh x.1 x.2 (Array.getElem?_eq_none (lA _)) λh' eb=>hQ _ ⟨λb o hb eo=>eb b o (λh=>hb (by simp[h])) eo,Z,Z,Z,lA _⟩
 self:=λ_ _ _ _ x hQ=>wpAny_pyIter_listiter x.1 hQ
theorem qN{ns:List Int}{us:List Value}(r:Vals (ns.map V.int) us):∀i v,us.toArray[i]? =some v->∃t,v=Value.int (ns.getD i 0) t:=λi v hv=>by
 have h1:us[i]? =some v:=by simpa using hv
 have bn:=(yaj.mp h1).1;have hl:=r.length;rw[lu]at hl;have h2:(ns.map V.int)[i]? =some (V.int (ns.getD i 0)):=by
  rw[lK,yah (by lia)];simp[List.getD,yah (show i<ns.length by lia)]
 obtain⟨u,e,q⟩:=r.get h2;rw[h1]at e;cases e;exact q
theorem qO(ns:List Int):∀k,k<=ns.length->preSum (λi=>ns.getD i 0) k=(ns.take k).sum:=by
 intro k
 induction k with
 |zero=>intro _;rfl
 |succ k ih=>
  intro hk;have e:ns.take (k+1)=ns.take k++[ns.getD k 0]:=by
   rw[yaE,yah (by lia)];simp[List.getD,yah (show k<ns.length by lia)]
  show preSum _ k+ns.getD k 0=_;rw[ih (by lia),e,List.sum_append];simp
theorem Od(val:Nat->Int):∀k,argBest (λi j=>decide (val i>val j)) k<=k/\∀i,i<=k->val i<=val (argBest (λi j=>decide (val i>val j)) k):=by
 intro k
 induction k with
 |zero=>exact⟨lA _,λi hi=>by rw[Nat.le_zero.mp hi];exact Int.le_refl _⟩
 |succ k ih=>
  unfold argBest
  by_cases h:val (k+1)>val (argBest (λi j=>decide (val i>val j)) k)
  .rw[yaf (ly h)];refine⟨lA _,λi hi=>?_⟩;rcases ybc i (k+1)with h1|h1
   .have:=ih.2 i (by lia);lia
   .rw[show i=k+1 by lia];exact Int.le_refl _
  .rw[yac (by rw[ydL];exact h)];refine⟨by lia,λi hi=>?_⟩;rcases ybc i (k+1)with h1|h1
   .exact ih.2 i (by lia)
   .rw[show i=k+1 by lia];lia
section
theorem jM(hc:X.calm=true):Wv X (.builtin "sum") (λxs H Q=>∃(p:Addr)(ns:List Int),xs=[.ref p]/\az X.K H p (ns.map V.int)/\Q (.int ns.sum) H):=by
 intro U s σ H xs us Q I r h;obtain⟨p,ns,rfl,hq,q⟩:=h;obtain⟨u,rfl,ru⟩:=vals1 r;obtain rfl:u=Value.ref p:=ru;obtain⟨ap,rv,pl,hl⟩:=I.list hq;have fU:=pl.isList;have bn:p<s.heap.objs.size:=by obtain⟨o,e,_⟩:=fU;exact yae e
 have hlen:=rv.length;rw[lu]at hlen;refine call_sum_walkAnyS (ydI fU ?_);have I2:Inv X U σ H {s with heap:=s.heap.push {cls:=.type "list_iterator",data:=.fields #[.ref p,.int 0 0]}}:=I.kept (t':=s.toks) λb o e=>yaa _ e;refine⟨s.heap.objs.size,_,_,_,_,_,_,λi=>ns.getD i 0,Z,Yu (A:=X.A.in1) (I.ok.hd hc) _ p (yal bn) ap.toArray,⟨⟨_,yam _ rfl,Z,Z⟩,fU.push _⟩,λb hb=>?_,qN rv,λs' t' hm=>?_⟩
 .show b<(s.heap.push _).objs.size;rw[ybg];rcases yag.mp hb with rfl|hb
  .exact ydT _
  .rw[yak.mp hb];exact ydK bn
 .obtain⟨f0,f1,f2,f3,f4,f5⟩:=I.wU (lA _) (I.ai.fresh (lA _));obtain⟨h',g',d',DL,oR⟩:=s';obtain rfl:g'=s.gens:=hm.gens.symm;obtain rfl:d'=s.drawn:=hm.drawn;obtain rfl:oR=s.os:=hm.os;have e:preSum (λi=>ns.getD i 0) ap.toArray.size=ns.sum:=by
   rw[lW, <-hlen,qO ns _ (lA _),List.take_length]
  rw[e];refine⟨.int ns.sum,H,?_,⟨t',Z⟩,q⟩;exact(I2.turned (h':=h') (t':=DL) (it:=s.heap.objs.size) (λb o hb eo=>hm.heap b o (by simpa using hb) eo) f0 f1 f3 f4 f5:)
theorem kh(hc:X.calm=true):Wv X (.builtin "max") (λxs H Q=>∃(p:Addr)(ns:List Int),xs=[.ref p]/\az X.K H p (ns.map V.int)/\ns≠[]/\∀m,m∈ns->(∀n∈ns,n<=m)->Q (.int m) H):=by
 intro U s σ H xs us Q I r h;obtain⟨p,ns,rfl,hq,ul,q⟩:=h;obtain⟨u,rfl,ru⟩:=vals1 r;obtain rfl:u=Value.ref p:=ru;obtain⟨ap,rv,pl,hl⟩:=I.list hq;have fU:=pl.isList;have bn:p<s.heap.objs.size:=by obtain⟨o,e,_⟩:=fU;exact yae e
 have hlen:=rv.length;rw[lu]at hlen;have eh:0<ns.length:=by cases ns with|nil=>exact absurd rfl ul|cons a r=>exact yeE _
 refine call_max_walkS (ydI fU ?_);have I2:Inv X U σ H {s with heap:=s.heap.push {cls:=.type "list_iterator",data:=.fields #[.ref p,.int 0 0]}}:=I.kept (t':=s.toks) λb o e=>yaa _ e;refine⟨s.heap.objs.size,_,_,_,_,_,_,_,Z,Yu (A:=X.A.in1) (I.ok.hd hc) _ p (yal bn) ap.toArray,⟨⟨_,yam _ rfl,Z,Z⟩,fU.push _⟩,λb hb=>?_,by rw[lW];lia,CmpOf.ints_gt (λi=>ns.getD i 0) (qN rv),λv s' hv hm=>?_⟩
 .show b<(s.heap.push _).objs.size;rw[ybg];rcases yag.mp hb with rfl|hb
  .exact ydT _
  .rw[yak.mp hb];exact ydK bn
 .obtain⟨f0,f1,f2,f3,f4,f5⟩:=I.wU (lA _) (I.ai.fresh (lA _));obtain⟨h',g',d',DL,oR⟩:=s';obtain rfl:g'=s.gens:=hm.gens.symm;obtain rfl:d'=s.drawn:=hm.drawn;obtain rfl:oR=s.os:=hm.os;obtain⟨t,rfl⟩:=qN rv _ _ hv;obtain⟨b1,b2⟩:=Od (λi=>ns.getD i 0) (ap.toArray.size-1);generalize argBest (λi j=>decide (ns.getD i 0>ns.getD j 0)) (ap.toArray.size-1)=j at b1 b2;rw[lW]at b1 b2;have getD_eq:∀i,i<ns.length->ns.getD i 0=ns[i]! :=λi hi=>by simp[List.getD,yah hi]
  have hj:j<ns.length:=by lia
  refine⟨.int (ns.getD j 0),H,?_,⟨t,Z⟩,q _ ?_ λn hn=>?_⟩
  .exact(I2.turned (h':=h') (t':=DL) (it:=s.heap.objs.size) (λb o hb eo=>hm.heap b o (by simpa using hb) eo) f0 f1 f3 f4 f5:)
  .have:ns.getD j 0=ns[j]:=by simp[List.getD,yah hj]
   rw[this];exact List.getElem_mem hj
  .obtain⟨i,hi,rfl⟩:=List.mem_iff_getElem.mp hn;have e:ns.getD i 0=ns[i]:=by simp[List.getD,yah hi]
   rw[<-e];exact b2 i (by lia)
end
structure aB(P:Program)(w:World)(K:Frag)(a:Addr)(al:List (Key × V)):Prop where
 ne:(a==sysModules)=false
 ok:∀h:Heap,K.In h->∃vs,KV al vs/\h.DictOf (JA P w) a vs
section
variable {ty:TE}{pos:Pos}{al:List (Key × V)}
def Oe(a:Addr)(al:List (Key × V))(td ty:TE):TE:=λσ H Q=>td σ H λx H1=>ty σ H1 λy H2=>∃k v,x=.ref a/\y=kV k/\Wz al k=some v/\Q v H2
theorem Wg(D:aB X.prog X.w X.K a al)(ho:PE X o td)(hi:PE X i ty)(hs:ET i):PE X (.Subscript o i pos) (Oe a al td ty):=by
 intro U s σ H Q I h;refine xL PySem.F.slot_dict_getitem.lookup hs (av (ho U s σ H _ I h) λu s1⟨x,H1,I1,rx,q1⟩=>av (hi U s1 σ H1 _ I1 q1) λiv s2⟨y,H2,I2,ry,k,v,ex,ey,l,q2⟩=>?_);subst ex ey;obtain rfl:u=Value.ref a:=rx;obtain⟨vs,rel,dd⟩:=D.ok s2.heap I2.bz;obtain⟨w',hw,IR⟩:=jx.some_of (v:=v) (o:=valueAt vs k) (by rw[<-l];exact rel.val k);exact⟨dd.typeIs,wpAny_getItem_of (UH ry) dd.mapOf hw ⟨v,H2,I2.tok _,IR,q2⟩⟩
def Of(a:Addr)(al:List (Key × V))(ty td:TE):TE:=λσ H Q=>ty σ H λy H1=>td σ H1 λx H2=>∃k,x=.ref a/\y=kV k/\Q (.bl (!(Wz al k).isSome)) H2
theorem WA(D:aB X.prog X.w X.K a al)(hi:PE X i ty)(ho:PE X o td):PC X .NotIn i o (Of a al ty td):=by
 intro U s σ H Q I h;refine av (hi U s σ H _ I h) λiv s1⟨y,H1,I1,ry,q1⟩=>av (ho U s1 σ H1 _ I1 q1) λu s2⟨x,H2,I2,rx,k,ex,ey,q2⟩=>?_;subst ex ey;obtain rfl:u=Value.ref a:=rx;obtain⟨vs,rel,dd⟩:=D.ok s2.heap I2.bz;refine wpAny_notIn_of (UH ry) D.ne dd.mapOf ?_;rw[<-(rel.val k).Vt];exact⟨.bl _,H2,I2.tok _,Z,q2⟩
end
theorem boot_sum:bootBuiltins "sum"=some (.builtin "sum"):=by boot_by_name
section
theorem Og:Eu X .Add (λx y H Q=>∃i j,x=.str i/\y=.str j/\i.length+j.length<=sizeLine/\Q (.str (i++j)) H):=by
 intro U s σ H x y v u Q I r1 r2 h;obtain⟨i,j,e1,e2,hl,q⟩:=h;subst e1;subst e2;obtain⟨t,rfl⟩:=r1;obtain⟨t',rfl⟩:=r2;exact SB.iadd (λt2 k=>⟨.str _,H,I.tok k,⟨t2,Z⟩,q⟩) hl
theorem Ve{elt tg iter:Expr}{ifs:List Expr}{scope:Scope}{pos BQ py:Pos}{tt:TT}(hc:X.calm=true)(S:b9 NB scope)(hi:PI X tg iter wi)
  (hg:∀s H ex,PG (Zp X NB scope s H ex) tg g) (ht:∀s H ex,Bq (Zp X NB scope s H ex) ifs tt) (he:∀s H ex,PE (Zp X NB scope s H ex) elt te)
  (hN:X.N.Nodup) (Oh:X.N[iy]? =some y) (hy:Loc X.env.scope y) (Oi:swapsWith (.ListComp elt [⟨tg,iter,ifs,0⟩] scope pos) (some (.Name y py)) BQ.line X.env=pure true)
  (hs:∀x,foldedSetIterable iter X.env x=pure x:=by intro _;rfl) (hf:X.fn y=true\/X.env.scope.names.lookup y=some .local:=by first|exact .inl rfl|exact .inr rfl|assumption):
  PS X (.Assign [.Name y py] (.ListComp elt [⟨tg,iter,ifs,0⟩] scope pos) BQ) (Wt (Yd NB wi g tt te) (JI iy)):=by
 intro U s σ H Dn I h;rw[exec_Assign_Name_used _ _ _ _ Oi];refine yab (ycE (yab ?_));show wpAny _ X.A (do let _<-comprehension (.ListComp elt [⟨tg,iter,ifs,0⟩] scope pos) scope X.env _ (newList []) false (eval iter X.env) (some (assign (.Name y py) X.env))) _ _ s;refine yab (yaB (ycB (use:=some (assign (.Name y py) X.env)) (Q:=λ_ s'=>SP X U Dn .next s') (cl:=[]) Z hs (UQ S.aX) S.kind S.loc (av (hi U s σ H _ I h) λv s1 h1=>av h1 λBa s2 h2=>?_)) (λ_ s' hq=>yan (yan hq)) λ_ _ e=>e);obtain⟨it,fp,tn,J,H2,e,I2,T,fP,f2,W,⟨m0,w0⟩,turn⟩:=h2;subst e;refine yaX ?_;have cU:∀b o,s2.heap.get? b=some o->(s2.heap.push {cls:=.type "list",data:=.seq ([]:List Value).toArray}).get? b=some o:=λb o e=>yaa _ e;have I3:Inv X U σ H2 {s2 with heap:=s2.heap.push {cls:=.type "list",data:=.seq ([]:List Value).toArray}}:=I2.kept (t':=s2.toks) cU;have dU:tn 0 (s2.heap.push {cls:=.type "list",data:=.seq ([]:List Value).toArray}):=T.keep _ _ _ fP λb _ o e=>cU b o e;have cV:(s2.heap.push {cls:=.type "list",data:=.seq ([]:List Value).toArray}).get? s2.heap.objs.size=some (Kw []):=yam _ rfl;have i4:H2 s2.heap.objs.size=none:=I2.ai.fresh (lA _);have Sc:∀b o,s2.heap.get? b=some o->b≠s2.heap.objs.size:=λb o e=>yal (yae e);have i5:∀b∈fp,∃o,s2.heap.get? b=some o:=λb hb=>let ⟨o,e,_⟩:=T.obj _ _ fP b hb;⟨o,e⟩;have sw:X.s₀.heap.objs.size<=s2.heap.objs.size:=I2.sz;have eE:s2.heap.objs.size≠X.env.locals:=yby I2.lt;have dM:∀x c,X.env.cells.lookup x=some c->c≠s2.heap.objs.size:=λx c e=>let ⟨v,o,e1,_⟩:=I2.cell x c e;Sc c o e1;have eF:∀p∈X.pn++U,p.1≠s2.heap.objs.size:=λp hp=>Sc p.1 _ (I2.pin p hp).1;have eG:s2.heap.objs.size∉aK X.stack:=λz=>let ⟨o,e,_⟩:=(I2.stack.mem z).2;Sc _ o e rfl;generalize Br:({s2 with heap:=s2.heap.push {cls:=.type "list",data:=.seq ([]:List Value).toArray}}:Shared)=s3 at I3 ⊢;have Bs:s3.heap=s2.heap.push {cls:=.type "list",data:=.seq ([]:List Value).toArray}:=by rw[<-Br]
 rw[<-Bs]at dU cV cU;generalize s2.heap.objs.size=D at cV i4 Sc sw eE dM eF eG ⊢;refine KA S.kind λRe s4 eI x4=>?_;subst eI;rw[WW S.aX];have eJ:∀b o,s3.heap.get? b=some o->b<s3.heap.objs.size:=λb o e=>yae e;have fT:∀b∈fp,b<s3.heap.objs.size:=λb hb=>let ⟨o,e⟩:=i5 b hb;eJ b o (cU b o e);have LE:D<s3.heap.objs.size:=eJ D _ cV;have SC:∀b∈fp,b≠D:=λb hb=>let ⟨o,e⟩:=i5 b hb;Sc b o e;obtain⟨h4,iu,rfl,TD⟩:=x4.done;have Bt:∀b o,X.M.get? b=some o->b∉D::fp:=λb o e hb=>by
  rcases yag.mp hb with rfl|hb
  .exact absurd (yad (yae (I2.ok.bs b o e).1) sw) (lY _)
  .obtain⟨_,_,_,f3,_⟩:=f2 b hb;rcases f3 with z|z
   .exact I2.ok.bI b o e z
   .exact absurd (yad (yae (I2.ok.bs b o e).1) z) (lY _)
 have i6:∀b∈D::fp,b∉aK X.stack:=λb hb hf=>by
  rcases yag.mp hb with rfl|hb
  .exact eG hf
  .obtain⟨_,f1,Bu,_⟩:=f2 b hb;rcases yag.mp (I2.K8 b hf)with z|z
   .exact f1 z
   .exact Bu z
 have eK:∀y c,(cellsFrom (s3.heap.objs.size+1) scope.names []).lookup y=some c->s3.heap.objs.size<c:=λy c e=>x4.above y c (yaw e);have cy:∀b∈D::fp,b<s3.heap.objs.size:=λb hb=>by
  rcases yag.mp hb with rfl|hb
  .exact LE
  .exact fT b hb
 have Bv:(Zp X NB scope s3 H2 (D::fp)).Ok:=by
  refine⟨I3.ok.mod,S.kind,I3.ok.glob,I3.ok.blt,lA _,λy z c h1 h2=>?_,λy hy=>?_,λy c _ h=>ybi (eK y c h),I3.ok.hd,I3.ok.frames,.inl rfl,λb hb=>⟨yal (cy b hb),λy c e z=>?_⟩,I3.bs,yas I3.ok.cN I3.sz,Bt,i6,I3.stack,I3.KI⟩
  .exact name_of_addr x4.apart (yaw h1) (yaw h2)
  .have hy:scope.names.lookup y=some .cell\/scope.names.lookup y=some .free:=hy;rcases hy with hy|hy
   .exact W8 hy
   .exact absurd rfl (S.aX _ (yaw hy))
  .have:=eK y c e;rw[z]at this;exact absurd (yaD this (cy b hb)) (lY _)
 have rep:∀(j:Nat)(v:V),(replicate NB.length (none:Option V))[j]? ≠some (some v):=λj v z=>by
  rw[ybr]at z
  split at z<;>cases z
 have IB:Inv (Zp X NB scope s3 H2 (D::fp)) [(D,Kw [])] (replicate NB.length none) H2 {s3 with heap:=h4,toks:=iu}:=by
  refine⟨Bv,Z,I3.bare,Un.kept TD,⟨_,x4.toInCall.ns,λi y v h1 h2 h3=>absurd h2 (rep i v)⟩,λy c h=>⟨_,x4.cell y c h⟩,I3.ai.fresh (lA _),λy c h=>I3.ai.fresh (ybi (eK y c h)),λp hp=>?_,I3.ai.kept TD,by rw[lN]⟩;obtain rfl:p=(D,Kw []):=by simpa using hp
  exact⟨TD _ _ cV,i4,yal LE,eG,λv z=>nomatch z⟩
 have pi:∀{H':Hp}{ys:List Value},(∀b∈fp,H' b=none)->∀b∈fp,xw (Zp X NB scope s3 H2 (D::fp)) [(D,Kw ys)] H' b:=λhn b hb=>
  ⟨hn b hb,yal (fT b hb),i6 b (lG _ hb),.inl (lG _ hb),λy c e z=>by
   have:=eK y c e;rw[z]at this;exact absurd (yaD this (fT b hb)) (lY _),λp hp=>by
    obtain rfl:p=(D,_):=by simpa using hp
    exact(SC b hb).symm⟩
 have i7:tn 0 h4:=T.keep _ _ _ dU λb _ o e=>TD b o e;have Bw:∀b∈fp,H2 b=none:=λb hb=>(f2 b hb).1;have dJ:(Zp X NB scope s3 H2 (D::fp)).calm=true:=hc;have loop:codeAny (model X.prog X.w) X.A (.compLoop (.ListComp elt [⟨tg,iter,ifs,0⟩] scope pos) 0 (.ref it) (.ref D) (xY scope X.env s3.heap.objs.size))
   (compPost (model X.prog X.w) X.A X.xe (some (assign (.Name y py) X.env)) (λ_ s'=>SP X U Dn .next s') (.ref D) s3.heap.objs.size) {s3 with heap:=h4,toks:=iu}:=by
  refine Vz (λn s'=>∃i vs ys H',Inv (Zp X NB scope s3 H2 (D::fp)) [(D,Kw ys)] (replicate NB.length none) H' s'/\Vals vs ys/\vs.length<=sizeLine/\tn i s'.heap/\(∀b∈fp,H' b=none)/\W i n vs H') ?_ m0 ⟨0,[],[],H2,IB,.nil,lX _,i7,Bw,w0⟩;rintro n s5 ⟨i,vs,ys,H5,I5,rv,eM,dG,fQ,w5⟩;rcases turn i n vs H5 w5 with⟨stop,qn⟩|⟨go,bn,N,hN,step⟩
  .refine yaB (T.done (Zp X NB scope s3 H2 (D::fp)) Z Z Z dJ i _ s5 _ H5 (λ_ _=>False) I5 (pi fQ) dG stop) (λr s6⟨hr,I6⟩=>?_) (λ_ _ z=>z.elim);subst hr;obtain⟨m6,By,_⟩:=id I6.loc;have si:H5 s3.heap.objs.size=none:=I6.free;have Bz:Un (aK X.stack) (D::fp) H2 H5 s3.heap s6.heap:=I6.M;have I7:Inv X U σ H5 s6:=I3.xt (s':=s6) I6.os Bz I6.ai I6.bare λb hb=>by
    rcases yag.mp hb with rfl|hb
    .exact⟨.inr sw,eE,dM,eF⟩
    .obtain⟨_,f1,_,f3,f4,f5⟩:=f2 b hb;exact⟨f3,f1,f4,f5⟩
   obtain⟨eD,nD,_⟩:=I6.pin (D,Kw ys) (by simp);have i8:H5 D=none:=nD;have BA:s6.heap.get? D=some (Kw ys):=eD;have BB:X.s₀.heap.get? D=none:=by
    cases q:X.s₀.heap.get? D with
    |none=>rfl
    |some o=>exact absurd (yad (yae q) sw) (lY _)
   have I8:Inv X U σ (upd H5 D (.lst vs)) s6:=I7.vn i8 BB eE dM eF ⟨eM,ys,ys.length,rv,BA⟩;have hq:=qn D i8;have Oj:X.s₀.heap.objs.size<=s3.heap.objs.size:=I3.sz;have cL:s3.heap.objs.size≠X.env.locals:=yby I3.lt;have cC:∀x c,X.env.cells.lookup x=some c->c≠s3.heap.objs.size:=λx c e=>let ⟨v,o,e1,_⟩:=I3.cell x c e;yal (eJ c o e1);have cP:∀p∈X.pn++U,p.1≠s3.heap.objs.size:=λp hp=>yal (eJ p.1 _ (I3.pin p hp).1);show wpAny (model X.prog X.w) X.A (assign (.Name y py) X.env (.ref D)) _ X.xe s6;refine wpAny_assign_Name (Vl (v:=.ref D) I8 hN Oh hy Z (λs9 I9⟨a9,Ol,Om⟩=>?_) hf);have na:s3.heap.objs.size≠a9:=by
    rcases Om with rfl|z
    .exact cL
    .exact(cC y a9 z).symm
   refine⟨m6,By.sameBut Ol na,λOo Ft=>⟨_,_,?_,hq⟩⟩;have Fu:upd H5 D (.lst vs) s3.heap.objs.size=none:=by rw[Qx (yby LE)];exact si
   exact(I9.turned (h':=Oo) (t':=s9.toks) (it:=s3.heap.objs.size) (λb o hb e=>(Ft.2 b hb).trans e) Fu cL (.inr Oj) cC cP:)
  .refine yaB (T.item (Zp X NB scope s3 H2 (D::fp)) Z Z Z dJ i _ s5 _ H5 (λ_ _=>False) I5 (pi fQ) dG go) (λr s6⟨u,hr,h6⟩=>?_) (λ_ _ z=>z.elim);subst hr;refine yaB h6 (λ_ s7⟨x,H7,I7,r7,y7,eO,BC⟩=>?_) (λ_ _ z=>z.elim);have BD:=I7.pinned (pi BC) (T.obj _ _ eO);refine yaB (hg s3 H2 (D::fp) _ s7 _ H7 x u _ BD r7 (step x H7 y7)) (λ_ s8⟨σ8,H8,I8,q8⟩=>?_) (λ_ _ z=>z.elim);refine yaB (ht s3 H2 (D::fp) _ s8 σ8 H8 _ I8 q8) (λok s9⟨H9,I9,q9⟩=>?_) (λ_ _ z=>z.elim);have i9:∀{σ':St}{H':Hp}{s':Shared},Inv (Zp X NB scope s3 H2 (D::fp)) ([(D,Kw ys)]++Vn fp s7.heap) σ' H' s'->tn (i+1) s'.heap/\∀b∈fp,H' b=none:=λJ=>
    ⟨T.keep _ _ _ eO λb hb o e=>(J.pin (b,o) (lE _ (lE _ (Zl hb e)))).1,λb hb=>by
     obtain⟨o,e,d⟩:=T.obj _ _ eO b hb;exact(J.pin (b,o) (lE _ (lE _ (Zl hb e)))).2.1⟩
   have wk:∀{σ':St}{H':Hp}{s':Shared}{pl:List (Addr × Obj)},Inv (Zp X NB scope s3 H2 (D::fp)) pl σ' H' s'->Inv (Zp X NB scope s3 H2 (D::fp)) pl (replicate NB.length none) H' s':=λJ=>
    J.weak (by rw[lN];exact J.len.symm) λj v z=>absurd z (rep j v)
   cases ok with
   |false=>
    rw[yac (by lia)]at q9;rw[yac (by lia)];obtain⟨m',hm,w9⟩:=hN vs H9 q9;obtain⟨t9,f9⟩:=i9 I9;exact⟨m',hm,i+1,vs,ys,H9,wk I9.ZT,rv,eM,t9,f9,w9⟩
   |true=>
    rw[yaf rfl]at q9;rw[yaf rfl];refine yaB (he s3 H2 (D::fp) _ s9 σ8 H9 _ I9 q9) (λy cW⟨v,No,eP,eQ,BE⟩=>?_) (λ_ _ z=>z.elim);obtain⟨eD,nD,_,nf,_⟩:=eP.pin (D,Kw ys) (by simp);have BF:=rv.length;refine append_at (hsz:=by show ys.toArray.size<=sizeLine;rw[lW, <-BF];exact eM) eD λi' eR eS=>?_;obtain⟨m',hm,BG⟩:=hN (vs++[v]) No BE;obtain⟨o4,BH⟩:=i9 eP;have eT:=eP.ZT;have j':∀b o,b≠D->cW.heap.get? b=some o->i'.get? b=some o:=λb o hb e=>(eR.2 b hb).trans e;have IE:Inv (Zp X NB scope s3 H2 (D::fp)) [] σ8 No cW:=eT.XU λp hp=>nomatch hp;have BI:Inv (Zp X NB scope s3 H2 (D::fp)) [] σ8 No {cW with heap:=i'}:=IE.turned (t':=cW.toks) j' nD (yal LE) (.inl lH) (λy' c e z=>by
     have:=eK y' c e;rw[z]at this;exact absurd (yaD this LE) (lY _)) (λp hp=>absurd (show p∈([]:List (Addr × Obj))from hp) (by simp))
    have eL:({cls:=.type "list",data:=.seq (ys.toArray.push y) (ys.length+1)}:Obj)=Kw (ys++[y]):=by
     show({cls:=.type "list",data:=.seq (ys.toArray.push y) (ys.length+1)}:Obj)={cls:=.type "list",data:=.seq (ys++[y]).toArray (ys++[y]).length};rw[lq,lC,ydJ]
    refine⟨m',hm,i+1,vs++[v],ys++[y],No,wk (BI.XU λp hp=>?_),rv.append (.cons eQ .nil),by rw[lq,lC];exact bn,T.keep _ _ _ o4 λb hb o e=>j' b o (SC b hb) e,BH,BG⟩;obtain rfl:p=(D,Kw (ys++[y])):=by simpa using hp
    exact⟨by rw[<-eL];exact eS,nD,yal LE,nf,λv z=>nomatch z⟩
 exact ycP loop (T.self _ 0 _ _ _ i7 loop)
theorem zO(hK:X.K=K0):aW X (compareOp .In) (iV K0 false):=by
 subst hK;exact XC
theorem kj:cu X "str.count" (DJ (λ_ _=>True) λz y=>.int (Txt.count z y)):=by
 intro U s σ H x vs v us Q I rx rv h;obtain⟨z,y,rfl,rfl,_,q⟩:=h;obtain⟨t,rfl⟩:=rx;obtain⟨u,rfl,t',rfl⟩:=vals1 rv;exact yck F.slot_str_count F.entry_str_count (F.args_str_count_2 _ _) (gives_str_count z y t t') ⟨.int _,H,I.tok _,⟨_,Z⟩,q⟩
end
structure aP(K:Frag)(H:Hp)(a t r:Addr)(ns:List Int)(c:Int):Prop where
 sq:az K H a (ns.map V.int)
 tw:∃rs,aE H t r c rs
 nat:a≠t
 bX:a≠r
 ln:ns.length<=63
section
variable {K:Frag}{H H':Hp}{a t r:Addr}{ns:List Int}{c c':Int}
theorem aP.drawn(B:aP K H a t r ns c)(A:Apart t r H H'){rs:List (Key × V)}(T:aE H' t r c' rs):aP K H' a t r ns c':=
 ⟨A.seq B.sq B.nat B.bX,⟨rs,T⟩,B.nat,B.bX,B.ln⟩
theorem aP.same(B:aP K H a t r ns c)(e:Qs H H'):aP K H' a t r ns c:=by
 obtain⟨rs,T⟩:=B.tw;exact⟨(Apart.of e).seq B.sq B.nat B.bX,⟨rs,T.same e⟩,B.nat,B.bX,B.ln⟩
theorem aw.Fv(S:aw H a t r Pa q ns c):aP K H a t r ns c:=⟨S.sq,S.tw,S.nat,S.bX,S.ln⟩
theorem aP.draw(B:aP K H a t r ns c)(hi:σ[i]? =some (some (.ref a)))(hj:σ[j]? =some (some (.ref t)))(hn:∀R:VK,R (.int n) H->tn σ H R) (h0:0<n) (h1:n<1000000) (hc:c<100000)
  (k:∀(d:Nat)(H':Hp),(d:Int)<n->aP K H' a t r ns (c+1)->Apart t r H H'->Q (.int d) H'):Wx (Z2 K) [] E (Jy (ZN i) (Jy (ZN j) (Jy tn Ww))) σ H Q:=by
 obtain⟨rs,T⟩:=B.tw;refine⟨_,hi,_,hj,hn _ ⟨a,t,r,ns,c,n,rs,Z,B.sq,T,B.nat,B.bX,B.ln,hc,h0,h1,λv cx H' v0 v1 T' A'=>?_⟩⟩;obtain⟨d,rfl⟩:=ybs v0;exact k d H' v1 (B.drawn A' T') A'
theorem aP.keep(B:aP K H a t r ns c)(A:Apart t r H H')(e:H b=some o)(n:∀al,o≠ .dK al):H' b=some o:=by
 obtain⟨rs,T⟩:=B.tw;refine A b o e (λz=>?_) λz=>?_
 .rw[z,T.tw]at e;cases e;exact n _ rfl
 .rw[z,T.rt]at e;cases e;exact n _ rfl
theorem aP.free(B:aP K H a t r ns c)(B':aP K H' a t r ns c')(A:Apart t r H H')(h:H' q=none):H q=none:=by
 obtain⟨cx,T'⟩:=B'.tw;cases e:H q with
 |none=>rfl
 |some o=>
  by_cases z1:q=t
  .rw[z1,T'.tw]at h;cases h
  .by_cases z2:q=r
   .rw[z2,T'.rt]at h;cases h
   .rw[A q o e z1 z2]at h;cases h
theorem aP.pick{xs:List V}(B:aP K H a t r ns c)(hi:σ[i]? =some (some (.ref a)))(hj:σ[j]? =some (some (.ref t)))(lw:∀R:List V->Hp->Prop,R xs H->ta σ H R) (hn:n=(xs.length:Int)) (h0:0<n) (h1:n<1000) (hc:c<100000)
  (k:∀(d:Nat)(x:V)(H':Hp),xs[d]? =some x->aP K H' a t r ns (c+1)->Apart t r H H'->Q x H'):bc (Am K) (Dv ta) (Wx (Z2 K) [] E (Jy (ZN i) (Jy (ZN j) (Jy (tC (.int n)) Ww)))) σ H Q:=by
 have hz:=zza
 refine lw _ ⟨by lia,λp hp=>?_⟩;have S:=Qs.new (o:=.lst xs) hp;refine(B.same S).draw hi hj (λR h=>h) h0 (by lia) hc λd H' hd B' A'=>?_;obtain⟨x,hx⟩:∃x,xs[d]? =some x:=⟨_,yah (by lia)⟩;have Fw:H' p=some (.lst xs):=(B.same S).keep A' Qd λ_ z=>nomatch z;exact⟨p,xs,d,x,Z,Z,.inl (.inl Fw),Zc hx,k d x H' hx B' (λb o e n1 n2=>A' b o (S _ _ e) n1 n2)⟩
end
noncomputable def BR(z:Str):It:=⟨λi _=>i<z.cps.size,λi H x H'=>H'=H/\∃c,z.cps[i]? =some c/\x=.str ⟨#[c]⟩,λi _=>z.cps.size<=i⟩
theorem vF{P:Program}{w:World}{K:Frag}{tg:Expr}(it:Addr)(z:Str)(t:Tok):Turn P w K tg (BR z) [it] it (λi h=>h.IsStrIter it "str_ascii_iterator" z t i) where
 mem:=by simp
 obj:=λi h st b hb=>by
  have e:b=it:=by simpa using hb
  subst e;obtain⟨o,e,c,d⟩:=st;exact⟨o,e,λv z=>by rw[d]at z;cases z⟩
 keep:=λi h h' st k=>by
  obtain⟨o,e,c,d⟩:=st;exact⟨o,k it (by simp) o e,c,d⟩
 item:=by
  intro X hP hw hK hc i U s σ H E I hf st hg;subst hP hw hK;obtain⟨f0,f1,f2,f3,f4,f5⟩:=hf it (by simp);have eU:i<z.cps.size:=hg;obtain⟨c,oU⟩:∃c,z.cps[i]? =some c:=⟨z.cps[i],by simp[eU]⟩;refine wpAny_pyNext_ascii_item st oU λh' Tm sb=>?_;have I1:Inv X U σ H {s with heap:=h',toks:=s.toks+1}:=I.turned (λb o hb e=>(sb.2 b hb).trans e) f0 f1 f3 f4 f5;obtain⟨o,e,cc,d⟩:=id Tm;exact⟨_,Z,xx (s:={s with heap:=h',toks:=s.toks+1}) e cc d (by lia) ⟨.str ⟨#[c]⟩,H,I1,⟨_,Z⟩,⟨Z,c,oU,Z⟩,Tm,λb hb=>(hf b hb).1⟩⟩
 done:=by
  intro X hP hw hK hc i U s σ H E I hf st hg;subst hP hw hK;obtain⟨f0,f1,f2,f3,f4,f5⟩:=hf it (by simp);have eU:z.cps.size<=i:=hg;exact wpAny_pyNext_ascii_end (I.ok.hd hc) st (by simp[eU]) λh' eb=>⟨Z,I.turned (t':=s.toks) (λb o hb e=>eb b o hb e) f0 f1 f3 f4 f5⟩
 self:=λ_ _ _ _ _ st h=>wpAny_pyIter_striter_ascii st h
section
def BS(tl:TE):TI:=λσ H R=>tl σ H λx H1=>∃z:Str,x=.str z/\z.cps.all (· <128)=true/\R (BR z) H1
theorem KC(hl:PE X l tl):PI X tg l (BS tl):=by
 intro U s σ H R I h;refine av (hl U s σ H _ I h) λv s1⟨x,H1,I1,r1,q1⟩=>?_;obtain⟨z,e,ha,q⟩:=q1;subst e;obtain⟨t,rfl⟩:=r1;refine ycK ha ?_;refine⟨s1.heap.objs.size,[s1.heap.objs.size],_,_,H1,Z,I1.kept (t':=s1.toks) λb o e=>yaa _ e,vF _ z t,⟨_,yam _ rfl,Z,Z⟩,λb hb=>?_,q⟩;have e:b=s1.heap.objs.size:=by simpa using hb
 subst e;exact I1.wU (lA _) (I1.ai.fresh (lA _))
end
theorem Ko{tt:TT}(Pv:Nat->List V->Hp->Prop)(h:∀R:VK,R (.str z) H->tl σ H R) (ha:z.cps.all (· <128)=true) (h0:Pv 0 [] H) (hl:∀i vs H,i<=z.cps.size->Pv i vs H->vs.length<=i)
  (hs:∀i c vs H,z.cps[i]? =some c->Pv i vs H->g (.str ⟨#[c]⟩) (replicate NB.length none) H λσ2 H2=>tt σ2 H2 λb H3=>if b=true then te σ2 H3 λv H4=>Pv (i+1) (vs++[v]) H4 else Pv (i+1) vs H3)
  (hd:∀vs H,Pv z.cps.size vs H->∀p,H p=none->Q (.ref p) (upd H p (.lst vs))) (hz:z.cps.size<sizeLine):Yd NB (BS tl) g tt te σ H Q:=by
 refine h _ ⟨z,Z,ha,?_⟩;refine⟨λi m vs H=>m=z.cps.size-i/\i<=z.cps.size/\Pv i vs H,⟨z.cps.size,by simp,lX _,h0⟩,?_⟩;rintro i m vs H ⟨rfl,hi,p⟩;have hv:=hl i vs H hi p
 by_cases bn:i<z.cps.size
 .refine .inr ⟨bn,by lia,Pv (i+1),λCh H' p'=>⟨z.cps.size-(i+1),by lia,Z,bn,p'⟩,λx H' y=>?_⟩;obtain⟨e,c,hc,e2⟩:=y;subst e e2;exact hs i c vs _ hc p
 .have e:i=z.cps.size:=by lia
  subst e;exact .inl ⟨lA _,hd vs H p⟩
section
theorem kl:cu X "str.index" (λx vs H Q=>∃(z y:Str)(i:Nat)(r:List Nat),x=.str z/\vs=[.str y]/\occurrences z y 0 z.length 1=i::r/\Q (.int i) H):=by
 intro U s σ H x vs v us Q I rx rv h;obtain⟨z,y,i,r,rfl,rfl,ho,q⟩:=h;obtain⟨t,rfl⟩:=rx;obtain⟨u,rfl,t',rfl⟩:=vals1 rv;exact yck F.slot_str_index F.entry_str_index (F.args_str_index_2 _ _) (gives_str_index z y t t' i r ho) ⟨.int _,H,I.tok _,⟨_,Z⟩,q⟩
theorem qP(hu:X.A.units+1+n<cLine):aW X (compareOp .NotEq) (λx y H Q=>∃a b xs ys k,x=.ref a/\y=.ref b/\az X.K H a xs/\az X.K H b ys/\((bH X.K H n xs ys/\k=false)\/(xs.length≠ys.length/\k=true))/\Q (.bl k) H):=by
 intro U s σ H x y v u Q I rx ry h;obtain⟨a,b,xs,ys,k,e1,e2,ha,hb,lk,q⟩:=h;rcases lk with⟨lk,rfl⟩|⟨ln,rfl⟩
 .exact Oa hu U s σ H x y v u Q I rx ry ⟨a,b,xs,ys,e1,e2,ha,hb,lk,q⟩
 .subst e1 e2;obtain rfl:v=Value.ref a:=rx;obtain rfl:u=Value.ref b:=ry;obtain⟨ap,r1,p1,_⟩:=I.list ha;obtain⟨Db,r2,p2,_⟩:=I.list hb;have l1:=r1.length;have l2:=r2.length;refine SeqAt.RcNeAt.lists_lengths p1.isList p2.isList (by rw[lW,lW];simp;lia) (by lia) _ _ _ _ ?_;exact⟨.bl true,H,I,Z,q⟩
end
noncomputable def km(scope:Scope)(env:Env)(C:Addr):Env:=
 {scope:=relabel scope env,locals:=C,globals:=env.globals,cells:=Zs env.cells scope.names [],qual:=env.qual,func:=none,code:=env.code,frame:=env.frame,builtins:=env.builtins}
noncomputable abbrev Z4(X:Cx)(NB:List Str)(scope:Scope)(s:Shared)(H:Hp)(ex:List Addr):Cx:=
 {X with N:=NB,s₀:=s,H₀:=H,env:=km scope X.env s.heap.objs.size,L:=X.stack,ex:=ex,fn:=λ_=>false,pn:=[],xe:=λ_ _=>False}
structure dk(NB FR:List Str)(scope:Scope):Prop where
 kind:scope.kind=.function
 nd:(NB++FR).Nodup
 eV:∀y∈scope.names,y.2≠ .cell
 loc:∀y∈scope.names,y.2=.local->scope.names.lookup y.1=some .local
 Oq:(scope.names.map (·.1)).Nodup
 fr:∀y∈FR,(y,NameKind.free)∈scope.names
def Iy(n:Nat)(fi:List Nat)(wi:TI)(g:TG)(tt:TT)(te:TE):TE:=λσ H Q=>wi σ H λJ H1=>∃fv:List V,fi.map (λi=>σ[i]?)=fv.map (λv=>some (some v))/\∃W:Nat->Nat->List V->Hp->Prop,(∃m,W 0 m [] H1)/\∀i m vs H,W i m vs H->
 (J.stop i H/\∀p,H p=none->Q (.ref p) (upd H p (.lst vs)))\/(J.go i H/\vs.length<sizeLine/\∃N:List V->Hp->Prop,(∀Ch H',N Ch H'->∃m',m'<m/\W (i+1) m' Ch H')/\
  ∀x H',J.cR i H x H'->g x (replicate n none++fv.map some) H' λσ2 H2=>σ2.drop n=fv.map some/\tt σ2 H2 λb H3=>if b=true then te σ2 H3 λv H4=>N (vs++[v]) H4 else N vs H3)
noncomputable def iw(env:Env)(x:Str × NameKind):Str × NameKind:=if(x.2==NameKind.free&&env.scope.kind==.function&&env.kindOf x.1==some .cell)then(x.1,NameKind.cell)else(x.1,x.2)
theorem jN(env:Env)(h:y≠x.1)(l:List (Str × NameKind)):(iw env x::l).lookup y=l.lookup y:=by
 have hb:(y==x.1)=false:=yaC.mpr h;unfold iw
 split<;>rw[ybn,hb]
theorem US{env:Env}{scope:Scope}(nd:(scope.names.map (·.1)).Nodup)(h:(y,NameKind.free)∈scope.names)(hk:(env.scope.kind==.function)=true)(hc:env.scope.names.lookup y=some .cell):(relabel scope env).names.lookup y=some .cell:=by
 have key:∀l:List (Str × NameKind),(l.map (·.1)).Nodup->(y,NameKind.free)∈l->(l.map (iw env)).lookup y=some .cell:=by
  intro l
  induction l with
  |nil=>intro _ h;cases h
  |cons z r ih=>
   intro nd h;rw[lU,ycF]at nd;rw[lU];rcases yag.mp h with h|h
   .subst h;have e:(env.kindOf y==some NameKind.cell)=true:=by rw[show env.kindOf y=env.scope.names.lookup y from rfl,hc];rfl
    have e2:iw env (y,NameKind.free)=(y,NameKind.cell):=by unfold iw;rw[yaf (by rw[hk,e];rfl)]
    rw[e2,ybn,ycZ]
   .have ul:y≠z.1:=λq=>nd.1 (by rw[<-q];exact ybQ.mpr ⟨_,h,Z⟩);rw[jN env ul];exact ih nd.2 h
 exact key scope.names nd h
theorem UT{env:Env}{scope:Scope}(nc:∀y∈scope.names,y.2≠ .cell) (h:(relabel scope env).names.lookup y=some .cell\/(relabel scope env).names.lookup y=some .free):(y,NameKind.free)∈scope.names:=by
 have key:∀l:List (Str × NameKind),(∀y∈l,y.2≠ .cell)->((l.map (iw env)).lookup y=some .cell\/(l.map (iw env)).lookup y=some .free)->(y,NameKind.free)∈l:=by
  intro l
  induction l with
  |nil=>intro _ h;rcases h with h|h<;>simp at h
  |cons z r ih=>
   intro nc h;have hk:z.2≠ .cell:=nc z lH;rw[lU]at h
   by_cases hn:y=z.1
   .obtain⟨n,k⟩:=z;have hn:y=n:=hn;subst hn;have hf:k=.free:=by
     cases k with
     |cell=>exact absurd rfl hk
     |free=>rfl
     |_=>
      have e2:∀q:NameKind,(q==NameKind.free)=false->iw env (y,q)=(y,q):=λq hq=>by unfold iw;rw[yac (by rw[show((y,q).2==NameKind.free)=false from hq];simp)]
      rw[e2 _ rfl,ybn,ycZ]at h;rcases h with h|h<;>cases h
    rw[hf];exact lH
   .rw[jN env hn]at h;exact lG _ (ih (λy hy=>nc y (lG _ hy)) h)
 exact key scope.names nc h
theorem KE:∀(l:List (Str × NameKind))(n:Nat)(acc:List (Str × Addr)),(∀y∈l,y.2≠ .cell)->cellsFrom n l acc=acc
 |[],_,_,_=>rfl
 |(x,k)::r,n,acc,h=>by
  have hk:(k==NameKind.cell)=false:=yaC.mpr (h (x,k) lH);unfold cellsFrom;rw[hk];exact KE r n acc λy hy=>h y (lG _ hy)
theorem KF:∀(l:List (Str × NameKind))(h:Heap),(∀y∈l,y.2≠ .cell)->pushCells h l=h
 |[],_,_=>rfl
 |(x,k)::r,h,hn=>by
  have hk:(k==NameKind.cell)=false:=yaC.mpr (hn (x,k) lH);unfold pushCells;rw[hk];exact KF r h λy hy=>hn y (lG _ hy)
theorem VA{scope:Scope}{globals:Addr}{qual:Str}{env:Env}{cl:List (Str × Addr)}(hk:scope.kind=.function)(hn:∀y∈scope.names,y.2≠ .cell)
  (hQ:∀Re s',Re={scope:=scope,locals:=s.heap.objs.size,globals:=globals,cells:=cl,qual:=qual,func:=none,code:=env.code,frame:=env.frame,builtins:=env.builtins}->
   InCall s s.heap.objs.size (λ_=>none) s'->Q Re s'):
  wpAny qMa A (newFunctionEnv scope globals cl [] qual none .none (some env)) Q E s:=by
 simp only[newFunctionEnv,ydA,ybK];refine yab (wpAny_alloc ?_);refine yab (wpAny_layCells _ (λname kind cells=>by cases Fl:kind==NameKind.cell<;>simp[Fl]) _ _ _ _ ?_);rw[KE _ _ _ hn,KF _ _ hn];refine yab (yan (yan (hQ _ _ Z ?_)));exact⟨⟨_,_,Z⟩,Heap.Ns.new s.heap (.type "dict"),λb o e=>yaa _ e,lA _⟩
section
theorem UU{elt tg iter:Expr}{ifs:List Expr}{scope:Scope}{pos:Pos}{tt:TT}(hc:X.calm=true)(S:dk NB FR scope)(cO:xX scope X.env.scope=true)(Aq:fi.map (λi=>X.N[i]?)=FR.map some) (hi:PI X tg iter wi)
  (hg:∀s H ex,PG (Z4 X (NB++FR) scope s H ex) tg g) (ht:∀s H ex,Bq (Z4 X (NB++FR) scope s H ex) ifs tt) (he:∀s H ex,PE (Z4 X (NB++FR) scope s H ex) elt te)
  (hs:∀x,foldedSetIterable iter X.env x=pure x:=by intro _;rfl):PE X (.ListComp elt [⟨tg,iter,ifs,0⟩] scope pos) (Iy NB.length fi wi g tt te):=by
 intro U s σ H Q I h;have DM:∀y∈scope.names,y.2=.free->X.env.scope.names.lookup y.1=some .cell:=UP cO;have BU:∀y∈scope.names,y.2=.free->∃c,X.env.cells.lookup y.1=some c:=λy hy e=>I.ok.has y.1 (.inl (DM y hy e));have cX:∀y c,(Zs X.env.cells scope.names []).lookup y=some c->X.env.cells.lookup y=some c:=λy c e=>Vy scope.names [] BU (λz=>nomatch z) e;rw[eval_ListComp];refine ycB (use:=none) (cl:=Zs X.env.cells scope.names []) rfl hs (XF BU) S.kind S.loc (av (hi U s σ H _ I h) λv s1 h1=>av h1 λBa s2 h2=>?_);obtain⟨it,fp,tn,J,H2,e,I2,T,fP,f2,fv,DN,W,⟨m0,w0⟩,turn⟩:=h2;subst e;refine yaX ?_;have cU:∀b o,s2.heap.get? b=some o->(s2.heap.push {cls:=.type "list",data:=.seq ([]:List Value).toArray}).get? b=some o:=λb o e=>yaa _ e;have I3:Inv X U σ H2 {s2 with heap:=s2.heap.push {cls:=.type "list",data:=.seq ([]:List Value).toArray}}:=I2.kept (t':=s2.toks) cU;have dU:tn 0 (s2.heap.push {cls:=.type "list",data:=.seq ([]:List Value).toArray}):=T.keep _ _ _ fP λb _ o e=>cU b o e;have cV:(s2.heap.push {cls:=.type "list",data:=.seq ([]:List Value).toArray}).get? s2.heap.objs.size=some (Kw []):=yam _ rfl;have i4:H2 s2.heap.objs.size=none:=I2.ai.fresh (lA _);have Sc:∀b o,s2.heap.get? b=some o->b≠s2.heap.objs.size:=λb o e=>yal (yae e);have i5:∀b∈fp,∃o,s2.heap.get? b=some o:=λb hb=>let ⟨o,e,_⟩:=T.obj _ _ fP b hb;⟨o,e⟩;have sw:X.s₀.heap.objs.size<=s2.heap.objs.size:=I2.sz;have eE:s2.heap.objs.size≠X.env.locals:=yby I2.lt;have dM:∀x c,X.env.cells.lookup x=some c->c≠s2.heap.objs.size:=λx c e=>let ⟨v,o,e1,_⟩:=I2.cell x c e;Sc c o e1;have eF:∀p∈X.pn++U,p.1≠s2.heap.objs.size:=λp hp=>Sc p.1 _ (I2.pin p hp).1;have eG:s2.heap.objs.size∉aK X.stack:=λz=>let ⟨o,e,_⟩:=(I2.stack.mem z).2;Sc _ o e rfl;generalize Br:({s2 with heap:=s2.heap.push {cls:=.type "list",data:=.seq ([]:List Value).toArray}}:Shared)=s3 at I3 ⊢;have Bs:s3.heap=s2.heap.push {cls:=.type "list",data:=.seq ([]:List Value).toArray}:=by rw[<-Br]
 rw[<-Bs]at dU cV cU;generalize s2.heap.objs.size=D at cV i4 Sc sw eE dM eF eG ⊢;refine VA S.kind S.eV λRe s4 eI x4=>?_;subst eI;have eJ:∀b o,s3.heap.get? b=some o->b<s3.heap.objs.size:=λb o e=>yae e;have fT:∀b∈fp,b<s3.heap.objs.size:=λb hb=>let ⟨o,e⟩:=i5 b hb;eJ b o (cU b o e);have LE:D<s3.heap.objs.size:=eJ D _ cV;have SC:∀b∈fp,b≠D:=λb hb=>let ⟨o,e⟩:=i5 b hb;Sc b o e;obtain⟨h4,iu,rfl,TD⟩:=x4.done;have Bt:∀b o,X.M.get? b=some o->b∉D::fp:=λb o e hb=>by
  rcases yag.mp hb with rfl|hb
  .exact absurd (yad (yae (I2.ok.bs b o e).1) sw) (lY _)
  .obtain⟨_,_,_,f3,_⟩:=f2 b hb;rcases f3 with z|z
   .exact I2.ok.bI b o e z
   .exact absurd (yad (yae (I2.ok.bs b o e).1) z) (lY _)
 have i6:∀b∈D::fp,b∉aK X.stack:=λb hb hf=>by
  rcases yag.mp hb with rfl|hb
  .exact eG hf
  .obtain⟨_,f1,Bu,_⟩:=f2 b hb;rcases yag.mp (I2.K8 b hf)with z|z
   .exact f1 z
   .exact Bu z
 have Ar:∀y c,(Zs X.env.cells scope.names []).lookup y=some c->(∃v,s3.heap.IsCell c v)/\H2 c=none/\c≠D/\∀b∈fp,c≠b:=λy c e=>by
  have e':=cX y c e;exact⟨I3.cell y c e',I3.aD y c e',dM y c e',λb hb=>(f2 b hb).2.2.2.2.1 y c e'⟩
 have clt:∀y c,(Zs X.env.cells scope.names []).lookup y=some c->c<s3.heap.objs.size:=λy c e=>let ⟨⟨v,o,ho,_⟩,_⟩:=Ar y c e;eJ c o ho;have cy:∀b∈D::fp,b<s3.heap.objs.size:=λb hb=>by
  rcases yag.mp hb with rfl|hb
  .exact LE
  .exact fT b hb
 have Bv:(Z4 X (NB++FR) scope s3 H2 (D::fp)).Ok:=by
  refine⟨I3.ok.mod,S.kind,I3.ok.glob,I3.ok.blt,lA _,λy z c h1 h2=>?_,λy hy=>?_,(λy c z _=>nomatch z),I3.ok.hd,I3.ok.frames,.inl rfl,λb hb=>⟨yal (cy b hb),λy c e z=>?_⟩,I3.bs,yas I3.ok.cN I3.sz,Bt,i6,I3.stack,I3.KI⟩
  .exact I3.ok.inj y z c (cX y c h1) (cX z c h2)
  .exact Wf scope.names [] (.inr (UT S.eV hy))
  .obtain⟨_,_,n1,n2⟩:=Ar y c e;rcases yag.mp hb with q|q
   .exact n1 (z.trans q)
   .exact n2 b q z
 have l0:(replicate NB.length (none:Option V)++fv.map some).length=(NB++FR).length:=by
  have h1:=yaI List.length DN;have h2:=yaI List.length Aq;simp only[lu]at h1 h2;rw[lq,lq,lN,lu];lia
 have rep:∀(j:Nat)(v:V),(replicate NB.length (none:Option V)++fv.map some)[j]? =some (some v)->∃k,j=NB.length+k/\fv[k]? =some v:=λj v z=>by
  rw[List.getElem?_append]at z
  split at z
  .rw[ybr]at z
   split at z<;>cases z
  .rename_i hj;rw[lN]at hj z;refine⟨j-NB.length,by lia,?_⟩;rw[lK]at z;cases e:fv[j-NB.length]? with
   |none=>rw[e]at z;cases z
   |some y=>rw[e]at z;exact yaI some (lB (lB z))
 have Fx:∀(k:Nat)(v:V)(y:Str),fv[k]? =some v->FR[k]? =some y->∃i,X.N[i]? =some y/\σ[i]? =some (some v):=λk v y h1 h2=>by
  have a1:=yaI (λl=>l[k]?) DN;have a2:=yaI (λl=>l[k]?) Aq;simp only[lK,h1,h2]at a1 a2;cases e:fi[k]? with
  |none=>rw[e]at a1;cases a1
  |some i=>
   rw[e]at a1 a2;exact⟨i,lB a2,lB a1⟩
 have IB:Inv (Z4 X (NB++FR) scope s3 H2 (D::fp)) [(D,Kw [])] (replicate NB.length none++fv.map some) H2 {s3 with heap:=h4,toks:=iu}:=by
  refine⟨Bv,Z,I3.bare,Un.kept TD,⟨_,x4.ns,λi y v h1 h2 h3=>?_⟩,λy c h=>let ⟨⟨v,o,ho,hd⟩,_⟩:=Ar y c h;⟨v,o,TD _ _ ho,hd⟩,I3.ai.fresh (lA _),λy c h=>(Ar y c h).2.1,λp hp=>?_,I3.ai.kept TD,l0⟩
  .obtain⟨k,rfl,hk⟩:=rep i v h2;have hy:FR[k]? =some y:=by
    have h1:(NB++FR)[NB.length+k]? =some y:=h1;rw[ycn (ycw _ _),Nat.add_sub_cancel_left]at h1;exact h1
   obtain⟨io,hN,hσ⟩:=Fx k v y hk hy;have ip:(y,NameKind.free)∈scope.names:=S.fr y (lM hy);obtain⟨m,_,hl⟩:=I3.loc;obtain⟨u,r,l⟩:=hl io y v hN hσ (.inr (.inl (DM _ ip Z)));refine⟨u,r,.inr ⟨.inl ?_,?_⟩⟩
   .exact US S.Oq ip (by show(X.env.scope.kind==.function)=true;rw[I3.ok.kind];rfl) (DM _ ip Z)
   .obtain⟨c,ix⟩:=Wf (cells:=X.env.cells) (x:=y) scope.names [] (.inr ip);exists c,ix;have l4:=cX y c ix;rcases l with⟨hk,_⟩|⟨_,c',cQ,o,ho,hd⟩
    .have e1:=DM _ ip rfl;rw[show X.env.kindOf y=X.env.scope.names.lookup y from rfl]at hk;rw[hk]at e1;cases e1
    .rw[l4]at cQ;cases cQ;exact⟨o,TD _ _ ho,hd⟩
  obtain rfl:p=(D,Kw []):=by simpa using hp
  exact⟨TD _ _ cV,i4,yal LE,eG,λv z=>nomatch z⟩
 have pi:∀{H':Hp}{ys:List Value},(∀b∈fp,H' b=none)->∀b∈fp,xw (Z4 X (NB++FR) scope s3 H2 (D::fp)) [(D,Kw ys)] H' b:=λhn b hb=>
  ⟨hn b hb,yal (fT b hb),i6 b (lG _ hb),.inl (lG _ hb),λy c e z=>(Ar y c e).2.2.2 b hb z,λp hp=>by
    obtain rfl:p=(D,_):=by simpa using hp
    exact(SC b hb).symm⟩
 have i7:tn 0 h4:=T.keep _ _ _ dU λb _ o e=>TD b o e;have Bw:∀b∈fp,H2 b=none:=λb hb=>(f2 b hb).1;have dJ:(Z4 X (NB++FR) scope s3 H2 (D::fp)).calm=true:=hc;have loop:codeAny (model X.prog X.w) X.A (.compLoop (.ListComp elt [⟨tg,iter,ifs,0⟩] scope pos) 0 (.ref it) (.ref D) (km scope X.env s3.heap.objs.size))
   (compPost (model X.prog X.w) X.A X.xe none (EP X U σ Q) (.ref D) s3.heap.objs.size) {s3 with heap:=h4,toks:=iu}:=by
  refine Vz (λn s'=>∃i vs ys H',Inv (Z4 X (NB++FR) scope s3 H2 (D::fp)) [(D,Kw ys)] (replicate NB.length none++fv.map some) H' s'/\Vals vs ys/\vs.length<=sizeLine/\tn i s'.heap/\(∀b∈fp,H' b=none)/\W i n vs H') ?_ m0 ⟨0,[],[],H2,IB,.nil,lX _,i7,Bw,w0⟩;rintro n s5 ⟨i,vs,ys,H5,I5,rv,eM,dG,fQ,w5⟩;rcases turn i n vs H5 w5 with⟨stop,qn⟩|⟨go,bn,N,hN,step⟩
  .refine yaB (T.done (Z4 X (NB++FR) scope s3 H2 (D::fp)) Z Z Z dJ i _ s5 _ H5 (λ_ _=>False) I5 (pi fQ) dG stop) (λr s6⟨hr,I6⟩=>?_) (λ_ _ z=>z.elim);subst hr;obtain⟨m6,By,_⟩:=id I6.loc;refine⟨m6,By,λh7 Fm=>?_⟩;have eN:∀b o,b≠s3.heap.objs.size->s6.heap.get? b=some o->h7.get? b=some o:=λb o hb e=>(Fm.2 b hb).trans e;have si:H5 s3.heap.objs.size=none:=I6.free;have Bz:Un (aK X.stack) (D::fp) H2 H5 s3.heap h7:=by
    have u:=I6.M;refine⟨λb o e n hb hx=>eN b o (yal (yae e)) (u.keep b o e n hb hx),λb o e n hb hx=>?_,u.free,λb o e hx=>?_,u.bx,u.bq,u.bt⟩
    .obtain⟨sl,q⟩:=u.slot b o e n hb hx;exact⟨sl,eN b _ (yal (yae e)) q⟩
    .obtain⟨o',q⟩:=u.there b o e hx;exact⟨o',eN b _ (yal (yae e)) q⟩
   have sj:aZ X.prog X.w H5 h7:=λb u e=>(I6.ai b u e).K7 (λc w' dF q=>eN c w' (by
    rintro rfl;rcases dF with rfl|dF
    .rw[si]at e;cases e
    .rw[si]at dF;cases dF) q) (λ_ q=>q) λ_ _ q=>q
   have I7:Inv X U σ H5 {s6 with heap:=h7}:=I3.xt (s':={s6 with heap:=h7}) I6.os Bz sj I6.bare λb hb=>by
    rcases yag.mp hb with rfl|hb
    .exact⟨.inr sw,eE,dM,eF⟩
    .obtain⟨_,f1,_,f3,f4,f5⟩:=f2 b hb;exact⟨f3,f1,f4,f5⟩
   obtain⟨eD,nD,_⟩:=I6.pin (D,Kw ys) (by simp);have i8:H5 D=none:=nD;have BA:h7.get? D=some (Kw ys):=eN D _ (yal LE) eD;have BB:X.s₀.heap.get? D=none:=by
    cases q:X.s₀.heap.get? D with
    |none=>rfl
    |some o=>exact absurd (yad (yae q) sw) (lY _)
   exact⟨.ref D,upd H5 D (.lst vs),I7.vn i8 BB eE dM eF ⟨eM,ys,ys.length,rv,BA⟩,Z,qn D i8⟩
  .refine yaB (T.item (Z4 X (NB++FR) scope s3 H2 (D::fp)) Z Z Z dJ i _ s5 _ H5 (λ_ _=>False) I5 (pi fQ) dG go) (λr s6⟨u,hr,h6⟩=>?_) (λ_ _ z=>z.elim);subst hr;refine yaB h6 (λ_ s7⟨x,H7,I7,r7,y7,eO,BC⟩=>?_) (λ_ _ z=>z.elim);have BD:=I7.pinned (pi BC) (T.obj _ _ eO);refine yaB (hg s3 H2 (D::fp) _ s7 _ H7 x u _ BD r7 (step x H7 y7)) (λ_ s8⟨σ8,H8,I8,Ot,q8⟩=>?_) (λ_ _ z=>z.elim);refine yaB (ht s3 H2 (D::fp) _ s8 σ8 H8 _ I8 q8) (λok s9⟨H9,I9,q9⟩=>?_) (λ_ _ z=>z.elim);have i9:∀{σ':St}{H':Hp}{s':Shared},Inv (Z4 X (NB++FR) scope s3 H2 (D::fp)) ([(D,Kw ys)]++Vn fp s7.heap) σ' H' s'->tn (i+1) s'.heap/\∀b∈fp,H' b=none:=λJ=>
    ⟨T.keep _ _ _ eO λb hb o e=>(J.pin (b,o) (lE _ (lE _ (Zl hb e)))).1,λb hb=>by
     obtain⟨o,e,d⟩:=T.obj _ _ eO b hb;exact(J.pin (b,o) (lE _ (lE _ (Zl hb e)))).2.1⟩
   have wk:∀{H':Hp}{s':Shared}{pl:List (Addr × Obj)},Inv (Z4 X (NB++FR) scope s3 H2 (D::fp)) pl σ8 H' s'->Inv (Z4 X (NB++FR) scope s3 H2 (D::fp)) pl (replicate NB.length none++fv.map some) H' s':=λJ=>
    J.weak (l0.trans J.len.symm) λj v z=>by
     obtain⟨k,rfl,hk⟩:=rep j v z;have:=yaI (λl=>l[k]?) Ot;simp only[ybZ,lK,hk]at this;exact this
   cases ok with
   |false=>
    rw[yac (by lia)]at q9;rw[yac (by lia)];obtain⟨m',hm,w9⟩:=hN vs H9 q9;obtain⟨t9,f9⟩:=i9 I9;exact⟨m',hm,i+1,vs,ys,H9,wk I9.ZT,rv,eM,t9,f9,w9⟩
   |true=>
    rw[yaf rfl]at q9;rw[yaf rfl];refine yaB (he s3 H2 (D::fp) _ s9 σ8 H9 _ I9 q9) (λy cW⟨v,No,eP,eQ,BE⟩=>?_) (λ_ _ z=>z.elim);obtain⟨eD,nD,_,nf,_⟩:=eP.pin (D,Kw ys) (by simp);have BF:=rv.length;refine append_at (hsz:=by show ys.toArray.size<=sizeLine;rw[lW, <-BF];exact eM) eD λi' eR eS=>?_;obtain⟨m',hm,BG⟩:=hN (vs++[v]) No BE;obtain⟨o4,BH⟩:=i9 eP;have eT:=eP.ZT;have j':∀b o,b≠D->cW.heap.get? b=some o->i'.get? b=some o:=λb o hb e=>(eR.2 b hb).trans e;have IE:Inv (Z4 X (NB++FR) scope s3 H2 (D::fp)) [] σ8 No cW:=eT.XU λp hp=>nomatch hp;have BI:Inv (Z4 X (NB++FR) scope s3 H2 (D::fp)) [] σ8 No {cW with heap:=i'}:=IE.turned (t':=cW.toks) j' nD (yal LE) (.inl lH) (λy' c e z=>(Ar y' c e).2.2.1 z) (λp hp=>absurd (show p∈([]:List (Addr × Obj))from hp) (by simp));have eL:({cls:=.type "list",data:=.seq (ys.toArray.push y) (ys.length+1)}:Obj)=Kw (ys++[y]):=by
     show({cls:=.type "list",data:=.seq (ys.toArray.push y) (ys.length+1)}:Obj)={cls:=.type "list",data:=.seq (ys++[y]).toArray (ys++[y]).length};rw[lq,lC,ydJ]
    refine⟨m',hm,i+1,vs++[v],ys++[y],No,wk (BI.XU λp hp=>?_),rv.append (.cons eQ .nil),by rw[lq,lC];exact bn,T.keep _ _ _ o4 λb hb o e=>j' b o (SC b hb) e,BH,BG⟩;obtain rfl:p=(D,Kw (ys++[y])):=by simpa using hp
    exact⟨by rw[<-eL];exact eS,nD,yal LE,nf,λv z=>nomatch z⟩
 exact ycP loop (T.self _ 0 _ _ _ i7 loop)
end
section
theorem Inv.ko{ch:List Addr}(I:Inv X U σ H s)(hf:∀b∈ch,xw X U H b) (k:∀b o,b∉ch->s.heap.get? b=some o->h'.get? b=some o):Inv X U σ H {s with heap:=h',toks:=t'}:=by
 have iS:∀b u,H b=some u->b∉ch:=λb u e z=>by rw[(hf b z).1]at e;cases e
 refine I.step (g':=s.gens) (d':=s.drawn) (ch:=ch) (λb hb=>?_) (λb o _ _ hc e _=>k b o hc e) (λb o _ _ hc e _=>⟨o.slots,k b o hc e⟩) (λ_ _ _ _ n=>n) (λb o hc e=>⟨o,k b o hc e⟩) (λ_ _ e=>e) (λ_ _ _ e=>e) (λb ps e=>⟨#[],by rw[e];simp⟩) (λm hm=>?_) (λb u e=>?_) I.bare
 .obtain⟨_,f1,_,f3,f4,f5⟩:=hf b hb;exact⟨f3,f1,f4,f5⟩
 .obtain⟨o,es,ep,ho,r⟩:=hm;exact⟨o,es,ep,k _ o (λz=>(hf _ z).2.1 Z) ho,r⟩
 .refine(I.ai b u e).K7 (λc v hc q=>k c v ?_ q) (λ_ q=>q) λ_ _ q=>q;rcases hc with z|z
  .rw[z];exact iS b u e
  .exact iS c _ z
theorem Inv.kq{t':Nat}{ch:List Addr}{T:Addr}{xs:List V}(I:Inv X U σ H s)(hf:∀b∈ch,xw X U H b) (k:∀b o,b∉ch->s.heap.get? b=some o->h'.get? b=some o) (hT:s.heap.objs.size<=T)
  (new:J3 X.prog X.w (upd H T (.tup xs)) h' T (.tup xs)):Inv X U σ (upd H T (.tup xs)) {s with heap:=h',toks:=t'}:=by
 have hn:=I.ai.fresh hT;have iS:∀b u,H b=some u->b∉ch:=λb u e z=>by rw[(hf b z).1]at e;cases e
 have nT:∀b o,H b=some o->upd H T (.tup xs) b=some o:=λb o e=>by rw[Qx (Qz e hn)];exact e
 refine I.step (g':=s.gens) (d':=s.drawn) (ch:=ch) (λb hb=>?_) (λb o _ _ hc e _=>k b o hc e) (λb o _ _ hc e _=>⟨o.slots,k b o hc e⟩) (λb o _ e n=>?_) (λb o hc e=>⟨o,k b o hc e⟩) (λb ys e=>nT b _ e) (λb o u e=>nT b _ e) (λb ps e=>⟨#[],by rw[nT b _ e];simp⟩) (λm hm=>?_) (λb u e=>?_) I.bare
 .obtain⟨_,f1,_,f3,f4,f5⟩:=hf b hb;exact⟨f3,f1,f4,f5⟩
 .rw[Qx (λz=>absurd (yae e) (by rw[z];exact yeA.mpr hT))];exact n
 .obtain⟨o,es,ep,ho,r⟩:=hm;exact⟨o,es,ep,k _ o (λz=>(hf _ z).2.1 Z) ho,r⟩
 .by_cases hb:b=T
  .subst hb;rw[Qd]at e;cases e;exact new
  .rw[Qx hb]at e;refine(I.ai b u e).K7 (λc v hc q=>k c v ?_ q) (λc q=>nT c _ q) λc ys q=>nT c _ q;rcases hc with z|z
   .rw[z];exact iS b u e
   .exact iS c _ z
end
noncomputable def BV(z:Str):It:=⟨λi _=>i<z.cps.size,λi H x H'=>∃p c,H p=none/\z.cps[i]? =some c/\x=.ref p/\H'=upd H p (.tup [.int (i:Nat),.str ⟨#[c]⟩]),λi _=>z.cps.size<=i⟩
theorem zP{P:Program}{w:World}{K:Frag}{es:List Expr}{k:Nat}{pos:Pos}(e it:Addr)(Fy:e≠it)(z:Str)(t:Tok):
  Turn P w K (.Tuple es k pos) (BV z) [e,it] e (λi h=>(∃old,IsEnum h e it (i:Nat) old)/\h.IsStrIter it "str_ascii_iterator" z t (min i z.cps.size)) where
 mem:=by simp
 obj:=λi h st b hb=>by
  obtain⟨⟨old,he⟩,o,ho,hc,hd⟩:=st;rcases yag.mp hb with rfl|hb
  .exact⟨_,he,λv q=>nomatch (show Data.fields _=Data.cell v from q)⟩
  .obtain rfl:b=it:=by simpa using hb
   exact⟨o,ho,λv q=>by rw[hd]at q;cases q⟩
 keep:=λi h h' st kk=>by
  obtain⟨⟨old,he⟩,o,ho,r⟩:=st;exact⟨⟨old,kk e (by simp) _ he⟩,o,kk it (by simp) o ho,r⟩
 item:=by
  intro X hP hw hK hc i U s σ H E I hf st hg;subst hP hw hK;obtain⟨⟨old,he⟩,gt⟩:=st;have eU:i<z.cps.size:=hg;rw[ybb (ybi eU)]at gt;have D:=yct (prog:=X.prog) (w:=X.w) (A:=X.A.in1) (I.ok.hd hc) it z t;refine wpAny_pyNext_enum_itemD D he gt eU Fy (by simpa using Fy) λx h1 tk hx ho Ou hT hsz hk=>⟨_,Z,?_⟩;obtain⟨c,u,oU,rfl⟩:=hx;refine wpAny_letOwnedTupleGo_enum ho λh2 Fz fV=>?_;have Ov:s.heap.objs.size≠e:=λq=>absurd (yae he) (by rw[<-q];exact lY _);refine⟨.ref s.heap.objs.size,upd H s.heap.objs.size (.tup [.int (i:Nat),.str ⟨#[c]⟩]),I.kq (ch:=[e,it]) hf (λb o hb q=>?_) (lA _) ?_,Z,⟨_,c,I.ai.fresh (lA _),oU,Z,Z⟩,⟨⟨_,Fz⟩,?_⟩,λb hb=>?_⟩
  .simp only[yag,yax,ybk,not_or]at hb;exact(fV.2 b hb.1).trans (hk b o hb.1 hb.2 q)
  .exact⟨by show 2<=sizeLine;lia,[.int (i:Nat) tk,.str ⟨#[c]⟩ u],.cons ⟨_,Z⟩ (.cons ⟨_,Z⟩ .nil),⟨_,(fV.2 _ Ov).trans hT,Z,_,Z,Z⟩⟩
  .rw[ybb (show i+1<=z.cps.size from eU)];obtain⟨o,Ao,r1⟩:=Ou;exact⟨o,(fV.2 it Fy.symm).trans Ao,r1⟩
  .have bn:b<s.heap.objs.size:=by
    rcases yag.mp hb with q|q
    .rw[q];exact yae he
    .obtain⟨o,Ao,_⟩:=gt;rw[show b=it by simpa using q];exact yae Ao
   rw[Qx (yal bn)];exact(hf b hb).1
 done:=by
  intro X hP hw hK hc i U s σ H E I hf st hg;subst hP hw hK;obtain⟨⟨old,he⟩,gt⟩:=st;have eU:z.cps.size<=i:=hg;rw[ydU eU]at gt;have D:=yct (prog:=X.prog) (w:=X.w) (A:=X.A.in1) (I.ok.hd hc) it z t;exact wpAny_pyNext_enum_endD D he gt λh1 eb=>⟨Z,I.ko (t':=s.toks) (ch:=[e,it]) hf λb o hb q=>eb b o (λr=>hb (by simp[r])) q⟩
 self:=λ_ _ _ _ _ st h=>let ⟨⟨_,he⟩,_⟩:=st;wpAny_pyIter_enum he h
section
def Ow(ta:TA):TI:=λσ H R=>ta σ H λvs H1=>∃z:Str,vs=[.str z]/\z.cps.all (· <128)=true/\R (BV z) H1
theorem YS{p pos:Pos}(hg:Gl X "enumerate")(hm:X.mg "enumerate"=none)(ha:PA X [a] ta)(hs:starEach [a] X.env=[(false,eval a X.env)]:=by rfl):
  PI X (.Tuple es k tp) (.Call (.Name "enumerate" p) [a] [] pos) (Ow ta):=by
 intro U s σ H R I h;refine Call_ (WS I hg hm boot_enumerate (yaT (av (ha pos U s σ H _ I h) λus s1⟨vs,H1,I1,r1,z,e,hz,q⟩=>?_) hs Z));subst e;obtain⟨u,rfl,t,rfl⟩:=vals1 r1;refine call_enumerate_str λh1 he gt hsz hk=>?_;rw[show strIterType z="str_ascii_iterator" by unfold strIterType;rw[hz];rfl]at gt;refine wpAny_pyIter_enum (s:={s1 with heap:=h1}) he ?_;refine⟨_,[s1.heap.objs.size+1,s1.heap.objs.size],_,_,H1,Z,I1.kept (t':=s1.toks) hk,zP _ _ (Nat.succ_ne_self _) z t,⟨⟨_,he⟩,by simpa using gt⟩,λb hb=>?_,q⟩;have fW:s1.heap.objs.size<=b:=by
  simp only[yag,yax,ybk]at hb;rcases hb with rfl|rfl
  .exact Nat.le_succ _
  .exact lA _
 exact I1.wU fW (I1.ai.fresh fW)
end
section
variable {prog:Program}
theorem vG(h:Q false s):wpAny (model prog w) A (Builtin.List.listLengthHint (.str z t)) Q E s:=by
 unfold Builtin.List.listLengthHint;refine yab (ydo (ybW _ _ _) F.slot_str_len.lookup ?_);generalize aS:("str.__len__":String)=DK
 wp_delta
 rw[show splitId DK=some ("str","__len__")from by subst aS;rfl'];subst aS;refine yab (ydS (T:="str") (b:=true) (ybW _ _ _) (by rw[isSubtype_type];kernel_rfl) ?_);refine yeh (λPi=>absurd Pi (by lia)) (λ_=>yeh (λ_=>?_) (λPi=>absurd (by rfl') Pi));exact yab (ydy (T:="str") (ybW _ _ _) (yan h))
theorem vH(hh:A.handled=none)(ha:z.cps.all (· <128)=true)(hlen:z.cps.size<=sizeLine)(S:Addr)(hS:s.heap.get? S=some {cls:=.type "list",data:=.seq #[]})
  (hR:∀h' tk P3 c',(∀b o,b≠S->s.heap.get? b=some o->h'.get? b=some o)->h'.get? S=some {cls:=.type "list",dict:=none,data:=.seq P3 c',slots:= #[]}->ItemsOf (SignAt z) P3 z.cps.size->R (.ok (.ret .none)) {s with heap:=h',toks:=tk}):
  wpAny (model prog w) A.in1 (Builtin.«list.__init__» ⟨[.ref S,.str z t],[]⟩) (λfin s'=>match fin with| .done f=>R (.ok f) s'| .again c'=>c'.quiet=true/\codeAny (model prog w) A c' R s') (λe s'=>R (.error e) s') s:=by
 show wpAny _ _ (do let old<-Builtin.List.listItems (.ref S);Builtin.List.listUpdate (.ref S) (λ_=> #[]);letGo old.toList.reverse;Builtin.List.listExtendWith (.ref S) (.str z t) .none) _ _ s;refine yab ?_;unfold Builtin.List.listItems;refine yab (ybX hS Z (yan ?_));show wpAny _ _ (updateSeq S (λ_=> #[])>>=λ_=>letGo (#[]:Array Value).toList.reverse>>=λ_=>Builtin.List.listExtendWith (.ref S) (.str z t) .none) _ _ s;refine yab (wpAny_updateSeq hS Z (yab (yev ?_)));have g2:=Heap.get?_update_self (Obj.mapSeq (λ_=>(#[]:Array Value))) hS rfl;have FA:∀b o,b≠S->s.heap.get? b=some o->(s.heap.update S (Obj.mapSeq (λ_=>(#[]:Array Value)))).get? b=some o:=λb o hb e=>(ycO _ _ (Ne.symm hb)).trans e;generalize s.heap.update S (Obj.mapSeq (λ_=>(#[]:Array Value)))=hp at g2 FA;have FC:S<hp.objs.size:=yae g2;have Fo:S≠hp.objs.size:=yal FC;unfold Builtin.List.listExtendWith;refine yab (ydy (T:="str") (ybW _ _ _) ?_);have h1:Builtin.List.listSameRef (.ref S) (.str z t)=false:=rfl;have h2:(Value.type "str"==Value.type "list")=false:=by lia
 have h3:(Value.type "str"==Value.type "tuple")=false:=by lia
 simp only[h1,h2,h3,ydd,ycI,ycu];refine yab (ycK ha (yab (ycD (vG ?_))));refine yeh (λPi=>absurd Pi (by rfl')) (λ_=>yan ⟨plainId_quiet F.plain_extend_loop _,?_⟩);have W:=(Walks.strAscii (prog:=prog) (w:=w) (A:=A.in1) hh hp.objs.size z t).toS;refine codeAny_extend_loopS W hlen S (λhm=>Fo (yak.mp hm)) .none z.cps.size 0 _ #[] _ rfl (lX _) ⟨_,yam _ rfl,Z,Z⟩ (yaa _ g2) (ItemsOf.nil _) λs' P3 c' hm Fp SL=>?_;rw[Moved.eq_with hm];refine hR s'.heap s'.toks P3 c' (λb o hb e=>hm.heap b o (λsm=>?_) (yaa _ (FA b o hb e))) Fp SL;rcases yag.mp sm with e'|sm
 .exact hb e'
 .exact absurd (yae (FA b o hb e)) (by rw[yak.mp sm];exact lY _)
end
noncomputable def Yv(z:Str):List V:=z.cps.toList.map λc=>.str ⟨#[c]⟩
theorem zQ{acc:Array Value}(h:ItemsOf (SignAt z) acc z.cps.size):Vals (Yv z) acc.toList:=by
 have key:∀(l:List Nat)(us:List Value),us.length=l.length->(∀(j:Nat)(v:Value),us[j]? =some v->∃c u,l[j]? =some c/\v=Value.str ⟨#[c]⟩ u)->Vals (l.map λc=>V.str ⟨#[c]⟩) us:=by
  intro l
  induction l with
  |nil=>intro us hl _;rw[yaH.mp hl];exact .nil
  |cons c r ih=>
   intro us hl hv;cases us with
   |nil=>cases hl
   |cons v us=>
    obtain⟨c',u,e1,e2⟩:=hv 0 v rfl;cases e1;exact .cons ⟨u,e2⟩ (ih us (by simpa using hl) λj v hj=>hv (j+1) v hj)
 refine key z.cps.toList acc.toList (by rw[lV,lV];exact h.1) λj v hj=>?_;obtain⟨c,u,e1,e2⟩:=h.2 j v (by rw[<-hj,ycc]);exact⟨c,u,by rw[<-e1,ycc],e2⟩
section
theorem call_list_str(hc:X.calm=true):Wv X (.type "list") (λxs H Q=>∃z:Str,xs=[.str z]/\z.cps.all (· <128)=true/\z.cps.size<=sizeLine/\∀l,H l=none->Q (.ref l) (upd H l (.lst (Yv z)))):=by
 intro U s σ H xs us Q I r h;obtain⟨z,rfl,ha,hlen,q⟩:=h;obtain⟨u,rfl,t,rfl⟩:=vals1 r;refine callType_codes (Q₁:=λobj s₁=>obj=.ref s.heap.objs.size/\s₁={s with heap:=s.heap.push {cls:=.type "list",data:=.seq #[]}}) F.called_list (F.typeCall_list_1 _) F.entry_list_init (code_list_new _ ⟨Z,Z⟩) λobj s₁ h₁=>?_;obtain⟨rfl,rfl⟩:=h₁;have g1:(s.heap.push {cls:=.type "list",data:=.seq #[]}).get? s.heap.objs.size=some {cls:=.type "list",data:=.seq #[]}:=yam _ rfl;refine⟨⟨_,g1,Z⟩,F.args_list_init_2 _ _,vH (A:=X.A.in1) (I.ok.hd hc) ha hlen _ g1 λh' tk acc c' hk hS SL=>⟨Z,?_⟩⟩;have rv:=zQ SL;refine⟨.ref s.heap.objs.size,_,I.laid (t':=tk) (λb o e=>hk b o (yal (yae e)) (yaa _ e)) (lA _) (show J3 X.prog X.w _ h' _ (.lst (Yv z))from⟨?_,acc.toList,c',rv,by rw[Array.toArray_toList];exact hS⟩),Z,q _ (I.ai.fresh (lA _))⟩;unfold Yv;rw[lu,lV];exact hlen
end
inductive bS (w:World):List DictEntry->List (Key × V)->Prop where
 |nil:bS w [] []
 |cons {h:Int} {x y:Str} {t u:Tok} {es:List DictEntry} {al:List (Key × V)} (e:h=oK w (.inr x)) (r:bS w es al):bS w (⟨h,.str x t,.str y u⟩::es) ((Sum.inr x,.str y)::al)
theorem bS.pairs{al:List (Key × V)}(h:bS w es al):∃vs,KV al vs/\Pairs (JA P w) es vs/\vs.map (·.1)=al.map (·.1)/\∀e∈es,∃k,(JA P w).is k e.key=true/\e.hash=oK w k:=by
 induction h with
 |nil=>exact⟨[],.nil,.nil,Z,λe he=>by cases he⟩
 |@cons hh x y t u es al e r ih=>
  obtain⟨vs,h1,h2,h3,h4⟩:=ih;refine⟨(Sum.inr x,.str y u)::vs,.cons ⟨Z,_,Z⟩ h1,.cons (JS P w x t) rfl h2,by rw[lU,lU,h3],λq hq=>?_⟩;rcases yag.mp hq with rfl|hq
  .exact⟨_,JS P w x t,e⟩
  .exact h4 q hq
theorem ku{K:Frag}{n:Nat}{al:List (Key × V)}(ne:(a==sysModules)=false)(l:K.lookup a=some ⟨.type "dict",none,.dict es n, #[]⟩)(h:bS w es.toList al)(nd:(al.map (·.1)).Nodup):aB P w K a al:=by
 obtain⟨vs,h1,h2,h3,h4⟩:=h.pairs (P:=P);exact⟨ne,λhp KX=>⟨vs,h1,_,_,_,KX a _ l,⟨Z,Z,Z⟩,Z,λe he=>h4 e (by simpa using he),h2,by rw[h3];exact nd⟩⟩
section
variable {ty:TE}{al:List (Key × V)}
def Ox(a:Addr)(al:List (Key × V))(ty td:TE):TE:=λσ H Q=>ty σ H λy H1=>td σ H1 λx H2=>∃k,x=.ref a/\y=kV k/\Q (.bl (Wz al k).isSome) H2
theorem Oy(D:aB X.prog X.w X.K a al)(hi:PE X i ty)(ho:PE X o td):PC X .In i o (Ox a al ty td):=by
 intro U s σ H Q I h;refine av (hi U s σ H _ I h) λiv s1⟨y,H1,I1,ry,q1⟩=>av (ho U s1 σ H1 _ I1 q1) λu s2⟨x,H2,I2,rx,k,ex,ey,q2⟩=>?_;subst ex ey;obtain rfl:u=Value.ref a:=rx;obtain⟨vs,rel,dd⟩:=D.ok s2.heap I2.bz;refine wpAny_in_of (UH ry) D.ne dd.mapOf ?_;rw[<-(rel.val k).Vt];exact⟨.bl _,H2,I2.tok _,Z,q2⟩
end
theorem Oz{z:Str}{g:TG}{tb:TS}{D:Ends}{σ:St}{H:Hp}(Pv:Nat->St->Hp->Prop)(h0:Pv 0 σ H)
  (hs:∀i c σ H,z.cps[i]? =some c->Pv i σ H->g (.str ⟨#[c]⟩) σ H λσ2 H2=>tb {D with nx:=Pv (i+1),ct:=Pv (i+1),bk:=D.nx} σ2 H2) (hd:∀σ H,Pv z.cps.size σ H->D.nx σ H):
  ∃W:Nat->Nat->St->Hp->Prop,(∃m,W 0 m σ H)/\∀i m σ H,W i m σ H->
   ((BR z).stop i H/\D.nx σ H)\/((BR z).go i H/\∃N:St->Hp->Prop,(∀σ' H',N σ' H'->∃m',m'<m/\W (i+1) m' σ' H')/\∀x H',(BR z).cR i H x H'->g x σ H' λσ2 H2=>tb {D with nx:=N,ct:=N,bk:=D.nx} σ2 H2):=by
 refine⟨λi m σ H=>m=z.cps.size-i/\i<=z.cps.size/\Pv i σ H,⟨z.cps.size,by simp,lX _,h0⟩,?_⟩;rintro i m σ H ⟨rfl,hi,p⟩
 by_cases bn:i<z.cps.size
 .refine .inr ⟨bn,Pv (i+1),λσ' H' p'=>⟨z.cps.size-(i+1),by lia,Z,bn,p'⟩,λx H' y=>?_⟩;obtain⟨e,c,hc,e2⟩:=y;subst e e2;exact hs i c σ _ hc p
 .have e:i=z.cps.size:=by lia
  subst e;exact .inl ⟨lA _,hd σ H p⟩
theorem VB{z:Str}{g:TG}{tb:TS}{D:Ends}{σ:St}{H:Hp}(Pv:Nat->St->Hp->Prop)(h0:Pv 0 σ H)
  (hs:∀i c σ H p,z.cps[i]? =some c->Pv i σ H->H p=none->g (.ref p) σ (upd H p (.tup [.int (i:Nat),.str ⟨#[c]⟩])) λσ2 H2=>tb {D with nx:=Pv (i+1),ct:=Pv (i+1),bk:=D.nx} σ2 H2) (hd:∀σ H,Pv z.cps.size σ H->D.nx σ H):
  ∃W:Nat->Nat->St->Hp->Prop,(∃m,W 0 m σ H)/\∀i m σ H,W i m σ H->
   ((BV z).stop i H/\D.nx σ H)\/((BV z).go i H/\∃N:St->Hp->Prop,(∀σ' H',N σ' H'->∃m',m'<m/\W (i+1) m' σ' H')/\∀x H',(BV z).cR i H x H'->g x σ H' λσ2 H2=>tb {D with nx:=N,ct:=N,bk:=D.nx} σ2 H2):=by
 refine⟨λi m σ H=>m=z.cps.size-i/\i<=z.cps.size/\Pv i σ H,⟨z.cps.size,by simp,lX _,h0⟩,?_⟩;rintro i m σ H ⟨rfl,hi,p⟩
 by_cases bn:i<z.cps.size
 .refine .inr ⟨bn,Pv (i+1),λσ' H' p'=>⟨z.cps.size-(i+1),by lia,Z,bn,p'⟩,λx H' y=>?_⟩;obtain⟨q,c,hq,hc,e,e2⟩:=y;subst e e2;exact hs i c σ _ q hc p hq
 .have e:i=z.cps.size:=by lia
  subst e;exact .inl ⟨lA _,hd σ H p⟩
theorem UV{z:Str}{n:Nat}{fi:List Nat}{fv:List V}{tt:TT}(Pv:Nat->List V->Hp->Prop)(h:∀R:VK,R (.str z) H->tl σ H R) (ha:z.cps.all (· <128)=true) (DN:fi.map (λi=>σ[i]?)=fv.map (λv=>some (some v))) (h0:Pv 0 [] H) (hl:∀i vs H,i<=z.cps.size->Pv i vs H->vs.length<=i)
  (hs:∀i c vs H,z.cps[i]? =some c->Pv i vs H->g (.str ⟨#[c]⟩) (replicate n none++fv.map some) H λσ2 H2=>σ2.drop n=fv.map some/\tt σ2 H2 λb H3=>if b=true then te σ2 H3 λv H4=>Pv (i+1) (vs++[v]) H4 else Pv (i+1) vs H3)
  (hd:∀vs H,Pv z.cps.size vs H->∀p,H p=none->Q (.ref p) (upd H p (.lst vs))) (hz:z.cps.size<sizeLine):Iy n fi (BS tl) g tt te σ H Q:=by
 refine h _ ⟨z,Z,ha,fv,DN,?_⟩;refine⟨λi m vs H=>m=z.cps.size-i/\i<=z.cps.size/\Pv i vs H,⟨z.cps.size,by simp,lX _,h0⟩,?_⟩;rintro i m vs H ⟨rfl,hi,p⟩;have hv:=hl i vs H hi p
 by_cases bn:i<z.cps.size
 .refine .inr ⟨bn,by lia,Pv (i+1),λCh H' p'=>⟨z.cps.size-(i+1),by lia,Z,bn,p'⟩,λx H' y=>?_⟩;obtain⟨e,c,hc,e2⟩:=y;subst e e2;exact hs i c vs _ hc p
 .have e:i=z.cps.size:=by lia
  subst e;exact .inl ⟨lA _,hd vs H p⟩
theorem kw(hK:X.K=K0)(ha:PE X a ta)(he:∀whole,isTrue a X.env whole=(do let v<-whole;standAt a.pos;holding [v] (truthy v))):PT X a (λσ H Q=>ta σ H λx H'=>∃k,Du K0 x H' k/\Q k H'):=by
 subst hK;exact Je ha he
abbrev sr(z TI TO i1 i2:Addr):Prop:=ZipApart z TI TO i1 i2 TI TI
section
variable {prog:Program}{TI TO:Addr}
theorem WB(D:Draws prog w A i [i] n P S)(st:S k h)(e:Heap.ExtBut c h h')(ne:i≠c):S k h':=
 D.frame _ _ _ st λb hb o q=>by
  obtain rfl:b=i:=by simpa using hb
  exact e _ _ ne q
theorem kx{Q:Value->Shared->Prop}(D:sr z TI TO i1 i2)(D1:Draws prog w A i1 [i1] n1 P1 S1)(D2:Draws prog w A i2 [i2] n2 P2 S2)
  (hz:IsZip s.heap z TI TO .none) (su:IsPair s.heap TI (.ref i1) (.ref i2)) (sx:IsPair s.heap TO a b) (h1:S1 k s.heap) (h2:S2 k s.heap) (hx:k<n1) (hy:k<n2)
  (hQ:∀x y h' tk,P1 k x->P2 k y->IsZip h' z TI TO (rawInt s.heap.objs.size)->IsPair h' TO x y->S1 (k+1) h'->S2 (k+1) h'->IsPair h' s.heap.objs.size x y->(∀c o,c≠z->c≠TO->c≠i1->c≠i2->s.heap.get? c=some o->h'.get? c=some o)->Q (.ref s.heap.objs.size) {s with heap:=h',toks:=tk}):
  wpAny (model prog w) A (Builtin.«zip.__next__» ⟨[.ref z],[]⟩) (λfin s'=>∃v,fin=.done (.ret v)/\Q v s') E s:=by
 show wpAny _ _ (field (.ref z) 2>>=_) _ _ _;refine yab (ybB hz Z (x:=.bool false) Z ?_);show wpAny _ _ (field (.ref z) 3>>=_) _ _ _;refine yab (ybB hz Z (x:=.ref TI) Z (yab (ybX su Z ?_)));show wpAny _ _ (Builtin.SmallTypes.ownedTupleIsFree (.ref z)>>=_) _ _ _;refine yab ?_;unfold Builtin.SmallTypes.ownedTupleIsFree;refine yab (ybB hz Z (x:=.none) Z (yan ?_));simp only[ybK];refine yab (wpAny_rule (yab (ybB hz Z (x:=.ref TO) Z (yab (ybA hz (by simp) λh₁ l5 dN=>?_)))))
 replace l5:IsZip h₁ z TI TO .ellipsis:=l5;refine yab ?_
 simp only[List.zipIdx_cons,List.zipIdx_nil,yef,List.forIn_nil];refine yab (yab (ydg ?_));show wpAny _ _ (Builtin.SmallTypes.nextOf (.ref i1)>>=_) _ _ _;refine yab (D1.item k _ _ _ hx (WB D1 h1 dN.extBut D.i1z) λx h₂ OA px Iz dm=>yan ?_);have eW:IsPair h₂ TO a b:=dm.extBut _ _ D.TOi1 (dN.extBut _ _ D.TOz sx);refine yab (ybX eW Z (yab (yda eW λh₃ iz dO=>?_)))
 replace iz:IsPair h₃ TO x b:=iz;refine yab (yev (yan (yab (yab (ydg ?_)))))
 show wpAny _ _ (Builtin.SmallTypes.nextOf (.ref i2)>>=_) _ _ _;have e2:S2 k h₃:=WB D2 (WB D2 (WB D2 h2 dN.extBut D.i2z) dm.extBut D.i12.symm) dO.extBut D.TOi2.symm;refine yab (D2.item k _ _ _ hy e2 λy h₄ iu py OB l6=>yan ?_);have BW:IsPair h₄ TO x b:=l6.extBut _ _ D.TOi2 iz;refine yab (ybX BW Z (yab (yda BW λh₅ iA l7=>?_)))
 replace iA:IsPair h₅ TO x y:=iA;refine yab (yev (yan (yan (yab (ybX iA Z (yab (wpAny_newTuple ?_)))))))
 have BX:=dN.1;have fV:=dm.1;have OC:=dO.1;have OD:=l6.1;have OF:=l7.1;have hsz:h₅.objs.size=s.heap.objs.size:=OF.trans (OD.trans (OC.trans (fV.trans BX)));have IA:IsZip h₅ z TI TO .ellipsis:=l7.extBut _ _ D.TOz.symm (l6.extBut _ _ D.i2z.symm (dO.extBut _ _ D.TOz.symm (dm.extBut _ _ D.i1z.symm l5)));have OG:∀c o,c≠z->c≠TO->c≠i1->c≠i2->s.heap.get? c=some o->h₅.get? c=some o:=λc o c1 c2 c3 c4 e=>l7.extBut _ _ c2 (l6.extBut _ _ c4 (dO.extBut _ _ c2 (dm.extBut _ _ c3 (dN.extBut _ _ c1 e))));have g1:S1 (k+1) h₅:=WB D1 (WB D1 (WB D1 Iz dO.extBut D.TOi1.symm) l6.extBut D.i12) l7.extBut D.TOi1.symm;have g2:S2 (k+1) h₅:=WB D2 OB l7.extBut D.TOi2.symm;have BY:z<h₅.objs.size:=yae IA;show wpAny _ _ (Builtin.SmallTypes.ownedTupleHandOut (.ref z) (.ref h₅.objs.size)>>=_) _ _ _;refine yab ?_;unfold Builtin.SmallTypes.ownedTupleHandOut;have OH:IsZip (h₅.push {cls:=.type "tuple",data:=.seq #[x,y]}) z TI TO .ellipsis:=yaa _ IA;refine yab (ybA OH (by simp) λh₇ FD IC=>?_);replace FD:IsZip h₇ z TI TO (rawInt h₅.objs.size):=FD;refine ybA FD (by simp) λh₈ DO ID=>?_;replace DO:IsZip h₈ z TI TO (rawInt h₅.objs.size):=DO;have up:∀c o,c≠z->h₅.get? c=some o->h₈.get? c=some o:=λc o c1 e=>ID.extBut _ _ c1 (IC.extBut _ _ c1 (yaa _ e));have IF:IsPair h₈ h₅.objs.size x y:=ID.extBut _ _ (yby BY) (IC.extBut _ _ (yby BY) (yam _ Z));rw[hsz]at DO IF;refine yan ⟨_,Z,?_⟩;show Q (.ref h₅.objs.size) _;rw[hsz];exact hQ x y h₈ _ px py DO (up _ _ D.TOz iA) (D1.frame _ _ _ g1 λb hb o q=>up _ _ (by rw[show b=i1 by simpa using hb];exact D.i1z) q) (D2.frame _ _ _ g2 λb hb o q=>up _ _ (by rw[show b=i2 by simpa using hb];exact D.i2z) q) IF λc o c1 c2 c3 c4 e=>up c o c1 (OG c o c1 c2 c3 c4 e)
theorem vI(D:sr z TI TO i1 i2)(D1:Draws prog w A i1 [i1] n1 P1 S1)(D2:Draws prog w A i2 [i2] n2 P2 S2)
  (hz:IsZip s.heap z TI TO .none) (su:IsPair s.heap TI (.ref i1) (.ref i2)) (sx:IsPair s.heap TO a b) (h1:S1 k s.heap) (h2:S2 k s.heap) (hx:k=n1\/(k<n1/\k=n2))
  (hE:∀h' e tk,(∀c o,c≠z->c≠TO->c≠i1->c≠i2->s.heap.get? c=some o->h'.get? c=some o)->(∃o,h'.get? e=some o/\o.cls=.type "StopIteration")->E (.ref e) {s with heap:=h',toks:=tk}):
  wpAny (model prog w) A (Builtin.«zip.__next__» ⟨[.ref z],[]⟩) Q E s:=by
 show wpAny _ _ (field (.ref z) 2>>=_) _ _ _;refine yab (ybB hz Z (x:=.bool false) Z ?_);show wpAny _ _ (field (.ref z) 3>>=_) _ _ _;refine yab (ybB hz Z (x:=.ref TI) Z (yab (ybX su Z ?_)));show wpAny _ _ (Builtin.SmallTypes.ownedTupleIsFree (.ref z)>>=_) _ _ _;refine yab ?_;unfold Builtin.SmallTypes.ownedTupleIsFree;refine yab (ybB hz Z (x:=.none) Z (yan ?_));simp only[ybK];refine yab (wpAny_rule (yab (ybB hz Z (x:=.ref TO) Z (yab (ybA hz (by simp) λh₁ l5 dN=>?_)))))
 replace l5:IsZip h₁ z TI TO .ellipsis:=l5;refine yab ?_
 simp only[List.zipIdx_cons,List.zipIdx_nil,yef,List.forIn_nil];refine yab (yab (ydg ?_));show wpAny _ _ (Builtin.SmallTypes.nextOf (.ref i1)>>=_) _ _ _;rcases hx with e|⟨hx,e⟩
 .refine yab (D1.done _ _ _ (by rw[<-e];exact WB D1 h1 dN.extBut D.i1z) λh₂ e dm he=>?_);obtain⟨oe,sA,eI⟩:=he;have IG:IsZip h₂ z TI TO .ellipsis:=dm _ _ D.i1z.symm l5;have FE:e≠z:=λx=>by subst x;rw[IG]at sA;cases sA;simp at eI
  exact ybA IG (by simp) λh₃ _ dO=>hE h₃ e _ (λc o c1 _ c3 _ x=>dO.extBut _ _ c1 (dm _ _ c3 (dN.extBut _ _ c1 x))) ⟨oe,dO.extBut _ _ FE sA,eI⟩
 .refine yab (D1.item k _ _ _ hx (WB D1 h1 dN.extBut D.i1z) λx h₂ OA px Iz dm=>yan ?_);have eW:IsPair h₂ TO a b:=dm.extBut _ _ D.TOi1 (dN.extBut _ _ D.TOz sx);refine yab (ybX eW Z (yab (yda eW λh₃ iz dO=>yab (yev (yan (yab (yab (ydg ?_))))))));show wpAny _ _ (Builtin.SmallTypes.nextOf (.ref i2)>>=_) _ _ _;have e2:S2 k h₃:=WB D2 (WB D2 (WB D2 h2 dN.extBut D.i2z) dm.extBut D.i12.symm) dO.extBut D.TOi2.symm;refine yab (D2.done _ _ _ (by rw[<-e];exact e2) λh₄ e l6 he=>?_);obtain⟨oe,sA,eI⟩:=he;have IH:IsZip h₄ z TI TO .ellipsis:=l6 _ _ D.i2z.symm (dO.extBut _ _ D.TOz.symm (dm.extBut _ _ D.i1z.symm l5));have FE:e≠z:=λx=>by subst x;rw[IH]at sA;cases sA;simp at eI
  exact ybA IH (by simp) λh₅ _ l7=>hE h₅ e _ (λc o c1 c2 c3 c4 x=>l7.extBut _ _ c1 (l6 _ _ c4 (dO.extBut _ _ c2 (dm.extBut _ _ c3 (dN.extBut _ _ c1 x))))) ⟨oe,l7.extBut _ _ FE sA,eI⟩
theorem ky(D:sr z TI TO i1 i2)(D1:Draws prog w A.in1 i1 [i1] n1 P1 S1)(D2:Draws prog w A.in1 i2 [i2] n2 P2 S2)
  (hz:IsZip s.heap z TI TO .none) (su:IsPair s.heap TI (.ref i1) (.ref i2)) (sx:IsPair s.heap TO a b) (h1:S1 k s.heap) (h2:S2 k s.heap) (hx:k<n1) (hy:k<n2)
  (hQ:∀x y h' tk,P1 k x->P2 k y->IsZip h' z TI TO (rawInt s.heap.objs.size)->IsPair h' TO x y->S1 (k+1) h'->S2 (k+1) h'->IsPair h' s.heap.objs.size x y->(∀c o,c≠z->c≠TO->c≠i1->c≠i2->s.heap.get? c=some o->h'.get? c=some o)->Q (some (.ref s.heap.objs.size)) {s with heap:=h',toks:=tk}):
  wpAny (model prog w) A (pyNext (.ref z)) Q E s:=by
 have hT:s.TypeIs (.ref z) "zip":=⟨_,hz,Z⟩;unfold pyNext;exact yab (wpAny_attempt (ycG (name:=Str.ofString "__next__") hT ydr (ydR ydr hT F.entry_zip_next (kx D D1 D2 hz su sx h1 h2 hx hy λx y h' tk a1 a2 a3 a4 a5 a6 a7 a8=>yan (hQ x y h' tk a1 a2 a3 a4 a5 a6 a7 a8)) (F.args_zip_next_1 _))))
theorem vJ(D:sr z TI TO i1 i2)(D1:Draws prog w A.in1 i1 [i1] n1 P1 S1)(D2:Draws prog w A.in1 i2 [i2] n2 P2 S2)
  (hz:IsZip s.heap z TI TO .none) (su:IsPair s.heap TI (.ref i1) (.ref i2)) (sx:IsPair s.heap TO a b) (h1:S1 k s.heap) (h2:S2 k s.heap) (hx:k=n1\/(k<n1/\k=n2))
  (hQ:∀h' tk,(∀c o,c≠z->c≠TO->c≠i1->c≠i2->s.heap.get? c=some o->h'.get? c=some o)->Q none {s with heap:=h',toks:=tk}):
  wpAny (model prog w) A (pyNext (.ref z)) Q E s:=by
 have hT:s.TypeIs (.ref z) "zip":=⟨_,hz,Z⟩;unfold pyNext;refine yab (wpAny_attempt (ycG (name:=Str.ofString "__next__") hT ydr (ydR ydr hT F.entry_zip_next (vI D D1 D2 hz su sx h1 h2 hx λh' e tk hk he=>?_) (F.args_zip_next_1 _))));obtain⟨o,ho,hc⟩:=he;refine yab (ydS (T:="StopIteration") (b:=true) ⟨o,ho,hc⟩ isSubtype_stop ?_);exact yan (hQ _ _ hk)
end
noncomputable def II(x y:Str):It:=⟨λi _=>i<x.cps.size/\i<y.cps.size,λi H v H'=>∃p c d,H p=none/\x.cps[i]? =some c/\y.cps[i]? =some d/\v=.ref p/\H'=upd H p (.tup [.str ⟨#[c]⟩,.str ⟨#[d]⟩]),λi _=>min x.cps.size y.cps.size<=i⟩
def IJ(z TI TO i1 i2:Addr)(x y:Str)(t u:Tok)(i:Nat)(h:Heap):Prop:=
 IsZip h z TI TO .none/\IsPair h TI (.ref i1) (.ref i2)/\(∃a b,IsPair h TO a b)/\h.IsStrIter i1 "str_ascii_iterator" x t (min i (min x.cps.size y.cps.size))/\h.IsStrIter i2 "str_ascii_iterator" y u (min i (min x.cps.size y.cps.size))
theorem kz{P:Program}{w:World}{K:Frag}{es:List Expr}{k:Nat}{pos:Pos}{z TI TO i1 i2:Addr}(D:sr z TI TO i1 i2)(x y:Str)(t u:Tok):
  Turn P w K (.Tuple es k pos) (II x y) [z,TI,TO,i1,i2] z (IJ z TI TO i1 i2 x y t u) where
 mem:=by simp
 obj:=λi h st b hb=>by
  obtain⟨hz,hI,⟨a,c,hO⟩,⟨o1,g1,c1,d1⟩,o2,g2,c2,d2⟩:=st;simp only[yag,yax,ybk]at hb;rcases hb with rfl|rfl|rfl|rfl|rfl
  .exact⟨_,hz,λv q=>nomatch (show Data.fields _=Data.cell v from q)⟩
  .exact⟨_,hI,λv q=>nomatch (show Data.seq _ _=Data.cell v from q)⟩
  .exact⟨_,hO,λv q=>nomatch (show Data.seq _ _=Data.cell v from q)⟩
  .exact⟨o1,g1,λv q=>by rw[d1]at q;cases q⟩
  .exact⟨o2,g2,λv q=>by rw[d2]at q;cases q⟩
 keep:=λi h h' st kk=>by
  obtain⟨hz,hI,⟨a,c,hO⟩,⟨o1,g1,r1⟩,o2,g2,r2⟩:=st;exact⟨kk _ (by simp) _ hz,kk _ (by simp) _ hI,⟨a,c,kk _ (by simp) _ hO⟩,⟨o1,kk _ (by simp) _ g1,r1⟩,o2,kk _ (by simp) _ g2,r2⟩
 item:=by
  intro X hP hw hK hc i U s σ H E I hf st hg;subst hP hw hK;obtain⟨hz,hI,⟨a,c,hO⟩,s1,s2⟩:=st;obtain⟨l1,l2⟩:i<x.cps.size/\i<y.cps.size:=hg;rw[ybb (ybi (yeB.mpr ⟨l1,l2⟩))]at s1 s2;have D1:=yct (prog:=X.prog) (w:=X.w) (A:=X.A.in1) (I.ok.hd hc) i1 x t;have D2:=yct (prog:=X.prog) (w:=X.w) (A:=X.A.in1) (I.ok.hd hc) i2 y u;refine ky D D1 D2 hz hI hO s1 s2 l1 l2 λv1 v2 h1 tk p1 p2 OI OJ q1 q2 hT hk=>⟨_,Z,?_⟩;obtain⟨c1,u1,e1,rfl⟩:=p1;obtain⟨c2,u2,e2,rfl⟩:=p2;refine wpAny_letOwnedTupleGo_zip OI λh2 FF fV=>?_;have up:∀b o,b≠z->h1.get? b=some o->h2.get? b=some o:=λb o hb q=>(fV.2 b hb).trans q;have bn:∀b∈[z,TI,TO,i1,i2],b<s.heap.objs.size:=λb hb=>by
   simp only[yag,yax,ybk]at hb;rcases hb with rfl|rfl|rfl|rfl|rfl
   .exact yae hz
   .exact yae hI
   .exact yae hO
   .obtain⟨o,g,_⟩:=s1;exact yae g
   .obtain⟨o,g,_⟩:=s2;exact yae g
  refine⟨.ref s.heap.objs.size,upd H s.heap.objs.size (.tup [.str ⟨#[c1]⟩,.str ⟨#[c2]⟩]),I.kq (ch:=[z,TI,TO,i1,i2]) hf (λb o hb q=>?_) (lA _) ?_,Z,⟨_,c1,c2,I.ai.fresh (lA _),e1,e2,Z,Z⟩,⟨FF,up _ _ D.TIz (hk _ _ D.TIz D.TITO D.TIi1 D.TIi2 hI),⟨_,_,up _ _ D.TOz OJ⟩,?_,?_⟩,λb hb=>?_⟩
  .simp only[yag,yax,ybk,not_or]at hb;exact up b o hb.1 (hk b o hb.1 hb.2.2.1 hb.2.2.2.1 hb.2.2.2.2 q)
  .exact⟨by show 2<=sizeLine;lia,[.str ⟨#[c1]⟩ u1,.str ⟨#[c2]⟩ u2],.cons ⟨_,Z⟩ (.cons ⟨_,Z⟩ .nil),⟨_,up _ _ (yby (bn z (by simp))) hT,Z,_,Z,Z⟩⟩
  .rw[ybb (Nat.succ_le_of_lt (yeB.mpr ⟨l1,l2⟩))];obtain⟨o,g,r⟩:=q1;exact⟨o,up _ _ D.i1z g,r⟩
  .rw[ybb (Nat.succ_le_of_lt (yeB.mpr ⟨l1,l2⟩))];obtain⟨o,g,r⟩:=q2;exact⟨o,up _ _ D.i2z g,r⟩
  .rw[Qx (yal (bn b hb))];exact(hf b hb).1
 done:=by
  intro X hP hw hK hc i U s σ H E I hf st hg;subst hP hw hK;obtain⟨hz,hI,⟨a,c,hO⟩,s1,s2⟩:=st;have eU:min x.cps.size y.cps.size<=i:=hg;rw[ydU eU]at s1 s2;have D1:=yct (prog:=X.prog) (w:=X.w) (A:=X.A.in1) (I.ok.hd hc) i1 x t;have D2:=yct (prog:=X.prog) (w:=X.w) (A:=X.A.in1) (I.ok.hd hc) i2 y u;refine vJ D D1 D2 hz hI hO s1 s2 (by lia) λh' tk hk=>⟨Z,I.ko (ch:=[z,TI,TO,i1,i2]) hf λb o hb q=>?_⟩;simp only[yag,yax,ybk,not_or]at hb;exact hk b o hb.1 hb.2.2.1 hb.2.2.2.1 hb.2.2.2.2 q
 self:=λ_ _ _ _ _ st h=>wpAny_pyIter_zip st.1 h
noncomputable abbrev cb(h:Heap)(x:Str)(t:Tok):Heap:=h.push {cls:=.type "str_ascii_iterator",data:=.fields #[.str x t,.int 0 0]}
noncomputable abbrev As(h:Heap)(x y:Str)(t u:Tok):Heap:=(cb (cb h x t) y u).push {cls:=.type "tuple",data:=.seq #[.ref h.objs.size,.ref (cb h x t).objs.size]}
noncomputable abbrev Au(h:Heap)(x y:Str)(t u:Tok):Heap:=(As h x y t u).push {cls:=.type "tuple",data:=.seq #[.none,.none]}
noncomputable abbrev Av(h:Heap)(x y:Str)(t u:Tok):Heap:=(Au h x y t u).push {cls:=.type "zip",data:=.fields #[.none,.bool false,.bool false,.ref (cb (cb h x t) y u).objs.size,.ref (As h x y t u).objs.size]}
theorem zR(x y:Str)(t u:Tok):Meets (Builtin.«zip.__new__» ⟨[.type "zip",.str x t,.str y u],[]⟩) (λ_ R s=>x.cps.all (· <128)=true/\y.cps.all (· <128)=true/\R (.ok (.ret (.ref (Au s.heap x y t u).objs.size))) {s with heap:=Av s.heap x y t u}):=
 .of_wp λprog w A R s h=>by
  obtain⟨hp,g,d,tk,os⟩:=s;obtain⟨h1,h2,h⟩:=h;have OK:=sub_zip
  wp_walk using ycK h1,ycK h2
  exact⟨_,Z,h⟩
theorem kA{prog:Program}(h1:x.cps.all (· <128)=true)(h2:y.cps.all (· <128)=true)
  (h:∀h' z TI TO i1 i2,sr z TI TO i1 i2->IJ z TI TO i1 i2 x y t u 0 h'->(∀b∈[z,TI,TO,i1,i2],s.heap.objs.size<=b)->(∀c o,s.heap.get? c=some o->h'.get? c=some o)->Q (.ref z) {s with heap:=h'}):
  wpAny (model prog w) A (call (.type "zip") [.str x t,.str y u]) Q E s:=by
 refine callType_new F.called_zip (by lia) (F.typeCall_zip_2 _ _) (F.newCall_zip_2 _ _) (λobj=>F.args_object_init_3 obj _ _) F.entry_zip_new (zR x y t u) ⟨h1,h2,?_⟩;have z1:(cb s.heap x t).objs.size=s.heap.objs.size+1:=ybg ..;have z2:(cb (cb s.heap x t) y u).objs.size=s.heap.objs.size+2:=(ybg ..).trans (by rw[z1]);have z3:(As s.heap x y t u).objs.size=s.heap.objs.size+3:=(ybg ..).trans (by rw[z2]);have z4:(Au s.heap x y t u).objs.size=s.heap.objs.size+4:=(ybg ..).trans (by rw[z3]);have g5:(Av s.heap x y t u).get? (Au s.heap x y t u).objs.size=some _:=yam _ rfl;have g4:(Av s.heap x y t u).get? (As s.heap x y t u).objs.size=some _:=yaa _ (yam _ Z);have g3:(Av s.heap x y t u).get? (cb (cb s.heap x t) y u).objs.size=some _:=yaa _ (yaa _ (yam _ Z));have g2:(Av s.heap x y t u).get? (cb s.heap x t).objs.size=some _:=yaa _ (yaa _ (yaa _ (yam _ Z)));have g1:(Av s.heap x y t u).get? s.heap.objs.size=some _:=yaa _ (yaa _ (yaa _ (yaa _ (yam _ Z))));have D:sr (Au s.heap x y t u).objs.size (cb (cb s.heap x t) y u).objs.size (As s.heap x y t u).objs.size s.heap.objs.size (cb s.heap x t).objs.size:=by
  generalize (Au s.heap x y t u).objs.size=e4 at z4 ⊢;generalize (As s.heap x y t u).objs.size=e3 at z3 ⊢;generalize (cb (cb s.heap x t) y u).objs.size=e2 at z2 ⊢;generalize (cb s.heap x t).objs.size=e1 at z1 ⊢;generalize s.heap.objs.size=e0 at*;constructor<;>(intro q;replace q:@Eq Nat _ _:=q;lia)
 refine⟨⟨_,g5,Z⟩,h _ _ _ _ _ _ D ⟨g5,g3,⟨_,_,g4⟩,?_,?_⟩ ?_ λc o q=>yaa _ (yaa _ (yaa _ (yaa _ (yaa _ q))))⟩
 .rw[Nat.zero_min];exact⟨_,g1,Z,Z⟩
 .rw[Nat.zero_min];exact⟨_,g2,Z,Z⟩
 .intro b hb;simp only[yag,yax,ybk]at hb;rcases hb with q|q|q|q|q
  .exact yas (ycw _ 4) (ycX (z4.symm.trans q.symm))
  .exact yas (ycw _ 2) (ycX (z2.symm.trans q.symm))
  .exact yas (ycw _ 3) (ycX (z3.symm.trans q.symm))
  .exact ycX q.symm
  .exact yas (ycw _ 1) (ycX (z1.symm.trans q.symm))
section
def IK(ta:TA):TI:=λσ H R=>ta σ H λvs H1=>∃x y:Str,vs=[.str x,.str y]/\x.cps.all (· <128)=true/\y.cps.all (· <128)=true/\R (II x y) H1
theorem OM{es:List Expr}{k:Nat}{tp:Pos}{ta:TA}{p pos:Pos}(hg:Gl X "zip")(hm:X.mg "zip"=none)(ha:PA X [a,b] ta)(hs:starEach [a,b] X.env=[(false,eval a X.env),(false,eval b X.env)]:=by rfl)(fV:starEach [b] X.env=[(false,eval b X.env)]:=by rfl):
  PI X (.Tuple es k tp) (.Call (.Name "zip" p) [a,b] [] pos) (IK ta):=by
 intro U s σ H R I h;refine Call_ (WS I hg hm boot_zip (yaT (av (ha pos U s σ H _ I h) λus s1⟨vs,H1,I1,r1,x,y,e,hx,hy,q⟩=>?_) (by rw[hs,fV]) (by rw[fV];rfl)));subst e;obtain⟨v,w,rfl,⟨t,rfl⟩,u,rfl⟩:=vals2 r1;refine kA hx hy λh1 z TI TO i1 i2 D st nw hk=>?_;refine wpAny_pyIter_zip (s:={s1 with heap:=h1}) st.1 ?_;exact⟨_,[z,TI,TO,i1,i2],_,_,H1,Z,I1.kept (t':=s1.toks) hk,kz D x y t u,st,λb hb=>I1.wU (nw b hb) (I1.ai.fresh (nw b hb)),q⟩
end
open AutoSeq1 (wpAny_loadPart')in
theorem kB{tt:TT}(Pv:Nat->List V->Hp->Prop)(h:∀R:List V->Hp->Prop,R [.str x,.str y] H->ta σ H R) (hx:x.cps.all (· <128)=true) (hy:y.cps.all (· <128)=true) (h0:Pv 0 [] H) (hl:∀i vs H,i<=min x.cps.size y.cps.size->Pv i vs H->vs.length<=i)
  (hs:∀i c d vs H p,x.cps[i]? =some c->y.cps[i]? =some d->Pv i vs H->H p=none->g (.ref p) (replicate NB.length none) (upd H p (.tup [.str ⟨#[c]⟩,.str ⟨#[d]⟩])) λσ2 H2=>tt σ2 H2 λb H3=>if b=true then te σ2 H3 λv H4=>Pv (i+1) (vs++[v]) H4 else Pv (i+1) vs H3)
  (hd:∀vs H,Pv (min x.cps.size y.cps.size) vs H->∀p,H p=none->Q (.ref p) (upd H p (.lst vs))) (hz:min x.cps.size y.cps.size<sizeLine):Yd NB (IK ta) g tt te σ H Q:=by
 refine h _ ⟨x,y,Z,hx,hy,?_⟩;exists λi m vs H=>m=min x.cps.size y.cps.size-i/\i<=min x.cps.size y.cps.size/\Pv i vs H,⟨min x.cps.size y.cps.size-0,Z,lX _,h0⟩;rintro i m vs H ⟨rfl,hi,p⟩;have hv:=hl i vs H hi p
 by_cases bn:i<min x.cps.size y.cps.size
 .refine .inr ⟨yeB.mp bn,by lia,Pv (i+1),λCh H' p'=>⟨min x.cps.size y.cps.size-(i+1),by lia,Z,bn,p'⟩,λv H' z=>?_⟩;obtain⟨q,c,d,hq,hc,hd,e,e2⟩:=z;subst e e2;exact hs i c d vs _ q hc hd p hq
 .have e:i=min x.cps.size y.cps.size:=by lia
  subst e;exact .inl ⟨lA _,hd vs H p⟩
theorem ON{K:Frag}{M:Heap}{N:List Str}{qual:Str}{scope:Scope}{cd:Value}{L:List Env}{H:Hp}{E:XK}:
  PassesOwn (model (Xe (ao P w) P w K mg M N qual scope f cd A L s H E).prog (Xe (ao P w) P w K mg M N qual scope f cd A L s H E).w) (Xe (ao P w) P w K mg M N qual scope f cd A L s H E).A (Xe (ao P w) P w K mg M N qual scope f cd A L s H E).env (Xe (ao P w) P w K mg M N qual scope f cd A L s H E).xe:=by
 dsimp only[Xe]
 passes_own
open AutoSeq1 (wpAny_loadPart')
section
theorem Wi:aW X (compareOp .LtE) (λx y H Q=>∃i j,x=.str i/\y=.str j/\Q (.bl (!decide (j.cps.toList<i.cps.toList))) H):=by
 intro U s σ H x y v u Q I rx ry h;obtain⟨i,j,rfl,rfl,q⟩:=h;obtain⟨t,rfl⟩:=rx;obtain⟨t',rfl⟩:=ry;exact PySem.P.le_str (Jx I q Z)
end
section
variable {prog:Program}
open HT in
end
section
theorem Qu{pos pos':Pos}(hN:X.N.Nodup)(hi:X.N[i]? =some x)(hx:Loc X.env.scope x)(he:ae X e te)(hs:swapsWith e (some (.Name x pos')) pos.line X.env=pure false)(hf:X.fn x=true):aO X (.Assign [.Name x pos'] e pos) (Wt te (JI i)):=⟨QN hN hi hx he.pe hs (.inl hf)⟩
theorem jO{o i value:Expr}{td ty tv:TE}{pos pos':Pos}(hu:X.A.units+1<cLine)(ho:ae X o td)(hi:ae X i ty)(hv:ae X value tv)(hs:swapsWith value (some (.Subscript o i pos')) pos.line X.env=pure false):aO X (.Assign [.Subscript o i pos'] value pos) (HZ td ty tv):=⟨M4 hu ho.pe hi.pe hv.pe hs⟩
theorem X2{tg iter:Expr}{body:List Stmt}{pos:Pos}(hp:PassesOwn (model X.prog X.w) X.A X.env X.xe)(hc:X.calm=true)(hi:PI X tg iter wi)(hg:PG X tg g)(hb:aN X body tb)(hs:∀x,foldedSetIterable iter X.env x=pure x):aO X (.For tg iter body [] pos) (HJ wi g tb):=⟨Vo hp hc hi hg hb.ps hs⟩
theorem QE{pos:Pos}(he:ae X e te):aO X (.Return (some e) pos) (AX te):=⟨QG he.pe⟩
end
noncomputable def isStar:Expr->Bool
 | .Starred .. =>true
 |_=>false
theorem YT{env:Env}(h:isStar e=false):starEach (e::es) env=(false,eval e env)::starEach es env:=by
 cases e<;>first|rfl|cases h
section
variable {to:TE}{name:Str}{apos bv:Pos}{id:String}
theorem Qv(ha:PE X e te)(hr:PA X es t)(h:isStar e=false:=by rfl):PA X (e::es) (Jy te t):=Qa ha hr (YT h)
theorem OO(pa:PlainAttrs T)(slot:Slot T name id)(Be:typeOf (.builtin id)=pure (.type "method_descriptor"))(hm:cu X id r)(ho:PE X o to)(ha:PA X [e] t)(h:isStar e=false:=by rfl)
  (Da:attributeBase o name X.env (eval o X.env)=eval o X.env:=by rfl) (ge:(apos.endLine==bv.line)=true:=by rfl):PE X (.Call (.Attribute o name apos) [e] [] bv) (DA X.K T r to t):=by
 refine Zd pa slot Be hm ho ha Da ?_ ge (YT h) rfl;rw[YT h];rfl
theorem vK(ha:PA X [e] t)(h:isStar e=false)(ge:(apos.endLine==bv.line)=true):PE X (.Call (.Attribute (.Constant (.str x) j p) "join" apos) [e] [] bv) (DA X.K "str" (λx vs H Q=>∃(z:Str)(p:Addr)(ys:List Str),x=.str z/\vs=[.ref p]/\az X.K H p (ys.map V.str)/\JoinOk z ys=true/\Q (.str (Txt.join z ys)) H) (tC (.str x)) t):=
 OO yaA slot_str_join type_str_join kg Qc ha h rfl ge
theorem ZH(ha:Ap X [e] t)(h:isStar e=false)(ge:(apos.endLine==bv.line)=true):ae X (.Call (.Attribute (.Constant (.str x) j p) "join" apos) [e] [] bv) (DA X.K "str" (λx vs H Q=>∃(z:Str)(p:Addr)(ys:List Str),x=.str z/\vs=[.ref p]/\az X.K H p (ys.map V.str)/\JoinOk z ys=true/\Q (.str (Txt.join z ys)) H) (tC (.str x)) t):=⟨vK ha.pa h ge⟩
theorem QJ{pos:Pos}{op:Operator}{r:R2}(hr:aW X (binaryOp op) r)(ha:ae X a ta)(hb:ae X b tb):ae X (.BinOp a op b pos) (bc r ta tb):=⟨QI hr ha.pe hb.pe⟩
theorem QF(ha:ae X e te)(hr:Ap X es t)(h:isStar e=false):Ap X (e::es) (Jy te t):=⟨Qa ha.pe hr.pa (YT h)⟩
theorem Zn{pos:Pos}(hc:PT X c tA)(ha:ae X a ta)(hb:ae X b tb):ae X (.IfExp c a b pos) (Dr tA ta tb):=⟨Jm hc ha.pe hb.pe⟩
theorem JC{pos:Pos}(h:Ap X es t):ae X (.Tuple es k pos) (Bb t):=⟨Jf h.pa⟩
theorem Q1{t1 u:TS}{pos:Pos}(hc:PT X c tc)(ha:aN X a t1)(hb:aN X b u):aO X (.If c a b pos) (AY tc t1 u):=⟨JP hc ha.ps hb.ps⟩
theorem QT:aN X [] Ux:=⟨QQ⟩
end
section
open Classical in
structure DP(X:Cx)(pos:Pos)(ks:List (Option Expr))(vs:List Expr)(Ps:List (TE × TE)):Prop where
 pp:Bg X pos ks vs Ps
theorem OP{pos:Pos}:DP X pos [] [] []:=⟨xM⟩
theorem Vf{pos:Pos}{tk tv:TE}{Ps:List (TE × TE)}(hk:ae X k tk)(hv:ae X v tv)(h:DP X pos ks vs Ps):DP X pos (some k::ks) (v::vs) ((tk,tv)::Ps):=⟨YL hk.pe hv.pe h.pp⟩
theorem kC{pos:Pos}{Ps:List (TE × TE)}(h:DP X pos ks vs Ps)(lv:ks.all (·.isSome)=true)(hl:ks.length=vs.length)(h0:ks≠[])(EU:ks.length<=15):ae X (.Dict ks vs pos) (vk Ps):=⟨xN h.pp lv hl h0 EU⟩
end
theorem DQ{K:Frag}{M:Heap}{x qual:Str}{st:Stmt}{fd:FuncData}{N ps:List Str}{k:Nat}{sp:Sp}(F:aA K x qual st f fd)(S:aa N ps (Qe st))(len:∀vs H Q E,sp vs H Q E->vs.length=ps.length)
  (ce:∀(ad:Value)(A:Around)(L:List Env)(s:Shared)(H:Hp)(vs:List V)(Q:VK)(E:XK),aq k (A.deeper (envOfC qual (Qe st) s.heap.objs.size f ad))->sp vs H Q E->
   ∃t,aN (Xe (ao P w) P w K mg M N qual (Qe st) f ad A L s H E) (QK st) t/\t {nx:=λ_ H'=>Q .ax H',rt:=Q} (start N vs) H):ag P w K mg M (ao P w) (k+1) f fd ps sp:=
 eB F S len λad A L s H vs Q E hr Os=>by
  obtain⟨t,h,q⟩:=ce ad A L s H vs Q E hr Os;exact⟨t,h.ps,q⟩
end L2
namespace aF
noncomputable def aT(m:Int):Int:=10^m.toNat
noncomputable def Kp(i:Int):Int:=if i<0 then-i else i
noncomputable def l9(a b:Int):Int:=if decide (a<0) !=decide (b<0)then-(Kp a/Kp b)else Kp a/Kp b
noncomputable def short(a b:Int):Int:=if a*b<0 then 0-Kp a/Kp b else Kp a/Kp b
noncomputable def zS(u o p:Int):Int:=l9 (u*aT (p-o)) (aT (o-p))
theorem Ze(m:Int):0<aT m:=Int.pow_pos (by lia)
theorem qQ(h:m<=0):aT m=1:=by
 unfold aT;rw[Int.toNat_of_nonpos h];rfl
theorem qR(ha:0<=a)(hb:0<=b):aT (a+b)=aT a*aT b:=by
 unfold aT;rw[Int.toNat_add ha hb,Int.pow_add]
theorem jP(ht:0<t):Kp (i*t)=Kp i*t:=by
 unfold Kp
 by_cases h:i<0
 .rw[yaf h,yaf (ybC h ht),Int.neg_mul]
 .rw[yac h,yac (ydj.mpr (ydE (ydj.mp h) (ycA ht)))]
theorem VC(ht:0<t):Kp t=t:=by unfold Kp;rw[yac (by lia)]
theorem lt_mul{i t:Int}(ht:0<t):decide (i*t<0)=decide (i<0):=by
 by_cases h:i<0
 .rw[ly h,ly (ybC h ht)]
 .rw[lx h,lx (ydj.mpr (ydE (ydj.mp h) (ycA ht)))]
theorem vM(ht:0<t)(hb:0<b):l9 (u*t) b=if u<0 then-(Kp u*t/b)else Kp u*t/b:=by
 unfold l9;rw[lt_mul ht,jP ht,VC hb,lx (ydj.mpr (ycA hb))]
 by_cases h:u<0
 .rw[ly h,yaf h];rfl
 .rw[lx h,yac h];rfl
theorem UW(ht:0<t)(hb:0<b):short (u*t) b=if u<0 then-(Kp u*t/b)else Kp u*t/b:=by
 unfold short;rw[jP ht,VC hb]
 by_cases h:u<0
 .rw[yaf h,yaf (ybC (ybC h ht) hb)];lia
 .rw[yac h,yac (ydj.mpr (ydE (ydE (ydj.mp h) (ycA ht)) (ycA hb)))]
theorem OQ(h1:0<=o)(h2:o<=18)(h3:0<=p)(h4:p<=18):zS u o p=short (u*aT (18-o)) (aT (18-p)):=by
 unfold zS;rw[vM (Ze _) (Ze _),UW (Ze _) (Ze _)];have e:Kp u*aT (p-o)/aT (o-p)=Kp u*aT (18-o)/aT (18-p):=by
  by_cases h:o<=p
  .rw[qQ (show o-p<=0 by lia),yed,show(18:Int)-o=(p-o)+(18-p) by lia,qR (by lia) (by lia), <-Int.mul_assoc,Int.mul_ediv_cancel _ (ybP (Ze _))]
  .rw[qQ (show p-o<=0 by lia),Int.mul_one,show(18:Int)-p=(o-p)+(18-o) by lia,qR (by lia) (by lia),Int.mul_ediv_mul_of_pos_left _ _ (Ze _)]
 rw[e]
theorem OR(h:a<=b)(hb:0<=b):aT a<=aT b:=by
 by_cases ha:0<=a
 .rw[show b=a+(b-a) by lia,qR ha (by lia)];have:=Ze (b-a);have h2:=Ze a
  calc aT a=aT a*1:=(Int.mul_one _).symm
   _<=aT a*aT (b-a):=Int.mul_le_mul_of_nonneg_left (by lia) (ycA h2)
 .rw[qQ (by lia)];have:=Ze b;lia
end aF
namespace bj
open PySem PySem.NumText Builtin Builtin.Str StrLaws
noncomputable abbrev tx(l:List Nat):Str:=⟨l.toArray⟩
theorem JD(l:List Nat):(tx l).cps.toList=l:=rfl
theorem Qh(l:List Nat):(tx l).length=l.length:=by show l.toArray.size=_;rw[lW]
theorem Ye(z:Str):z=tx z.cps.toList:=by cases z;rfl
theorem len_list(z:Str):z.length=z.cps.toList.length:=by show z.cps.size=_;rw[lV]
theorem UX(h:tx a=tx b):a=b:=by
 have:=yaI (λz:Str=>z.cps.toList) h;exact this
theorem QR(a b:List Nat):tx a++tx b=tx (a++b):=by
 show(⟨a.toArray++b.toArray⟩:Str)=_;rw[List.append_toArray]
noncomputable def dec(n:Nat):List Nat:=(Nat.toDigits 10 n).map Char.toNat
theorem XZ(n:Nat):PySem.Str.ofString (toString ((n:Nat):Int))=tx (dec n):=by
 rw[Ye (PySem.Str.ofString _),PySem.W.KIN.signs_num n];rfl
theorem kD(n:Nat):digitsVal (dec n)=n:=PySem.W.KIN.val_back n
theorem qS(n:Nat):AllDigits (dec n):=by
 intro c hc;obtain⟨ch,h1,rfl⟩:=ybQ.mp hc;have h:=Nat.isDigit_of_mem_toDigits (b:=10) (by lia) (by lia) h1;unfold Char.isDigit at h;simp only[yaO,ydL]at h;exact⟨ydY.mp h.1,ydY.mp h.2⟩
theorem IL(n:Nat):1<=(dec n).length:=by
 unfold dec;rw[lu];exact toDigits_len_ge 10 n
theorem qT(h:n<2^100):(dec n).length<=100:=by
 have:=nat_repr_length_le (n:=n) (k:=100) (by lia) h;unfold dec;rw[lu];have e:(Nat.repr n).length=(Nat.toDigits 10 n).length:=by rw[<-String.length_toList,Nat.toList_repr]
 lia
theorem kF(ha:AllDigits a)(hb:AllDigits b):AllDigits (a++b):=λc hc=>(yao.mp hc).elim (ha c) (hb c)
theorem kG(k:Nat):AllDigits (replicate k 48):=λc hc=>by rw[yav hc];lia
theorem OS(b:List Nat):∀acc:Nat,b.foldl (λacc c=>acc*10+(c-48)) acc=acc*10^b.length+b.foldl (λacc c=>acc*10+(c-48)) 0:=by
 induction b with
 |nil=>intro acc;simp
 |cons c r ih=>
  intro acc;rw[ycH,ycH,ih (acc*10+(c-48)),ih (0*10+(c-48)),lD,Nat.pow_succ];rw[Nat.add_mul,yeF,ybd,yew,ydz 10,yex]
theorem Xp(a b:List Nat):digitsVal (a++b)=digitsVal a*10^b.length+digitsVal b:=by
 unfold digitsVal;rw[List.foldl_append,OS]
theorem qU(k:Nat):digitsVal (replicate k 48)=0:=by
 induction k with
 |zero=>rfl
 |succ k ih=>rw[show replicate (k+1) 48=[48]++replicate k 48 from rfl,Xp,ih];simp[digitsVal]
theorem X3(h:AllDigits l):digitsVal l<10^l.length:=by
 induction l with
 |nil=>decide
 |cons c r ih=>
  have h1:=ih h.tail;have h2:=h.head;rw[show c::r=[c]++r from rfl,Xp,lq,lC];have e:digitsVal [c]=c-48:=by simp[digitsVal]
  rw[e,Nat.pow_add];have h3:(c-48)*10^r.length<=9*10^r.length:=Nat.mul_le_mul_right _ (by lia);lia
noncomputable def IM(n o:Nat):List Nat:=replicate (o+1-(dec n).length) 48++dec n
theorem kH(n o:Nat):Txt.zfill (tx (dec n)) ((o:Int)+1)=tx (IM n o):=by
 have hl:=Qh (dec n);unfold Txt.zfill IM
 split
 .rename_i h;rw[hl]at h;rw[show o+1-(dec n).length=0 by lia];rfl
 .rename_i h;rw[hl]at h ⊢;have e:((o:Int)+1).toNat-(dec n).length=o+1-(dec n).length:=by lia
  rw[e];unfold zfilled;have hd:=qS n;have hn:=IL n;cases hc:dec n with
  |nil=>rw[hc]at hn;exact absurd hn (by lia)
  |cons c r=>
   rw[hc]at hd;have hr:=hd.head;have e0:(tx (c::r)).cps[0]? =some c:=rfl;rw[e0];have key:padded (tx (c::r)) (o+1-(c::r).length) 0 48=tx (replicate (o+1-(c::r).length) 48++(c::r)):=by
    unfold padded;rw[Ye ⟨_⟩]
    congr 1
    simp
   split
   .rename_i h1;cases h1;lia
   .rename_i h1;cases h1;lia
   .exact key
theorem Kq(l:List Nat)(h:k<=l.length):sliceText (tx l) none (some (k:Int))=tx (l.take k):=by
 have e:=sliceText_nat (tx l) (a:=0) (b:=k) (lX _) (by rw[Qh];exact h);have e2:sliceText (tx l) none (some (k:Int))=sliceText (tx l) (some ((0:Nat):Int)) (some (k:Int)):=by
  unfold sliceText;rw[sliceIdx_none_lo];rfl
 rw[e2,e];simp
theorem XD(l:List Nat)(h:a<=l.length)(Pi:a<=b):sliceText (tx l) (some (a:Int)) (some (b:Int))=tx ((l.drop a).take (b-a)):=by
 by_cases hb:b<=l.length
 .exact sliceText_nat (tx l) Pi (by rw[Qh];exact hb)
 .have e2:sliceText (tx l) (some (a:Int)) (some (b:Int))=sliceText (tx l) (some (a:Int)) (some ((l.length:Nat):Int)):=by
   have e3:strSliceIndices (some (a:Int)) (some (b:Int)) 1 (tx l).length=strSliceIndices (some (a:Int)) (some ((l.length:Nat):Int)) 1 (tx l).length:=by
    rw[Qh];unfold strSliceIndices;have h1:¬ ((b:Int)<0):=by lia
    have h2:¬ (((l.length:Nat):Int)<0):=by lia
    have h3:min (b:Int) (l.length:Int)=l.length:=by lia
    have h4:min ((l.length:Nat):Int) (l.length:Int)=l.length:=by lia
    simp only[h1,h2,ycu,h3,h4,show((1:Int)>0)=True from by simp,ybK]
   unfold sliceText;rw[e3]
  rw[e2,sliceText_nat (tx l) h (by rw[Qh];exact lA _)];have e4:(l.drop a).take (l.length-a)=(l.drop a).take (b-a):=by
   rw[yaq (by rw[lJ];lia),yaq (by rw[lJ];lia)]
  show tx ((l.drop a).take (l.length-a))=_;rw[e4]
theorem J7(l:List Nat)(k:Nat):sliceText (tx l) (some (k:Int)) none=tx (l.drop k):=by
 by_cases h:k<=l.length
 .have e2:sliceText (tx l) (some (k:Int)) none=sliceText (tx l) (some (k:Int)) (some ((l.length:Nat):Int)):=by
   unfold sliceText;rw[sliceIdx_none_hi,Qh]
  rw[e2,XD l h h];rw[yaq (by rw[lJ];lia)]
 .rw[yay (by lia)];have e3:strSliceIndices (some (k:Int)) none 1 (tx l).length=[]:=by
   rw[sliceIdx_none_hi,Qh];unfold strSliceIndices;have h1:¬ ((k:Int)<0):=by lia
   have h2:¬ (((l.length:Nat):Int)<0):=by lia
   have h3:max (0:Int) (min (k:Int) (l.length:Int))=l.length:=by lia
   have h4:max (0:Int) (min ((l.length:Nat):Int) (l.length:Int))=l.length:=by lia
   simp only[h1,h2,ycu,show((1:Int)>0)=True from by simp,ybK,h3,h4];unfold sliceRange;simp
  unfold sliceText;rw[e3]
  split
  .rename_i h1;have:l.length=0:=by
    have h2:(0==(tx l).length)=true:=by simpa using h1
    rw[Qh]at h2;have:=yci.mp h2;lia
   rw[yaH.mp this]
  .rfl
theorem sub_one(l:List Nat)(c:Nat):subAt (tx l) ⟨#[c]⟩ 0=(l.head?==some c):=by
 rw[subAt_eq];show((l.drop 0).take 1==[c])=_;cases l with
 |nil=>rfl
 |cons a r=>
  simp only[List.drop_zero,List.take_succ_cons,yer,yds]
  by_cases h:a=c
  .subst h;simp
  .rw[yaC.mpr (by simpa using h),yaC.mpr (by simpa using h)]
theorem vN(c:Nat):("0123456789":Str).cps.contains c=decide (48<=c/\c<=57):=by
 have e:("0123456789":Str).cps= #[48,49,50,51,52,53,54,55,56,57]:=by rfl'
 rw[e]
 by_cases h:c<58
 .exact (by rfl':∀c:Nat,c<58->(#[48,49,50,51,52,53,54,55,56,57]:Array Nat).contains c=decide (48<=c/\c<=57)) c h
 .rw[decide_eq_false (λz=>h (Nat.lt_succ_of_le z.2))];exact Bool.eq_false_iff.mpr λz=>h ((by decide:∀x∈([48,49,50,51,52,53,54,55,56,57]:List Nat),x<58) c (yai.mp (by rw[List.contains_toArray]at z;exact z)))
noncomputable instance (l:List Nat):Decidable (AllDigits l):=inferInstanceAs (Decidable (∀c∈l,48<=c/\c<=57))
theorem UY{l:List Nat}{c:Nat}(h:c∈l.takeWhile p):p c=true:=by
 induction l with
 |nil=>cases h
 |cons a r ih=>
  rw[ybS]at h;cases hp:p a with
  |false=>rw[hp]at h;cases h
  |true=>
   rw[hp,yaf rfl]at h;rcases yag.mp h with rfl|h
   .exact hp
   .exact ih h
theorem kI(l:List Nat):decide (Txt.stripChars (tx l) "0123456789"=(Str.empty:Str))=decide (AllDigits l):=by
 have g:∀c,("0123456789":Str).cps.contains c=true↔(48<=c/\c<=57):=λc=>by rw[vN];simp
 unfold Txt.stripChars Txt.stripBy stripSame stripped stripLo stripHi;simp only[ybK,Qh];generalize hp:(("0123456789":Str).cps.contains:Nat->Bool)=p;have g':∀c,p c=true↔(48<=c/\c<=57):=λc=>by rw[<-hp];exact g c
 by_cases h:AllDigits l
 .rw[ly h,ly];have e1:(tx l).cps.toList.takeWhile p=l:=takeWhile_all λc hc=>(g' c).mpr (h c hc);rw[e1];have e2:(tx l).cps.toList.drop l.length=[]:=yay (lA _);rw[e2];show(if(l.length==0&&l.length==l.length)=true then tx l else strSub (tx l) l.length l.length)=Str.empty
  by_cases hz:(l.length==0&&l.length==l.length)=true
  .rw[yaf hz];have:l.length=0:=by
    simp only[yaO,yci]at hz;exact hz.1
   rw[yaH.mp this];rfl
  .rw[yac hz,Ye (strSub _ _ _),strSub_toList,yeG,yer];rfl
 .rw[lx h,lx];have bn:((tx l).cps.toList.takeWhile p).length<l.length:=by
   have hle:((tx l).cps.toList.takeWhile p).length<=l.length:=ybT (yaU p);rcases ybc ((tx l).cps.toList.takeWhile p).length l.length with z|z
   .exact z
   .refine absurd (λc hc=>?_) h;have e:(tx l).cps.toList.takeWhile p=l:=ybo (yaU p) z;rw[<-e]at hc;exact(g' c).mp (UY hc)
  generalize Do:((tx l).cps.toList.takeWhile p).length=lo at bn;have eY:∃a r,l.drop lo=a::r/\p a=false:=by
   have hd:l.dropWhile p=l.drop lo:=by
    have:=ybN (p:=p) (l:=l);have e3:l.drop lo=((l.takeWhile p)++l.dropWhile p).drop lo:=by rw[this]
    rw[e3,ybp (by rw[<-Do];exact lA _),yay (by rw[<-Do];exact lA _),lR]
   cases hx:l.drop lo with
   |nil=>
    have:=yaI List.length hx;rw[lJ,ybj]at this;lia
   |cons a r=>
    exists a,r,Z;rw[hx]at hd;have:=ydM (p:=p) (l:=l);rw[hd]at this;simpa using this
  obtain⟨a,r,hx,iB⟩:=eY;have f8:(tx l).cps.toList.drop lo=a::r:=hx;rw[f8];have l':r.length+1=l.length-lo:=by
   have:=yaI List.length hx;rw[lJ,lD]at this;lia
  have hk:((a::r).reverse.takeWhile p).length<=r.length:=by
   rw[List.reverse_cons];have hle:((r.reverse++[a]).takeWhile p).length<=r.length:=by
    by_cases lv:∀c∈r.reverse,p c=true
    .rw[ydh lv,ybS,iB];simp
    .have:((r.reverse++[a]).takeWhile p).length<(r.reverse++[a]).length:=by
      have hle:((r.reverse++[a]).takeWhile p).length<=(r.reverse++[a]).length:=ybT (yaU p);rcases ybc ((r.reverse++[a]).takeWhile p).length (r.reverse++[a]).length with z|z
      .exact z
      .have e:(r.reverse++[a]).takeWhile p=r.reverse++[a]:=ybo (yaU p) z;have:p a=true:=UY (l:=r.reverse++[a]) (by rw[e];simp);rw[iB]at this;cases this
     rw[lq,ydq,lC]at this;lia
   exact hle
  split
  .intro z;have:=yaI (λz:Str=>z.cps.toList.length) z;have e0:l.length=0:=this;lia
  .intro z;have:=yaI (λz:Str=>z.cps.toList.length) z;have e0:(strSub (tx l) lo (l.length-((a::r).reverse.takeWhile p).length)).cps.toList.length=0:=this;rw[strSub_toList,lI,JD,hx,lD]at e0;lia
end bj
namespace aQ
open PySem.NumText
noncomputable abbrev Rw:=Nat × Nat
noncomputable def Jq(t:List Nat):Nat × List Nat:=match t with
 |40::r=>if 41∈r/\r.takeWhile (· !=41)≠[]/\AllDigits (r.takeWhile (· !=41))/\(r.takeWhile (· !=41)).head?≠some 48 then(digitsVal (r.takeWhile (· !=41)),r.drop ((r.takeWhile (· !=41)).length+1))else(1,t)
 |_=>(1,t)
noncomputable def Q7(rows:List Rw)(c n:Nat):List Rw:=match rows.getLast? with
 |some (c',m)=>if c'=c then rows.dropLast++[(c,n+m)]else rows++[(c,n)]
 |none=>rows++[(c,n)]
noncomputable def WX:Nat->List Nat->List Rw->List Rw
 |0,_,rows=>rows
 |_,[],rows=>rows
 |k+1,c::t,rows=>WX k (Jq t).2 (Q7 rows c (Jq t).1)
noncomputable def rowsOf(l:List Nat):List Rw:=WX l.length l []
noncomputable def ins(c:Nat):Bool:=[44,66,48,47].contains c
noncomputable def zT:List (List Nat):=[[57],[83,57],[86,57],[83,86,57],[57,86,57],[83,57,86,57]]
structure Facts where
 kind:Nat
 signed:Bool
 before:Nat
 behind:Nat
deriving DecidableEq,Repr
noncomputable def WC:List Rw->Bool->Bool->Nat->Nat->Option (Bool × Nat × Nat)
 |[],s,_,a,b=>some (s,a,b)
 |(c,n)::r,s,p,a,b=>if c=57 then(if p then WC r s p a n else WC r s p n b)else if n>1 then none else if c=83 then WC r true p a b else WC r s true a b
noncomputable def Q8(rows:List Rw):Option Facts:=if zT.contains (rows.map (·.1))then(match WC rows false false 0 0 with
 |some (s,a,b)=>if a+b>18 then none else some ⟨2,s,a,b⟩
 |none=>none)else none
noncomputable def JL(rows:List Rw):Option Facts:=match rows with
 |[(c,n)]=>if(c≠88/\c≠65)\/n>60 then none else some ⟨if c=88 then 0 else 1,false,0,0⟩
 |_=>none
noncomputable def JT(rows:List Rw):Bool:=match rows with
 |(c,n)::r=>decide (n>1)||(match r.dropWhile (λx=>ins x.1)with|(c',_)::_=>c'==c|[]=>false)
 |[]=>false
noncomputable def Zx:List (List Nat)->List Rw->List Nat->List Nat × List Rw
 |[],rows,Y=>(Y,rows)
 |ch::more,rows,Y=>match rows with
  |(c,n)::r=>if ch.contains c&& !JT rows then Zx more r (Y++[c])else Zx more rows Y
  |[]=>Zx more rows Y
noncomputable def Z5(rows:List Rw):List Nat × List Rw:=Zx [[43,45],[36]] rows []
noncomputable def Q3(place:Nat):List Rw->Nat->Nat × List Rw
 |[],many=>(many,[])
 |(c,n)::r,many=>if c=place then Q3 place r (many+n)else if ins c then Q3 place r many else(many,(c,n)::r)
noncomputable def Ji(rows:List Rw):List Nat × Nat × Nat × List Rw:=match rows with
 |(c,n)::r=>if[57,90,42,43,45,36].contains c then(let x:=Q3 c rows 0;let y:=Q3 57 x.2 0;([c],x.1,y.1,y.2))else([],0,0,rows)
 |[]=>([],0,0,rows)
noncomputable def Jz(rows:List Rw)(place:List Nat):Option Nat × List Rw:=match rows with
 |(46,n)::r=>if n>1\/r=[]then(none,rows)else(match r with
  |(c,m)::r'=>if c≠57/\([c]≠place\/[43,45,36].contains c)then(none,rows)else(some m,r')
  |[]=>(none,rows))
 |_=>(some 0,rows)
noncomputable def J4:List (List Nat):=[[43],[45],[67,82],[68,66]]
noncomputable def KG(rows:List Rw):Option (List Nat):=if rows=[]then some []else if !J4.contains (rows.map (·.1))||rows.any (λx=>decide (x.2>1))then none else some (rows.map (·.1))
noncomputable def JE(rows:List Rw):Option Facts:=
 let ld:=Z5 rows
 let wp:=Ji ld.2
 let bp:=Jz wp.2.2.2 (if wp.2.2.1=0 then wp.1 else[57])
 let tl:=KG bp.2
 match wp.1,bp.1,tl with
 |[place],some behind,some tail=>
  let fl:Bool:=[43,45,36].contains place
  if fl&&decide (wp.2.1<2)then none
  else
   let shown:=[ld.1.take 1,[place],tail].filter (J4.contains ·)
   if shown.length>1 then none
   else
    let before:=wp.2.1+wp.2.2.1-(if fl then 1 else 0)
    if before+behind>18 then none else some ⟨3,shown.length==1,before,behind⟩
 |_,_,_=>none
noncomputable def J5(rows:List Rw):Option Facts:=match Q8 rows with
 |some f=>some f
 |none=>match JL rows with
  |some f=>some f
  |none=>JE rows
noncomputable def Q9(l:List Nat):Option Facts:=J5 (rowsOf l)
end aQ
theorem Aw:0<=PySem.sizeLine:=by rw[ybO];lia
theorem bN:1<=PySem.sizeLine:=by rw[ybO];lia
theorem bA:2<=PySem.sizeLine:=by rw[ybO];lia
theorem Ax:3<=PySem.sizeLine:=by rw[ybO];lia
theorem eZ:4<=PySem.sizeLine:=by rw[ybO];lia
theorem IP:5<=PySem.sizeLine:=by rw[ybO];lia
namespace Lw
open PySem PySem.Spec PyProof.Rows L2 bj aQ
open Builtin Builtin.Str StrLaws
theorem JG(l:List Nat)(c:Nat):(!(occurrences (tx l) (tx [c]) 0 (tx l).length 1).isEmpty)=l.contains c:=by
 rcases occ_head (tx l) (tx [c]) 1 (lA _)with⟨h1,h2⟩|⟨i,t,h1,h2,h3⟩
 .have hn:c∉l:=λhm=>by
   obtain⟨j,hj⟩:=ycf.mp hm;exact h2 j ((subAt_one (tx l) c j).mpr hj)
  rw[h1];simp[hn]
 .have hi:l[i]? =some c:=(subAt_one (tx l) c i).mp h2;have hm:c∈l:=ycf.mpr ⟨i,hi⟩;rw[h1];simp[hm]
theorem vO(l:List Nat)(c:Nat):Txt.startswith (tx l) (tx [c])=(l.head?==some c):=by
 unfold Txt.startswith;have e:(tx [c])=(⟨#[c]⟩:Str):=rfl;rw[e,sub_one];cases l with
 |nil=>rfl
 |cons a r=>
  rw[ly (by show 0+1<=(tx (a::r)).length;rw[Qh,lD];lia)];rfl
theorem XH(a b:List Nat):decide (V.str (tx a)=V.str (tx b))=decide (a=b):=by
 by_cases h:a=b
 .rw[ly h,ly (by rw[h])]
 .rw[lx h,lx λq=>h (UX (V.str.inj q))]
theorem Jv(a b:Nat):decide (V.str (tx [a])=V.str (tx [b]))=decide (a=b):=by
 rw[XH]
 by_cases h:a=b
 .rw[ly h,ly (by rw[h])]
 .rw[lx h,lx λq=>h (ycL q).1]
theorem vP(n a:Nat):fromIndex n (a:Int)=a:=by
 unfold fromIndex;rw[yac (by lia)];lia
theorem OT{l:List Nat}{c i:Nat}(hi:l[i]? =some c)(hn:∀k,k<i->l[k]? ≠some c):l.takeWhile (· !=c)=l.take i:=by
 induction l generalizing i with
 |nil=>cases hi
 |cons a r ih=>
  cases i with
  |zero=>
   have:a=c:=by simpa using hi
   subst this;simp
  |succ i=>
   have hb:(a !=c)=true:=by
    have:=hn 0 (yeE _);simpa using this
   rw[ybS,hb];simp only[ybK,List.take_succ_cons];rw[ih (i:=i) (by simpa using hi) λk hk=>by
    have:=hn (k+1) (by lia);simpa using this]
theorem OU{a c:Nat}(h:l.drop a=40::r)(hc:c≠40):
  (c∉r/\ke (tx l) (tx [c]) (a:Int)= -1)\/(c∈r/\ke (tx l) (tx [c]) (a:Int)=((a+1+(r.takeWhile (· !=c)).length:Nat):Int)):=by
 have hd:∀i,l[a+i]? =(40::r)[i]? :=λi=>by rw[<-h,ybZ]
 unfold ke;rw[vP];rcases occ_head_from (tx l) (tx [c]) a 1 (lA _)with⟨h1,h2⟩|⟨i,t,h1,h2,h3,h4⟩
 .refine .inl ⟨λhm=>?_,by rw[h1]⟩;obtain⟨j,hj⟩:=ycf.mp hm;refine h2 (a+(j+1)) (by lia) ((subAt_one (tx l) c _).mpr ?_);show l[a+(j+1)]? =some c;rw[hd];exact hj
 .have hi:l[i]? =some c:=(subAt_one (tx l) c i).mp h3;obtain⟨k,rfl⟩:∃k,i=a+k:=⟨i-a,by lia⟩;rw[hd]at hi;cases k with
  |zero=>exact absurd (by simpa using hi) (Ne.symm hc)
  |succ k=>
   have hk:r[k]? =some c:=by simpa using hi
   have e:=OT (l:=r) (c:=c) (i:=k) hk λm hm z=>h4 (a+(m+1)) (by lia) (by lia) ((subAt_one (tx l) c _).mpr (by show l[a+(m+1)]? =some c;rw[hd];exact z));refine .inr ⟨ycf.mpr ⟨k,hk⟩,?_⟩;have hkl:=(yaj.mp hk).1;rw[h1,e,lI,ybb (by lia)];show((a+(k+1):Nat):Int)=_
   congr 1
   lia
theorem zU(l:List Nat){a b:Nat}(h:b<a)(hl:1<=l.length):sliceText (tx l) (some (a:Int)) (some (b:Int))=tx []:=by
 have e3:strSliceIndices (some (a:Int)) (some (b:Int)) 1 (tx l).length=[]:=by
  rw[Qh];unfold strSliceIndices;have h1:¬ ((a:Int)<0):=by lia
  have h2:¬ ((b:Int)<0):=by lia
  have h3:max (0:Int) (min (a:Int) (l.length:Int))≥max (0:Int) (min (b:Int) (l.length:Int)):=by lia
  simp only[h1,h2,ycu,show((1:Int)>0)=True from by simp,ybK];unfold sliceRange;simp;lia
 unfold sliceText;rw[e3]
 split
 .rename_i h1;have:l.length=0:=by
   have h2:(0==(tx l).length)=true:=by simpa using h1
   rw[Qh]at h2;have:=yci.mp h2;lia
  lia
 .rfl
noncomputable def oa(x:Rw):HO:=.tup [.str (tx [x.1]),.int (x.2:Nat)]
inductive bB (H:Hp):List Addr->List Rw->Prop where
 |nil:bB H [] []
 |cons {r:Addr} {rs:List Addr} {x:Rw} {xs:List Rw}:H r=some (oa x)->bB H rs xs->bB H (r::rs) (x::xs)
section
variable {H H':Hp}{rs:List Addr}{rows:List Rw}
theorem bB.len(h:bB H rs rows):rs.length=rows.length:=by
 induction h with
 |nil=>rfl
 |cons _ _ ih=>rw[lD,lD,ih]
theorem bB.keep(h:bB H rs rows)(e:∀b xs,H b=some (.tup xs)->H' b=some (.tup xs)):bB H' rs rows:=by
 induction h with
 |nil=>exact .nil
 |cons a _ ih=>exact .cons (e _ _ a) ih
theorem bB.at(h:bB H rs rows):∀{i:Nat}{x:Rw},rows[i]? =some x->∃r,rs[i]? =some r/\H r=some (oa x):=by
 induction h with
 |nil=>intro i x e;cases e
 |cons a _ ih=>
  intro i x e;cases i with
  |zero=>exact⟨_,Z,by have:_=x:=lB e;rw[<-this];exact a⟩
  |succ i=>exact ih (i:=i) (x:=x) e
theorem bB.app(h:bB H rs rows)(e:H r=some (oa x)):bB H (rs++[r]) (rows++[x]):=by
 induction h with
 |nil=>exact .cons e .nil
 |cons a _ ih=>exact .cons a ih
theorem bB.dr(h:bB H rs rows):∀k,bB H (rs.drop k) (rows.drop k):=by
 induction h with
 |nil=>intro k;rw[List.drop_nil,List.drop_nil];exact .nil
 |cons a t ih=>
  intro k;cases k with
  |zero=>exact .cons a t
  |succ k=>exact ih k
end
structure ak(K:Frag)(H:Hp)(p:Addr)(rs:List Addr)(rows:List Rw):Prop where
 sq:az K H p (rs.map V.ref)
 rw:bB H rs rows
 le:rows.length<=600
section
variable {K:Frag}{H H':Hp}{p:Addr}{rs:List Addr}{rows:List Rw}{σ:L2.St}{i k:Nat}{Q:VK}
theorem az.same{K:Frag}{xs:List V}(e:Qs H H')(h:az K H a xs):az K H' a xs:=by
 rcases h with(h|⟨o,h⟩)|h
 .exact .inl (.inl (e _ _ h))
 .exact .inl (.inr ⟨o,e _ _ h⟩)
 .exact .inr h
theorem ak.same(R:ak K H p rs rows)(e:Qs H H'):ak K H' p rs rows:=⟨az.same e R.sq,R.rw.keep λb xs h=>e _ _ h,R.le⟩
theorem ak.len(R:ak K H p rs rows):(rs.map V.ref).length=rows.length:=by rw[lu,R.rw.len]
theorem ak.at(R:ak K H p rs rows){x:Rw}(e:rows[k]? =some x):∃r,ck (rs.map V.ref) (k:Int)=some (.ref r)/\H r=some (oa x):=by
 obtain⟨r,h1,h2⟩:=R.rw.at e;exact⟨r,Zc (by rw[lK,h1];rfl),h2⟩
theorem UZ(h1:σ[i]? =some (some (.ref p)))(h2:∀Q:VK,Q (.int (k:Nat)) H->te σ H Q) (R:ak K H p rs rows)  (e:rows[k]? =some x) (q:∀r,H r=some (oa x)->Q (.ref r) H):bc (Am K) (ZN i) te σ H Q:=by
 obtain⟨r,a,b⟩:=R.at e;exact⟨_,h1,h2 _ ⟨p,_,_,_,Z,Z,R.sq,a,q r b⟩⟩
theorem X4(h1:σ[i]? =some (some (.ref p)))(h2:∀Q:VK,Q (.int (k:Nat)) H->te σ H Q) (R:ak K H p rs rows)  (e:rows[k]? =some x) (q:Q (.str (tx [x.1])) H):bc (qw K) (bc (Am K) (ZN i) te) (tC (.int 0)) σ H Q:=
 UZ h1 h2 R e λr b=>⟨r,_,_,_,Z,Z,aj.of b,Z,q⟩
theorem IQ(h1:σ[i]? =some (some (.ref p)))(h2:∀Q:VK,Q (.int (k:Nat)) H->te σ H Q) (R:ak K H p rs rows)  (e:rows[k]? =some x) (q:Q (.int (x.2:Nat)) H):bc (qw K) (bc (Am K) (ZN i) te) (tC (.int 1)) σ H Q:=
 UZ h1 h2 R e λr b=>⟨r,_,_,_,Z,Z,aj.of b,Z,q⟩
theorem ZV(h1:σ[i]? =some (some (.ref p)))(R:ak K H p rs rows)(q:Q (.int (rows.length:Nat)) H):oS (λxs H Q=>∃p ys,xs=[.ref p]/\(az K H p ys\/aj K H p ys)/\Q (.int ys.length) H) (Jy (ZN i) Ww) σ H Q:=
 ⟨_,h1,p,_,Z,.inl R.sq,by rw[R.len];exact q⟩
theorem Zu(h:σ[i]? =some (some (.int (k:Nat)))):∀Q:VK,Q (.int (k:Nat)) H->ZN i σ H Q:=λQ q=>⟨_,h,q⟩
end
theorem ZI(l:List Nat):Txt.join "" (l.map λc=>tx [c])=tx l:=by
 show Builtin.Str.glued _ _=_;rw[ycY];have e:("":Str)=⟨#[]⟩:=by rfl'
 rw[e];exact join_ones l
theorem vQ:∀(l:List Nat)(n:Nat),(l.map λc=>tx [c]).foldl (λ(m:Nat)(s:Str)=>m+s.length+("":Str).length) n=n+l.length:=by
 have e:("":Str).length=0:=by rfl'
 intro l
 induction l with
 |nil=>intro n;rfl
 |cons a r ih=>
  intro n;show(r.map λc=>tx [c]).foldl _ (n+(tx [a]).length+("":Str).length)=_;rw[ih,e,Qh,lD,lD,ybj];lia
theorem X5{l:List Nat}(h:l.length<=1000):JoinOk "" (l.map λc=>tx [c])=true:=by
 unfold JoinOk;rw[<-Array.foldl_toList,List.toList_toArray,vQ];unfold tooLong;have hz:=zza
 rw[lx (by lia)];rfl
noncomputable def top(i:Nat):Stmt:=PySem.Challenge.pw_boxmoves_k17_moves.main.body.getD i (.Pass ⟨0,0,0,0⟩)
noncomputable abbrev YU:Stmt:=top 19
theorem Wj:aa ["many","power","turn"] ["many"] (Qe YU):=by constructor<;>rfl'
noncomputable abbrev X6:Stmt:=top 20
theorem YV:aa ["text"] ["text"] (Qe X6):=by constructor<;>rfl'
noncomputable abbrev KQ:Stmt:=top 21
theorem ZJ:aa ["text","number","start","part"] ["text"] (Qe KQ):=by constructor<;>rfl'
noncomputable abbrev X7:Stmt:=top 22
theorem Zv:aa ["number","above","parts","part"] ["number"] (Qe X7):=by constructor<;>rfl'
noncomputable abbrev FG:Stmt:=top 24
theorem kJ:aa ["amount","places","units","own"] ["amount","places"] (Qe FG):=by constructor<;>rfl'
noncomputable abbrev YW:Stmt:=top 25
theorem VD:aa ["amount","before","behind","units","kept"] ["amount","before","behind"] (Qe YW):=by constructor<;>rfl'
noncomputable abbrev Xq:Stmt:=top 26
theorem X8:aa ["number","by","quotient"] ["number","by"] (Qe Xq):=by constructor<;>rfl'
noncomputable abbrev Wk:Stmt:=top 37
theorem WD:aa ["picture","rows","facts"] ["picture"] (Qe Wk):=by constructor<;>rfl'
noncomputable abbrev jQ:Stmt:=top 38
theorem KR:aa ["picture","rows","facts","kind","signed","before","behind"] ["picture"] (Qe jQ):=by constructor<;>rfl'
noncomputable abbrev Wl:Stmt:=top 39
theorem WE:aa ["picture","rows","facts"] ["picture"] (Qe Wl):=by constructor<;>rfl'
noncomputable abbrev Xi:Stmt:=top 40
theorem XI:aa ["picture","rows","facts"] ["picture"] (Qe Xi):=by constructor<;>rfl'
noncomputable abbrev Zw:Stmt:=top 41
theorem ZO:aa ["kind","picture","rows","facts"] ["kind","picture"] (Qe Zw):=by constructor<;>rfl'
noncomputable abbrev XJ:Stmt:=top 42
theorem Yf:aa ["rows"] ["rows"] (Qe XJ):=by constructor<;>rfl'
noncomputable abbrev VE:Stmt:=top 43
theorem Zz:aa ["thing","rows","at","symbol","many"] ["thing"] (Qe VE):=by constructor<;>rfl'
noncomputable abbrev WF:Stmt:=top 44
theorem KS:aa ["text","at","end","number"] ["text","at"] (Qe WF):=by constructor<;>rfl'
noncomputable abbrev WG:Stmt:=top 45
theorem XL:aa ["rows","facts"] ["rows"] (Qe WG):=by constructor<;>rfl'
noncomputable abbrev Xr:Stmt:=top 46
theorem Jr:aa ["rows","symbol","many","signed","behind_point","figures"] ["rows"] (Qe Xr):=by constructor<;>rfl'
noncomputable abbrev XM:Stmt:=top 47
theorem Xt:aa ["rows","symbol","many"] ["rows"] (Qe XM):=by constructor<;>rfl'
noncomputable abbrev Xu:Stmt:=top 48
theorem QV:aa ["rows","lead","start","place","many","nines","behind","end","tail","floats","shown","before"] ["rows"] (Qe Xu):=by constructor<;>rfl'
noncomputable abbrev Xv:Stmt:=top 49
theorem Js:aa ["rows","lead","start","place","many","nines","behind","end"] ["rows"] (Qe Xv):=by constructor<;>rfl'
noncomputable abbrev VF:Stmt:=top 50
theorem ZZ:aa ["rows","lead","at","choice"] ["rows"] (Qe VF):=by constructor<;>rfl'
noncomputable abbrev KU:Stmt:=top 51
theorem ZK:aa ["rows","at","symbol","many","behind"] ["rows","at"] (Qe KU):=by constructor<;>rfl'
noncomputable abbrev VG:Stmt:=top 52
theorem ZA:aa ["rows","at","place","many","nines","behind"] ["rows","at"] (Qe VG):=by constructor<;>rfl'
noncomputable abbrev X9:Stmt:=top 53
theorem J8:aa ["rows","at","place","many","nines"] ["rows","at"] (Qe X9):=by constructor<;>rfl'
noncomputable abbrev KY:Stmt:=top 54
theorem Xj:aa ["rows","at","place","many"] ["rows","at","place"] (Qe KY):=by constructor<;>rfl'
noncomputable abbrev XN:Stmt:=top 55
theorem Xw:aa ["rows","at","place","symbol","many"] ["rows","at","place"] (Qe XN):=by constructor<;>rfl'
noncomputable abbrev VH:Stmt:=top 56
theorem Yw:aa ["rows","at","tail"] ["rows","at"] (Qe VH):=by constructor<;>rfl'
noncomputable abbrev Vg:Stmt:=top 61
theorem Zh:aa ["picture","amount","rows","signed","before","behind","lead","body","tail","units","is_below"] ["picture","amount"] (Qe Vg):=by constructor<;>rfl'
noncomputable abbrev ZW:Stmt:=top 62
theorem Q6:aa ["picture","text","rows","signed","before","behind","lead","body","tail","pairs","units","choice"] ["picture","text"] (Qe ZW):=by constructor<;>rfl'
noncomputable abbrev Xx:Stmt:=top 63
theorem VI:aa ["body"] ["body"] (Qe Xx):=by constructor<;>rfl'
noncomputable abbrev XO:Stmt:=top 64
theorem Yg:aa ["symbols"] ["symbols"] (Qe XO):=by constructor<;>rfl'
noncomputable abbrev KZ:Stmt:=top 65
theorem U0:aa ["symbols","is_below"] ["symbols","is_below"] (Qe KZ):=by constructor<;>rfl'
noncomputable abbrev K1:Stmt:=top 66
theorem Xk:aa ["body","units","is_below","signs","hidden","place"] ["body","units","is_below"] (Qe K1):=by constructor<;>rfl'
noncomputable abbrev YX:Stmt:=top 67
theorem Z6:aa ["body","units","symbol","many","figures","signs","used"] ["body","units"] (Qe YX):=by constructor<;>rfl'
noncomputable abbrev K2:Stmt:=top 68
theorem Ka:aa ["body","signs","at","symbol"] ["body","signs"] (Qe K2):=by constructor<;>rfl'
noncomputable abbrev Xl:Stmt:=top 73
theorem JU:aa ["picture","amount","rows","signed","before","behind","units","figures"] ["picture","amount"] (Qe Xl):=by constructor<;>rfl'
noncomputable abbrev XQ:Stmt:=top 74
theorem JH:aa ["picture","content","rows","signed","before","behind","last","is_below","figures","units"] ["picture","content"] (Qe XQ):=by constructor<;>rfl'
noncomputable abbrev jR:Stmt:=top 75
theorem VJ:aa ["content","picture","other","right","source","target","text","moved"] ["content","picture","other","right"] (Qe jR):=by constructor<;>rfl'
noncomputable abbrev vR:Stmt:=top 76
theorem OV:aa ["picture","amount"] ["picture","amount"] (Qe vR):=by constructor<;>rfl'
noncomputable abbrev ZX:Stmt:=top 77
theorem Xy:aa ["content","picture","kind","figures"] ["content","picture"] (Qe ZX):=by constructor<;>rfl'
noncomputable abbrev ZE:Stmt:=top 78
theorem JM:aa ["content","picture","signed","before","behind","units","places"] ["content","picture"] (Qe ZE):=by constructor<;>rfl'
noncomputable abbrev VL:Stmt:=top 79
theorem zV:aa ["text","size","right"] ["text","size","right"] (Qe VL):=by constructor<;>rfl'
noncomputable abbrev K3:Stmt:=top 81
theorem ZL:aa ["_law_script","_law_town","_law_many","_law_at","_law_rest","_law_number"] ["_law_script","_law_town","_law_many"] (Qe K3):=by constructor<;>rfl'
noncomputable abbrev Kb:Stmt:=top 82
theorem YY:aa [] [] (Qe Kb):=by constructor<;>rfl'
noncomputable abbrev Kc:Stmt:=top 83
theorem JV:aa ["_law_kept","_law_kinds","_law_found"] ["_law_kept"] (Qe Kc):=by constructor<;>rfl'
noncomputable abbrev JQ:Stmt:=top 84
theorem Za:aa ["_law_deed","_law_kept","_law_found","e"] ["_law_deed"] (Qe JQ):=by constructor<;>rfl'
noncomputable abbrev ZP:Stmt:=top 85
theorem Zb:aa ["_law_script","_law_town","_law_figures","_law_far","_law_units","_law_places_here","_law_k"] ["_law_script","_law_town","_law_figures","_law_far"] (Qe ZP):=by constructor<;>rfl'
noncomputable abbrev XR:Stmt:=top 86
theorem ZF:aa ["_law_script","_law_town","_law_symbol","_law_most","_law_found","_law_k"] ["_law_script","_law_town","_law_symbol","_law_most"] (Qe XR):=by constructor<;>rfl'
noncomputable abbrev ZQ:Stmt:=top 87
theorem QL:aa ["_law_script","_law_town","_law_first","_law_whole","_law_broken","_law_signs","_law_lead","_law_tail"] ["_law_script","_law_town"] (Qe ZQ):=by constructor<;>rfl'
noncomputable abbrev K4:Stmt:=top 88
theorem Zo:aa ["_law_parts","_law_lead","_law_first","_law_whole","_law_broken","_law_tail"] ["_law_parts"] (Qe K4):=by constructor<;>rfl'
noncomputable abbrev Jw:Stmt:=top 89
theorem QA:aa ["_law_parts","_law_amount","_law_lead","_law_first","_law_whole","_law_broken","_law_tail","_law_symbol","_law_places_here","_law_floats","_law_before","_law_behind","_law_units","_law_figures","_law_less","_law_mark","_law_size","_law_ahead","_law_stars","_law_row","_law_left","_law_stop","_law_at","_law_end"] ["_law_parts","_law_amount"] (Qe Jw):=by constructor<;>rfl'
noncomputable abbrev Z7:Stmt:=top 90
theorem JF:aa ["_law_script","_law_town","_law_shows","_law_before","_law_behind","_law_line_here"] ["_law_script","_law_town"] (Qe Z7):=by constructor<;>rfl'
noncomputable abbrev Xz:Stmt:=top 91
theorem Z8:aa ["_law_shows","_law_before","_law_behind","_law_amount","_law_units","_law_figures"] ["_law_shows","_law_before","_law_behind","_law_amount"] (Qe Xz):=by constructor<;>rfl'
noncomputable abbrev QP:Stmt:=top 92
theorem QM:aa ["_law_script","_law_town","_law_turn","_law_size","_law_line_here","_law_shows","_law_before","_law_behind","_law_content_here","_law_parts","_law_sort","_law_k"] ["_law_script","_law_town"] (Qe QP):=by constructor<;>rfl'
noncomputable abbrev Qw:Stmt:=top 93
theorem Qt:aa ["_law_one","_law_line_here","_law_kind","_law_room_so","_law_content_here","_law_short_so","_law_sign","_law_last","_law_lead","_law_first","_law_whole","_law_broken","_law_tail","_law_figures","_law_at","_law_place","_law_symbol","_law_units"] ["_law_one"] (Qe Qw):=by constructor<;>rfl'
noncomputable abbrev XA:Stmt:=top 94
theorem VM:aa ["_law_content_here","_law_size","_law_right_here"] ["_law_content_here","_law_size","_law_right_here"] (Qe XA):=by constructor<;>rfl'
noncomputable abbrev QY:Stmt:=top 95
theorem Q0:aa ["_law_one","_law_two","_law_right_here","_law_line_here","_law_kind","_law_room_so","_law_content_here","_law_other_here","_law_there","_law_other_room","_law_old","_law_found","_law_bad","_law_amount","_law_figures"] ["_law_one","_law_two","_law_right_here"] (Qe QY):=by constructor<;>rfl'
noncomputable abbrev W2:Stmt:=top 96
theorem VN:aa ["_law_script","_law_town","_law_k","_law_told","_law_one","_law_right_here","_law_two"] ["_law_script"] (Qe W2):=by constructor<;>rfl'
section
variable {P:Program}{w:World}{K:Frag}{mg:Str->Option Value}{M:Heap}{f:Addr}{fd:FuncData}{tk:Nat->Tok}{c kr:Nat->Addr}
def zW:Sp:=λvs H Q _=>∃m:Int,vs=[.int m]/\ -(2^62)<=m/\m<2^62/\Q (.int (aF.aT m)) H
theorem kK(F:aA K "ten_to" "ten_to" YU f fd)(O:Own mg):ag P w K mg M (ao P w) 1 f fd ["many"] zW:=by
 refine okN F Wj (λvs H Q E h=>?_) (λad A L s H vs Q E hr h=>?_)
 .obtain⟨m,rfl,_⟩:=h;rfl
 .obtain⟨m,rfl,h1,h2,k⟩:=h;refine⟨_,(Qj (QN (i:=1) Wj.nd Z (Or.inl Z) Qi)
   (Qj (Vo yaG Z (XX Z O.range (Qa (pv 0) Qb)) (Z' 2 Wj.nd) (Qp (QN (i:=1) Wj.nd Z (Or.inl Z) (QI jz (pv 1) Qi))))
   (Qp (QG (pv 1))))),?_⟩
  refine⟨_,Z,m,Z,h1,h2,XY (n:=m.toNat) (λi σ H2=>∃v,σ=[some (.int m),some (.int (10^i)),v]/\H2=H) ⟨none,Z,Z⟩ ?_ ?_⟩
  .rintro i σ H2 hi ⟨v,rfl,rfl⟩;refine⟨_,Z,_,_,Z,Z,.inr ⟨by lia,by lia⟩,?_⟩;exact⟨_,by rw[Int.pow_succ];rfl,Z⟩
  .rintro σ H2 ⟨v,rfl,rfl⟩;exact⟨_,Z,k⟩
theorem VO(h:m<=40):(aF.aT m).natAbs<2^200:=by
 have h1:=aF.OR (a:=m) (b:=40) h (by lia);have h2:=aF.Ze m;have h3:aF.aT 40<2^200:=by lia
 lia
theorem big{a:Int}(h:a.natAbs<2^200):a.natAbs<2^2000:=yad h (by lia)
structure Txt(K:Frag)(mg:Str->Option Value)(tk:Nat->Tok)(c kr:Nat->Addr):Prop where
 pW:mg "BoxError"=some (.ref (c 0))
 ph:mg "NoPicture"=some (.ref (c 1))
 pk:mg "NoRoom"=some (.ref (c 2))
 pI:mg "NoQuotient"=some (.ref (c 3))
 rS:mg "NoText"=some (.ref (c 4))
 gU:mg "NoFigures"=some (.ref (c 5))
 pj:mg "NoLetters"=some (.ref (c 6))
 pq:mg "NoMove"=some (.ref (c 7))
 rT:mg "NoPath"=some (.ref (c 8))
 pY:mg "NoAmount"=some (.ref (c 9))
 rQ:mg "NoGroup"=some (.ref (c 10))
 rR:mg "BadSize"=some (.ref (c 11))
 rV:mg "NoBack"=some (.ref (c 12))
 rW:mg "BadRow"=some (.ref (c 13))
 rX:mg "Closed"=some (.ref (c 14))
 gO:mg "FIGURES"=some (.str "0123456789" (tk 0))
 nt:mg "PART"=some (.int 18 (tk 1))
 gL:mg "INSERTED"=some (.str ",B0/" (tk 2))
 nU:mg "SIGNS"=some (.str "+-" (tk 3))
 gG:mg "FLOATING"=some (.str "+-$" (tk 4))
 nu:mg "PLACES"=some (.str "9Z*+-$" (tk 5))
 gy:mg "MOST_FIGURES"=some (.int 18 (tk 6))
 gN:mg "MOST_SIGNS"=some (.int 60 (tk 7))
 gD:mg "LAST_BELOW"=some (.str "pqrstuvwxy" (tk 8))
 gk:mg "LETTERS_AND_BLANK"=some (.str "abcdefghijklmnopqrstuvwxyzABCDEFGHIJKLMNOPQRSTUVWXYZ " (tk 9))
 gW:mg "BESIDE"=some (.ref (kr 3))
 gX:mg "NOT_BELOW"=some (.ref (kr 4))
 nV:mg "BELOW"=some (.ref (kr 5))
 nW:mg "MOVES"=some (.ref (kr 6))
 gH:mg "NUMBER_FORMS"=some (.ref (kr 0))
 nM:mg "SHOWN"=some (.ref (kr 1))
 gF:mg "PLAIN_KINDS"=some (.ref (kr 2))
 tW:∀H,aj K H (kr 0) [.str "9",.str "S9",.str "V9",.str "SV9",.str "9V9",.str "S9V9"]
 nN:∀H,aj K H (kr 1) [.str "+",.str "-",.str "CR",.str "DB"]
 pO:iY K (c 1)
 pP:iY K (c 2)
 rY:∀H,aj K H (kr 7) [.str "number",.str "edited",.str "text"]
 rZ:∀H,aj K H (kr 8) [.str "number",.str "edited",.str "text"]
 r6:∀H,aj K H (kr 9) [.str "number",.str "edited",.str "text",.str "letters"]
 r8:∀H,aj K H (kr 10) [.str "text",.str "letters"]
 mD:iY K (c 5)
 pR:iY K (c 6)
 pS:iY K (c 7)
 pT:kitOne K (.type "str") (.type "str")=some true
 pU:kitOne K (.type "int") (.type "str")=some false
 lj:kitOne K (.type "NoneType") (.type "str")=some false
 lp:kitOne K (.type "tuple") (.type "str")=some false
noncomputable def U1:List (Key × V):=[(Sum.inr "X",.str "text"),(Sum.inr "A",.str "letters")]
def VP:Sp:=λvs H Q _=>∃z:Str,vs=[.str z]/\z.length<=1000/\Q (.bl (decide (z.cps.toList≠[]/\NumText.AllDigits z.cps.toList))) H
theorem Wm(z:Str):decide (V.str z=V.str "")=decide (z.cps.toList=[]):=by
 have e:("":Str)=tx []:=by rfl'
 rw[e]
 by_cases h:z.cps.toList=[]
 .rw[ly h,ly];rw[Ye z,h]
 .rw[lx h,lx];intro q;exact h (by rw[V.str.inj q])
theorem kL(z:Str):decide (V.str (Txt.stripChars z "0123456789")=V.str "")=decide (NumText.AllDigits z.cps.toList):=by
 rw[Wm, <-kI z.cps.toList];have e:tx z.cps.toList=z:=(Ye z).symm;rw[e]
 by_cases h:(Txt.stripChars z "0123456789").cps.toList=[]
 .rw[ly h,ly];rw[Ye (Txt.stripChars _ _),h];rfl
 .rw[lx h,lx];intro q;exact h (by rw[q];rfl)
theorem YZ(F:aA K "is_figures" "is_figures" X6 f fd)(T:Txt K mg tk c kr):ag P w K mg M (ao P w) 1 f fd ["text"] VP:=by
 refine okN F YV (λvs H Q E h=>?_) (λad A L s H vs Q E hr h=>?_)
 .obtain⟨z,rfl,_⟩:=h;rfl
 .obtain⟨z,rfl,hl,k⟩:=h;exists _,(Qp (QG (Uw (J0 Xd (pv 0) Qc (Qn _)) (Uv (J0 Ja (Zd yaA ybD ybE Xh (pv 0) (Qa (QC (v:=V.str "0123456789") Z T.gO ⟨_,Z⟩) Qb)) Qc (Qn _))))));exists _,Z,Z,_,Z;refine aG (λh=>?_) (λh=>?_)
  .exists _,Z,Z,z,"0123456789",Z,Z,yas hl (by lia),Z;rw[Wm]at h;refine Eq.mp (yaI (λb=>Q (.bl b) H) ?_) k;rw[kL];have ul:z.cps.toList≠[]:=λq=>by rw[ly q]at h;cases h
   by_cases hd:NumText.AllDigits z.cps.toList
   .rw[ly hd,ly ⟨ul,hd⟩]
   .rw[lx hd,lx λq=>hd q.2]
  .rw[Wm]at h;have ul:z.cps.toList=[]:=by
    by_cases q:z.cps.toList=[]
    .exact q
    .rw[lx q]at h;cases h
   refine Eq.mp (yaI (λb=>Q (.bl b) H) ?_) k;exact lx λq=>q.1 ul
def zX:Sp:=λvs H Q _=>∃z:Str,vs=[.str z]/\NumText.AllDigits z.cps.toList/\z.length<=500/\Q (.int (NumText.digitsVal z.cps.toList:Nat)) H
theorem U2(F:aA K "number_of" "number_of" KQ f fd)(O:Own mg)(T:Txt K mg tk c kr)(gA:Def P w K mg M 1 "ten_to" ["many"] zW):ag P w K mg M (ao P w) 2 f fd ["text"] zX:=by
 refine okN F ZJ (λvs H Q E h=>?_) (λad A L s H vs Q E hr h=>?_)
 .obtain⟨z,rfl,_⟩:=h;rfl
 .obtain⟨z,rfl,hd,h2,k⟩:=h;have ST:=len_list z;refine⟨_,(Qj (QN (i:=1) ZJ.nd Z (Or.inl Z) Qi)
   (Qj (Vo yaG Z (kc Z O.range (Qa Qi (Qa (Qq QH Z O.len yaK (Qa (pv 0) Qb)) (Qa (QC (v:=V.int 18) Z T.nt ⟨_,Z⟩) Qb)))) (Z' 2 ZJ.nd) (Qj (QN (i:=3) ZJ.nd Z (Or.inl Z) (QZ J2 (pv 0) (Q2 (pv 2)) (Q2 (QI JK (pv 2) (QC (v:=V.int 18) Z T.nt ⟨_,Z⟩)))))
   (Qp (QN (i:=1) ZJ.nd Z (Or.inl Z) (QI JK (QI YM (pv 1) (gA.pq hr Qy (Qa (Qq QH Z O.len yaK (Qa (pv 3) Qb)) Qb))) (Jh Jg Z O.int ycU (Qa (pv 3) Qb)))))))
   (Qp (QG (pv 1))))),?_⟩
  have hn:Builtin.Range.rangeSize 0 (z.length:Int) 18=(((z.length+17)/18:Nat):Int):=by
   unfold Builtin.Range.rangeSize;rw[yaf (by lia)]
   split<;>lia
  refine⟨_,Z,z,Z,yas h2 (by lia),0,(z.length:Int),18,_,Z,⟨by lia,by lia,by lia,by lia,by lia,by lia⟩,hn,zN (λi σ H2=>∃x2 x3,σ=[some (.str z),some (.int (NumText.digitsVal (z.cps.toList.take (18*i)):Nat)),x2,x3]/\H2=H) ⟨none,none,Z,Z⟩ ?_ ?_⟩
  .rintro i σ H2 hi ⟨x2,x3,rfl,rfl⟩;have OW:18*i<z.length:=by lia
   have hs:StrLaws.sliceText z (some (0+(i:Int)*18)) (some (0+(i:Int)*18+18))=tx ((z.cps.toList.drop (18*i)).take 18):=by
    have e1:(0+(i:Int)*18)=((18*i:Nat):Int):=by lia
    have e2:(0+(i:Int)*18+18)=((18*i+18:Nat):Int):=by lia
    rw[e2,e1];have:=XD z.cps.toList (a:=18*i) (b:=18*i+18) (by lia) (by lia);rw[<-Ye z,show 18*i+18-18*i=18 by lia]at this;exact this
   refine⟨_,Z,_,Z,_,Z,_,Z,_,_,Z,Z,_,Z,z,Z,yas h2 (by lia),?_⟩;rw[hs];have IS:NumText.AllDigits ((z.cps.toList.drop (18*i)).take 18):=λc hc=>hd c (yaY (ybf hc));have mt:((z.cps.toList.drop (18*i)).take 18).length<=18:=by rw[lI];lia
   have fX:1<=((z.cps.toList.drop (18*i)).take 18).length:=by rw[lI,lJ];lia
   have ss:z.cps.toList.take (18*(i+1))=z.cps.toList.take (18*i)++(z.cps.toList.drop (18*i)).take 18:=by rw[show 18*(i+1)=18*i+18 by lia,List.take_add]
   generalize (z.cps.toList.drop (18*i)).take 18=pl at IS mt fX ss;have ci:=Qh pl;have OX:=X3 (l:=z.cps.toList.take (18*i)) λc hc=>hd c (ybf hc);have OY:NumText.digitsVal (z.cps.toList.take (18*i))<10^500:=yad OX (yat (by lia) (by rw[lI];lia));refine⟨_,Z,_,Z,tx pl,Z,by rw[ci];exact yas mt (by lia),_,Z,by lia,by lia,_,_,Z,Z,⟨yaD OY (by lia),big (VO (by lia))⟩,?_⟩;exists _,Z,tx pl,_,Z,ybG IS (λq=>by rw[JD]at q;rw[q]at fX;exact absurd fX (by lia)) (by rw[ci];lia),by rw[ci];lia,_,_,Z,Z;have et:aF.aT (((tx pl).length:Nat):Int)=((10^pl.length:Nat):Int):=by
    unfold aF.aT;rw[lZ,ci];push_cast;rfl
   have key:((NumText.digitsVal (z.cps.toList.take (18*i)):Nat):Int)*aF.aT (((tx pl).length:Nat):Int)+((NumText.digitsVal (tx pl).cps.toList:Nat):Int)=((NumText.digitsVal (z.cps.toList.take (18*(i+1))):Nat):Int):=by
    rw[ss,Xp,et,JD];push_cast;rfl
   refine⟨some (.int (0+(i:Int)*18)),some (.str (tx pl)),?_,Z⟩;rw[<-key];rfl
  .rintro σ H2 ⟨x2,x3,rfl,rfl⟩;exists _,Z;rw[yaq (by lia)];exact k
def qV:Sp:=λvs H Q _=>∃(l:List Nat)(a:Nat),vs=[.str (tx l),.int (a:Nat)]/\l.length<=500/\a<=l.length/\∀b,a<=b->b<=l.length->(Jq (l.drop a)).2=l.drop b->∀q,H q=none->Q (.ref q) (upd H q (.tup [.int ((Jq (l.drop a)).1:Nat),.int (b:Nat)]))
theorem vS(h:t.take 1≠[40]):Jq t=(1,t):=by
 unfold Jq
 split
 .exact absurd rfl h
 .rfl
theorem kM(h:¬ (41∈r/\r.takeWhile (· !=41)≠[]/\NumText.AllDigits (r.takeWhile (· !=41))/\(r.takeWhile (· !=41)).head?≠some 48)):Jq (40::r)=(1,40::r):=yac h
theorem zY(h:41∈r/\r.takeWhile (· !=41)≠[]/\NumText.AllDigits (r.takeWhile (· !=41))/\(r.takeWhile (· !=41)).head?≠some 48):Jq (40::r)=(NumText.digitsVal (r.takeWhile (· !=41)),r.drop ((r.takeWhile (· !=41)).length+1)):=yaf h
theorem U3(a:Nat):(a:Int)+1=((a+1:Nat):Int):=by lia
theorem qW(F:aA K "times_at" "times_at" WF f fd)(O:Own mg)(T:Txt K mg tk c kr)(gu:Def P w K mg M 1 "is_figures" ["text"] VP)(gf:Def P w K mg M 2 "number_of" ["text"] zX):
  ag P w K mg M (ao P w) 3 f fd ["text","at"] qV:=by
 refine okN F KS (λvs H Q E h=>?_) (λad A L s H vs Q E hr h=>?_)
 .obtain⟨l,a,rfl,_⟩:=h;rfl
 .obtain⟨l,a,rfl,hl,ha,k⟩:=h;have hz:=zza
  have ci:=Qh l;have O0:("(":Str)=tx [40]:=by rfl'
  have O1:(")":Str)=tx [41]:=by rfl'
  have O2:("0":Str)=tx [48]:=by rfl'
  refine⟨_,(Qj (JP (Ql Xd (QZ J2 (pv 0) (Q2 (pv 1)) (Q2 (QI JK (pv 1) Qi))) Qc (Qn _)) (Qp (QG (Jf (Qa Qi (Qa (pv 1) Qb))))) QQ)
   (Qj (QN (i:=2) KS.nd Z (Or.inl Z) (Zd yaA slot_str_find type_str_find vE (pv 0) (Qa Qc (Qa (pv 1) Qb))))
   (Qj (QN (i:=3) KS.nd Z (Or.inl Z) (QZ J2 (pv 0) (Q2 (QI JK (pv 1) Qi)) (Q2 (Qq (Uz Z) Z O.max boot_max (Qa (pv 2) (Qa (pv 1) Qb))))))
   (Qj (JP (PW.pt (Xn (Kz (WT (gu.pq hr Qy (Qa (pv 3) Qb)))) (Zq (WT (Zd yaA slot_str_startswith type_str_startswith YR (pv 3) (Qa Qc Qb)))))) (Qp (QG (Jf (Qa Qi (Qa (pv 1) Qb))))) QQ)
   (Qp (QG (Jf (Qa (gf.pq hr Qy (Qa (pv 3) Qb)) (Qa (QI JK (pv 2) Qi) Qb))))))))),?_⟩
  refine⟨_,Z,_,Z,_,Z,_,Z,_,_,Z,Z,_,Z,tx l,Z,by lia,?_⟩;rw[U3,XD l (a:=a) (b:=a+1) ha (by lia),show a+1-a=1 by lia];exists Z,_,Z;have stop:Jq (l.drop a)=(1,l.drop a)->∀q,H q=none->Q (.ref q) (upd H q (.tup [.int 1,.int (a:Nat)])):=λe q hq=>by
   have:=k a (lA _) ha (by rw[e]) q hq;rw[e]at this;exact this
  rw[O0,XH];refine aG (λh1=>?_) (λh1=>?_)
  .refine⟨_,Z,bA,stop (vS λe=>?_)⟩;rw[e]at h1;cases h1
  have h2:(l.drop a).take 1=[40]:=by
   by_cases e:(l.drop a).take 1=[40]
   .exact e
   .rw[lx e]at h1;cases h1
  obtain⟨r,fY⟩:∃r,l.drop a=40::r:=by
   cases e:l.drop a with
   |nil=>rw[e]at h2;cases h2
   |cons b r=>
    rw[e]at h2;have:b=40:=(ycL h2).1;exact⟨r,by rw[this]⟩
  have l':l.length=a+(r.length+1):=by
   have:=yaI List.length fY;rw[lJ,lD]at this;lia
  have e8:¬ (41∈r/\r.takeWhile (· !=41)≠[]/\NumText.AllDigits (r.takeWhile (· !=41))/\(r.takeWhile (· !=41)).head?≠some 48)->∀q,H q=none->Q (.ref q) (upd H q (.tup [.int 1,.int (a:Nat)])):=λz=>stop (by rw[fY];exact kM z);exists _,Z,Z,_,Z,tx l,")",(a:Int),Z,Z;rw[O1];have og:=OU (c:=41) fY (by lia);generalize ke (tx l) (tx [41]) (a:Int)=e at og;refine⟨_,Z,_,Z,_,_,Z,Z,_,Z,_,Z,_,Z,_,_,Z,_,Z,tx l,Z,by lia,?_⟩;rw[U3];rcases og with⟨de,rfl⟩|⟨On,rfl⟩
  .have es:StrLaws.sliceText (tx l) (some ((a+1:Nat):Int)) (some (if(a:Int)> -1 then(a:Int)else-1))=tx []:=by
    rw[yaf (by lia)];exact zU l (by lia) (by lia)
   rw[es];exists _,Z,tx [],Z,by rw[Qh];lia,_,Z;refine aG (λ_=>?_) (λq=>?_)
   .exact⟨_,Z,bA,e8 λq=>de q.1⟩
   .have:decide ((tx []).cps.toList≠[]/\NumText.AllDigits (tx []).cps.toList)=false:=lx λz=>z.1 rfl;rw[this]at q;cases q
  .generalize hn:r.takeWhile (· !=41)=n;have hnl:n.length<=r.length:=by rw[<-hn];exact(ydZ _).length_le
   have hnr:n.length<r.length:=by
    rcases ybc n.length r.length with h|h
    .exact h
    .have e:n=r:=by rw[<-hn]at h ⊢;exact(ydZ _).eq_of_length_le h
     rw[<-e, <-hn]at On;have:=UY On;simp at this
   have ss:r.take n.length=n:=by
    have:=ybN (p:=(· !=41)) (l:=r);rw[hn]at this;rw[<-this,List.take_left]
   have es:StrLaws.sliceText (tx l) (some ((a+1:Nat):Int)) (some (if(a:Int)>((a+1+n.length:Nat):Int)then(a:Int)else((a+1+n.length:Nat):Int)))=tx n:=by
    rw[yac (by lia),XD l (by lia) (by lia),show a+1+n.length-(a+1)=n.length by lia];have:l.drop (a+1)=r:=by rw[<-ycV,fY];rfl
    rw[this,ss]
   rw[es];have hnt:=Qh n;exists _,Z,tx n,Z,by lia,_,Z;refine aG (λq=>?_) (λq=>?_)
   .refine⟨_,Z,bA,e8 λz=>?_⟩;rw[hn]at z;have:decide ((tx n).cps.toList≠[]/\NumText.AllDigits (tx n).cps.toList)=true:=ly ⟨z.2.1,z.2.2.1⟩;rw[this]at q;cases q
   have BZ:n≠[]/\NumText.AllDigits n:=by
    by_cases z:n≠[]/\NumText.AllDigits n
    .exact z
    .have:decide ((tx n).cps.toList≠[]/\NumText.AllDigits (tx n).cps.toList)=false:=lx z;rw[this]at q;cases q
   exists _,Z,Z,tx n,"0",Z,Z,trivial,_,Z;rw[O2,vO];refine aG (λq2=>?_) (λq2=>?_)
   .refine⟨_,Z,bA,e8 λz=>?_⟩;rw[hn]at z;exact z.2.2.2 (by simpa using q2)
   have B0:41∈r/\r.takeWhile (· !=41)≠[]/\NumText.AllDigits (r.takeWhile (· !=41))/\(r.takeWhile (· !=41)).head?≠some 48:=by
    rw[hn];exact⟨On,BZ.1,BZ.2,by simpa using q2⟩
   have fb:1<=n.length:=by cases n with|nil=>exact absurd rfl BZ.1|cons=>simp
   refine⟨_,Z,tx n,Z,BZ.2,by lia,_,Z,_,_,Z,Z,bA,λp hp=>?_⟩;have et:=zY B0;rw[hn]at et;have:=k (a+1+n.length+1) (by lia) (by lia) (by
    rw[fY,et];show r.drop (n.length+1)=_;have e1:l.drop (a+1)=r:=by rw[<-ycV,fY];rfl
    rw[<-e1,ycV]
    congr 1) p hp
   rw[fY,et]at this;exact this
def O3(v:V)(H:Hp):Prop:=v=.ax\/(∃i,v=.int i)\/∃a xs,v=.ref a/\H a=some (.tup xs)
def jS(K:Frag):Sp:=λvs H Q _=>∃(v:V)(rows:List Rw),vs=[v]/\((∃l,v=.str (tx l)/\l.length<=500/\rows=rowsOf l)\/(O3 v H/\rows=[]))/\∀p rs H',Qs H H'->ak K H' p rs rows->Q (.ref p) H'
theorem vT(t:List Nat):(Jq t).2.length<=t.length:=by
 unfold Jq
 split
 .split
  .show(List.drop _ _).length<=_;rw[lJ,lD];lia
  .exact lA _
 .exact lA _
theorem JW{c:TT}(Good:L2.St->Hp->Prop)(rest:∀σ' H',Good σ' H'->u D σ' H') (h:(∀σ' H',Good σ' H'->u D σ' H')->c σ H λb H1=>if b=true then t {D with nx:=u D} σ H1 else u D σ H1):Wu (AY c t Ux) u D σ H:=h rest
theorem bB.last{rs:List Addr}{rows:List Rw}(h:bB H rs rows):(rs=[]/\rows=[])\/∃cx r Fa x,rs=cx++[r]/\rows=Fa++[x]/\bB H cx Fa/\H r=some (oa x):=by
 induction h with
 |nil=>exact .inl ⟨Z,Z⟩
 |@cons r rs x xs a t ih=>
  rcases ih with⟨rfl,rfl⟩|⟨cx,r',Fa,x',rfl,rfl,h1,h2⟩
  .exact .inr ⟨[],r,[],x,Z,Z,.nil,a⟩
  .exact .inr ⟨r::cx,r',x::Fa,x',Z,Z,.cons a h1,h2⟩
theorem add_nil(c n:Nat):Q7 [] c n=[]++[(c,n)]:=rfl
theorem add_same(rows:List Rw)(c n m:Nat):Q7 (rows++[(c,m)]) c n=rows++[(c,n+m)]:=by
 unfold Q7;rw[ybq];simp
theorem kN{rows:List Rw}{c c' n m:Nat}(h:c'≠c):Q7 (rows++[(c',m)]) c n=(rows++[(c',m)])++[(c,n)]:=by
 unfold Q7;rw[ybq];simp[h]
theorem zZ(F:aA K "rows_of" "rows_of" VE f fd)(O:Own mg)(T:Txt K mg tk c kr)(nO:Def P w K mg M 3 "times_at" ["text","at"] qV):
  ag P w K mg M (ao P w) 4 f fd ["thing"] (jS K):=by
 refine okN F Zz (λvs H Q E h=>?_) (λad A L s H vs Q E hr h=>?_)
 .obtain⟨v,rows,rfl,_⟩:=h;rfl
 .obtain⟨v,rows,rfl,hv,k⟩:=h;have hz:=zza
  refine⟨_,(Qj (JP (Kz (WT (Qq JJ Z O.bf yaJ (Qa (pv 0) (Qa (xu (v:=V.ty "str") Z O.str yen Z) Qb))))) (Qp (QG (ZR Qb))) QQ)
   (Qj (QN (i:=1) Zz.nd Z (Or.inl Z) (ZR Qb))
   (Qj (QN (i:=2) Zz.nd Z (Or.inl Z) Qi)
   (Qj (W7 yaG (Ql K9 (pv 2) (Qq QH Z O.len yaK (Qa (pv 0) Qb)) (Qn _)) (Qj (QN (i:=3) Zz.nd Z (Or.inl Z) (QS Z1 (pv 0) (pv 2) (λ_ _=>rfl)))
   (Qj (Jk (nO.pq hr Qy (Qa (pv 0) (Qa (QI JK (pv 2) Qi) Qb))) (Q5 Z (Qf (Z' 4 Zz.nd) (Qf (Z' 2 Zz.nd) QD))))
   (Qj (JP (PW.pt (Jn (Je (pv 1) (λ_=>rfl)) (Jd (Ql Ja (QS Jl (QS Jc (pv 1) (KK Z0 Qi) (λ_ _=>rfl)) Qi (λ_ _=>rfl)) (pv 3) (Qn _))))) (Qp (Vm (i:=4) Zz.nd Z (Or.inl Z) (QS Jl (MQ yaV slot_list_pop type_list_pop MT (pv 1)) Qi (λ_ _=>rfl)) Yp)) QQ)
   (Qp (XW (Zd yaV yaP yaQ ZG (pv 1) (Qa (Jf (Qa (pv 3) (Qa (pv 4) Qb))) Qb))))))))
   (Qp (QG (pv 1))))))),?_⟩
  rcases hv with⟨l,rfl,hl,rfl⟩|⟨hv,rfl⟩
  .have ci:=Qh l;exists _,Z,.str (tx l),V.ty "str",true,Z,Z,.inl ⟨_,.str _,T.pT⟩,true,Z;refine QW ⟨Aw,λp hp=>?_⟩;have S1:=Qs.new (o:=.lst []) hp;refine⟨λm σ H2=>∃(a:Nat)(rs:List Addr)(rows:List Rw)(x3 x4:Option V)(kf:Nat),m=l.length-a/\a<=l.length/\σ=[some (.str (tx l)),some (.ref p),some (.int (a:Nat)),x3,x4]/\H2 p=some (.lst (rs.map V.ref))/\bB H2 rs rows/\Qs H H2/\rows.length<=a/\(l.drop a).length<=kf/\rowsOf l=WX kf (l.drop a) rows,⟨l.length,0,[],[],none,none,l.length,Z,lX _,Z,Qd,.nil,S1,lA _,by simp,Z⟩,?_⟩;rintro m σ H2 ⟨a,rs,rows,x3,x4,kf,rfl,FH,rfl,im,R2,S2,IT,DR,Ay⟩;exists _,Z,_,Z,tx l,Z,by lia,_,_,Z,Z,_,Z;refine aG (λh1=>?_) (λh1=>?_)
   .have ha:a<l.length:=by have:=yap h1;lia
    obtain⟨ch,Cl⟩:∃ch,l[a]? =some ch:=⟨_,yah ha⟩;have dn:l.drop a=ch::l.drop (a+1):=by rw[yaM ha];congr 1;rw[yah ha]at Cl;exact lB Cl
    exists _,λ_ _ h=>h,_,Z,_,Z,tx l,(a:Int),ch,Z,Z,by lia,Zc Cl;refine⟨_,Z,_,Z,_,_,Z,Z,l,a+1,Z,hl,by lia,λb Ca fW sC q hq=>⟨q,_,Z,aj.of Qd,Z,_,_,Z,_,_,Z,Z,?_⟩⟩;have S3:=Qs.new (o:=.tup [.int ((Jq (l.drop (a+1))).1:Nat),.int (b:Nat)]) hq;generalize O4:upd H2 q (.tup [.int ((Jq (l.drop (a+1))).1:Nat),.int (b:Nat)])=H3 at S3;have Az:=S3 _ _ im;have R3:=R2.keep λb xs h=>S3 _ _ h;have TW:=S2.trans S3;clear O4 hq S3 im R2 S2;cases kf with
    |zero=>rw[dn]at DR;exact absurd DR (by simp)
    |succ kf=>
    rw[dn]at Ay DR;have sD:rowsOf l=WX kf (Jq (l.drop (a+1))).2 (Q7 rows ch (Jq (l.drop (a+1))).1):=Ay;have Cb:(Jq (l.drop (a+1))).2.length<=kf:=by
     have:=vT (l.drop (a+1));rw[lD]at DR;lia
    rw[sC]at sD Cb;generalize (Jq (l.drop (a+1))).1=n at sD;dsimp only;refine JW (λσ' H'=>∃(AA:List Addr)(cY:List Rw)(nn:Nat),σ'=[some (.str (tx l)),some (.ref p),some (.int (b:Nat)),some (.str (tx [ch])),some (.int (nn:Nat))]/\H' p=some (.lst (AA.map V.ref))/\bB H' AA cY/\Qs H H'/\Q7 rows ch n=cY++[(ch,nn)]/\cY.length<=rows.length) ?_ (λrest=>?_)
    .rintro σ' H4 ⟨AA,cY,nn,rfl,oh,R4,S4,IU,hle⟩;refine⟨_,Z,.inl ⟨Z,_,.inl (.inl oh)⟩,_,Z,_,Z,bA,λq2 EQ=>?_⟩;have S5:=Qs.new (o:=.tup [.str (tx [ch]),.int (nn:Nat)]) EQ;have g5:upd H4 q2 (.tup [.str (tx [ch]),.int (nn:Nat)]) q2=some (oa (ch,nn)):=Qd;generalize upd H4 q2 (.tup [.str (tx [ch]),.int (nn:Nat)])=H5 at S5 g5;have DS:=S5 _ _ oh;have nq:q2≠p:=λz=>by rw[z,oh]at EQ;cases EQ
     have R5:=R4.keep λb xs h=>S5 _ _ h;have O5:=S4.trans S5;refine⟨p,_,_,Z,Z,DS,by rw[lu,R4.len];lia,l.length-b,by lia,b,AA++[q2],Q7 rows ch n,_,_,kf,Z,fW,Z,?_,?_,?_,?_,Cb,sD⟩
     .rw[Qd,lO];rfl
     .rw[IU];refine bB.app (R5.keep λb xs h=>?_) ?_
      .rw[Qx λz=>by rw[z,DS]at h;cases h];exact h
      .rw[Qx nq];exact g5
     .intro b o h;rw[Qx (Qz h hp)];exact O5 _ _ h
     .rw[IU,lq];simp;lia
    .rcases R3.last with⟨rfl,rfl⟩|⟨cx,r',Fa,⟨c',m'⟩,rfl,rfl,R4,g4⟩
     .exists _,Z,false,.inl ⟨_,az.of Az,Z⟩;exact QW (QW (rest _ _ ⟨[],[],n,Z,Az,.nil,TW,add_nil ch n,lA _⟩))
     .have oh:H3 p=some (.lst (cx.map V.ref++[V.ref r'])):=by rw[Az,lO];rfl
      have Cc:az K H3 p (cx.map V.ref++[V.ref r']):=az.of oh;refine⟨_,Z,true,.inl ⟨_,Cc,by cases cx<;>rfl⟩,?_⟩;refine Q4 ⟨_,Z,_,Z,p,_,_,_,Z,Z,Cc,Kl _ _,r',_,_,_,Z,Z,aj.of g4,Z,_,Z,Z,_,Z,?_⟩;rw[show(⟨#[ch]⟩:Str)=tx [ch]from rfl,Jv];refine aG (λh2=>?_) (λh2=>?_)
      .have hc:c'=ch:=yap h2;subst hc;exists _,Z,_,Z,.inl ⟨Z,_,Cc⟩,p,_,V.ref r',Z,Z,oh,by rw[lq];simp,r',[.str (tx [c']),.int (m':Nat)],1,.int (m':Nat),Z,Z,?_,Z,_,_,Z,Z
       .exact aj.of (by rw[Qx λz=>by rw[z,oh]at g4;cases g4];exact g4)
       .refine rest _ _ ⟨cx,Fa,n+m',Z,by rw[Qd,yep],R4.keep λb xs h=>?_,λb o h=>?_,add_same Fa c' n m',by simp⟩
        .rw[Qx λz=>by rw[z,oh]at h;cases h];exact h
        .rw[Qx (Qz h hp)];exact TW _ _ h
      .have hc:c'≠ch:=yau h2;exact rest _ _ ⟨_,_,n,Z,Az,R3,TW,kN hc,lA _⟩
   .have ha:a=l.length:=by have:=yau h1;lia
    subst ha;rw[ydV]at Ay;have SZ:rowsOf l=rows:=by
     rw[Ay];cases kf<;>rfl
    refine⟨_,Z,k p rs H2 S2 ⟨az.of im,by rw[SZ];exact R2,by rw[SZ];lia⟩⟩
  .have bf:∃x c b,[v,V.ty "str"]=[x,c]/\E8 c=true/\((∃t,bw K H x t/\kitOne K t (o9 c)=some b)\/∃a C,x=.ref a/\H a=some (xR a (.ref C))/\bE K C/\kitOne K (.ref C) (o9 c)=some b)/\b=false:=by
    rcases hv with rfl|⟨i,rfl⟩|⟨a,xs,rfl,e⟩
    .exact⟨_,_,false,Z,Z,.inl ⟨_,.ax,T.lj⟩,Z⟩
    .exact⟨_,_,false,Z,Z,.inl ⟨_,.int _,T.pU⟩,Z⟩
    .exact⟨_,_,false,Z,Z,.inl ⟨_,.tup e,T.lp⟩,Z⟩
   obtain⟨x,cc,b,e1,e2,e3,rfl⟩:=bf;exists _,Z,x,cc,false,e1,e2,e3,false,Z;refine Q4 ⟨Aw,λp hp=>?_⟩;exact k p [] _ (Qs.new hp) ⟨az.of Qd,.nil,by simp⟩
theorem drop_cons{α:Type}{l:List α}{a:Nat}{x:α}(h:l[a]? =some x):l.drop a=x::l.drop (a+1):=by
 have ha:=(yaj.mp h).1;rw[yaM ha]
 congr 1
 rw[yah ha]at h;exact lB h
theorem VQ{α:Type}{l:List α}{a:Nat}(h:a<l.length):∃x,l[a]? =some x:=⟨_,yah h⟩
theorem IV:(",B0/":Str)=tx [44,66,48,47]:=by rfl'
theorem vU:("+-$":Str)=tx [43,45,36]:=by rfl'
theorem IW:("+-":Str)=tx [43,45]:=by rfl'
theorem O6:("9Z*+-$":Str)=tx [57,90,42,43,45,36]:=by rfl'
theorem FI:("$":Str)=tx [36]:=by rfl'
theorem Y0:("9":Str)=tx [57]:=by rfl'
theorem vV:(".":Str)=tx [46]:=by rfl'
theorem W3:("":Str)=tx []:=by rfl'
def Y1(K:Frag):Sp:=λvs H Q _=>∃(p:Addr)(rs:List Addr)(rows:List Rw)(a:Nat),vs=[.ref p,.int (a:Nat)]/\ak K H p rs rows/\a<rows.length/\Q (.bl (JT (rows.drop a))) H
theorem U4(F:aA K "floats_at" "floats_at" KU f fd)(O:Own mg)(T:Txt K mg tk c kr):ag P w K mg M (ao P w) 1 f fd ["rows","at"] (Y1 K):=by
 refine okN F ZK (λvs H Q E h=>?_) (λad A L s H vs Q E hr h=>?_)
 .obtain⟨p,rs,rows,a,rfl,_⟩:=h;rfl
 .obtain⟨p,rs,rows,a,rfl,R,ha,k⟩:=h;refine⟨_,(Qj (Jk (QS Jc (pv 0) (pv 1) (λ_ _=>rfl)) (Q5 Z (Qf (Z' 2 ZK.nd) (Qf (Z' 3 ZK.nd) QD))))
   (Qj (JP (Ql Wa (pv 3) Qi (Qn _)) (Qp (QG WZ)) QQ)
   (Qj (QN (i:=4) ZK.nd Z (Or.inl Z) (QI JK (pv 1) Qi))
   (Qj (W7 yaG (PW.pt (Jn (Ql K9 (pv 4) (Qq QX Z O.len yaK (Qa (pv 0) Qb)) (Qn _)) (Jd (Ql Jo (QS Jl (QS Jc (pv 0) (pv 4) (λ_ _=>rfl)) Qi (λ_ _=>rfl)) (QC (v:=V.str ",B0/") Z T.gL ⟨_,Z⟩) (by with_unfolding_all rfl))))) (Qp (Vm (i:=4) ZK.nd Z (Or.inl Z) Qi Yp)))
   (Qp (QG (Uw (J0 K9 (pv 4) (Qq QX Z O.len yaK (Qa (pv 0) Qb)) (Qn _)) (Uv (J0 Ja (QS Jl (QS Jc (pv 0) (pv 4) (λ_ _=>rfl)) Qi (λ_ _=>rfl)) (pv 2) (Qn _)))))))))),?_⟩
  obtain⟨⟨y,n⟩,hx⟩:=VQ ha;rw[drop_cons hx]at k;refine UZ rfl (Zu Z) R hx λr dq=>⟨r,_,Z,aj.of dq,Z,_,_,Z,_,_,Z,Z,?_⟩;exists _,Z,_,_,Z,Z,_,Z;refine aG (λh1=>?_) (λh1=>?_)
  .have hn:n>1:=by have:=yap h1;lia
   have e:JT ((y,n)::rows.drop (a+1))=true:=by unfold JT;simp[hn]
   rw[e]at k;exact k
  have hn:¬ n>1:=by have:=yau h1;lia
  have e:JT ((y,n)::rows.drop (a+1))=(match(rows.drop (a+1)).dropWhile (λx=>ins x.1)with|(c',_)::_=>c'==y|[]=>false):=by
   show(decide (n>1)||_)=_;rw[lx hn,ydf]
   all_goals rfl
  rw[e]at k;clear e;exists _,Z,_,_,Z,Z;refine⟨λm σ H2=>∃b:Nat,m=rows.length-b/\b<=rows.length/\σ=[some (.ref p),some (.int (a:Nat)),some (.str (tx [y])),some (.int (n:Nat)),some (.int (b:Nat))]/\H2=H/\(rows.drop (a+1)).dropWhile (λx=>ins x.1)=(rows.drop b).dropWhile (λx=>ins x.1),⟨_,a+1,Z,by lia,Z,Z,Z⟩,?_⟩;rintro m σ H2 ⟨b,rfl,hb,rfl,rfl,hd⟩;refine⟨_,Z,ZV rfl R ⟨_,_,Z,Z,_,Z,?_⟩⟩;rcases ybc b rows.length with bn|cw
  .rw[ly (by lia)];obtain⟨⟨y2,n2⟩,ii⟩:=VQ bn;refine Q4 (X4 Z (Zu Z) R ii ⟨_,_,Z,Z,_,Z,?_⟩);rw[IV,JG];have hc:([44,66,48,47]:List Nat).contains y2=ins y2:=rfl;rw[hc];rw[drop_cons ii]at hd;refine aG (λh2=>?_) (λh2=>?_)
   .refine⟨_,λ_ _ h=>h,?_⟩;exists _,Z,_,_,Z,Z,_,?_,b+1,Z,by lia,Z,Z
    .lia
    .rw[hd,ybU,yaf h2]
   .rw[ybU,yac (by rw[h2];lia)]at hd;rw[hd]at k;refine⟨_,Z,ZV rfl R ⟨_,_,Z,Z,_,Z,?_⟩⟩;rw[ly (by lia)];refine Q4 (X4 Z (Zu Z) R ii ⟨_,Z,Z,?_⟩);rw[Jv];have e3:decide (y2=y)=(y2==y):=by by_cases z:y2=y<;>simp[z]
    rw[e3];exact k
  .rw[lx (by lia)];refine QW (QW ?_);rw[yay cw]at hd;rw[hd]at k;refine⟨_,Z,ZV rfl R ⟨_,_,Z,Z,_,Z,?_⟩⟩;rw[lx (by lia)];exact QW k
def Y2(K:Frag):Sp:=λvs H Q _=>∃(p:Addr)(rs:List Addr)(rows:List Rw)(a pc:Nat),vs=[.ref p,.int (a:Nat),.str (tx [pc])]/\ak K H p rs rows/\a<=rows.length/\
 ∀b many:Nat,b<=rows.length->Q3 pc (rows.drop a) 0=(many,rows.drop b)->∀q,H q=none->Q (.ref q) (upd H q (.tup [.int (many:Nat),.int (b:Nat)]))
theorem U5(F:aA K "places_of" "places_of" KY f fd)(O:Own mg)(T:Txt K mg tk c kr):ag P w K mg M (ao P w) 1 f fd ["rows","at","place"] (Y2 K):=by
 refine okN F Xj (λvs H Q E h=>?_) (λad A L s H vs Q E hr h=>?_)
 .obtain⟨p,rs,rows,a,pc,rfl,_⟩:=h;rfl
 .obtain⟨p,rs,rows,a,pc,rfl,R,ha,k⟩:=h;have hz:=zza
  refine⟨_,(Qj (QN (i:=3) Xj.nd Z (Or.inl Z) Qi)
   (Qj (W7 yaG (PW.pt (Jn (Ql K9 (pv 1) (Qq QX Z O.len yaK (Qa (pv 0) Qb)) (Qn _)) (Jd (PW.pt (Xn (Ql Ja (QS Jl (QS Jc (pv 0) (pv 1) (λ_ _=>rfl)) Qi (λ_ _=>rfl)) (pv 2) (Qn _)) (Zq (Ql Jo (QS Jl (QS Jc (pv 0) (pv 1) (λ_ _=>rfl)) Qi (λ_ _=>rfl)) (QC (v:=V.str ",B0/") Z T.gL ⟨_,Z⟩) (by with_unfolding_all rfl)))))))) (Qj (JP (Ql Ja (QS Jl (QS Jc (pv 0) (pv 1) (λ_ _=>rfl)) Qi (λ_ _=>rfl)) (pv 2) (Qn _)) (Qp (Vm (i:=3) Xj.nd Z (Or.inl Z) (QS Jl (QS Jc (pv 0) (pv 1) (λ_ _=>rfl)) Qi (λ_ _=>rfl)) Yp)) QQ)
   (Qp (Vm (i:=1) Xj.nd Z (Or.inl Z) Qi Yp))))
   (Qp (QG (Jf (Qa (pv 3) (Qa (pv 1) Qb))))))),?_⟩
  exists λm σ H2=>∃b many:Nat,m=rows.length-b/\b<=rows.length/\σ=[some (.ref p),some (.int (b:Nat)),some (.str (tx [pc])),some (.int (many:Nat))]/\H2=H/\Q3 pc (rows.drop a) 0=Q3 pc (rows.drop b) many,⟨_,a,0,Z,ha,Z,Z,Z⟩;rintro m σ H2 ⟨b,many,rfl,hb,rfl,rfl,hd⟩;refine⟨_,Z,ZV rfl R ⟨_,_,Z,Z,_,Z,?_⟩⟩;rcases ybc b rows.length with bn|cw
  .rw[ly (by lia)];obtain⟨⟨y,n⟩,hx⟩:=VQ bn;rw[drop_cons hx]at hd;refine Q4 (X4 Z (Zu Z) R hx ⟨_,Z,Z,_,Z,?_⟩);rw[Jv]
   by_cases h1:y=pc
   .rw[ly h1];refine Q4 (Q4 ⟨_,λ_ _ h=>h,X4 rfl (Zu Z) R hx ⟨_,Z,Z,_,Z,?_⟩⟩);rw[Jv,ly h1];refine Q4 ⟨_,Z,IQ rfl (Zu Z) R hx ⟨_,_,Z,Z,?_⟩⟩;exists _,Z,_,_,Z,Z,rows.length-(b+1),by lia,b+1,many+n,Z,by lia,Z,Z;rw[hd];show(if y=pc then Q3 pc (rows.drop (b+1)) (many+n)else _)=_;rw[yaf h1]
   .rw[lx h1];refine QW (X4 Z (Zu Z) R hx ⟨_,_,Z,Z,_,Z,?_⟩);rw[IV,JG];have hc:([44,66,48,47]:List Nat).contains y=ins y:=rfl;rw[hc];refine aG (λh2=>?_) (λh2=>?_)
    .refine⟨_,λ_ _ h=>h,X4 rfl (Zu Z) R hx ⟨_,Z,Z,_,Z,?_⟩⟩;rw[Jv,lx h1];refine QW ⟨_,Z,_,_,Z,Z,rows.length-(b+1),by lia,b+1,many,Z,by lia,Z,Z,?_⟩;rw[hd];show(if y=pc then _ else if ins y then Q3 pc (rows.drop (b+1)) many else _)=_;rw[yac h1,yaf h2]
    .have hd2:Q3 pc (rows.drop a) 0=(many,rows.drop b):=by
      rw[hd,drop_cons hx];show(if y=pc then _ else if ins y then _ else(many,(y,n)::rows.drop (b+1)))=_;rw[yac h1,yac (by rw[h2];lia)]
     exact⟨_,Z,_,Z,bA,k b many (by lia) hd2⟩
  .rw[lx (by lia)];refine QW (QW ?_);have fW:rows.drop b=[]:=yay cw;have hd2:Q3 pc (rows.drop a) 0=(many,rows.drop b):=by rw[hd,fW];rfl
   exact⟨_,Z,_,Z,bA,k b many (by lia) hd2⟩
def qX(K:Frag):Sp:=λvs H Q _=>∃(p:Addr)(rs:List Addr)(rows:List Rw)(a:Nat),vs=[.ref p,.int (a:Nat)]/\ak K H p rs rows/\a<=rows.length/\
 ∀(pl:List Nat)(many bi b:Nat),b<=rows.length->Ji (rows.drop a)=(pl,many,bi,rows.drop b)->∀q H',Qs H H'->H' q=some (.tup [.str (tx pl),.int (many:Nat),.int (bi:Nat),.int (b:Nat)])->Q (.ref q) H'
theorem Y3(F:aA K "whole_part" "whole_part" X9 f fd)(O:Own mg)(T:Txt K mg tk c kr)(mE:Def P w K mg M 1 "places_of" ["rows","at","place"] (Y2 K)):ag P w K mg M (ao P w) 2 f fd ["rows","at"] (qX K):=by
 refine okN F J8 (λvs H Q E h=>?_) (λad A L s H vs Q E hr h=>?_)
 .obtain⟨p,rs,rows,a,rfl,_⟩:=h;rfl
 .obtain⟨p,rs,rows,a,rfl,R,ha,k⟩:=h;have hz:=zza
  refine⟨_,(Qj (JP (PW.pt (Xn (Ql zw (pv 1) (Qq QX Z O.len yaK (Qa (pv 0) Qb)) (Qn _)) (Zq (Ql Jp (QS Jl (QS Jc (pv 0) (pv 1) (λ_ _=>rfl)) Qi (λ_ _=>rfl)) (QC (v:=V.str "9Z*+-$") Z T.nu ⟨_,Z⟩) (by with_unfolding_all rfl))))) (Qp (QG (Jf (Qa Qc (Qa Qi (Qa Qi (Qa (pv 1) Qb))))))) QQ)
   (Qj (QN (i:=2) J8.nd Z (Or.inl Z) (QS Jl (QS Jc (pv 0) (pv 1) (λ_ _=>rfl)) Qi (λ_ _=>rfl)))
   (Qj (Jk (mE.pq hr Qy (Qa (pv 0) (Qa (pv 1) (Qa (pv 2) Qb)))) (Q5 Z (Qf (Z' 3 J8.nd) (Qf (Z' 1 J8.nd) QD))))
   (Qj (Jk (mE.pq hr Qy (Qa (pv 0) (Qa (pv 1) (Qa Qc Qb)))) (Q5 Z (Qf (Z' 4 J8.nd) (Qf (Z' 1 J8.nd) QD))))
   (Qp (QG (Jf (Qa (pv 2) (Qa (pv 3) (Qa (pv 4) (Qa (pv 1) Qb))))))))))),?_⟩
  refine⟨_,Z,ZV rfl R ⟨_,_,Z,Z,_,Z,?_⟩⟩;have none:Ji (rows.drop a)=([],0,0,rows.drop a)->∀q,H q=none->Q (.ref q) (upd H q (.tup [.str "",.int 0,.int 0,.int (a:Nat)])):=λe q hq=>
   k [] 0 0 a ha e q _ (Qs.new hq) (by rw[Qd,W3];rfl)
  rcases ybc a rows.length with bn|cw
  .rw[lx (by lia)];obtain⟨⟨y,n⟩,hx⟩:=VQ bn;refine QW (X4 Z (Zu Z) R hx ⟨_,_,Z,Z,_,Z,?_⟩);rw[O6,JG];refine aG (λh1=>?_) (λh1=>?_)
   .refine⟨_,Z,eZ,none ?_⟩;rw[drop_cons hx];show(if([57,90,42,43,45,36]:List Nat).contains y then _ else _)=_;rw[yac (by rw[ybM]at h1;rw[h1];lia)]
   .have h2:([57,90,42,43,45,36]:List Nat).contains y=true:=by
     cases e:([57,90,42,43,45,36]:List Nat).contains y with
     |true=>rfl
     |false=>rw[e]at h1;cases h1
    refine X4 rfl (Zu Z) R hx ?_;refine⟨_,Z,_,Z,_,Z,p,rs,rows,a,y,Z,R,ha,λb many hb fX q hq=>⟨q,_,Z,aj.of Qd,Z,_,_,Z,_,_,Z,Z,?_⟩⟩;have S1:=Qs.new (o:=.tup [.int (many:Nat),.int (b:Nat)]) hq;generalize upd H q (.tup [.int (many:Nat),.int (b:Nat)])=H1 at S1;refine⟨_,Z,_,Z,p,rs,rows,b,57,by rw[Y0];rfl,R.same S1,hb,λb2 bi fW im q2 EQ=>⟨q2,_,Z,aj.of Qd,Z,_,_,Z,_,_,Z,Z,?_⟩⟩;have S2:=Qs.new (o:=.tup [.int (bi:Nat),.int (b2:Nat)]) EQ;generalize upd H1 q2 (.tup [.int (bi:Nat),.int (b2:Nat)])=H2 at S2;refine⟨_,Z,_,Z,_,Z,_,Z,eZ,λq3 FJ=>?_⟩;refine k [y] many bi b2 fW ?_ q3 _ ((S1.trans S2).trans (Qs.new FJ)) Qd;rw[drop_cons hx]at fX ⊢;show(if([57,90,42,43,45,36]:List Nat).contains y then _ else _)=_;rw[yaf h2,fX];show([y],many,(Q3 57 (rows.drop b) 0).1,(Q3 57 (rows.drop b) 0).2)=_;rw[im]
  .rw[ly (by lia)];refine Q4 (Q4 ⟨_,Z,eZ,none ?_⟩);rw[yay cw];rfl
noncomputable def oV:Option Nat->V
 |none=>.ax
 |some n=>.int (n:Nat)
def Y4(K:Frag):Sp:=λvs H Q _=>∃(p:Addr)(rs:List Addr)(rows:List Rw)(a:Nat)(pl:List Nat),vs=[.ref p,.int (a:Nat),.str (tx pl)]/\ak K H p rs rows/\a<=rows.length/\
 ∀(o:Option Nat)(b:Nat),b<=rows.length->Jz (rows.drop a) pl=(o,rows.drop b)->∀q,H q=none->Q (.ref q) (upd H q (.tup [oV o,.int (b:Nat)]))
theorem z5(h:y≠46):Jz ((y,n)::r) pl=(some 0,(y,n)::r):=by
 unfold Jz
 split
 .rename_i e;exact absurd (Prod.mk.inj (ycL e).1).1 h
 .rfl
theorem Yh(F:aA K "broken_part" "broken_part" XN f fd)(O:Own mg)(T:Txt K mg tk c kr):ag P w K mg M (ao P w) 1 f fd ["rows","at","place"] (Y4 K):=by
 refine okN F Xw (λvs H Q E h=>?_) (λad A L s H vs Q E hr h=>?_)
 .obtain⟨p,rs,rows,a,pl,rfl,_⟩:=h;rfl
 .obtain⟨p,rs,rows,a,pl,rfl,R,ha,k⟩:=h;have hz:=zza
  have fc:2<=sizeLine:=by lia
  refine⟨_,(Qj (JP (PW.pt (Xn (Ql zw (pv 1) (Qq QX Z O.len yaK (Qa (pv 0) Qb)) (Qn _)) (Zq (Ql Xd (QS Jl (QS Jc (pv 0) (pv 1) (λ_ _=>rfl)) Qi (λ_ _=>rfl)) Qc (Qn _))))) (Qp (QG (Jf (Qa Qi (Qa (pv 1) Qb))))) QQ)
   (Qj (JP (PW.pt (Xn (Ql Wa (QS Jl (QS Jc (pv 0) (pv 1) (λ_ _=>rfl)) Qi (λ_ _=>rfl)) Qi (Qn _)) (Zq (Ql Ja (QI JK (pv 1) Qi) (Qq QX Z O.len yaK (Qa (pv 0) Qb)) (Qn _))))) (Qp (QG (Jf (Qa Zk (Qa (pv 1) Qb))))) QQ)
   (Qj (Jk (QS Jc (pv 0) (QI JK (pv 1) Qi) (λ_ _=>rfl)) (Q5 Z (Qf (Z' 3 Xw.nd) (Qf (Z' 4 Xw.nd) QD))))
   (Qj (JP (PW.pt (Jn (Ql Xd (pv 3) Qc (Qn _)) (Jd (PW.pt (Xn (Ql Xd (pv 3) (pv 2) (Qn _)) (Zq (Ql Jo (pv 3) (QC (v:=V.str "+-$") Z T.gG ⟨_,Z⟩) (by with_unfolding_all rfl)))))))) (Qp (QG (Jf (Qa Zk (Qa (pv 1) Qb))))) QQ)
   (Qp (QG (Jf (Qa (pv 4) (Qa (QI JK (pv 1) Qi) Qb))))))))),?_⟩
  refine⟨_,Z,ZV rfl R ⟨_,_,Z,Z,_,Z,?_⟩⟩;rcases ybc a rows.length with bn|cw
  .rw[lx (by lia)];obtain⟨⟨y,n⟩,hx⟩:=VQ bn;refine QW (X4 Z (Zu Z) R hx ⟨Z,_,Z,?_⟩);rw[vV,Jv]
   by_cases h1:y=46
   .rw[ly h1];subst h1;refine QW (IQ Z (Zu Z) R hx ⟨_,_,Z,Z,_,Z,?_⟩)
    by_cases h2:n>1
    .rw[ly (by lia)];refine Q4 (Q4 ⟨_,Z,fc,k none a ha ?_⟩);rw[drop_cons hx];show(if n>1\/_ then _ else _)=_;rw[yaf (.inl h2)]
    .rw[lx (by lia)];refine QW ⟨_,Z,_,_,Z,Z,ZV rfl R ⟨Z,_,Z,?_⟩⟩;rw[Xo]
     by_cases h3:a+1=rows.length
     .rw[ly (by lia)];refine Q4 ⟨_,Z,fc,k none a ha ?_⟩;rw[drop_cons hx];show(if n>1\/_ then _ else _)=_;rw[yaf (.inr (yay (by lia)))]
     .rw[lx (by lia)];obtain⟨⟨y2,n2⟩,ii⟩:=VQ (show a+1<rows.length by lia);refine QW (UZ (k:=a+1) Z (λQ q=>⟨_,Z,_,_,Z,Z,q⟩) R ii λr dq=>⟨r,_,Z,aj.of dq,Z,_,_,Z,_,_,Z,Z,?_⟩);have eb:Jz (rows.drop a) pl=if y2≠57/\([y2]≠pl\/[43,45,36].contains y2=true)then(none,rows.drop a)else(some n2,rows.drop (a+2)):=by
       rw[drop_cons hx];show(if n>1\/rows.drop (a+1)=[]then _ else _)=_;rw[yac (by rw[drop_cons ii];simp;lia),drop_cons ii]
      exists _,Z,Z,_,Z;rw[Y0,Jv]
      by_cases h4:y2=57
      .rw[ly h4];refine QW (QW ⟨_,Z,_,Z,_,_,Z,Z,fc,k (some n2) (a+2) (by lia) ?_⟩);rw[eb,yac λz=>z.1 h4]
      .rw[lx h4];refine Q4 ⟨_,Z,_,Z,Z,_,Z,?_⟩;rw[XH]
       by_cases h5:[y2]=pl
       .rw[ly h5];refine QW ⟨_,Z,_,_,Z,Z,_,Z,?_⟩;rw[vU,JG];refine aG (λh6=>?_) (λh6=>?_)
        .refine⟨_,Z,fc,k none a ha ?_⟩;rw[eb,yaf ⟨h4,.inr h6⟩]
        .refine⟨_,Z,_,Z,_,_,Z,Z,fc,k (some n2) (a+2) (by lia) ?_⟩;rw[eb,yac λz=>z.2.elim (λq=>q h5) (λq=>by rw[h6]at q;cases q)]
       .rw[lx h5];refine Q4 (Q4 ⟨_,Z,fc,k none a ha ?_⟩);rw[eb,yaf ⟨h4,.inl h5⟩]
   .rw[lx h1];refine Q4 ⟨_,Z,fc,k (some 0) a ha ?_⟩;rw[drop_cons hx];exact z5 h1
  .rw[ly (by lia)];refine Q4 (Q4 ⟨_,Z,fc,k (some 0) a ha ?_⟩);rw[yay cw];rfl
def jT(K:Frag):Sp:=λvs H Q _=>∃(p:Addr)(rs:List Addr)(rows:List Rw),vs=[.ref p]/\ak K H p rs rows/\
 ∀(ld:List Nat)(b:Nat),b<=rows.length->ld.length<=2->Z5 rows=(ld,rows.drop b)->∀q H',Qs H H'->H' q=some (.tup [.str (tx ld),.int (b:Nat)])->Q (.ref q) H'
theorem z6(F:aA K "lead_of" "lead_of" VF f fd)(O:Own mg)(T:Txt K mg tk c kr)(nv:Def P w K mg M 1 "floats_at" ["rows","at"] (Y1 K)):ag P w K mg M (ao P w) 2 f fd ["rows"] (jT K):=by
 refine okN F ZZ (λvs H Q E h=>?_) (λad A L s H vs Q E hr h=>?_)
 .obtain⟨p,rs,rows,rfl,_⟩:=h;rfl
 .obtain⟨p,rs,rows,rfl,R,k⟩:=h;have hz:=zza
  have fc:2<=sizeLine:=by lia
  refine⟨_,(Qj (QN (i:=1) ZZ.nd Z (Or.inl Z) Qc)
   (Qj (QN (i:=2) ZZ.nd Z (Or.inl Z) Qi)
   (Qj (Vo yaG Z (jy (Jf (Qa (QC (v:=V.str "+-") Z T.nU ⟨_,Z⟩) (Qa Qc Qb)))) (Z' 3 ZZ.nd) (Qp (JP (PW.pt (Jn (Ql K9 (pv 2) (Qq QX Z O.len yaK (Qa (pv 0) Qb)) (Qn _)) (Jn (Ql Jo (QS Jl (QS Jc (pv 0) (pv 2) (λ_ _=>rfl)) Qi (λ_ _=>rfl)) (pv 3) (by with_unfolding_all rfl)) (Jd (Kz (WT (nv.pq hr Qy (Qa (pv 0) (Qa (pv 2) Qb))))))))) (Qj (Vm (i:=1) ZZ.nd Z (Or.inl Z) (QS Jl (QS Jc (pv 0) (pv 2) (λ_ _=>rfl)) Qi (λ_ _=>rfl)) Og)
   (Qp (Vm (i:=2) ZZ.nd Z (Or.inl Z) Qi Yp))) QQ)))
   (Qp (QG (Jf (Qa (pv 1) (Qa (pv 2) Qb)))))))),?_⟩
  refine⟨fc,λt ht=>⟨t,Z,⟨_,aj.of Qd⟩,?_⟩⟩;have S1:=Qs.new (o:=.tup [.str "+-",.str "$"]) ht;have g1:upd H t (.tup [.str "+-",.str "$"]) t=some (.tup [.str (tx [43,45]),.str (tx [36])]):=by rw[Qd,IW,FI]
  generalize upd H t (.tup [.str "+-",.str "$"])=H1 at S1 g1;have R1:=R.same S1;refine qA (xs:=[.str (tx [43,45]),.str (tx [36])]) (λi σ H2=>∃(ld:List Nat)(b:Nat)(x:Option V),σ=[some (.ref p),some (.str (tx ld)),some (.int (b:Nat)),x]/\H2=H1/\b<=rows.length/\ld.length<=i/\Z5 rows=Zx (([[43,45],[36]]:List (List Nat)).drop i) (rows.drop b) ld) ⟨[],0,none,by rw[<-W3];rfl,Z,lX _,lA _,Z⟩ (λi σ H2 hi hP=>?_) ?_ ?_
  .obtain⟨_,_,_,_,rfl,_⟩:=hP;exact aj.of g1
  .rintro i x σ H2 hi ⟨ld,b,x3,rfl,rfl,hb,ST,Do⟩;have Cd:i<2:=(yaj.mp hi).1;obtain⟨ch,Cl,O7⟩:∃ch,([[43,45],[36]]:List (List Nat))[i]? =some ch/\x=.str (tx ch):=by
    match i,hi,Cd with
    |0,hi,_=>exact⟨_,Z,(lB hi).symm⟩
    |1,hi,_=>exact⟨_,Z,(lB hi).symm⟩
   subst O7;rw[drop_cons Cl]at Do;refine⟨_,Z,ZV rfl R1 ⟨_,_,Z,Z,_,Z,?_⟩⟩;rcases ybc b rows.length with bn|cw
   .rw[ly (by lia)];obtain⟨⟨y,n⟩,hx⟩:=VQ bn;have el:Zx (ch::([[43,45],[36]]:List (List Nat)).drop (i+1)) (rows.drop b) ld=if(ch.contains y&& !JT (rows.drop b))=true then Zx (([[43,45],[36]]:List (List Nat)).drop (i+1)) (rows.drop (b+1)) (ld++[y])else Zx (([[43,45],[36]]:List (List Nat)).drop (i+1)) (rows.drop b) ld:=by
     rw[drop_cons hx];rfl
    rw[el]at Do;refine Q4 (X4 Z (Zu Z) R1 hx ⟨_,Z,_,_,Z,Z,_,Z,?_⟩);rw[JG];refine aG (λh1=>?_) (λh1=>?_)
    .exists _,Z,_,Z,p,rs,rows,b,Z,R1,bn,_,Z;rw[h1,ydP]at Do;refine aG (λh2=>?_) (λh2=>?_)
     .refine⟨_,Z,X4 rfl (Zu Z) R1 hx ⟨_,_,Z,Z,by rw[Qh,Qh];simp;lia,?_⟩⟩;rw[QR];refine⟨_,Z,_,_,Z,Z,ld++[y],b+1,_,Z,Z,by lia,by rw[lq];simp;lia,?_⟩;rw[Do,yaf h2]
     .refine⟨ld,b,_,Z,Z,hb,by lia,?_⟩;rw[Do,yac (by rw[h2];lia)]
    .rw[h1,ycr]at Do;exact QW ⟨ld,b,_,Z,Z,hb,by lia,by rw[Do];rfl⟩
   .rw[lx (by lia)];refine QW (QW ⟨ld,b,_,Z,Z,hb,by lia,?_⟩);rw[Do,yay cw];rfl
  .rintro σ H2 ⟨ld,b,x3,rfl,rfl,hb,ST,Do⟩;refine⟨_,Z,_,Z,fc,λq hq=>?_⟩;exact k ld b hb ST Do q _ (S1.trans (Qs.new hq)) Qd
theorem VR{xs:List V}{NB:List Str}{g:TG}{tt:TT}{te:TE}{Q:VK}{H:Hp}(Pv:Nat->List V->Hp->Prop)(h0:Pv 0 [] H)(hl:∀i vs H,i<=xs.length->Pv i vs H->az K H a xs/\vs.length<=i)
  (hs:∀i x vs H,xs[i]? =some x->Pv i vs H->g x (replicate NB.length none) H λσ2 H2=>tt σ2 H2 λb H3=>if b=true then te σ2 H3 λv H4=>Pv (i+1) (vs++[v]) H4 else Pv (i+1) vs H3)
  (hd:∀vs H,Pv xs.length vs H->∀p,H p=none->Q (.ref p) (upd H p (.lst vs))) (hz:xs.length<sizeLine):
  ∃W:Nat->Nat->List V->Hp->Prop,(∃m,W 0 m [] H)/\∀i m vs H,W i m vs H->
   ((dR K a).stop i H/\∀p,H p=none->Q (.ref p) (upd H p (.lst vs)))\/((dR K a).go i H/\vs.length<sizeLine/\∃N:List V->Hp->Prop,(∀Ch H',N Ch H'->∃m',m'<m/\W (i+1) m' Ch H')/\
    ∀x H',(dR K a).cR i H x H'->g x (replicate NB.length none) H' λσ2 H2=>tt σ2 H2 λb H3=>if b=true then te σ2 H3 λv H4=>N (vs++[v]) H4 else N vs H3):=by
 refine⟨λi m vs H=>m=xs.length-i/\i<=xs.length/\Pv i vs H,⟨xs.length,by simp,lX _,h0⟩,?_⟩;rintro i m vs H ⟨rfl,hi,p⟩;obtain⟨q,hv⟩:=hl i vs H hi p
 by_cases bn:i<xs.length
 .refine .inr ⟨⟨xs,xs[i],q,by simp[bn]⟩,by lia,Pv (i+1),λCh H' p'=>⟨xs.length-(i+1),by lia,Z,bn,p'⟩,λx H' y=>?_⟩;obtain⟨e,y⟩:=y;subst e;exact hs i x vs _ (y xs q) p
 .have e:i=xs.length:=by lia
  subst e;exact .inl ⟨⟨xs,q,lA _⟩,hd vs H p⟩
theorem bB.at'{rs:List Addr}{rows:List Rw}(h:bB H rs rows):∀{i:Nat}{r:Addr},rs[i]? =some r->∃x,rows[i]? =some x/\H r=some (oa x):=by
 induction h with
 |nil=>intro i r e;cases e
 |cons a _ ih=>
  intro i r e;cases i with
  |zero=>exact⟨_,Z,by have:_=r:=lB e;rw[<-this];exact a⟩
  |succ i=>exact ih (i:=i) (r:=r) e
theorem K5{k:Nat}{pos:Pos}(hK:X.K=K0)(hc:X.calm=true)(h:AZ X es t)
  (hn:(assignEach es X.env).length=n:=by rfl) (gt:(assignEach es X.env).findIdx? (·.1)=none:=by rfl):PG X (.Tuple es k pos) (Aj K0 n t):=by
 subst hK;exact Q5 hc h hn gt
theorem kO{rs:List Addr}{rows:List Rw}{te:TE}{NB:List Str}{n:Nat}{H:Hp}{Q:VK}(val:Rw->V)(dt:NB.length=3)(hn:n=2)(R:ak K H p rs rows)
  (fe:∀(x:Rw)(Q:VK),Q (val x) H->te [none,some (.str (tx [x.1])),some (.int (x.2:Nat))] H Q) (hd:∀q,H q=none->Q (.ref q) (upd H q (.lst (rows.map val)))):
  ∃W:Nat->Nat->List V->Hp->Prop,(∃m,W 0 m [] H)/\∀i m vs H,W i m vs H->
   ((dR K p).stop i H/\∀p,H p=none->Q (.ref p) (upd H p (.lst vs)))\/((dR K p).go i H/\vs.length<sizeLine/\∃N:List V->Hp->Prop,(∀Ch H',N Ch H'->∃m',m'<m/\W (i+1) m' Ch H')/\
    ∀x H',(dR K p).cR i H x H'->Aj K n (YG (JI 1) (YG (JI 2) A0)) x (replicate NB.length none) H' λσ2 H2=>vB σ2 H2 λb H3=>if b=true then te σ2 H3 λv H4=>N (vs++[v]) H4 else N vs H3):=by
 have hz:=zza
 have hl:=R.le;have hlen:=R.len;refine VR (xs:=rs.map V.ref) (λi vs H2=>H2=H/\vs=(rows.take i).map val) ⟨Z,Z⟩ ?_ ?_ ?_ (by lia)
 .rintro i vs H2 hi ⟨rfl,rfl⟩;exact⟨R.sq,by rw[lu,lI];lia⟩
 .rintro i x vs H2 hx ⟨rfl,rfl⟩;rw[lK]at hx;obtain⟨r,hr,rfl⟩:=yaS.mp hx;obtain⟨y,hy,g⟩:=R.rw.at' hr;subst hn;rw[dt];exists r,_,Z,aj.of g,Z,_,_,Z,_,_,Z,Z;dsimp only[vB];rw[yaf rfl];refine fe y _ ⟨Z,?_⟩;have hi:=(yaj.mp hy).1;rw[yaE,hy,lO];rfl
 .rintro vs H2 ⟨rfl,rfl⟩ q hq;rw[yaq (by lia)];exact hd q hq
theorem vW{α:Type}(rs:List Addr)(a:Nat):xn (rs.map V.ref) (some (a:Int)) none=(rs.drop a).map V.ref:=by
 unfold xn;rw[HT.YI,HT.jD];rcases Nat.le_total a (rs.map V.ref).length with h|h
 .rw[ybb h,yaq (by rw[lJ];exact lA _),yey]
 .rw[ydU h,yay (lA _),yez,yay (by rw[lu]at h;exact h)];rfl
theorem WH{rows:List Rw}(val:Rw->V)(dt:NB.length=3)(hn:n=2)
  (h:∀R:VK,(∀p rs H1,Qs H H1->ak K H1 p rs rows->R (.ref p) H1)->tl σ H R)
  (fe:∀(x:Rw)(H:Hp)(Q:VK),Q (val x) H->te [none,some (.str (tx [x.1])),some (.int (x.2:Nat))] H Q) (hd:∀q H1,Qs H H1->H1 q=none->Q (.ref q) (upd H1 q (.lst (rows.map val)))):
  Yd NB (w8 K tl) (Aj K n (YG (JI 1) (YG (JI 2) A0))) vB te σ H Q:=
 h _ λp rs H1 S1 R1=>⟨p,Z,⟨_,R1.sq⟩,kO val dt hn R1 (λx Q q=>fe x H1 Q q) λq hq=>hd q H1 S1 hq⟩
theorem Yx{rs:List Addr}{rows:List Rw}(RA:ak K H p rs rows)(h1:σ[i]? =some (some (.ref p)))(h2:σ[j]? =some (some (.int (a:Nat)))):
  ∀R:VK,(∀p2 fg H1,Qs H H1->ak K H1 p2 fg (rows.drop a)->R (.ref p2) H1)->EJ (EK K) (ZN i) (EI (ZN j)) qD σ H R:=λR r=>
 ⟨_,h1,_,h2,_,Z,p,_,Z,RA.sq,λp2 im=>by
  rw[vW (α:=Unit)];have S2:=Qs.new (o:=.lst ((rs.drop a).map V.ref)) im;exact r p2 (rs.drop a) _ S2 ⟨az.of Qd,(RA.rw.dr a).keep λb xs h=>S2 _ _ h,by rw[lJ];have:=RA.le;lia⟩⟩
theorem vX{rs:List Addr}{rows:List Rw}(RA:ak K H p rs rows)(h1:σ[i]? =some (some (.ref p))):
  ∀R:VK,(∀p2 fg H1,Qs H H1->ak K H1 p2 fg rows->R (.ref p2) H1)->ZN i σ H R:=λR r=>⟨_,h1,r p rs H (Qs.refl H) RA⟩
theorem O8(a b:List Nat):bW (.str (tx a)) (.str (tx b))=decide (a=b):=by
 show(tx a==tx b)=_
 by_cases h:a=b
 .subst h;simp
 .rw[lx h];exact yaC.mpr λz=>h (UX z)
theorem in_list(ls:List (List Nat))(s:List Nat):dI (.str (tx s)) (ls.map λl=>V.str (tx l))=ls.contains s:=by
 unfold dI
 induction ls with
 |nil=>rfl
 |cons a r ih=>
  rw[lU,ych,ih,O8,ycJ]
  congr 1
  by_cases h:a=s
  .subst h;simp
  .rw[lx h];exact(yaC.mpr λz=>h z.symm).symm
theorem kP:([.str "9",.str "S9",.str "V9",.str "SV9",.str "9V9",.str "S9V9"]:List V)=zT.map λl=>V.str (tx l):=by rfl'
theorem Y5:([.str "+",.str "-",.str "CR",.str "DB"]:List V)=J4.map λl=>V.str (tx l):=by rfl'
theorem Wn(ls:List (List Nat)):(ls.map λl=>V.str (tx l)).all XT=true:=by
 induction ls with
 |nil=>rfl
 |cons a r ih=>rw[lU,yde,ih];rfl
noncomputable def tV:Option (List Nat)->V
 |none=>.ax
 |some l=>.str (tx l)
def jU(K:Frag):Sp:=λvs H Q _=>∃(p:Addr)(rs:List Addr)(rows:List Rw)(a:Nat),vs=[.ref p,.int (a:Nat)]/\ak K H p rs rows/\a<=rows.length/\∀H',Qs H H'->Q (tV (KG (rows.drop a))) H'
theorem kR(rows:List Rw):(rows.map λx=>V.str (tx [x.1]))=((rows.map (·.1)).map λc=>tx [c]).map V.str:=by rw[lT,lT];rfl
theorem O9(rows:List Rw):(rows.map λx=>V.int (x.2:Nat))=(rows.map λx=>((x.2:Nat):Int)).map V.int:=by rw[lT];rfl
theorem z7(F:aA K "tail_of" "tail_of" VH f fd)(O:Own mg)(T:Txt K mg tk c kr):ag P w K mg M (ao P w) 1 f fd ["rows","at"] (jU K):=by
 refine okN F Yw (λvs H Q E h=>?_) (λad A L s H vs Q E hr h=>?_)
 .obtain⟨p,rs,rows,a,rfl,_⟩:=h;rfl
 .obtain⟨p,rs,rows,a,rfl,R,ha,k⟩:=h;have hz:=zza
  have hle:=R.le;refine⟨_,(Qj (JP (Ql Ja (pv 1) (Qq QX Z O.len yaK (Qa (pv 0) Qb)) (Qn _)) (Qp (QG Qc)) QQ)
   (Qj (QN (i:=2) Yw.nd Z (Or.inl Z) (Zd yaA slot_str_join type_str_join kg Qc (Qa (Zt (NB:=[".0","symbol","many"]) Z ⟨Z,by rfl',by rfl',by rfl'⟩ (KJ (QZ YK (pv 0) (Q2 (pv 1)) Ju)) (λ_ _ _=>(K5 (K0:=K) (n:=2) Z Z (Qf (Qk (i:=1) (show([".0","symbol","many"]:List Str).Nodup by rfl') Z (Or.inl Z) (Or.inr Z)) (Qf (Qk (i:=2) (show([".0","symbol","many"]:List Str).Nodup by rfl') Z (Or.inl Z) (Or.inr Z)) QD)))) (λ_ _ _=>XG) (λ_ _ _=>(pv 1))) Qb)))
   (Qj (JP (PW.pt (Xn (Ql Xg (pv 2) (QC (v:=V.ref (kr 1)) Z T.nM Z) (by with_unfolding_all rfl)) (Zq (Ql Wa (Qq (kh Z) Z O.max boot_max (Qa (Zt (NB:=[".0","symbol","many"]) Z ⟨Z,by rfl',by rfl',by rfl'⟩ (KJ (QZ YK (pv 0) (Q2 (pv 1)) Ju)) (λ_ _ _=>(K5 (K0:=K) (n:=2) Z Z (Qf (Qk (i:=1) (show([".0","symbol","many"]:List Str).Nodup by rfl') Z (Or.inl Z) (Or.inr Z)) (Qf (Qk (i:=2) (show([".0","symbol","many"]:List Str).Nodup by rfl') Z (Or.inl Z) (Or.inr Z)) QD)))) (λ_ _ _=>XG) (λ_ _ _=>(pv 2))) Qb)) Qi (Qn _))))) (Qp (QG Zk)) QQ)
   (Qp (QG (pv 2)))))),?_⟩
  refine⟨_,Z,ZV rfl R ⟨Z,_,Z,?_⟩⟩;rw[Xo]
  by_cases h1:a=rows.length
  .rw[ly (by lia)];have e:KG (rows.drop a)=some []:=by rw[h1,ydV];rfl
   rw[e]at k;have:=k H (Qs.refl H);refine Q4 ?_;show Q (.str "") H;rw[W3];exact this
  .rw[lx (by lia)];have ul:rows.drop a≠[]:=λz=>by
    have:=yaI List.length z;rw[lJ,ybj]at this;lia
   have et:KG (rows.drop a)=if(!J4.contains ((rows.drop a).map (·.1))||(rows.drop a).any (λx=>decide (x.2>1)))=true then none else some ((rows.drop a).map (·.1)):=by
    unfold KG;rw[yac ul]
   rw[et]at k;have mo:(rows.drop a).length<=600:=by rw[lJ];lia
   refine QW ⟨Z,WH (λx=>.str (tx [x.1])) rfl rfl (Yx R Z Z) (λx H Q q=>⟨_,Z,q⟩) λq H2 S2 hq=>?_⟩;have RR:=R.same S2;have dh:∀{H3:Hp},ak K H3 p rs rows->∀{σ:L2.St}{i j:Nat},σ[i]? =some (some (.ref p))->σ[j]? =some (some (.int (a:Nat)))->∀R:VK,(∀p2 fg H1,Qs H3 H1->ak K H1 p2 fg (rows.drop a)->R (.ref p2) H1)->EJ (EK K) (ZN i) (EI (ZN j)) qD σ H3 R:=λ{_} R3{_ _ _} h1 h2=>Yx R3 h1 h2;generalize hD:rows.drop a=D at k ul mo dh;rw[kR];have S3:=S2.trans (Qs.new (o:=.lst (((D.map (·.1)).map λc=>tx [c]).map V.str)) hq);have R3:=RR.same (Qs.new (o:=.lst (((D.map (·.1)).map λc=>tx [c]).map V.str)) hq);refine⟨"",q,_,Z,Z,az.of Qd,X5 (by rw[lu];lia),?_⟩;rw[ZI];generalize upd H2 q (.lst (((D.map (·.1)).map λc=>tx [c]).map V.str))=H3 at S3 R3;exists _,Z,kr 1,_,Z,.inr (T.nN _),Z,by rw[Y5];exact Wn _,_,Z;rw[Y5,yaf rfl,in_list];refine aG (λh2=>?_) (λh2=>?_)
   .rw[h2,yeD]at k;exact k _ S3
   .rw[h2,ydf]at k;dsimp only[Wb,bc,oS,Jy];refine WH (λx=>.int (x.2:Nat)) rfl rfl (dh R3 Z Z) (λx H Q q=>⟨_,Z,q⟩) λq5 H4 S4 Ce=>?_;rw[O9];have S5:=(S3.trans S4).trans (Qs.new (o:=.lst ((D.map λx=>((x.2:Nat):Int)).map V.int)) Ce);refine⟨q5,_,Z,az.of Qd,by simpa using ul,λm hm O'=>?_⟩;generalize upd H4 q5 (.lst ((D.map λx=>((x.2:Nat):Int)).map V.int))=H5 at S5;exists _,_,Z,Z,_,Z;have FK:decide ((1:Int)<m)=D.any (λx=>decide (x.2>1)):=by
     obtain⟨y,hy,rfl⟩:=ybQ.mp hm
     by_cases h3:y.2>1
     .rw[ly (by lia),ydW.mpr ⟨y,hy,ly h3⟩]
     .rw[lx (by lia)];refine(ybJ.mpr λz FF=>?_).symm;have:=O' _ (ybQ.mpr ⟨z,FF,Z⟩);rw[ydL];lia
    rw[FK];refine aG (λh3=>?_) (λh3=>?_)
    .rw[h3]at k;exact k _ S5
    .rw[h3]at k;exact⟨_,Z,k _ S5⟩
noncomputable def kindS:Nat->Str
 |0=>"text"
 |1=>"letters"
 |2=>"number"
 |_=>"edited"
noncomputable def fO(x:Facts):HO:=.tup [.str (kindS x.kind),.bl x.signed,.int (x.before:Nat),.int (x.behind:Nat)]
def FV(o:Option Facts)(v:V)(H:Hp):Prop:=match o with
 |none=>v=.ax
 |some x=>∃q,v=.ref q/\H q=some (fO x)
def ZB(K:Frag)(fn:List Rw->Option Facts):Sp:=λvs H Q _=>∃(p:Addr)(rs:List Addr)(rows:List Rw),vs=[.ref p]/\ak K H p rs rows/\∀v H',Qs H H'->FV (fn rows) v H'->Q v H'
theorem vY{rows:List Rw}(h:rows[i]? =some (y,n)):WC (rows.drop i) s p a b=if y=57 then(if p then WC (rows.drop (i+1)) s p a n else WC (rows.drop (i+1)) s p n b)else if n>1 then none else if y=83 then WC (rows.drop (i+1)) true p a b else WC (rows.drop (i+1)) s true a b:=by
 rw[drop_cons h];rfl
theorem VS(F:aA K "number_facts" "number_facts" Xr f fd)(O:Own mg)(T:Txt K mg tk c kr):ag P w K mg M (ao P w) 1 f fd ["rows"] (ZB K Q8):=by
 refine qx F Jr (λvs H Q E h=>?_) (λad A L s H vs Q E hr h=>?_)
 .obtain⟨p,rs,rows,rfl,_⟩:=h;rfl
 .obtain⟨p,rs,rows,rfl,R,k⟩:=h;have hz:=zza
  have hle:=R.le;refine⟨_,(Qg (Q1 (Ql Xg (ae.pe (ZH (QF (ae.mk (Zt (NB:=[".0","symbol","many"]) Z ⟨Z,by rfl',by rfl',by rfl'⟩ (KJ (pv 0)) (λ_ _ _=>(K5 (K0:=K) (n:=2) Z Z (Qf (Qk (i:=1) (show([".0","symbol","many"]:List Str).Nodup by rfl') Z (Or.inl Z) (Or.inr Z)) (Qf (Qk (i:=2) (show([".0","symbol","many"]:List Str).Nodup by rfl') Z (Or.inl Z) (Or.inr Z)) QD)))) (λ_ _ _=>XG) (λ_ _ _=>(pv 1)))) QO Z) Z Z)) (QC (v:=V.ref (kr 0)) Z T.gH Z) (by with_unfolding_all rfl)) (Qr (QE (ae.mk Zk))) QT)
   (Qg (Qu (i:=3) Jr.nd Z (Or.inl Z) (ae.mk WZ) Z Z)
   (Qg (Qu (i:=4) Jr.nd Z (Or.inl Z) (ae.mk WZ) Z Z)
   (Qg (Qu (i:=5) Jr.nd Z (Or.inl Z) (Z3 (QF (ae.mk Qi) (QF (ae.mk Qi) QO Z) Z)) Z Z)
   (Qg (X2 yaG Z (KJ (pv 0)) (Q5 Z (Qf (Z' 1 Jr.nd) (Qf (Z' 2 Jr.nd) QD))) (Qr (Q1 (Ql Ja (pv 1) Qc (Qn _)) (Qr (aO.mk (Jk (pv 2) (yU (pv 5) (Jm (Je (pv 4) (λ_=>rfl)) Qi Qi) set_list)))) (Qr (Q1 (Ql Wa (pv 2) Qi (Qn _)) (Qr (QE (ae.mk Zk))) (Qr (Q1 (Ql Ja (pv 1) Qc (Qn _)) (Qr (Qu (i:=3) Jr.nd Z (Or.inl Z) (ae.mk WZ) Z Z)) (Qr (Qu (i:=4) Jr.nd Z (Or.inl Z) (ae.mk WZ) Z Z)))))))) (λ_=>rfl))
   (Qg (Q1 (Ql Wa (Qq (jM Z) Z O.sum L2.boot_sum (Qv (pv 5) Qb)) (QC (v:=V.int 18) Z T.gy ⟨_,Z⟩) (Qn _)) (Qr (QE (ae.mk Zk))) QT)
   (Qr (QE (JC (QF (ae.mk Qc) (QF (ae.mk (pv 3)) (QF (ae.mk (QS Jc (pv 5) Qi (λ_ _=>rfl))) (QF (ae.mk (QS Jc (pv 5) Qi (λ_ _=>rfl))) QO Z) Z) Z) Z)))))))))),?_⟩
  have FL:("S":Str)=tx [83]:=by rfl'
  refine⟨Z,WH (λx=>.str (tx [x.1])) rfl rfl (vX R Z) (λx H Q q=>⟨_,Z,q⟩) λq H2 S2 hq=>?_⟩;rw[kR];have S3:=S2.trans (Qs.new (o:=.lst (((rows.map (·.1)).map λc=>tx [c]).map V.str)) hq);refine⟨"",q,_,Z,Z,az.of Qd,X5 (by rw[lu];lia),?_⟩;rw[ZI];generalize upd H2 q (.lst (((rows.map (·.1)).map λc=>tx [c]).map V.str))=H3 at S3;have R3:=R.same S3;exists kr 0,_,Z,.inr (T.tW _),Z,by rw[kP];exact Wn _,_,Z;rw[kP,yaf rfl,in_list];refine aG (λh2=>?_) (λh2=>?_)
  .have hn:Q8 rows=none:=by
    unfold Q8;rw[yac (by rw[ybM]at h2;rw[h2];lia)]
   exact k .ax H3 S3 (by rw[hn];rfl)
  have hf:zT.contains (rows.map (·.1))=true:=by
   cases e:zT.contains (rows.map (·.1))with
   |true=>rfl
   |false=>rw[e]at h2;cases h2
  have en:Q8 rows=(match WC rows false false 0 0 with
    |some (s,a,b)=>if a+b>18 then none else some ⟨2,s,a,b⟩
    |none=>none):=by
   unfold Q8;rw[yaf hf]
   all_goals rfl
  refine⟨bA,λfl ev=>?_⟩;have S4:=Qs.new (o:=.lst [.int 0,.int 0]) ev;exists _,Z,p,Z,⟨_,(R3.same S4).sq⟩;refine vc (xs:=rs.map V.ref) (λi σ H5=>∃(x1 x2:Option V)(sg pt:Bool)(a b:Nat),σ=[some (.ref p),x1,x2,some (.bl sg),some (.bl pt),some (.ref fl)]/\H5 fl=some (.lst [.int (a:Nat),.int (b:Nat)])/\Qs H3 H5/\WC rows false false 0 0=WC (rows.drop i) sg pt a b) ⟨none,none,false,false,0,0,Z,Qd,S4,Z⟩ ?_ ?_ ?_
  .rintro i σ H5 hi ⟨x1,x2,sg,pt,a,b,rfl,g5,S5,hg⟩;exact(R3.same S5).sq
  .rintro i x σ H5 hx ⟨x1,x2,sg,pt,a,b,rfl,g5,S5,hg⟩;rw[lK]at hx;obtain⟨r,dq,rfl⟩:=yaS.mp hx;obtain⟨⟨y,n⟩,hy,g⟩:=(R3.same S5).rw.at' dq;rw[vY hy]at hg;exists r,_,Z,aj.of g,Z,_,_,Z,_,_,Z,Z;exists _,Z,Z,_,Z;rw[Y0,Jv];have keep:∀(o:HO),Qs H3 (upd H5 fl o):=λo b u h=>by rw[Qx (Qz h ev)];exact S5 _ _ h
   by_cases h1:y=57
   .rw[ly h1];rw[yaf h1]at hg;refine Q4 ⟨_,Z,_,Z,_,Z,pt,Z,?_⟩;refine aG (λh3=>?_) (λh3=>?_)
    .rw[yaf h3]at hg;refine⟨fl,_,1,1,Z,Z,g5,Z,some (.str (tx [y])),some (.int (n:Nat)),sg,pt,a,n,Z,?_,keep _,hg⟩;rw[Qd];rfl
    .rw[yac (by rw[h3];lia)]at hg;refine⟨fl,_,0,0,Z,Z,g5,Z,some (.str (tx [y])),some (.int (n:Nat)),sg,pt,n,b,Z,?_,keep _,hg⟩;rw[Qd];rfl
   .rw[lx h1];rw[yac h1]at hg;refine QW ⟨_,Z,_,_,Z,Z,_,Z,?_⟩
    by_cases h3:n>1
    .rw[ly (by lia)];rw[yaf h3]at hg;refine Q4 (k .ax H5 (S3.trans S5) ?_);rw[en,hg];rfl
    .rw[lx (by lia)];rw[yac h3]at hg;refine QW ⟨_,Z,Z,_,Z,?_⟩;rw[FL,Jv]
     by_cases h4:y=83
     .rw[ly h4];rw[yaf h4]at hg;exact Q4 ⟨some (.str (tx [y])),some (.int (n:Nat)),true,pt,a,b,Z,g5,S5,hg⟩
     .rw[lx h4];rw[yac h4]at hg;exact QW ⟨some (.str (tx [y])),some (.int (n:Nat)),sg,true,a,b,Z,g5,S5,hg⟩
  .rintro σ H5 ⟨x1,x2,sg,pt,a,b,rfl,g5,S5,hg⟩;rw[R.len,ydV]at hg;rw[hg]at en;exists _,Z,fl,[(a:Int),(b:Int)],Z,az.of g5,_,_,Z,Z,_,Z;have es:([(a:Int),(b:Int)]:List Int).sum=((a+b:Nat):Int):=by simp
   rw[es]
   by_cases h1:a+b>18
   .rw[ly (by lia)];refine Q4 (k .ax H5 (S3.trans S5) ?_);rw[en];show FV (if a+b>18 then none else _) _ _;rw[yaf h1];rfl
   .rw[lx (by lia)];refine QW ⟨_,Z,_,Z,fl,_,_,_,Z,Z,az.of g5,Z,_,Z,fl,_,_,_,Z,Z,az.of g5,Z,eZ,λq6 FN=>?_⟩;refine k _ _ ((S3.trans S5).trans (Qs.new FN)) ?_;rw[en];show FV (if a+b>18 then none else _) _ _;rw[yac h1];exact⟨q6,Z,Qd⟩
theorem U6(y:Nat):Wz U1 (Sum.inr (tx [y]):Key)=if y=88 then some (.str "text")else if y=65 then some (.str "letters")else none:=by
 have eX:("X":Str)=tx [88]:=by rfl'
 have eA:("A":Str)=tx [65]:=by rfl'
 unfold Wz U1;rw[eX,eA]
 by_cases h1:y=88
 .subst h1;rw[yaf rfl];simp
 .rw[yac h1];have n1:¬ ((Sum.inr (tx [88]):Key)=Sum.inr (tx [y])):=λz=>h1 (ycL (UX (ydk z))).1.symm
  by_cases h2:y=65
  .subst h2;rw[yaf rfl];simp
  .rw[yac h2];have n2:¬ ((Sum.inr (tx [65]):Key)=Sum.inr (tx [y])):=λz=>h2 (ycL (UX (ydk z))).1.symm;simp[n1,n2]
theorem Yi(F:aA K "plain_facts" "plain_facts" XM f fd)(O:Own mg)(T:Txt K mg tk c kr)(KD:aB P w K (kr 2) U1):ag P w K mg M (ao P w) 1 f fd ["rows"] (ZB K JL):=by
 refine qx F Xt (λvs H Q E h=>?_) (λad A L s H vs Q E hr h=>?_)
 .obtain⟨p,rs,rows,rfl,_⟩:=h;rfl
 .obtain⟨p,rs,rows,rfl,R,k⟩:=h;have hz:=zza
  refine⟨_,(Qg (Q1 (Ql Xd (Qq QX Z O.len yaK (Qv (pv 0) Qb)) Qi (Qn _)) (Qr (QE (ae.mk Zk))) QT)
   (Qg (aO.mk (Jk (QS Jc (pv 0) Qi (λ_ _=>rfl)) (Q5 Z (Qf (Z' 1 Xt.nd) (Qf (Z' 2 Xt.nd) QD)))))
   (Qg (Q1 (PW.pt (Xn (Xf (WA KD (pv 1) (QC (v:=V.ref (kr 2)) Z T.gF Z)) (by with_unfolding_all rfl)) (Zq (Ql Wa (pv 2) (QC (v:=V.int 60) Z T.gN ⟨_,Z⟩) (Qn _))))) (Qr (QE (ae.mk Zk))) QT)
   (Qr (QE (JC (QF (ae.mk (Wg KD (QC (v:=V.ref (kr 2)) Z T.gF Z) (pv 1) (λ_ _=>rfl))) (QF (ae.mk WZ) (QF (ae.mk Qi) (QF (ae.mk Qi) QO Z) Z) Z) Z))))))),?_⟩
  exists _,Z,p,_,Z,.inl R.sq;rw[R.len];exists Z,_,Z;rw[xV]
  match rows,R,k with
  |[],R,k=>exact Q4 (k .ax H (Qs.refl H) Z)
  |_::_::_,R,k=>
   rw[ly (by simp;lia)];exact Q4 (k .ax H (Qs.refl H) Z)
  |[(y,n)],R,k=>
   refine QW (UZ (k:=0) Z (λQ q=>q) R Z λr dq=>⟨r,_,Z,aj.of dq,Z,_,_,Z,_,_,Z,Z,?_⟩);exists _,Z,Sum.inr (tx [y]),Z,Z,_,Z;have ep:JL [(y,n)]=if(y≠88/\y≠65)\/n>60 then none else some ⟨if y=88 then 0 else 1,false,0,0⟩:=rfl;rw[U6]
   by_cases h1:y=88\/y=65
   .have h2:(if y=88 then some (V.str "text")else if y=65 then some (.str "letters")else none)=some (.str (kindS (if y=88 then 0 else 1))):=by
     rcases h1 with rfl|rfl
     .rfl
     .rfl
    rw[h2];refine QW ⟨_,Z,_,_,Z,Z,_,Z,?_⟩
    by_cases h3:n>60
    .rw[ly (by lia)];refine Q4 (k .ax H (Qs.refl H) ?_);rw[ep,yaf (.inr h3)];rfl
    .rw[lx (by lia)];refine QW ⟨_,Z,Sum.inr (tx [y]),.str (kindS (if y=88 then 0 else 1)),Z,Z,by rw[U6,h2],eZ,λq hq=>?_⟩;refine k _ _ (Qs.new hq) ?_;rw[ep,yac (by lia)];exact⟨q,Z,Qd⟩
   .rw[yac (by lia),yac (by lia)];refine Q4 (Q4 (k .ax H (Qs.refl H) ?_));rw[ep,yaf (.inl (by lia))];rfl
end
theorem vZ{K:Frag}{xs:List V}{NB:List Str}{g:TG}{tt:TT}{te:TE}{Q:VK}{H:Hp}(Pv:Nat->List V->Hp->Prop)(h0:Pv 0 [] H)(hl:∀i vs H,i<=xs.length->Pv i vs H->aj K H a xs/\vs.length<=i)
  (hs:∀i x vs H,xs[i]? =some x->Pv i vs H->g x (replicate NB.length none) H λσ2 H2=>tt σ2 H2 λb H3=>if b=true then te σ2 H3 λv H4=>Pv (i+1) (vs++[v]) H4 else Pv (i+1) vs H3)
  (hd:∀vs H,Pv xs.length vs H->∀p,H p=none->Q (.ref p) (upd H p (.lst vs))) (hz:xs.length<sizeLine):
  ∃W:Nat->Nat->List V->Hp->Prop,(∃m,W 0 m [] H)/\∀i m vs H,W i m vs H->
   ((dS K a).stop i H/\∀p,H p=none->Q (.ref p) (upd H p (.lst vs)))\/((dS K a).go i H/\vs.length<sizeLine/\∃N:List V->Hp->Prop,(∀Ch H',N Ch H'->∃m',m'<m/\W (i+1) m' Ch H')/\
    ∀x H',(dS K a).cR i H x H'->g x (replicate NB.length none) H' λσ2 H2=>tt σ2 H2 λb H3=>if b=true then te σ2 H3 λv H4=>N (vs++[v]) H4 else N vs H3):=by
 refine⟨λi m vs H=>m=xs.length-i/\i<=xs.length/\Pv i vs H,⟨xs.length,by simp,lX _,h0⟩,?_⟩;rintro i m vs H ⟨rfl,hi,p⟩;obtain⟨q,hv⟩:=hl i vs H hi p
 by_cases bn:i<xs.length
 .refine .inr ⟨⟨xs,xs[i],q,by simp[bn]⟩,by lia,Pv (i+1),λCh H' p'=>⟨xs.length-(i+1),by lia,Z,bn,p'⟩,λx H' y=>?_⟩;obtain⟨e,y⟩:=y;subst e;exact hs i x vs _ (y xs q) p
 .have e:i=xs.length:=by lia
  subst e;exact .inl ⟨⟨xs,q,lA _⟩,hd vs H p⟩
section
variable {P:Program}{w:World}{K:Frag}{mg:Str->Option Value}{M:Heap}{f:Addr}{fd:FuncData}{tk:Nat->Tok}{c kr:Nat->Addr}
noncomputable def Kd(ld pl:List Nat)(many bi:Nat)(o:Option Nat)(tl:Option (List Nat)):Option Facts:=
 match pl,o,tl with
 |[place],some behind,some tail=>
  let fl:Bool:=[43,45,36].contains place
  if fl&&decide (many<2)then none
  else
   let shown:=[ld.take 1,[place],tail].filter (J4.contains ·)
   if shown.length>1 then none
   else
    let before:=many+bi-(if fl then 1 else 0)
    if before+behind>18 then none else some ⟨3,shown.length==1,before,behind⟩
 |_,_,_=>none
theorem kS{rows:List Rw}{ld pl:List Nat}{b many bi b2 b3:Nat}(h1:Z5 rows=(ld,rows.drop b))(h2:Ji (rows.drop b)=(pl,many,bi,rows.drop b2))(h3:Jz (rows.drop b2) (if bi=0 then pl else[57])=(o,rows.drop b3)):
  JE rows=Kd ld pl many bi o (KG (rows.drop b3)):=by
 unfold JE;simp only[h1,h2,h3];rfl
theorem kT(r:List Rw):(Ji r).1=[]\/∃y,(Ji r).1=[y]:=by
 unfold Ji
 split
 .split
  .exact .inr ⟨_,Z⟩
  .exact .inl rfl
 .exact .inl rfl
theorem z8{ls:List (List Nat)}{H:Hp}{Q:VK}(T:Txt K mg tk c kr)(hq:H a=some (.tup (ls.map λl=>V.str (tx l)))) (hl:ls.length<=3)
  (hd:∀q,H q=none->Q (.ref q) (upd H q (.lst ((ls.filter (J4.contains ·)).map λl=>V.str (tx l))))):
  ∃W:Nat->Nat->List V->Hp->Prop,(∃m,W 0 m [] H)/\∀i m vs H,W i m vs H->
   ((dS K a).stop i H/\∀p,H p=none->Q (.ref p) (upd H p (.lst vs)))\/((dS K a).go i H/\vs.length<sizeLine/\∃N:List V->Hp->Prop,(∀Ch H',N Ch H'->∃m',m'<m/\W (i+1) m' Ch H')/\
    ∀x H',(dS K a).cR i H x H'->JI 1 x (replicate 2 none) H' λσ2 H2=>Wb (bc (iV K false) (ZN 1) (tC (.ref (kr 1)))) σ2 H2 λb H3=>if b=true then ZN 1 σ2 H3 λv H4=>N (vs++[v]) H4 else N vs H3):=by
 have hz:=zza
 refine vZ (NB:=["a","b"]) (xs:=ls.map λl=>V.str (tx l)) (λi vs H2=>H2=H/\vs=((ls.take i).filter (J4.contains ·)).map λl=>V.str (tx l)) ⟨Z,Z⟩ ?_ ?_ ?_ (by rw[lu];lia)
 .rintro i vs H2 hi ⟨rfl,rfl⟩;exists aj.of hq;rw[lu];exact yas (yaL _ _) (by rw[lI];lia)
 .rintro i x vs H2 hx ⟨rfl,rfl⟩;rw[lK]at hx;obtain⟨l,fZ,rfl⟩:=yaS.mp hx;exists _,Z,kr 1,_,Z,.inr (T.nN _),Z,by rw[Y5];exact Wn _,_,Z;rw[Y5,yac (by lia),in_list];have ef:((ls.take (i+1)).filter (J4.contains ·))=((ls.take i).filter (J4.contains ·))++(if J4.contains l then[l]else[]):=by
   rw[yaE,fZ,ybl]
   by_cases hm:l∈J4<;>simp[hm]
  refine aG (λh=>?_) (λh=>?_)
  .exists _,Z,Z;rw[ef,h,lO];rfl
  .exists Z;rw[ef,h];simp
 .rintro vs H2 ⟨rfl,rfl⟩ q EQ;rw[lu,List.take_length];exact hd q EQ
theorem qY{ls:List (List Nat)}(T:Txt K mg tk c kr)(dt:NB.length=2)(hl:ls.length<=3)
  (h:∀R:VK,(∀p H1,Qs H H1->H1 p=some (.tup (ls.map λl=>V.str (tx l)))->R (.ref p) H1)->tl σ H R)
  (hd:∀q H1,Qs H H1->H1 q=none->Q (.ref q) (upd H1 q (.lst ((ls.filter (J4.contains ·)).map λl=>V.str (tx l))))):
  Yd NB (HI K tl) (JI 1) (Wb (bc (iV K false) (ZN 1) (tC (.ref (kr 1))))) (ZN 1) σ H Q:=by
 refine h _ λp H1 S1 g1=>⟨p,Z,⟨_,aj.of g1⟩,?_⟩;rw[dt];exact z8 T g1 hl λq hq=>hd q H1 S1 hq
theorem U7(l:List Nat):StrLaws.sliceText (tx l) none (some 1)=tx (l.take 1):=by
 cases l with
 |nil=>rfl'
 |cons a r=>exact Kq (a::r) (k:=1) (by simp)
def jV(K:Frag):Sp:=λvs H Q _=>∃(p:Addr)(rs:List Addr)(rows:List Rw)(a:Nat),vs=[.ref p,.int (a:Nat)]/\ak K H p rs rows/\a<=rows.length/\
 ∀(pl:List Nat)(many bi b2 b3:Nat)(o:Option Nat),b3<=rows.length->Ji (rows.drop a)=(pl,many,bi,rows.drop b2)->Jz (rows.drop b2) (if bi=0 then pl else[57])=(o,rows.drop b3)->∀q H',Qs H H'->H' q=some (.tup [.str (tx pl),.int (many:Nat),.int (bi:Nat),oV o,.int (b3:Nat)])->Q (.ref q) H'
theorem xa(F:aA K "body_of" "body_of" VG f fd)(mW:Def P w K mg M 2 "whole_part" ["rows","at"] (qX K))(mF:Def P w K mg M 1 "broken_part" ["rows","at","place"] (Y4 K)):
  ag P w K mg M (ao P w) 3 f fd ["rows","at"] (jV K):=by
 refine okN F ZA (λvs H Q E h=>?_) (λad A L s H vs Q E hr h=>?_)
 .obtain⟨p,rs,rows,a,rfl,_⟩:=h;rfl
 .obtain⟨p,rs,rows,b,rfl,R,hb,k⟩:=h;have hz:=zza
  refine⟨_,(Qj (Jk (mW.pq hr Qy (Qa (pv 0) (Qa (pv 1) Qb))) (Q5 Z (Qf (Z' 2 ZA.nd) (Qf (Z' 3 ZA.nd) (Qf (Z' 4 ZA.nd) (Qf (Z' 1 ZA.nd) QD))))))
   (Qj (Jk (mF.pq hr Qy (Qa (pv 0) (Qa (pv 1) (Qa (Jm (Ql Ja (pv 4) Qi (Qn _)) (pv 2) Qc) Qb)))) (Q5 Z (Qf (Z' 5 ZA.nd) (Qf (Z' 1 ZA.nd) QD))))
   (Qp (QG (Jf (Qa (pv 2) (Qa (pv 3) (Qa (pv 4) (Qa (pv 5) (Qa (pv 1) Qb)))))))))),?_⟩
  refine⟨_,Z,_,Z,p,rs,rows,b,Z,R,hb,λpl many bi b2 fW h2 q2 H2 S2 g2=>⟨q2,_,Z,aj.of g2,Z,_,_,Z,_,_,Z,_,_,Z,_,_,Z,Z,?_⟩⟩;exists _,Z,_,Z,_,Z,Z,_,Z;refine JB (λx H'=>x=.str (tx (if bi=0 then pl else[57]))/\H'=H2) (λz rest=>?_) (λz rest=>?_) ?_
  .rw[Xo]at z;have hn:bi=0:=by have:=yap z;lia
   rw[yaf hn]at rest;exact⟨_,Z,rest _ _ ⟨Z,Z⟩⟩
  .rw[Xo]at z;have hn:bi≠0:=by have:=yau z;lia
   rw[yac hn]at rest;exact rest _ _ ⟨by rw[Y0],Z⟩
  rintro x H' ⟨rfl,rfl⟩;refine⟨p,rs,rows,b2,_,Z,R.same S2,fW,λo b3 sC h3 q3 FJ=>⟨q3,_,Z,aj.of Qd,Z,_,_,Z,_,_,Z,Z,?_⟩⟩;have S3:=S2.trans (Qs.new (o:=.tup [oV o,.int (b3:Nat)]) FJ);generalize upd H' q3 (.tup [oV o,.int (b3:Nat)])=H3 at S3;refine⟨_,Z,_,Z,_,Z,_,Z,_,Z,IP,λq4 Pb=>?_⟩;exact k pl many bi b2 b3 o sC h2 h3 q4 _ (S3.trans (Qs.new Pb)) Qd
theorem VT(F:aA K "edited_facts" "edited_facts" Xu f fd)(O:Own mg)(T:Txt K mg tk c kr)(md:Def P w K mg M 2 "lead_of" ["rows"] (jT K))(me:Def P w K mg M 3 "body_of" ["rows","at"] (jV K))(mf:Def P w K mg M 1 "tail_of" ["rows","at"] (jU K)):
  ag P w K mg M (ao P w) 4 f fd ["rows"] (ZB K JE):=by
 refine okN F QV (λvs H Q E h=>?_) (λad A L s H vs Q E hr h=>?_)
 .obtain⟨p,rs,rows,rfl,_⟩:=h;rfl
 .obtain⟨p,rs,rows,rfl,R,k⟩:=h;have hz:=zza
  refine⟨_,(Qj (Jk (md.pq hr Qy (Qa (pv 0) Qb)) (Q5 Z (Qf (Z' 1 QV.nd) (Qf (Z' 2 QV.nd) QD))))
   (Qj (Jk (me.pq hr Qy (Qa (pv 0) (Qa (pv 2) Qb))) (Q5 Z (Qf (Z' 3 QV.nd) (Qf (Z' 4 QV.nd) (Qf (Z' 5 QV.nd) (Qf (Z' 6 QV.nd) (Qf (Z' 7 QV.nd) QD)))))))
   (Qj (QN (i:=8) QV.nd Z (Or.inl Z) (mf.pq hr Qy (Qa (pv 0) (Qa (pv 7) Qb))))
   (Qj (JP (PW.pt (Xn (Ql Ja (pv 3) Qc (Qn _)) (Xn (Xf (Ky (pv 6))) (Zq (Xf (Ky (pv 8))))))) (Qp (QG Zk)) QQ)
   (Qj (QN (i:=9) QV.nd Z (Or.inl Z) (J0 Jo (pv 3) (QC (v:=V.str "+-$") Z T.gG ⟨_,Z⟩) (by with_unfolding_all rfl)))
   (Qj (JP (PW.pt (Jn (Je (pv 9) (λ_=>rfl)) (Jd (Ql K9 (pv 4) Qi (Qn _))))) (Qp (QG Zk)) QQ)
   (Qj (Ve (NB:=[".0","part"]) (iy:=10) Z ⟨Z,by rfl',by rfl',by rfl'⟩ (jy (Jf (Qa (QZ J2 (pv 1) Ju (Q2 Qi)) (Qa (pv 3) (Qa (pv 8) Qb))))) (λ_ _ _=>(Qk (i:=1) (show([".0","part"]:List Str).Nodup by rfl') Z (Or.inl Z))) (λ_ _ _=>(X1 (Ql (zO (K0:=K) Z) (pv 1) (QC (v:=V.ref (kr 1)) Z T.nM Z) (by with_unfolding_all rfl)))) (λ_ _ _=>(pv 1)) QV.nd Z (Or.inl Z) Z)
   (Qj (JP (Ql Wa (Qq QX Z O.len yaK (Qa (pv 10) Qb)) Qi (Qn _)) (Qp (QG Zk)) QQ)
   (Qj (QN (i:=11) QV.nd Z (Or.inl Z) (QI Zr (QI JK (pv 4) (pv 5)) (Jm (Je (pv 9) (λ_=>rfl)) Qi Qi)))
   (Qj (JP (Ql Wa (QI JK (pv 11) (pv 6)) (QC (v:=V.int 18) Z T.gy ⟨_,Z⟩) (Qn _)) (Qp (QG Zk)) QQ)
   (Qp (QG (Jf (Qa Qc (Qa (J0 Ja (Qq QX Z O.len yaK (Qa (pv 10) Qb)) Qi (Qn _)) (Qa (pv 11) (Qa (pv 6) Qb))))))))))))))))),?_⟩
  refine⟨_,Z,p,rs,rows,Z,R,λld b hb ST h1 q1 H1 S1 g1=>⟨q1,_,Z,aj.of g1,Z,_,_,Z,_,_,Z,Z,?_⟩⟩;refine⟨_,Z,_,Z,p,rs,rows,b,Z,R.same S1,hb,λpl many bi b2 b3 o sC h2 h3 q2 H3 S2 g2=>⟨q2,_,Z,aj.of g2,Z,_,_,Z,_,_,Z,_,_,Z,_,_,Z,_,_,Z,Z,?_⟩⟩;have S3:=S1.trans S2;clear g1 g2 S1 S2;have ee:=kS h1 h2 h3;have cz:=kT (rows.drop b);rw[h2]at cz;refine⟨_,Z,_,Z,p,rs,rows,b3,Z,R.same S3,sC,λH4 S4=>?_⟩;have oj:=S3.trans S4;generalize KG (rows.drop b3)=tl at ee;rw[ee]at k;clear ee h1 h2 h3 S3 S4;exists _,Z,Z,_,Z;rw[W3,XH];rcases cz with hp|⟨place,hp⟩
  .have im:pl=[]:=hp;subst im;rw[ly rfl];exact Q4 (Q4 (k .ax H4 oj Z))
  have im:pl=[place]:=hp;subst im;rw[lx (by simp)];refine QW ⟨_,Z,_,Z,?_⟩;cases o with
  |none=>exact Q4 (Q4 (k .ax H4 oj Z))
  |some behind=>
  refine QW ⟨_,Z,_,Z,?_⟩;cases tl with
  |none=>exact Q4 (k .ax H4 oj Z)
  |some tail=>
  refine QW ⟨_,Z,_,_,Z,Z,?_⟩;rw[vU,JG];generalize ev:([43,45,36]:List Nat).contains place=fl;have ek:Kd ld [place] many bi (some behind) (some tail)=if(fl&&decide (many<2))=true then none else if([ld.take 1,[place],tail].filter (J4.contains ·)).length>1 then none else if many+bi-(if fl=true then 1 else 0)+behind>18 then none else some ⟨3,([ld.take 1,[place],tail].filter (J4.contains ·)).length==1,many+bi-(if fl=true then 1 else 0),behind⟩:=by
   rw[<-ev];rfl
  rw[ek]at k;clear ek;dsimp only;refine JW (λσ' H'=>σ'=[some (.ref p),some (.str (tx ld)),some (.int (b:Nat)),some (.str (tx [place])),some (.int (many:Nat)),some (.int (bi:Nat)),some (.int (behind:Nat)),some (.int (b3:Nat)),some (.str (tx tail)),some (.bl fl),none,none]/\H'=H4/\¬ (fl&&decide (many<2))=true) ?_ (λrest=>?_)
  .rintro σ' H' ⟨rfl,rfl,fj⟩;rw[yac fj]at k;have Pc:fl=true->2<=many:=λz=>by
    rcases ybc many 2 with q|q
    .exact absurd (by rw[z,ly q];rfl) fj
    .exact q
   dsimp only[Wu,Wt];refine qY (ls:=[ld.take 1,[place],tail]) T rfl (by simp) (λR r=>⟨_,Z,_,Z,tx ld,Z,by rw[Qh];lia,_,Z,_,Z,Ax,λp5 DS=>r p5 _ (Qs.new DS) (by rw[Qd,U7];rfl)⟩) λq5 H5 S5 Ce=>?_;have S6:=(oj.trans S5).trans (Qs.new (o:=.lst (([ld.take 1,[place],tail].filter (J4.contains ·)).map λl=>V.str (tx l))) Ce);have g6:upd H5 q5 (.lst (([ld.take 1,[place],tail].filter (J4.contains ·)).map λl=>V.str (tx l))) q5=some (.lst (([ld.take 1,[place],tail].filter (J4.contains ·)).map λl=>V.str (tx l))):=Qd;generalize upd H5 q5 (.lst (([ld.take 1,[place],tail].filter (J4.contains ·)).map λl=>V.str (tx l)))=H6 at S6 g6;generalize [ld.take 1,[place],tail].filter (J4.contains ·)=sh at g6 k;exists _,Z,q5,_,Z,.inl (az.of g6),_,_,Z,Z,_,Z;rw[lu]
   by_cases h7:sh.length>1
   .rw[ly (by lia)];rw[yaf h7]at k;exact Q4 (k .ax H6 S6 Z)
   .rw[lx (by lia)];rw[yac h7]at k;refine QW ⟨_,Z,_,Z,_,_,Z,Z,_,Z,fl,Z,?_⟩;have Pd:((many:Nat):Int)+(bi:Nat)-(if fl=true then 1 else 0)=((many+bi-(if fl=true then 1 else 0):Nat):Int):=by
     cases fl with
     |true=>have:=Pc rfl;simp;lia
     |false=>simp
    refine JB (λx H'=>x=.int (if fl=true then 1 else 0)/\H'=H6) (λz rest=>rest _ _ ⟨by rw[yaf z],Z⟩) (λz rest=>rest _ _ ⟨by rw[yac (by rw[z];lia)],Z⟩) ?_;rintro x H7 ⟨rfl,rfl⟩;exists _,_,Z,Z;dsimp only[JI];rw[Pd];generalize many+bi-(if fl=true then 1 else 0)=before at k;exists _,Z,_,Z,_,_,Z,Z,_,_,Z,Z,_,Z
    by_cases h8:before+behind>18
    .rw[ly (by lia)];rw[yaf h8]at k;exact Q4 (k .ax H7 S6 Z)
    .rw[lx (by lia)];rw[yac h8]at k;refine QW ⟨_,Z,q5,_,Z,.inl (az.of g6),Z,_,Z,_,Z,eZ,λq9 Pe=>?_⟩;refine k _ _ (S6.trans (Qs.new Pe)) ⟨q9,Z,?_⟩;rw[Qd,lu,Xo];have e9:decide ((sh.length:Int)=1)=(sh.length==1):=by
      by_cases z:sh.length=1
      .rw[z];rfl
      .rw[lx (by lia)];exact(yaC.mpr z).symm
     rw[e9];rfl
  .exists _,Z,fl,Z;cases fl with
   |false=>
    exact QW (QW (rest _ _ ⟨Z,Z,by simp⟩))
   |true=>
    refine Q4 ⟨_,Z,_,_,Z,Z,_,Z,?_⟩
    by_cases h6:many<2
    .rw[ly (by lia)];refine Q4 (k .ax H4 oj ?_);rw[ly h6];rfl
    .rw[lx (by lia)];exact QW (rest _ _ ⟨Z,Z,by rw[lx h6];lia⟩)
theorem FV.Cf(h:FV o v H):decide (v=.ax)= !o.isSome:=by
 cases o with
 |none=>rw[show v=.ax from h];rfl
 |some x=>obtain⟨q,h1,h2⟩:=h;rw[h1];rfl
theorem qZ(F:aA K "facts_of" "facts_of" WG f fd)(mi:Def P w K mg M 1 "number_facts" ["rows"] (ZB K Q8))(mG:Def P w K mg M 1 "plain_facts" ["rows"] (ZB K JL))(mj:Def P w K mg M 4 "edited_facts" ["rows"] (ZB K JE)):
  ag P w K mg M (ao P w) 5 f fd ["rows"] (ZB K J5):=by
 refine okN F XL (λvs H Q E h=>?_) (λad A L s H vs Q E hr h=>?_)
 .obtain⟨p,rs,rows,rfl,_⟩:=h;rfl
 .obtain⟨p,rs,rows,rfl,R,k⟩:=h;refine⟨_,(Qj (QN (i:=1) XL.nd Z (Or.inl Z) (mi.pq hr Qy (Qa (pv 0) Qb)))
   (Qj (JP (Xf (Ky (pv 1))) (Qp (QN (i:=1) XL.nd Z (Or.inl Z) (mG.pq hr Qy (Qa (pv 0) Qb)))) QQ)
   (Qj (JP (Xf (Ky (pv 1))) (Qp (QN (i:=1) XL.nd Z (Or.inl Z) (mj.pq hr Qy (Qa (pv 0) Qb)))) QQ)
   (Qp (QG (pv 1)))))),?_⟩
  refine⟨_,Z,p,rs,rows,Z,R,λv1 H1 S1 f1=>?_⟩;exists _,Z,_,Z;rw[f1.Cf];cases e1:Q8 rows with
  |some x=>
   rw[e1]at f1;have ef:J5 rows=some x:=by unfold J5;rw[e1]
   refine QW ⟨_,Z,_,Z,?_⟩;rw[f1.Cf];refine QW ⟨_,Z,k v1 H1 S1 ?_⟩;rw[ef];exact f1
  |none=>
   refine Q4 ⟨_,Z,p,rs,rows,Z,R.same S1,λv2 H2 S2 f2=>?_⟩;exists _,Z,_,Z;rw[f2.Cf];cases e2:JL rows with
   |some x=>
    rw[e2]at f2;have ef:J5 rows=some x:=by unfold J5;rw[e1,e2]
    refine QW ⟨_,Z,k v2 H2 (S1.trans S2) ?_⟩;rw[ef];exact f2
   |none=>
    have ef:J5 rows=JE rows:=by unfold J5;rw[e1,e2]
    refine Q4 ⟨_,Z,p,rs,rows,Z,(R.same S1).same S2,λv3 H3 S3 f3=>⟨_,Z,k v3 H3 ((S1.trans S2).trans S3) ?_⟩⟩;rw[ef];exact f3
def VU(K:Frag)(c:Nat->Addr):Sp:=λvs H Q E=>∃l:List Nat,vs=[.str (tx l)]/\l.length<=500/\(Q9 l=none->∀H',Qs H H'->E (.ref (c 1)) none H')/\
 (∀x,Q9 l=some x->∀q p rs r H',Qs H H'->H' q=some (.tup [.ref p,.ref r])->H' r=some (fO x)->ak K H' p rs (rowsOf l)->Q (.ref q) H')
theorem Y6(F:aA K "understood" "understood" Xi f fd)(T:Txt K mg tk c kr)(mh:Def P w K mg M 4 "rows_of" ["thing"] (jS K))(gP:Def P w K mg M 5 "facts_of" ["rows"] (ZB K J5)):
  ag P w K mg M (ao P w) 6 f fd ["picture"] (VU K c):=by
 refine eB F XI (λvs H Q E h=>?_) (λad A L s H vs Q E hr h=>?_)
 .obtain⟨l,rfl,_⟩:=h;rfl
 .obtain⟨l,rfl,hl,k1,k2⟩:=h;have hz:=zza
  have fr:=Zy (P:=P) (w:=w) (K:=K) (mg:=mg) (M:=M) (N:=["picture","rows","facts"]) (qual:="understood") (scope:=Qe Xi) (f:=f) (cd:=ad) (A:=A) (L:=L) (s:=s) (H:=H) (E:=E);have ht:=Zg fr;have hx:=Jb fr;refine⟨_,(Qj (QN (i:=1) XI.nd Z (Or.inl Z) (mh.pq hr hx (Qa (pv 0) Qb)))
   (Qj (QN (i:=2) XI.nd Z (Or.inl Z) (gP.pq hr hx (Qa (pv 1) Qb)))
   (Qj (JP (Xf (Ky (pv 2))) (Qp (ZD ht Z Z T.ph T.pO (Qa Qc Qb))) QQ)
   (Qp (QG (Jf (Qa (pv 1) (Qa (pv 2) Qb)))))))),?_⟩
  refine⟨_,Z,_,rowsOf l,Z,.inl ⟨l,Z,hl,Z⟩,λp rs H1 S1 R1=>⟨_,Z,p,rs,rowsOf l,Z,R1,λv2 H2 S2 f2=>?_⟩⟩;exists _,Z,_,Z;rw[f2.Cf];cases e:J5 (rowsOf l)with
  |none=>exact Q4 ⟨bN,k1 e _ (S1.trans S2)⟩
  |some x=>
   rw[e]at f2;obtain⟨r,rfl,g⟩:=f2;refine QW ⟨_,Z,_,Z,bA,λq hq=>?_⟩;have S3:=Qs.new (o:=.tup [.ref p,.ref r]) hq;exact k2 x e q p rs r _ ((S1.trans S2).trans S3) Qd (S3 _ _ g) ((R1.same S2).same S3)
end
end Lw
namespace aQ
open PySem PySem.NumText bj
theorem IX(t:List Nat):(Jq t).2.length<=t.length:=by
 unfold Jq
 split
 .split
  .show(List.drop _ _).length<=_;rw[lJ,lD];lia
  .exact lA _
 .exact lA _
theorem Pf(h:t.head?≠some 40):Jq t=(1,t):=by
 unfold Jq
 split
 .exact absurd rfl h
 .rfl
theorem Pg:∀(k k':Nat)(l:List Nat)(rows:List Rw),l.length<=k->l.length<=k'->WX k l rows=WX k' l rows:=by
 intro k
 induction k with
 |zero=>
  intro k' l rows h h';cases l with
  |nil=>cases k'<;>rfl
  |cons a r=>simp at h
 |succ k ih=>
  intro k' l rows h h';cases l with
  |nil=>cases k'<;>rfl
  |cons c t=>
   cases k' with
   |zero=>simp at h'
   |succ k'=>
    have:=IX t;rw[lD]at h h';exact ih k' _ _ (by lia) (by lia)
noncomputable def run(l:List Nat)(rows:List Rw):List Rw:=WX l.length l rows
theorem Ph(rows:List Rw):run [] rows=rows:=rfl
theorem jW(c:Nat)(t:List Nat)(rows:List Rw):run (c::t) rows=run (Jq t).2 (Q7 rows c (Jq t).1):=by
 show WX t.length (Jq t).2 (Q7 rows c (Jq t).1)=_;exact Pg _ _ _ _ (IX t) (lA _)
theorem run_plain(rows:List Rw)(h:t.head?≠some 40):run (c::t) rows=run t (Q7 rows c 1):=by
 rw[jW,Pf h]
noncomputable def ar(rows:List Rw)(l:List Nat):List Rw:=l.foldl (λr c=>Q7 r c 1) rows
theorem q0(rows:List Rw)(a b:List Nat):ar rows (a++b)=ar (ar rows a) b:=List.foldl_append
theorem Pj(hc:c≠40)(h:t.head?≠some 40):∀(m:Nat)(rows:List Rw),run (replicate m c++t) rows=run t (ar rows (replicate m c)):=by
 intro m
 induction m with
 |zero=>intro rows;rfl
 |succ m ih=>
  intro rows;rw[yaz,lQ,run_plain,ih]
  .rfl
  .cases m with
   |zero=>exact h
   |succ m=>rw[yaz,lQ,yds];exact λz=>hc (lB z)
theorem JN(rows:List Rw):rows=[]\/∃r c m,rows=r++[(c,m)]:=by
 rcases List.eq_nil_or_concat rows with h|⟨r,x,h⟩
 .exact .inl h
 .exact .inr ⟨r,x.1,x.2,by rw[h,List.concat_eq_append]⟩
theorem WY(c n:Nat):Q7 [] c n=[(c,n)]:=rfl
theorem Zf(rows:List Rw)(c n m:Nat):Q7 (rows++[(c,m)]) c n=rows++[(c,n+m)]:=by
 unfold Q7;rw[ybq];simp
theorem JX{rows:List Rw}(h:c'≠c):Q7 (rows++[(c',m)]) c n=(rows++[(c',m)])++[(c,n)]:=by
 unfold Q7;rw[ybq];simp[h]
theorem Pk(rows:List Rw)(c a b:Nat):Q7 (Q7 rows c a) c b=Q7 rows c (b+a):=by
 rcases JN rows with rfl|⟨r,c',m,rfl⟩
 .rw[WY,WY];exact Zf [] c b a
 .by_cases h:c'=c
  .subst h;rw[Zf,Zf,Zf,yex]
  .rw[JX h,JX h,Zf]
theorem ja(c:Nat):∀(m:Nat)(rows:List Rw),ar rows (replicate (m+1) c)=Q7 rows c (m+1):=by
 intro m
 induction m with
 |zero=>intro rows;rfl
 |succ m ih=>
  intro rows;rw[yaz];show ar (Q7 rows c 1) (replicate (m+1) c)=_;rw[ih,Pk]
theorem Pl{c:Nat}(h:∀x∈a,p x=true) (hc:p c=false):(a++c::t).takeWhile p=a:=by
 induction a with
 |nil=>simp[hc]
 |cons x r ih=>
  rw[lQ,ybS,h x lH,yaf rfl,ih λy hy=>h y (lG _ hy)]
def Num(d:List Nat)(n:Nat):Prop:=d≠[]/\AllDigits d/\d.head?≠some 48/\digitsVal d=n
theorem Pm(h:Num d n)(t:List Nat):Jq (40::(d++41::t))=(n,t):=by
 have e:(d++41::t).takeWhile (· !=41)=d:=Pl (λx hx=>by have:=h.2.1 x hx;simp;lia) (by simp);show(if 41∈(d++41::t)/\_/\_/\_ then _ else _)=_;rw[e,yaf ⟨by simp,h.1,h.2.1,h.2.2.1⟩,h.2.2.2]
 congr 1
 rw[<-ycV,List.drop_left];rfl
theorem Pn(rows:List Rw)(h:Num d n):run (c::40::(d++41::t)) rows=run t (Q7 rows c n):=by
 rw[jW,Pm h]
inductive Sh:List Nat->List Nat->Prop
 |nil:Sh [] []
 |out {a b:List Nat} {c:Nat} (m:Nat):Sh a b->c≠40->Sh (a++replicate (m+1) c) (b++replicate (m+1) c)
 |brk {a b d:List Nat} {c:Nat} (m:Nat):Sh a b->c≠40->Num d (m+1)->Sh (a++replicate (m+1) c) (b++(c::40::(d++[41])))
theorem Sh.rows(h:Sh a b):∀(t:List Nat)(rows:List Rw),t.head?≠some 40->run (b++t) rows=run t (ar rows a):=by
 induction h with
 |nil=>intro t rows _;rfl
 |@out a b c m _ hc ih=>
  intro t rows ht;rw[lP,ih _ _ (by rw[yaz,lQ,yds];exact λz=>hc (lB z)),Pj hc ht,q0]
 |@brk a b d c m _ hc hd ih=>
  intro t rows ht;have e:(c::40::(d++[41]))++t=c::40::(d++41::t):=by simp
  rw[lP,ih _ _ (by rw[lQ,yds];exact λz=>hc (lB z)),e,Pn _ hd,q0,ja]
theorem U8(h:Sh a b):rowsOf b=ar [] a:=by
 have:=h.rows [] [] (by simp);rw[lS,Ph]at this;exact this
theorem kU:∀(a:List Nat),40∉a->Sh a a:=by
 have key:∀(l a:List Nat),40∉l->Sh a a->Sh (a++l) (a++l):=by
  intro l
  induction l with
  |nil=>intro a _ h;rw[lS];exact h
  |cons c t ih=>
   intro a hl h;have e:a++c::t=(a++replicate (0+1) c)++t:=by simp
   rw[e];exact ih _ (λz=>hl (lG _ z)) (Sh.out 0 h λz=>hl (by rw[z];exact lH))
 intro a h;exact key a [] h .nil
theorem Kr(h:40∉a):rowsOf a=ar [] a:=U8 (kU a h)
theorem IY(rows:List Rw)(c n:Nat):∃r m,Q7 rows c n=r++[(c,m)]:=by
 rcases JN rows with rfl|⟨r,c',m,rfl⟩
 .exact⟨[],n,Z⟩
 .by_cases h:c'=c
  .subst h;exact⟨r,_,Zf r c' n m⟩
  .exact⟨_,_,JX h⟩
theorem Po(rows r1:List Rw)(c n:Nat)(h:r1≠[]):Q7 (rows++r1) c n=rows++Q7 r1 c n:=by
 rcases JN r1 with rfl|⟨r,c',m,rfl⟩
 .exact absurd rfl h
 .rw[<-lP]
  by_cases h:c'=c
  .subst h;rw[Zf,Zf,lP]
  .rw[JX h,JX h,lP,lP,lP]
theorem v6(l:List Nat):∀(rows r1:List Rw),r1≠[]->ar (rows++r1) l=rows++ar r1 l:=by
 induction l with
 |nil=>intro rows r1 _;rfl
 |cons c t ih=>
  intro rows r1 h;show ar (Q7 (rows++r1) c 1) t=rows++ar (Q7 r1 c 1) t;rw[Po rows r1 c 1 h,ih];obtain⟨r,m,e⟩:=IY r1 c 1;rw[e];simp
theorem Pp{rows:List Rw}(h:∀r x n,rows=r++[(x,n)]->l.head?≠some x):ar rows l=rows++ar [] l:=by
 cases l with
 |nil=>show rows=rows++[];rw[lS]
 |cons c t=>
  have e:Q7 rows c 1=rows++[(c,1)]:=by
   rcases JN rows with rfl|⟨r,c',m,rfl⟩
   .rfl
   .exact JX λz=>h r c' m rfl (by rw[z];rfl)
  show ar (Q7 rows c 1) t=rows++ar [(c,1)] t;rw[e,v6 t rows [(c,1)] (by simp)]
theorem v7(l:List Nat):∀(rows r:List Rw)(x n:Nat),l≠[]->ar rows l=r++[(x,n)]->l.getLast?=some x:=by
 induction l with
 |nil=>intro rows r x n h;exact absurd rfl h
 |cons c t ih=>
  intro rows r x n _ e;cases t with
  |nil=>
   have e2:Q7 rows c 1=r++[(x,n)]:=e;obtain⟨r',m,e3⟩:=IY rows c 1;rw[e2]at e3;have:=(List.append_inj' e3 Z).2;cases this;rfl
  |cons d t=>exact ih _ r x n (by simp) e
theorem Y7(h:∀x,a.getLast?=some x->b.head?≠some x):ar [] (a++b)=ar [] a++ar [] b:=by
 rw[q0];refine Pp λr x n e=>?_;cases a with
 |nil=>cases r<;>cases e
 |cons c t=>exact h x (v7 _ _ r x n (by simp) e)
theorem Y8(c:Nat)(t:List Nat):∃n r,ar [] (c::t)=(c,n+1)::r:=by
 have key:∀(t:List Nat)(rows r:List Rw)(n:Nat),rows=(c,n+1)::r->∃n r,ar rows t=(c,n+1)::r:=by
  intro t
  induction t with
  |nil=>intro rows r n e;exact⟨n,r,e⟩
  |cons d t ih=>
   intro rows r n e;rcases JN rows with h|⟨r',c',m,h⟩
   .rw[h]at e;cases e
   .subst h;cases r' with
    |nil=>
     cases e
     by_cases z:c=d
     .subst z;exact ih _ [] (1+n) (Zf [] c 1 (n+1))
     .exact ih _ [(d,1)] n (JX (rows:=[]) z)
    |cons y r'=>
     cases e
     by_cases z:c'=d
     .subst z;exact ih _ _ n (Zf ((c,n+1)::r') c' 1 m)
     .exact ih _ _ n (JX (rows:=(c,n+1)::r') z)
 exact key t [(c,1)] [] 0 rfl
noncomputable def cnt(s:Nat)(rows:List Rw):Nat:=(rows.map λx=>if x.1=s then x.2 else 0).sum
theorem jb(s:Nat)(a b:List Rw):cnt s (a++b)=cnt s a+cnt s b:=by
 unfold cnt;rw[lO,List.sum_append]
theorem Pq(s:Nat)(rows:List Rw)(c n:Nat):cnt s (Q7 rows c n)=cnt s rows+if c=s then n else 0:=by
 rcases JN rows with rfl|⟨r,c',m,rfl⟩
 .simp[WY,cnt]
 .by_cases h:c'=c
  .subst h;rw[Zf,jb,jb];simp only[cnt,lU,ycz,ydQ,List.sum_nil]
   split<;>lia
  .rw[JX h,jb];simp only[cnt,lU,ycz,ydQ,List.sum_nil]
   split<;>lia
theorem Pt(s:Nat)(l:List Nat):∀rows,cnt s (ar rows l)=cnt s rows+l.count s:=by
 induction l with
 |nil=>intro rows;rfl
 |cons c t ih=>
  intro rows;show cnt s (ar (Q7 rows c 1) t)=_;rw[ih,Pq,yei]
  by_cases h:c=s
  .subst h;simp;lia
  .have:(c==s)=false:=by simpa using h
   rw[yac h,this];simp
theorem Pu{rows:List Rw}(h:x∈Q7 rows c n):x.1=c\/x∈rows:=by
 rcases JN rows with rfl|⟨r,c',m,rfl⟩
 .exact .inl (by rw[WY]at h;rw[yak.mp h])
 .by_cases z:c'=c
  .subst z;rw[Zf]at h;rcases yao.mp h with h|h
   .exact .inr (lF _ h)
   .exact .inl (by rw[yak.mp h])
  .rw[JX z]at h;rcases yao.mp h with h|h
   .exact .inr h
   .exact .inl (by rw[yak.mp h])
theorem kW(l:List Nat):∀rows,x∈ar rows l->x.1∈l\/x∈rows:=by
 induction l with
 |nil=>intro rows h;exact .inr h
 |cons c t ih=>
  intro rows h;rcases ih _ h with h|h
  .exact .inl (lG _ h)
  .rcases Pu h with h|h
   .exact .inl (by rw[h];exact lH)
   .exact .inr h
theorem Yy{place:Nat}(hR:∀x,R.head?=some x->x.1≠place/\ins x.1=false):∀(W:List Rw)(m:Nat),(∀x∈W,x.1=place\/ins x.1=true)->Q3 place (W++R) m=(m+cnt place W,R):=by
 intro W
 induction W with
 |nil=>
  intro m _;show Q3 place R m=_;cases R with
  |nil=>rfl
  |cons x r=>
   obtain⟨c,n⟩:=x;have:=hR (c,n) rfl;show(if c=place then _ else if ins c=true then _ else _)=_;rw[yac this.1,yac (by rw[this.2];lia)];rfl
 |cons x r ih=>
  intro m h;obtain⟨c,n⟩:=x;have e:cnt place ((c,n)::r)=(if c=place then n else 0)+cnt place r:=by simp[cnt]
  show(if c=place then Q3 place (r++R) (m+n)else if ins c=true then Q3 place (r++R) m else(m,(c,n)::(r++R)))=_;rw[e]
  by_cases z:c=place
  .rw[yaf z,yaf z,ih _ λy hy=>h y (lG _ hy),yex]
  .rw[yac z,yac z,yaf ((h _ lH).resolve_left z),ih _ λy hy=>h y (lG _ hy),ybd]
structure bK(s most:Nat)(l:List Nat):Prop where
 hd:l.head?=some s
 all:∀x∈l,x=s\/ins x=true
 cn:l.count s<=most
theorem bK.rows{s most:Nat}(h:bK s most l):∃n r,ar [] l=(s,n+1)::r/\(∀x∈ar [] l,x.1=s\/ins x.1=true)/\cnt s (ar [] l)=l.count s:=by
 cases l with
 |nil=>cases h.hd
 |cons c t=>
  have e:c=s:=lB h.hd;subst e;obtain⟨n,r,e⟩:=Y8 c t;refine⟨n,r,e,λx hx=>?_,by rw[Pt];exact ybd _⟩;rcases kW _ _ hx with z|z
  .exact h.all _ z
  .cases z
theorem bK.last{s most:Nat}(h:bK s most l)(e:l.getLast?=some x):x=s\/ins x=true:=h.all x (ydb e)
theorem Pw(l:List Nat):∀rows:List Rw,(x∈l\/∃y∈rows,y.1=x)->∃y∈ar rows l,y.1=x:=by
 have keep:∀(rows:List Rw)(c:Nat),(x=c\/∃y∈rows,y.1=x)->∃y∈Q7 rows c 1,y.1=x:=by
  intro rows c h;rcases JN rows with rfl|⟨r,c',m,rfl⟩
  .rcases h with h|⟨y,hy,_⟩
   .exact⟨(c,1),yak.mpr rfl,h.symm⟩
   .cases hy
  .by_cases z:c'=c
   .subst z;rw[Zf];rcases h with h|⟨y,hy,e⟩
    .exact⟨_,lE _ (yak.mpr Z),h.symm⟩
    .rcases yao.mp hy with hy|hy
     .exact⟨y,lF _ hy,e⟩
     .rw[yak.mp hy]at e;exact⟨_,lE _ (yak.mpr Z),e⟩
   .rw[JX z];rcases h with h|⟨y,hy,e⟩
    .exact⟨_,lE _ (yak.mpr Z),h.symm⟩
    .exact⟨y,lF _ hy,e⟩
 induction l with
 |nil=>intro rows h;exact h.resolve_left (by simp)
 |cons c t ih=>
  intro rows h;refine ih _ ?_;rcases h with h|h
  .rcases yag.mp h with h|h
   .exact .inr (keep rows c (.inl h))
   .exact .inl h
  .exact .inr (keep rows c (.inr h))
structure Ed(Y:List Nat)(first:Nat)(W N ac tail:List Nat):Prop where
 w:bK first 5 W
 n:N=[]\/(first≠57/\bK 57 3 N)
 f:first∈([57,90,42,43,45,36]:List Nat)
 fl:first∈([43,45,36]:List Nat)->2<=W.count first
 br:ac=[]\/∃k b,k<3/\ac=replicate (k+1) b/\(b=57\/(b=first/\(first=90\/first=42)/\N=[]))
 ld:Y∈([[],[43],[45],[36],[43,36],[45,36]]:List (List Nat))
 l1:first=43\/first=45->Y=[]\/Y=[36]
 l2:first=36->Y=[]\/Y=[43]\/Y=[45]
 tl:tail∈([[],[43],[45],[67,82],[68,66]]:List (List Nat))
 ts:tail≠[]->(first≠43/\first≠45)/\(Y=[]\/Y=[36])
 nn:¬ (first=57/\(∀x∈W,x=57)/\Y=[]/\ac=[]/\tail=[])
noncomputable def Qm(ac:List Nat):List Nat:=if ac=[]then[]else 46::ac
noncomputable def QU(Y W N ac tail:List Nat):List Nat:=Y++(W++(N++(Qm ac++tail)))
noncomputable def sgn(Y:List Nat)(first:Nat)(tail:List Nat):Bool:=(Y.head?==some 43||Y.head?==some 45)||(first==43||first==45)|| !tail.isEmpty
theorem v8:∀first∈([57,90,42,43,45,36]:List Nat),∀Y∈([[],[43],[45],[36],[43,36],[45,36]]:List (List Nat)),∀tail∈([[],[43],[45],[67,82],[68,66]]:List (List Nat)),
  (first=43\/first=45->Y=[]\/Y=[36])->(tail≠[]->(first≠43/\first≠45)/\(Y=[]\/Y=[36]))->
   ([Y.take 1,[first],tail].filter (J4.contains ·)).length<=1/\(([Y.take 1,[first],tail].filter (J4.contains ·)).length==1)=sgn Y first tail:=by lia
theorem kX:∀first∈([57,90,42,43,45,36]:List Nat),ins first=false/\first≠46/\first≠40/\first≠88/\first≠65:=by lia
section
variable {ac tail:List Nat}{first:Nat}
theorem ya(hs:ins s=false)(R:List Rw):∀r:List Rw,(∀x∈r,x.1=s\/ins x.1=true)->1<=cnt s r->∃m r',(r++R).dropWhile (λx=>ins x.1)=(s,m)::r':=by
 intro r
 induction r with
 |nil=>intro _ h;exact absurd h (by simp[cnt])
 |cons x r ih=>
  intro h1 h2;obtain⟨c,n⟩:=x
  by_cases z:c=s
  .subst z;exact⟨n,r++R,by rw[lQ,ybU,yac (by show ¬ ins c=true;rw[hs];lia)]⟩
  .have hi:ins c=true:=(h1 _ lH).resolve_left z;have hc:cnt s ((c,n)::r)=cnt s r:=by simp[cnt,z]
   rw[hc]at h2;obtain⟨m,r',e⟩:=ih (λy hy=>h1 y (lG _ hy)) h2;exact⟨m,r',by rw[lQ,ybU,yaf (show ins c=true from hi),e]⟩
theorem kY{s n:Nat}{r:List Rw}(hs:ins s=false)(R:List Rw)(h1:∀x∈(s,n+1)::r,x.1=s\/ins x.1=true) (h2:2<=cnt s ((s,n+1)::r)):JT ((s,n+1)::(r++R))=true:=by
 show(decide (n+1>1)||_)=true;cases n with
 |succ n=>rw[ly (by lia)];rfl
 |zero=>
  have hc:cnt s ((s,0+1)::r)=1+cnt s r:=by simp[cnt]
  rw[hc]at h2;obtain⟨m,r',e⟩:=ya hs R r (λy hy=>h1 y (lG _ hy)) (by lia);rw[e];simp
theorem Yz(hs:ins s=false)(r:List Rw)(h:s≠c):JT ((c,1)::(s,m)::r)=false:=by
 show(decide (1>1)||_)=false;rw[ybU,yac (show ¬ ins s=true by rw[hs];lia)];simp[h]
theorem Px(h:b≠46):ar [] (46::replicate (k+1) b)=[(46,1),(b,k+1)]:=by
 show ar [(46,1)] (replicate (k+1) b)=_;rw[ja];exact JX (rows:=[]) (Ne.symm h)
theorem Ke:∀tail∈([[],[43],[45],[67,82],[68,66]]:List (List Nat)),KG (ar [] tail)=some tail/\(∀x,(ar [] tail).head?=some x->x.1∈([43,45,67,68]:List Nat))/\(ar [] tail=[]->tail=[])/\(∀x,tail.head?=some x->x∈([43,45,67,68]:List Nat)):=by
 intro tail h;simp only[yag,yax,ybk]at h;rcases h with rfl|rfl|rfl|rfl|rfl
 .exact⟨by lia,(by intro x hx;cases hx),by lia,(by intro x hx;cases hx)⟩
 all_goals exact⟨by lia,(by intro x hx;cases hx;lia),by lia,(by intro x hx;cases hx;lia)⟩
theorem kZ:∀Y∈([[],[43],[45],[36],[43,36],[45,36]]:List (List Nat)),ar [] Y=Y.map λc=>(c,1):=by lia
theorem Ed.behind(E:Ed Y first W N ac tail):∀x,(Qm ac++tail).head?=some x->x≠57/\ins x=false/\x≠first/\x∈([46,43,45,67,68]:List Nat):=by
 intro x hx;have hf:=kX first E.f;unfold Qm at hx
 by_cases hb:ac=[]
 .rw[yaf hb,lR]at hx;have ht:=(Ke tail E.tl).2.2.2 x hx;have hn:tail≠[]:=λz=>by rw[z]at hx;cases hx
  have hs:=E.ts hn;have IZ:first≠67/\first≠68:=by
   have:∀f∈([57,90,42,43,45,36]:List Nat),f≠67/\f≠68:=by lia
   exact this first E.f
  simp only[yag,yax,ybk]at ht;rcases ht with rfl|rfl|rfl|rfl
  .exact⟨by lia,by lia,Ne.symm hs.1.1,by lia⟩
  .exact⟨by lia,by lia,Ne.symm hs.1.2,by lia⟩
  .exact⟨by lia,by lia,Ne.symm IZ.1,by lia⟩
  .exact⟨by lia,by lia,Ne.symm IZ.2,by lia⟩
 .rw[yac hb]at hx;cases hx;exact⟨by lia,by lia,Ne.symm hf.2.1,by lia⟩
theorem Ed.k8(E:Ed Y first W N ac tail):∀x,(N++(Qm ac++tail)).head?=some x->x≠first/\ins x=false:=by
 intro x hx;rcases E.n with rfl|⟨h1,h2⟩
 .rw[lR]at hx;exact⟨(E.behind x hx).2.2.1,(E.behind x hx).2.1⟩
 .rw[ycl,h2.hd]at hx;cases hx;exact⟨Ne.symm h1,by lia⟩
theorem Ed.xb(E:Ed Y first W N ac tail)(R:List Nat):(W++R).head?=some first:=by rw[ycl,E.w.hd];rfl
theorem Ed.rows(E:Ed Y first W N ac tail):ar [] (QU Y W N ac tail)=(Y.map λc=>(c,1))++(ar [] W++(ar [] N++(ar [] (Qm ac)++ar [] tail))):=by
 have hf:=kX first E.f;unfold QU;rw[Y7,kZ Y E.ld,Y7,Y7,Y7]
 .intro x hx ii;unfold Qm at hx;have ht:=(Ke tail E.tl).2.2.2 x ii;rcases E.br with rfl|⟨k,b,hk,rfl,hb⟩
  .cases hx
  .rw[yac (by simp)]at hx;have Py:x=b:=by
    rw[List.getLast?_cons,List.getLast?_replicate]at hx;simp at hx;exact hx.symm
   subst Py;have:x=57\/x=90\/x=42:=by
    rcases hb with h|⟨h,h2|h2,_⟩
    .exact .inl h
    .exact .inr (.inl (h.trans h2))
    .exact .inr (.inr (h.trans h2))
   rcases this with rfl|rfl|rfl<;>exact absurd ht (by lia)
 .intro x hx ii;have hb:=E.behind x ii;rcases E.n with rfl|⟨h1,h2⟩
  .cases hx
  .rcases h2.last hx with z|z
   .exact hb.1 z
   .rw[hb.2.1]at z;cases z
 .intro x hx ii;have hb:=E.k8 x ii;rcases E.w.last hx with z|z
  .exact hb.1 z
  .rw[hb.2]at z;cases z
 .intro x hx ii;rw[E.xb]at ii;cases ii;have hl:=E.ld;simp only[yag,yax,ybk]at hl;have a1:Y=[43]\/Y=[45]\/Y=[36]\/Y=[43,36]\/Y=[45,36]\/Y=[]:=by rcases hl with h|h|h|h|h|h<;>simp[h]
  rcases a1 with rfl|rfl|rfl|rfl|rfl|rfl
  .cases hx;exact absurd (E.l1 (.inl Z)) (by lia)
  .cases hx;exact absurd (E.l1 (.inr Z)) (by lia)
  .cases hx;exact absurd (E.l2 Z) (by lia)
  .cases hx;exact absurd (E.l2 Z) (by lia)
  .cases hx;exact absurd (E.l2 Z) (by lia)
  .cases hx
theorem Ed.I0(E:Ed Y first W N ac tail)(R:List Rw):Z5 ((Y.map λc=>(c,1))++(ar [] W++R))=(Y,ar [] W++R):=by
 have hf:=kX first E.f;obtain⟨n,r,e,lv,FO⟩:=E.w.rows;have ev:first∈([43,45,36]:List Nat)->JT ((first,n+1)::(r++R))=true:=λh=>by
  have h2:=E.fl h;rw[<-FO,e]at h2;rw[e]at lv;exact kY hf.1 R lv h2
 rw[e,lQ];have g2:∀ld:List Nat,(first=36->JT ((first,n+1)::(r++R))=true)->Zx [[36]] ((first,n+1)::(r++R)) ld=(ld,(first,n+1)::(r++R)):=λld h=>by
  show(if(([36]:List Nat).contains first&& !JT ((first,n+1)::(r++R)))=true then _ else _)=_
  by_cases z:first=36
  .rw[h z];simp;rfl
  .have:([36]:List Nat).contains first=false:=by simpa using z
   rw[this];rfl
 have g1:∀ld:List Nat,Zx [[43,45],[36]] ((first,n+1)::(r++R)) ld=(ld,(first,n+1)::(r++R)):=λld=>by
  show(if(([43,45]:List Nat).contains first&& !JT ((first,n+1)::(r++R)))=true then _ else _)=_;rw[yac]
  .exact g2 ld λz=>ev (by rw[z];lia)
  .by_cases z:first=43\/first=45
   .rw[ev (by rcases z with z|z<;>rw[z]<;>lia)];simp
   .have:([43,45]:List Nat).contains first=false:=by simpa using z
    rw[this,ycr]
    decide
 have hl:=E.ld;simp only[yag,yax,ybk]at hl;have K':first=36->JT ((first,n+1)::(r++R))=true:=λz=>ev (by rw[z];lia);have fk:∀(ld:List Nat),first≠36->Zx [[36]] ((36,1)::(first,n+1)::(r++R)) ld=(ld++[36],(first,n+1)::(r++R)):=λld h=>by
  show(if(([36]:List Nat).contains 36&& !JT ((36,1)::(first,n+1)::(r++R)))=true then _ else _)=_;rw[Yz hf.1 _ h];rfl
 have cZ:∀(c:Nat)(s m:Nat)(r':List Rw),(c=43\/c=45)->ins s=false->s≠c->Zx [[43,45],[36]] ((c,1)::(s,m)::r') []=Zx [[36]] ((s,m)::r') [c]:=λc s m r' hc hs h=>by
  show(if(([43,45]:List Nat).contains c&& !JT ((c,1)::(s,m)::r'))=true then _ else _)=_;rw[Yz hs _ h];rcases hc with rfl|rfl<;>rfl
 rcases hl with rfl|rfl|rfl|rfl|rfl|rfl
 .exact g1 []
 .show Zx [[43,45],[36]] ((43,1)::(first,n+1)::(r++R)) []=_;rw[cZ 43 _ _ _ (.inl Z) hf.1 (λz=>absurd (E.l1 (.inl z)) (by lia))];exact g2 _ K'
 .show Zx [[43,45],[36]] ((45,1)::(first,n+1)::(r++R)) []=_;rw[cZ 45 _ _ _ (.inr Z) hf.1 (λz=>absurd (E.l1 (.inr z)) (by lia))];exact g2 _ K'
 .show Zx [[36]] ((36,1)::(first,n+1)::(r++R)) []=_;exact fk [] λz=>absurd (E.l2 z) (by lia)
 .show Zx [[43,45],[36]] ((43,1)::(36,1)::(first,n+1)::(r++R)) []=_;rw[cZ 43 _ _ _ (.inl Z) (by lia) (by lia)];exact fk [43] λz=>absurd (E.l2 z) (by lia)
 .show Zx [[43,45],[36]] ((45,1)::(36,1)::(first,n+1)::(r++R)) []=_;rw[cZ 45 _ _ _ (.inr Z) (by lia) (by lia)];exact fk [45] λz=>absurd (E.l2 z) (by lia)
theorem yb(h:(ar [] l).head?=some x):l.head?=some x.1:=by
 cases l with
 |nil=>cases h
 |cons c t=>
  obtain⟨n,r,e⟩:=Y8 c t;rw[e]at h;cases h;rfl
theorem U9(h:(ar [] a++ar [] b).head?=some x):(a++b).head?=some x.1:=by
 cases a with
 |nil=>exact yb h
 |cons c t=>
  obtain⟨n,r,e⟩:=Y8 c t;rw[e]at h;cases h;rfl
theorem Ed.whole(E:Ed Y first W N ac tail):Ji (ar [] W++(ar [] N++(ar [] (Qm ac)++ar [] tail)))=([first],W.count first,N.count 57,ar [] (Qm ac)++ar [] tail):=by
 have hf:=kX first E.f;obtain⟨n,r,e,lv,FO⟩:=E.w.rows;have h1:Q3 first (ar [] W++(ar [] N++(ar [] (Qm ac)++ar [] tail))) 0=(W.count first,ar [] N++(ar [] (Qm ac)++ar [] tail)):=by
  rw[Yy _ _ _ lv,FO,ybd];intro x hx;refine E.k8 x.1 ?_;rcases E.n with rfl|⟨_,h2⟩
  .rw[lR];exact U9 (a:=Qm ac) (b:=tail) hx
  .obtain⟨n',r',e',_⟩:=h2.rows;rw[e']at hx;cases hx;rw[ycl,h2.hd];rfl
 have h2:Q3 57 (ar [] N++(ar [] (Qm ac)++ar [] tail)) 0=(N.count 57,ar [] (Qm ac)++ar [] tail):=by
  have hN:(∀x∈ar [] N,x.1=57\/ins x.1=true)/\cnt 57 (ar [] N)=N.count 57:=by
   rcases E.n with rfl|⟨_,h2⟩
   .exact⟨(λx hx=>nomatch hx),Z⟩
   .obtain⟨n',r',e',ha,hc⟩:=h2.rows;exact⟨ha,hc⟩
  rw[Yy _ _ _ hN.1,hN.2,ybd];intro x hx;have:=E.behind x.1 (U9 hx);exact⟨this.1,this.2.1⟩
 have hc:([57,90,42,43,45,36]:List Nat).contains first=true:=yai.mpr E.f;rw[e,lQ];rw[e,lQ]at h1;show(if([57,90,42,43,45,36]:List Nat).contains first=true then _ else _)=_;rw[yaf hc];show([first],(Q3 first _ 0).1,(Q3 57 (Q3 first _ 0).2 0).1,(Q3 57 (Q3 first _ 0).2 0).2)=_;rw[h1];show([first],W.count first,(Q3 57 _ 0).1,(Q3 57 _ 0).2)=_;rw[h2]
theorem Ed.k9(E:Ed Y first W N ac tail):Jz (ar [] (Qm ac)++ar [] tail) (if N.count 57=0 then[first]else[57])=(some ac.length,ar [] tail):=by
 rcases E.br with rfl|⟨k,b,hk,rfl,hb⟩
 .show Jz (ar [] tail) _=_;have ht:=(Ke tail E.tl).2.1;cases e:ar [] tail with
  |nil=>rfl
  |cons x r=>
   obtain⟨c,n⟩:=x;have:=ht (c,n) (by rw[e];rfl);unfold Jz
   split
   .rename_i heq;cases heq;exact absurd (show(46:Nat)∈([43,45,67,68]:List Nat)from this) (by lia)
   .rfl
 .have AB:b≠46:=by
   rcases hb with h|⟨h,h2|h2,_⟩
   .rw[h];lia
   .rw[h,h2];lia
   .rw[h,h2];lia
  unfold Qm;rw[yac (by simp),Px AB];have e:∀pl:List Nat,Jz ([(46,1),(b,k+1)]++ar [] tail) pl=if(1>1\/(b,k+1)::ar [] tail=[])then(none,[(46,1),(b,k+1)]++ar [] tail)else(if b≠57/\([b]≠pl\/([43,45,36]:List Nat).contains b=true)then(none,[(46,1),(b,k+1)]++ar [] tail)else(some (k+1),ar [] tail)):=λpl=>rfl;rw[e];rw[yac (by simp),yac,lN];rintro⟨z1,z2⟩;rcases hb with h|⟨h,h2,h3⟩
  .exact z1 h
  .subst h3;rw[yaf List.count_nil,h]at z2;rcases z2 with z2|z2
   .exact z2 rfl
   .rcases h2 with h2|h2<;>rw[h2]at z2<;>exact absurd z2 (by lia)
noncomputable def au(first:Nat):Bool:=([43,45,36]:List Nat).contains first
theorem Ed.Pz(E:Ed Y first W N ac tail):JE (ar [] (QU Y W N ac tail))=some ⟨3,sgn Y first tail,W.count first+N.count 57-(if au first=true then 1 else 0),ac.length⟩:=by
 have h1:=E.I0 (ar [] N++(ar [] (Qm ac)++ar [] tail));rw[<-E.rows]at h1;have h4:=(Ke tail E.tl).1;have hs:=v8 first E.f Y E.ld tail E.tl E.l1 E.ts;have hm:¬ (au first&&decide (W.count first<2))=true:=by
  intro z;rw[yaO]at z;have:=E.fl (yai.mp z.1);have:=yap z.2;lia
 have Tk:¬ (W.count first+N.count 57-(if au first=true then 1 else 0)+ac.length>18):=by
  have a:=E.w.cn;have b:N.count 57<=3:=by
   rcases E.n with rfl|⟨_,h⟩
   .simp
   .exact h.cn
  have c:ac.length<=3:=by
   rcases E.br with rfl|⟨k,b,hk,rfl,_⟩
   .simp
   .rw[lN];lia
  lia
 unfold JE;rw[h1];dsimp only;rw[E.whole];dsimp only;rw[E.k9];dsimp only;rw[h4];show(if(au first&&decide (W.count first<2))=true then none else if([Y.take 1,[first],tail].filter (J4.contains ·)).length>1 then none else if W.count first+N.count 57-(if au first=true then 1 else 0)+ac.length>18 then none else some (⟨3,(([Y.take 1,[first],tail].filter (J4.contains ·)).length==1),W.count first+N.count 57-(if au first=true then 1 else 0),ac.length⟩:Facts))=_;rw[yac hm,yac (by lia),yac Tk,hs.2]
noncomputable def om:List Nat:=[43,45,36,57,90,42,44,66,48,47,46,67,82,68]
theorem jX(h:ins x=true):x∈om:=(by decide:∀x∈([44,66,48,47]:List Nat),x∈om) x (yai.mp h)
theorem Ed.sym(E:Ed Y first W N ac tail):∀x∈QU Y W N ac tail,x∈om:=by
 intro x hx;have oo:first∈om:=by have h:∀f∈([57,90,42,43,45,36]:List Nat),f∈om:=(by lia);exact h first E.f
 unfold QU at hx;rcases yao.mp hx with hx|hx
 .have h:∀l∈([[],[43],[45],[36],[43,36],[45,36]]:List (List Nat)),∀x∈l,x∈om:=by lia
  exact h Y E.ld x hx
 rcases yao.mp hx with hx|hx
 .rcases E.w.all x hx with h|h
  .rw[h];exact oo
  .exact jX h
 rcases yao.mp hx with hx|hx
 .rcases E.n with rfl|⟨_,h2⟩
  .cases hx
  .rcases h2.all x hx with h|h
   .rw[h];lia
   .exact jX h
 rcases yao.mp hx with hx|hx
 .unfold Qm at hx;rcases E.br with rfl|⟨k,b,hk,rfl,hb⟩
  .cases hx
  .rw[yac (by simp)]at hx;rcases yag.mp hx with rfl|hx
   .decide
   .rw[yav hx];rcases hb with h|⟨h,_⟩
    .rw[h];lia
    .rw[h];exact oo
 .have h:∀l∈([[],[43],[45],[67,82],[68,66]]:List (List Nat)),∀x∈l,x∈om:=by lia
  exact h tail E.tl x hx
theorem yc:∀f∈zT,∀x∈f,x=57\/x=83\/x=86:=by lia
theorem Ed.yd(E:Ed Y first W N ac tail):Q8 (ar [] (QU Y W N ac tail))=none:=by
 have key:∃x∈QU Y W N ac tail,x≠57:=by
  unfold QU
  by_cases z:∃x∈Y++(W++(N++(Qm ac++tail))),x≠57
  .exact z
  .exfalso;have all:∀x∈Y++(W++(N++(Qm ac++tail))),x=57:=λx hx=>ydF λq=>z ⟨x,hx,q⟩;have hl:Y=[]:=by
    cases e:Y with
    |nil=>rfl
    |cons a r=>
     have h:∀l∈([[],[43],[45],[36],[43,36],[45,36]]:List (List Nat)),∀x∈l,x≠57:=by lia
     have:=all a (lF _ (by rw[e];exact lH));exact absurd this (h Y E.ld a (by rw[e];exact lH))
   have hW:∀x∈W,x=57:=λx hx=>all x (lE _ (lF _ hx));have hf:first=57:=hW first (yaW E.w.hd);have hD:∀x∈Qm ac++tail,x=57:=λx hx=>all x (lE _ (lE _ (lE _ hx)));have hb:ac=[]:=by
    cases e:ac with
    |nil=>rfl
    |cons a r=>
     have:=hD 46 (lF _ (by unfold Qm;rw[yac (by rw[e];simp)];exact lH));cases this
   have ht:tail=[]:=by
    cases e:tail with
    |nil=>rfl
    |cons a r=>
     have h:∀l∈([[],[43],[45],[67,82],[68,66]]:List (List Nat)),∀x∈l,x≠57:=by lia
     have:=hD a (lE _ (by rw[e];exact lH));exact absurd this (h tail E.tl a (by rw[e];exact lH))
   exact E.nn ⟨hf,hW,hl,hb,ht⟩
 obtain⟨x,hx,ul⟩:=key;have ha:=E.sym x hx;obtain⟨y,hy,e⟩:=Pw _ [] (.inl hx);unfold Q8;rw[yac];intro z;have:=yc _ (yai.mp z) x (by rw[<-e];exact List.mem_map_of_mem hy);rcases this with h|h|h
 .exact ul h
 .rw[h]at ha;exact absurd ha (by lia)
 .rw[h]at ha;exact absurd ha (by lia)
theorem Ed.PB(E:Ed Y first W N ac tail):JL (ar [] (QU Y W N ac tail))=none:=by
 unfold JL
 split
 .rename_i c n heq;have hm:c∈QU Y W N ac tail:=by
   have:=kW (x:=(c,n)) (QU Y W N ac tail) [] (by rw[heq];exact yak.mpr Z);exact this.resolve_right (by simp)
  have ha:=E.sym c hm;rw[yaf];refine .inl ⟨λz=>?_,λz=>?_⟩
  .rw[z]at ha;exact absurd ha (by lia)
  .rw[z]at ha;exact absurd ha (by lia)
 .rfl
theorem Ed.DT(E:Ed Y first W N ac tail):40∉QU Y W N ac tail:=λz=>absurd (E.sym 40 z) (by lia)
theorem Ed.Cg(E:Ed Y first W N ac tail):Q9 (QU Y W N ac tail)=some ⟨3,sgn Y first tail,W.count first+N.count 57-(if au first=true then 1 else 0),ac.length⟩:=by
 unfold Q9;rw[Kr E.DT];unfold J5;rw[E.yd,E.PB,E.Pz]
end
theorem ye(h:c≠40):40∉replicate m c:=λz=>h (yav z).symm
theorem wa(hc:c=88\/c=65)(hm:m<60):Q9 (replicate (m+1) c)=some ⟨if c=88 then 0 else 1,false,0,0⟩:=by
 unfold Q9;rw[Kr (ye (by rcases hc with h|h<;>rw[h]<;>lia)),ja,WY];unfold J5;have h1:Q8 [(c,m+1)]=none:=by
  unfold Q8;rw[yac];show ¬ zT.contains [c]=true;rcases hc with h|h<;>rw[h]<;>lia
 have h2:JL [(c,m+1)]=some ⟨if c=88 then 0 else 1,false,0,0⟩:=by
  show(if(c≠88/\c≠65)\/m+1>60 then none else some (⟨if c=88 then 0 else 1,false,0,0⟩:Facts))=_;rw[yac];rintro(⟨a,b⟩|a)
  .rcases hc with h|h
   .exact a h
   .exact b h
  .lia
 rw[h1,h2]
noncomputable def Z9(s:Bool)(a b:Nat):List Nat:=(if s then[83]else[])++replicate a 57++(if b=0 then[]else 86::replicate b 57)
theorem PD:∀(s:Bool)(a b:Nat),a<6->b<4->a+b≠0->Q9 (Z9 s a b)=some ⟨2,s,a,b⟩/\40∉Z9 s a b:=by
 intro s a b ha hb h;have key:∀s:Bool,∀a<6,∀b<4,a+b≠0->Q9 (Z9 s a b)=some ⟨2,s,a,b⟩/\40∉Z9 s a b:=by lia
 exact key s a ha b hb h
open bj PySem.NumText
noncomputable def un(rows:List Rw):List Nat:=rows.flatMap λx=>replicate x.2 x.1
theorem qa(a b:List Rw):un (a++b)=un a++un b:=List.flatMap_append
theorem jY(c n:Nat):un [(c,n)]=replicate n c:=by simp[un]
theorem PF(rows:List Rw)(c n:Nat):un (Q7 rows c n)=un rows++replicate n c:=by
 rcases JN rows with rfl|⟨r,c',m,rfl⟩
 .rw[WY,jY];rfl
 .by_cases h:c'=c
  .subst h;rw[Zf,qa,qa,jY,jY,lP,List.replicate_append_replicate,yeC]
  .rw[JX h,qa (r++[(c',m)]),jY]
theorem PH(l:List Nat):∀rows,un (ar rows l)=un rows++l:=by
 induction l with
 |nil=>intro rows;show un rows=_;rw[lS]
 |cons c t ih=>
  intro rows;show un (ar (Q7 rows c 1) t)=_;rw[ih,PF,lP];rfl
theorem jc(l:List Nat):un (ar [] l)=l:=by rw[PH];rfl
noncomputable def jd(c:Nat):Bool:= !([83,86]:List Nat).contains c
noncomputable def cA(rows:List Rw):Nat:=((rows.filter λx=>jd x.1).map (·.2)).sum
theorem je(a b:List Rw):cA (a++b)=cA a+cA b:=by simp[cA]
theorem Y9(c n:Nat):cA [(c,n)]=if jd c=true then n else 0:=by
 unfold cA;rw[yaF]
 split<;>simp
theorem PJ(rows:List Rw)(c n:Nat):cA (Q7 rows c n)=cA rows+if jd c=true then n else 0:=by
 rcases JN rows with rfl|⟨r,c',m,rfl⟩
 .rw[WY,Y9];simp[cA]
 .by_cases h:c'=c
  .subst h;rw[Zf,je,je,Y9,Y9]
   split<;>lia
  .rw[JX h,je (r++[(c',m)]),Y9]
theorem PL(l:List Nat):∀rows,cA (ar rows l)=cA rows+(l.filter jd).length:=by
 induction l with
 |nil=>intro rows;rfl
 |cons c t ih=>
  intro rows;show cA (ar (Q7 rows c 1) t)=_;rw[ih,PJ,yaF]
  split<;>simp<;>lia
theorem yf(l:List Nat):cA (ar [] l)=(l.filter jd).length:=by rw[PL];simp[cA]
def Pos(n:Nat)(rows:List Rw):Prop:=∀x∈rows,1<=x.2/\x.2<=n/\x.1≠40
theorem PM{rows:List Rw}(hp:Pos n rows)(hc:c≠40):Pos (n+1) (Q7 rows c 1):=by
 rcases JN rows with rfl|⟨r,c',m,rfl⟩
 .rw[WY];intro x hx;rw[yak.mp hx];exact⟨lA _,by simp,hc⟩
 .by_cases h:c'=c
  .subst h;rw[Zf];intro x hx;rcases yao.mp hx with hx|hx
   .obtain⟨h1,h2,h3⟩:=hp x (lF _ hx);exact⟨h1,by lia,h3⟩
   .rw[yak.mp hx];obtain⟨h1,h2,h3⟩:=hp (c',m) (by simp);exact⟨by simp,by simp at h2 ⊢;lia,hc⟩
  .rw[JX h];intro x hx;rcases yao.mp hx with hx|hx
   .obtain⟨h1,h2,h3⟩:=hp x hx;exact⟨h1,by lia,h3⟩
   .rw[yak.mp hx];exact⟨lA _,by simp,hc⟩
theorem PN(l:List Nat):∀(n:Nat)(rows:List Rw),Pos n rows->40∉l->Pos (n+l.length) (ar rows l):=by
 induction l with
 |nil=>intro n rows h _;exact h
 |cons c t ih=>
  intro n rows h La;have:=ih (n+1) (Q7 rows c 1) (PM h λz=>La (by rw[z];exact lH)) λz=>La (lG _ z);have e:n+(c::t).length=n+1+t.length:=by simp;lia
  rw[e];exact this
theorem yg(h:40∉l):Pos l.length (ar [] l):=by
 have:=PN l 0 [] (λx hx=>absurd hx (by simp)) h;rw[ybd]at this;exact this
end aQ
namespace bj
open PySem PySem.NumText Builtin Builtin.Str StrLaws
theorem PQ(lo:Option Int)(k n:Nat)(hk:1<=k):strSliceIndices lo (some (-(k:Int))) 1 n=strSliceIndices lo (some ((n-k:Nat):Int)) 1 n:=by
 unfold strSliceIndices;have h1:(-(k:Int)<0):=by lia
 have h2:¬ (((n-k:Nat):Int)<0):=by lia
 have h3:max (0:Int) (min (-(k:Int)+n) n)=max (0:Int) (min ((n-k:Nat):Int) n):=by lia
 simp only[h1,h2,ybK,ycu,h3,show((1:Int)>0)=True from by simp]
theorem PU(hi:Option Int)(k n:Nat)(hk:1<=k):strSliceIndices (some (-(k:Int))) hi 1 n=strSliceIndices (some ((n-k:Nat):Int)) hi 1 n:=by
 unfold strSliceIndices;have h1:(-(k:Int)<0):=by lia
 have h2:¬ (((n-k:Nat):Int)<0):=by lia
 have h3:max (0:Int) (min (-(k:Int)+n) n)=max (0:Int) (min ((n-k:Nat):Int) n):=by lia
 simp only[h1,h2,ybK,ycu,h3,show((1:Int)>0)=True from by simp]
theorem qb(l:List Nat){k:Nat}(hk:1<=k):sliceText (tx l) none (some (-(k:Int)))=tx (l.take (l.length-k)):=by
 have e:sliceText (tx l) none (some (-(k:Int)))=sliceText (tx l) none (some ((l.length-k:Nat):Int)):=by
  unfold sliceText;rw[PQ none k _ hk,Qh]
 rw[e,Kq l (by lia)]
theorem Kf(l:List Nat){k:Nat}(hk:1<=k):sliceText (tx l) (some (-(k:Int))) none=tx (l.drop (l.length-k)):=by
 have e:sliceText (tx l) (some (-(k:Int))) none=sliceText (tx l) (some ((l.length-k:Nat):Int)) none:=by
  unfold sliceText;rw[PU none k _ hk,Qh]
 rw[e,J7]
theorem Ks(l:List Nat):sliceText (tx l) none (some (-1))=tx l.dropLast:=by
 have:=qb l (k:=1) (lA _);rw[List.dropLast_eq_take];exact this
theorem ZC{l:List Nat}(h:l≠[]):∃d,l=l.dropLast++[d]/\l.getLast?=some d:=⟨l.getLast h,(List.dropLast_concat_getLast h).symm,List.getLast?_eq_some_getLast h⟩
noncomputable def pad(n k:Nat):List Nat:=replicate (k-(dec n).length) 48++dec n
theorem Kg(n k:Nat):AllDigits (pad n k):=kF (kG _) (qS n)
theorem Ua(n k:Nat):digitsVal (pad n k)=n:=by unfold pad;rw[Xp,qU,kD,yeF,ybd]
theorem wb(n k:Nat):pad n k≠[]:=λz=>by
 have h:=yaI List.length z;unfold pad at h;have h2:=IL n;rw[lq,ybj]at h;lia
theorem dec_lt(h:n<10^k)(hk:1<=k):(dec n).length<=k:=by
 rcases ybc k (dec n).length with q|q
 .exfalso
  by_cases h0:n=0
  .subst h0;have:(dec 0).length=1:=by lia
   lia
  .have h1:(Nat.toDigits 10 n).length<=k:=(Nat.length_toDigits_le_iff (by lia) hk).mpr h;unfold dec at q;rw[lu]at q;lia
 .exact q
theorem XB(h:n<10^k)(hk:1<=k):(pad n k).length=k:=by
 have:=dec_lt h hk;unfold pad;rw[lq,lN];lia
theorem VW(n:Nat){k:Nat}(hk:1<=k):Txt.zfill (tx (dec n)) (k:Int)=tx (pad n k):=by
 obtain⟨o,rfl⟩:∃o,k=o+1:=⟨k-1,by lia⟩;have:=kH n o;push_cast;rw[this];rfl
theorem Lb:∀d:Nat,48<=d->d<=57->("pqrstuvwxy":Str).cps.toList[d-48]? =some (d+64):=by
 intro d h1 h2;have key:∀k:Nat,k<10->("pqrstuvwxy":Str).cps.toList[k]? =some (k+112):=by rfl'
 have:=key (d-48) (by lia);rw[this]
 congr 1
 lia
theorem PV:("pqrstuvwxy":Str)=tx [112,113,114,115,116,117,118,119,120,121]:=by rfl'
theorem PX(h:AllDigits [d]):digitsVal [d]=d-48:=by simp[digitsVal]
theorem qc(cs:Str)(l:List Nat):decide (Txt.stripChars (tx l) cs=(Str.empty:Str))=decide (∀c∈l,cs.cps.contains c=true):=by
 unfold Txt.stripChars Txt.stripBy stripSame stripped stripLo stripHi;simp only[ybK,Qh];generalize hp:(cs.cps.contains:Nat->Bool)=p
 by_cases h:∀c∈l,p c=true
 .rw[ly h,ly];have e1:(tx l).cps.toList.takeWhile p=l:=takeWhile_all λc hc=>h c hc;rw[e1];have e2:(tx l).cps.toList.drop l.length=[]:=yay (lA _);rw[e2];show(if(l.length==0&&l.length==l.length)=true then tx l else strSub (tx l) l.length l.length)=Str.empty
  by_cases hz:(l.length==0&&l.length==l.length)=true
  .rw[yaf hz];have:l.length=0:=by
    simp only[yaO,yci]at hz;exact hz.1
   rw[yaH.mp this];rfl
  .rw[yac hz,Ye (strSub _ _ _),strSub_toList,yeG,yer];rfl
 .rw[lx h,lx];have bn:((tx l).cps.toList.takeWhile p).length<l.length:=by
   have hle:((tx l).cps.toList.takeWhile p).length<=l.length:=ybT (yaU p);rcases ybc ((tx l).cps.toList.takeWhile p).length l.length with z|z
   .exact z
   .refine absurd (λc hc=>?_) h;have e:(tx l).cps.toList.takeWhile p=l:=ybo (yaU p) z;rw[<-e]at hc;exact UY hc
  generalize Do:((tx l).cps.toList.takeWhile p).length=lo at bn;have eY:∃a r,l.drop lo=a::r/\p a=false:=by
   have hd:l.dropWhile p=l.drop lo:=by
    have:=ybN (p:=p) (l:=l);have e3:l.drop lo=((l.takeWhile p)++l.dropWhile p).drop lo:=by rw[this]
    rw[e3,ybp (by rw[<-Do];exact lA _),yay (by rw[<-Do];exact lA _),lR]
   cases hx:l.drop lo with
   |nil=>
    have:=yaI List.length hx;rw[lJ,ybj]at this;lia
   |cons a r=>
    exists a,r,Z;rw[hx]at hd;have:=ydM (p:=p) (l:=l);rw[hd]at this;simpa using this
  obtain⟨a,r,hx,iB⟩:=eY;have f8:(tx l).cps.toList.drop lo=a::r:=hx;rw[f8];have l':r.length+1=l.length-lo:=by
   have:=yaI List.length hx;rw[lJ,lD]at this;lia
  have hk:((a::r).reverse.takeWhile p).length<=r.length:=by
   rw[List.reverse_cons];have hle:((r.reverse++[a]).takeWhile p).length<=r.length:=by
    by_cases lv:∀c∈r.reverse,p c=true
    .rw[ydh lv,ybS,iB];simp
    .have:((r.reverse++[a]).takeWhile p).length<(r.reverse++[a]).length:=by
      have hle:((r.reverse++[a]).takeWhile p).length<=(r.reverse++[a]).length:=ybT (yaU p);rcases ybc ((r.reverse++[a]).takeWhile p).length (r.reverse++[a]).length with z|z
      .exact z
      .have e:(r.reverse++[a]).takeWhile p=r.reverse++[a]:=ybo (yaU p) z;have:p a=true:=UY (l:=r.reverse++[a]) (by rw[e];simp);rw[iB]at this;cases this
     rw[lq,ydq,lC]at this;lia
   exact hle
  split
  .intro z;have:=yaI (λz:Str=>z.cps.toList.length) z;have e0:l.length=0:=this;lia
  .intro z;have:=yaI (λz:Str=>z.cps.toList.length) z;have e0:(strSub (tx l) lo (l.length-((a::r).reverse.takeWhile p).length)).cps.toList.length=0:=this;rw[strSub_toList,lI,JD,hx,lD]at e0;lia
theorem WI(hd:AllDigits l):decide (L2.V.str (Txt.stripChars (tx l) "0")=L2.V.str "")=decide (digitsVal l=0):=by
 have e:("":Str)=Str.empty:=by rfl'
 have h:=qc "0" l;have e0:∀c,("0":Str).cps.contains c=true↔c=48:=λc=>by
  have e1:("0":Str).cps= #[48]:=by rfl'
  rw[e1];simp
 have hv:(∀c∈l,("0":Str).cps.contains c=true)↔digitsVal l=0:=by
  constructor
  .intro h;have:l=replicate l.length 48:=yej.mpr ⟨Z,λb hb=>(e0 b).mp (h b hb)⟩;rw[this,qU]
  .intro h c hc;rw[e0];obtain⟨a,b,rfl⟩:=List.append_of_mem hc;have hb:=hd c hc;rw[Xp]at h;have h2:digitsVal (c::b)=0:=by lia
   have h3:digitsVal (c::b)=digitsVal [c]*10^b.length+digitsVal b:=Xp [c] b;have h4:digitsVal [c]=c-48:=by simp[digitsVal]
   rw[h4]at h3;have h5:0<10^b.length:=ycx (by lia);have h6:(c-48)*10^b.length=0:=by lia
   rcases Nat.mul_eq_zero.mp h6 with z|z
   .lia
   .lia
 by_cases hz:digitsVal l=0
 .rw[ly hz];rw[ly (hv.mpr hz)]at h;rw[ly];rw[yap h,e]
 .rw[lx hz];rw[lx λz=>hz (hv.mp z)]at h;rw[lx];intro q;exact yau h (by rw[L2.V.str.inj q,e])
theorem PY:∀(n:Nat)(a b:List Nat),a.length=n->b.length=n->AllDigits a->AllDigits b->digitsVal a=digitsVal b->a=b:=by
 intro n
 induction n with
 |zero=>
  intro a b ha hb _ _ _;rw[yaH.mp ha,yaH.mp hb]
 |succ n ih=>
  intro a b ha hb da db hv;obtain⟨x,hx,_⟩:=ZC (l:=a) (λz=>by rw[z]at ha;cases ha);obtain⟨y,hy,_⟩:=ZC (l:=b) (λz=>by rw[z]at hb;cases hb);have di:digitsVal [x]=x-48:=by simp[digitsVal]
  have FP:digitsVal [y]=y-48:=by simp[digitsVal]
  have dx:=da x (by rw[hx];exact lE _ (yak.mpr Z));have dy:=db y (by rw[hy];exact lE _ (yak.mpr Z));have la:a.dropLast.length=n:=by rw[yaN];lia
  have lb:b.dropLast.length=n:=by rw[yaN];lia
  have pa:AllDigits a.dropLast:=λc hc=>da c (ybH _ hc);have pb:AllDigits b.dropLast:=λc hc=>db c (ybH _ hc);rw[hx,hy,Xp,Xp,di,FP]at hv;simp only[lC,Nat.pow_one]at hv;have h1:digitsVal a.dropLast=digitsVal b.dropLast:=by lia
  have h2:x=y:=by lia
  rw[hx,hy,ih _ _ la lb pa pb h1,h2]
theorem jZ(n:Nat)(hk:1<=k):(replicate k 48++dec n).drop ((replicate k 48++dec n).length-k)=pad (n % 10^k) k:=by
 generalize hL:replicate k 48++dec n=qLa;have dL:AllDigits qLa:=by rw[<-hL];exact kF (kG _) (qS n)
 have lL:k<=qLa.length:=by rw[<-hL,lq,lN];lia
 have vL:digitsVal qLa=n:=by rw[<-hL,Xp,qU,kD,yeF,ybd]
 have dd:AllDigits (qLa.drop (qLa.length-k)):=λc hc=>dL c (yaY hc);have ld:(qLa.drop (qLa.length-k)).length=k:=by rw[lJ];lia
 have hm:n % 10^k<10^k:=Nat.mod_lt _ (ycx (by lia));refine PY k _ _ ld (XB hm hk) dd (Kg _ _) ?_;rw[Ua];have hv:=Xp (qLa.take (qLa.length-k)) (qLa.drop (qLa.length-k));rw[yek,vL,ld]at hv;have bn:=X3 dd;rw[ld]at bn;rw[hv,ydz,Nat.mul_add_mod,Nat.mod_eq_of_lt bn]
theorem yh(l:List Nat)(h:l[i]? =some d)(hn:∀j,j<i->l[j]? ≠some d):∃r,Builtin.Str.occurrences (tx l) (tx [d]) 0 (tx l).length 1=i::r:=by
 rcases occ_head (tx l) (tx [d]) 1 (lA _)with⟨h1,h2⟩|⟨j,t,h1,h2,h3⟩
 .exact absurd ((subAt_one (tx l) d i).mpr h) (h2 i)
 .exists t;rw[h1];have hj:l[j]? =some d:=(subAt_one (tx l) d j).mp h2;have e:j=i:=by
   rcases Nat.lt_trichotomy j i with z|z|z
   .exact absurd hj (hn j z)
   .exact z
   .exact absurd ((subAt_one (tx l) d i).mpr h) (h3 i z)
  rw[e]
end bj
namespace bY
open bj aQ PySem.NumText
noncomputable def fit(u o:Int)(a b:Nat):Int:=if aF.zS u o b<0 then-(aF.Kp (aF.zS u o b) % aF.aT ((a:Int)+b))else aF.Kp (aF.zS u o b) % aF.aT ((a:Int)+b)
noncomputable def WJ(l:List Nat):List Nat:=l.dropLast++[l.getLast?.getD 48+64]
noncomputable def cont(s:Bool)(a b:Nat)(u o:Int):List Nat:=if s=true/\fit u o a b<0 then WJ (pad (fit u o a b).natAbs (a+b))else pad (fit u o a b).natAbs (a+b)
noncomputable def JY(s:Bool)(l:List Nat):Bool:=s&&(([112,113,114,115,116,117,118,119,120,121]:List Nat).contains (l.getLast?.getD 0))
noncomputable def Jt(s:Bool)(l:List Nat):List Nat:=if JY s l=true then l.dropLast++[l.getLast?.getD 0-64]else l
noncomputable def Jj(s:Bool)(l:List Nat):Int:=if JY s l=true then-(digitsVal (Jt s l):Int)else(digitsVal (Jt s l):Int)
def VX(s:Bool)(a b:Nat)(l:List Nat):Prop:=l.length=a+b/\AllDigits (Jt s l)
noncomputable instance (s:Bool)(a b:Nat)(l:List Nat):Decidable (VX s a b l):=inferInstanceAs (Decidable (_/\_))
theorem qd(u o:Int)(a b:Nat):(fit u o a b).natAbs<10^(a+b):=by
 have h1:=ybv (aF.Kp (aF.zS u o b)) (ybP (aF.Ze ((a:Int)+b)));have h2:=ybe (aF.Kp (aF.zS u o b)) (aF.Ze ((a:Int)+b));have h3:aF.aT ((a:Int)+b)=((10^(a+b):Nat):Int):=by
  unfold aF.aT;have:((a:Int)+b).toNat=a+b:=by lia
  rw[this];push_cast;rfl
 rw[h3]at h1 h2;unfold fit;rw[h3]
 split<;>lia
end bY
namespace Lw
open PySem PySem.Spec PyProof.Rows L2 bj aQ bY
open Builtin Builtin.Str StrLaws
theorem yi:∀ls:List (List Nat),Txt.join "" (ls.map tx)=tx ls.flatten:=by
 intro ls;show Builtin.Str.glued _ _=_;rw[ycY];have e:("":Str)=tx []:=by rfl'
 rw[e]
 induction ls with
 |nil=>rfl
 |cons a r ih=>
  cases r with
  |nil=>simp[PySem.Str.join]
  |cons b r=>
   show tx a++tx []++PySem.Str.join (tx []) ((b::r).map tx)=_;rw[ih,QR,QR,ybu (l:=a),lS]
theorem wc:∀(ls:List (List Nat))(n:Nat),(ls.map tx).foldl (λ(m:Nat)(s:Str)=>m+s.length+("":Str).length) n=n+ls.flatten.length:=by
 have e:("":Str).length=0:=by rfl'
 intro ls
 induction ls with
 |nil=>intro n;rfl
 |cons a r ih=>
  intro n;show(r.map tx).foldl _ (n+(tx a).length+("":Str).length)=_;rw[ih,e,Qh,ybu,lq];lia
theorem yj{ls:List (List Nat)}(h:ls.flatten.length<=1000):JoinOk "" (ls.map tx)=true:=by
 unfold JoinOk;rw[<-Array.foldl_toList,List.toList_toArray,wc];unfold tooLong;have hz:=zza
 rw[lx (by lia)];rfl
theorem Zi(ch k:Nat):L2.Ya (tx [ch]) k=tx (replicate k ch):=by
 rw[Ye (L2.Ya (tx [ch]) k)]
 congr 1
 unfold L2.Ya;have:∀(l:List (Array Nat))(acc:Array Nat),(l.foldl (· ++ ·) acc).toList=acc.toList++(l.map (·.toList)).flatten:=by
  intro l
  induction l with
  |nil=>intro acc;simp
  |cons a r ih=>intro acc;rw[ycH,ih];simp
 rw[this];simp only[List.map_replicate]
 induction k with
 |zero=>rfl
 |succ k ih=>simp[yaz]at ih ⊢
section
variable {P:Program}{w:World}{K:Frag}{mg:Str->Option Value}{M:Heap}{f:Addr}{fd:FuncData}{tk:Nat->Tok}{c kr:Nat->Addr}
def wd:Sp:=λvs H Q _=>∃a b:Int,vs=[.int a,.int b]/\b≠0/\b.natAbs<2^2000/\Q (.int (aF.l9 a b)) H
theorem we(h:b.natAbs<n):(if b<0 then-b else b).natAbs<n:=by split<;>lia
theorem PZ(h:b≠0):0<(if b<0 then-b else b):=by split<;>lia
theorem VY(F:aA K "quotient_cut" "quotient_cut" Xq f fd)(O:Own mg):ag P w K mg M (ao P w) 1 f fd ["number","by"] wd:=by
 refine qx F X8 (λvs H Q E h=>?_) (λad A L s H vs Q E hr h=>?_)
 .obtain⟨a,b,rfl,_⟩:=h;rfl
 .obtain⟨a,b,rfl,h1,h2,k⟩:=h;refine⟨_,(Qg (Qu (i:=2) X8.nd Z (Or.inl Z) (QJ YN (ae.mk (Qq ZU Z O.abs ydC (Qv (pv 0) Qb))) (ae.mk (Qq ZU Z O.abs ydC (Qv (pv 1) Qb)))) Z Z)
   (Qr (QE (Zn (Ql Xd (J0 K9 (pv 0) Qi (Qn _)) (J0 K9 (pv 1) Qi (Qn _)) (Qn _)) (ae.mk (KK Z0 (pv 2))) (ae.mk (pv 2)))))),?_⟩
  exists _,Z,a,Z,_,Z,b,Z,_,_,Z,Z,⟨PZ h1,we h2⟩;exists _,Z,_,_,Z,Z,_,Z,_,_,Z,Z,Z,_,Z;refine aG (λz=>?_) (λz=>?_)
  .exists _,Z,_,Z;have e:aF.l9 a b= -(aF.Kp a/aF.Kp b):=by unfold aF.l9;rw[yaf (by rw[<-Iq];exact z)]
   rw[e]at k;exact k
  .exists _,Z;have e:aF.l9 a b=aF.Kp a/aF.Kp b:=by unfold aF.l9;rw[yac (by rw[<-Iq];exact λq=>Bool.noConfusion (z.symm.trans q))]
   rw[e]at k;exact k
structure oq(K:Frag)(H:Hp)(a:Addr)(u o:Int):Prop where
 sq:aj K H a [.int u,.int o]
 bd:u.natAbs<2^200
 lo:0<=o
 hi:o<=18
theorem oq.same{u o:Int}(A:oq K H a u o)(e:Qs H H'):oq K H' a u o:=⟨A.sq.same e,A.bd,A.lo,A.hi⟩
def FQ(K:Frag):Sp:=λvs H Q _=>∃(a:Addr)(u o p:Int),vs=[.ref a,.int p]/\oq K H a u o/\0<=p/\p<=18/\∀q,H q=none->Q (.ref q) (upd H q (.tup [.int (aF.zS u o p),.int p]))
theorem P0(F:aA K "cut" "cut" FG f fd)(O:Own mg)(gA:Def P w K mg M 1 "ten_to" ["many"] zW)(ml:Def P w K mg M 1 "quotient_cut" ["number","by"] wd):ag P w K mg M (ao P w) 2 f fd ["amount","places"] (FQ K):=by
 refine qx F kJ (λvs H Q E h=>?_) (λad A L s H vs Q E hr h=>?_)
 .obtain⟨a,u,o,p,rfl,_⟩:=h;rfl
 .obtain⟨a,u,o,p,rfl,qMa,h1,h2,k⟩:=h;have b1:=qMa.lo;have b2:=qMa.hi;refine⟨_,(Qg (aO.mk (Jk (pv 0) (Q5 Z (Qf (Z' 2 kJ.nd) (Qf (Z' 3 kJ.nd) QD)))))
   (Qr (QE (JC (QF (ae.mk (ml.pq hr Qy (Qv (QI YM (pv 2) (gA.pq hr Qy (Qv (QI Zr (pv 1) (pv 3)) Qb))) (Qv (gA.pq hr Qy (Qv (QI Zr (pv 3) (pv 1)) Qb)) Qb)))) (QF (ae.mk (pv 1)) QO Z) Z))))),?_⟩
  exists _,Z,a,_,Z,qMa.sq,Z,_,_,Z,_,_,Z,Z;refine⟨_,Z,_,Z,_,Z,_,_,Z,Z,_,Z,by lia,by lia,_,_,Z,Z,⟨big qMa.bd,big (VO (by lia))⟩,?_⟩;refine⟨_,Z,_,Z,_,_,Z,Z,_,Z,by lia,by lia,?_⟩;refine⟨_,_,Z,ybP (aF.Ze _),big (VO (by lia)),?_⟩;exact⟨_,Z,by show 2<=sizeLine;lia,k⟩
def yk(K:Frag):Sp:=λvs H Q _=>∃(p:Addr)(u o:Int)(a b:Nat),vs=[.ref p,.int (a:Nat),.int (b:Nat)]/\oq K H p u o/\a+b<=18/\∀H',Qs H H'->Q (.int (fit u o a b)) H'
theorem wf(F:aA K "fitted" "fitted" YW f fd)(O:Own mg)(gA:Def P w K mg M 1 "ten_to" ["many"] zW)(r9:Def P w K mg M 2 "cut" ["amount","places"] (FQ K)):ag P w K mg M (ao P w) 3 f fd ["amount","before","behind"] (yk K):=by
 refine qx F VD (λvs H Q E h=>?_) (λad A L s H vs Q E hr h=>?_)
 .obtain⟨p,u,o,a,b,rfl,_⟩:=h;rfl
 .obtain⟨p,u,o,a,b,rfl,qMa,Pi,k⟩:=h;refine⟨_,(Qg (Qu (i:=3) VD.nd Z (Or.inl Z) (ae.mk (QS Jl (r9.pq hr Qy (Qv (pv 0) (Qv (pv 2) Qb))) Qi (λ_ _=>rfl))) Z Z)
   (Qg (Qu (i:=4) VD.nd Z (Or.inl Z) (QJ Vp (ae.mk (Qq ZU Z O.abs ydC (Qv (pv 3) Qb))) (ae.mk (gA.pq hr Qy (Qv (QI JK (pv 1) (pv 2)) Qb)))) Z Z)
   (Qr (QE (Zn (Ql K9 (pv 3) Qi (Qn _)) (ae.mk (KK Z0 (pv 4))) (ae.mk (pv 4))))))),?_⟩
  refine⟨_,Z,_,Z,p,u,o,(b:Int),Z,qMa,by lia,by lia,λq hq=>⟨q,_,_,_,Z,Z,aj.of Qd,Z,?_⟩⟩;have S1:=Qs.new (o:=.tup [.int (aF.zS u o b),.int (b:Int)]) hq;exists _,Z,_,Z,_,Z,_,Z,_,_,Z,Z,(a:Int)+b,Z,by lia,by lia,_,_,Z,Z,aF.Ze _;exists _,Z,_,_,Z,Z,_,Z;have k:=k _ S1;refine aG (λz=>?_) (λz=>?_)
  .exists _,Z,_,Z;have e:fit u o a b= -(aF.Kp (aF.zS u o b) % aF.aT ((a:Int)+b)):=by unfold fit;rw[yaf (yap z)]
   rw[e]at k;exact k
  .exists _,Z;have e:fit u o a b=aF.Kp (aF.zS u o b) % aF.aT ((a:Int)+b):=by unfold fit;rw[yac (yau z)]
   rw[e]at k;exact k
def qe:Sp:=λvs H Q _=>∃n:Nat,vs=[.int n]/\n<10^18/\∀H',Qs H H'->Q (.str (tx (dec n))) H'
theorem Ub(F:aA K "figures_of" "figures_of" X7 f fd)(O:Own mg)(T:Txt K mg tk c kr)(gA:Def P w K mg M 1 "ten_to" ["many"] zW):ag P w K mg M (ao P w) 2 f fd ["number"] qe:=by
 refine okN F Zv (λvs H Q E h=>?_) (λad A L s H vs Q E hr h=>?_)
 .obtain⟨n,rfl,_⟩:=h;rfl
 .obtain⟨n,rfl,hn,k⟩:=h;refine⟨_,(Qj (QN (i:=1) Zv.nd Z (Or.inl Z) (gA.pq hr Qy (Qa (QC (v:=V.int 18) Z T.nt ⟨_,Z⟩) Qb)))
   (Qj (QN (i:=2) Zv.nd Z (Or.inl Z) (ZR Qb))
   (Qj (W7 yaG (Ql zw (pv 0) (pv 1) (Qn _)) (Qj (Jk (Qq qC Z O.divmod boot_divmod (Qa (pv 0) (Qa (pv 1) Qb))) (Q5 Z (Qf (Z' 0 Zv.nd) (Qf (Z' 3 Zv.nd) QD))))
   (Qp (XW (Zd yaV yaP yaQ ZG (pv 2) (Qa (Zd yaA ydG ydH Vd (Jh Zm Z O.str yen (Qa (pv 3) Qb)) (Qa (QC (v:=V.int 18) Z T.nt ⟨_,Z⟩) Qb)) Qb))))))
   (Qj (XW (Zd yaV yaP yaQ ZG (pv 2) (Qa (Jh Zm Z O.str yen (Qa (pv 0) Qb)) Qb)))
   (Qp (QG (zM Z Z O.reversed Qc (pv 2)))))))),?_⟩
  refine⟨18,Z,by lia,by lia,by show 0<=sizeLine;lia,λp hp=>?_⟩;have S1:=Qs.new (o:=.lst []) hp;exists λm σ H2=>σ=[some (.int (n:Int)),some (.int (aF.aT 18)),some (.ref p),none]/\H2=upd H p (.lst []),⟨0,Z,Z⟩;rintro m σ H2 ⟨rfl,rfl⟩;exists _,Z,_,Z,_,_,Z,Z,_,Z;have Tk:aF.aT 18=10^18:=by lia
  refine aG (λq=>absurd (yap q) (by rw[Tk];lia)) (λ_=>?_);have FT:(n:Int).natAbs.log2<1920:=by
   rw[yaR]
   by_cases h0:n=0
   .rw[h0];lia
   .exact(ydp h0).mpr (yaD hn (by lia))
  refine⟨_,Z,.inl ⟨Z,_,.inl (.inl Qd)⟩,_,Z,(n:Int),Z,FT,p,[],_,Z,Z,Qd,by show 0<sizeLine;lia,?_⟩;rw[bj.XZ];have S2:Qs H (upd (upd H p (.lst [])) p (.lst ([]++[.str (tx (dec n))]))):=λb o e=>by
   have hb:=Qz e hp;rw[Qx hb,Qx hb];exact e
  have mo:=qT (n:=n) (yaD hn (by lia));exists "",Z,_,Z,p,[tx (dec n)],Z,Qd,?_
  .have FU:=Qh (dec n);show(!Builtin.Str.tooLong (0+(tx (dec n)).length+("":Str).length))=true;rw[FU];have he:("":Str).length=0:=by rfl'
   rw[he];unfold Builtin.Str.tooLong;have hz:=zza
   rw[lx (by lia)];rfl
  .have ej:Txt.join "" [tx (dec n)].reverse=tx (dec n):=by
    show Builtin.Str.glued _ _=_;rw[ycY];rfl
   rw[ej];exact k _ S2
theorem Xa(h0:0<=i)(h1:i<=1000):PadOk i=true:=by
 obtain⟨n,rfl⟩:=ybs h0;have:n<=1000:=by lia
 have key:∀m:Nat,m<=1000->PadOk ((m:Nat):Int)=true:=by
  intro m hm;unfold PadOk fitsSsize;have e1:Builtin.Str.tooLong ((m:Nat):Int).toNat=false:=by
   unfold Builtin.Str.tooLong;have hz:=zza
   rw[lZ];exact lx (by lia)
  rw[e1];simp;lia
 exact key n this
def WK(K:Frag)(c:Nat->Addr):Sp:=λvs H Q E=>∃(l:List Nat)(k:Nat),vs=[.str (kindS k),.str (tx l)]/\l.length<=500/\k<=3/\((∀x,Q9 l=some x->x.kind<=3/\x.kind≠k)->∀H',Qs H H'->E (.ref (c 2)) none H')/\
 (∀x,Q9 l=some x->x.kind=k->∀q p rs r H',Qs H H'->H' q=some (.tup [.ref p,.ref r])->H' r=some (.tup [.bl x.signed,.int (x.before:Nat),.int (x.behind:Nat)])->ak K H' p rs (rowsOf l)->Q (.ref q) H')
theorem JZ:∀a≤3,∀b≤3,decide (V.str (kindS a)=V.str (kindS b))=decide (a=b):=by rfl'
theorem yl{ld pl:List Nat}{many bi:Nat}(h:Kd ld pl many bi o tl=some x):x.kind<=3:=by
 unfold Kd at h
 split at h
 .dsimp only at h
  repeat' (split at h)
  all_goals first
   |(cases h;done)
   |(have:=lB h;rw[<-this];exact lA _)
 .cases h
theorem P4{rows:List Rw}(h:JE rows=some x):x.kind<=3:=by
 have e:JE rows=Kd (Z5 rows).1 (Ji (Z5 rows).2).1 (Ji (Z5 rows).2).2.1 (Ji (Z5 rows).2).2.2.1 (Jz (Ji (Z5 rows).2).2.2.2 (if(Ji (Z5 rows).2).2.2.1=0 then(Ji (Z5 rows).2).1 else[57])).1
  (KG (Jz (Ji (Z5 rows).2).2.2.2 (if(Ji (Z5 rows).2).2.2.1=0 then(Ji (Z5 rows).2).1 else[57])).2):=rfl
 rw[e]at h;exact yl h
theorem j0(h:Q9 l=some x):x.kind<=3:=by
 unfold Q9 J5 at h;cases e1:Q8 (rowsOf l)with
 |some y=>
  rw[e1]at h;have e:y=x:=lB h;subst e;unfold Q8 at e1
  split at e1
  .split at e1
   .split at e1
    .cases e1
    .cases e1;exact(show(2:Nat)<=3 by lia)
   .cases e1
  .cases e1
 |none=>
  rw[e1]at h;cases e2:JL (rowsOf l)with
  |some y=>
   rw[e2]at h;have e:y=x:=lB h;subst e;unfold JL at e2
   split at e2
   .split at e2
    .cases e2
    .cases e2;show(if _ then 0 else 1)<=3;split<;>lia
   .cases e2
  |none=>
   rw[e2]at h;exact P4 h
theorem W4(F:aA K "understood_as" "understood_as" Zw f fd)(T:Txt K mg tk c kr)(mh:Def P w K mg M 4 "rows_of" ["thing"] (jS K))(gP:Def P w K mg M 5 "facts_of" ["rows"] (ZB K J5)):
  ag P w K mg M (ao P w) 6 f fd ["kind","picture"] (WK K c):=by
 refine DQ F ZO (λvs H Q E h=>?_) (λad A L s H vs Q E hr h=>?_)
 .obtain⟨l,k,rfl,_⟩:=h;rfl
 .obtain⟨l,kd,rfl,hl,Ci,k1,k2⟩:=h;have hz:=zza
  have fr:=Zy (P:=P) (w:=w) (K:=K) (mg:=mg) (M:=M) (N:=["kind","picture","rows","facts"]) (qual:="understood_as") (scope:=Qe Zw) (f:=f) (cd:=ad) (A:=A) (L:=L) (s:=s) (H:=H) (E:=E);have ht:=Zg fr;have hx:=Jb fr;refine⟨_,(Qg (Qu (i:=2) ZO.nd Z (Or.inl Z) (ae.mk (mh.pq hr hx (Qv (pv 1) Qb))) Z Z)
   (Qg (Qu (i:=3) ZO.nd Z (Or.inl Z) (ae.mk (gP.pq hr hx (Qv (pv 2) Qb))) Z Z)
   (Qg (Q1 (PW.pt (Xn (Xf (Ky (pv 3))) (Zq (Ql Xd (QS Jl (pv 3) Qi (λ_ _=>rfl)) (pv 0) (Qn _))))) (Qr (aO.mk (ZD ht Z Z T.pk T.pP (Qv Qc Qb)))) QT)
   (Qr (QE (JC (QF (ae.mk (pv 2)) (QF (ae.mk (QZ MJ (pv 3) (Q2 Qi) Ju)) QO Z) Z))))))),?_⟩
  refine⟨_,Z,_,rowsOf l,Z,.inl ⟨l,Z,hl,Z⟩,λp rs H1 S1 R1=>⟨_,Z,p,rs,rowsOf l,Z,R1,λv2 H2 S2 f2=>?_⟩⟩;exists _,Z,_,Z;rw[f2.Cf];have Fk:Q9 l=J5 (rowsOf l):=rfl;cases e:J5 (rowsOf l)with
  |none=>exact Q4 (Q4 ⟨bN,k1 (λx h=>by rw[Fk,e]at h;cases h) _ (S1.trans S2)⟩)
  |some x=>
   rw[e]at f2 Fk;have FW:=j0 Fk;obtain⟨r,rfl,g⟩:=f2;refine QW ⟨_,Z,r,_,_,_,Z,Z,aj.of g,Z,_,Z,Z,_,Z,?_⟩;rw[JZ _ FW _ Ci]
   by_cases DU:x.kind=kd
   .rw[ly DU];refine QW ⟨_,Z,_,Z,_,Z,r,_,Z,aj.of g,(λz=>absurd (show HT.aI 4 0 (some 1)=0 from z.1) (by lia)),λq5 Ce=>?_⟩;have S5:=Qs.new (o:=.tup [.bl x.signed,.int (x.before:Nat),.int (x.behind:Nat)]) Ce;have g5:upd H2 q5 (.tup [.bl x.signed,.int (x.before:Nat),.int (x.behind:Nat)]) q5=some (.tup [.bl x.signed,.int (x.before:Nat),.int (x.behind:Nat)]):=Qd;refine⟨bA,λq6 FN=>?_⟩;have S6:=Qs.new (o:=.tup [.ref p,.ref q5]) FN;exact k2 x Fk DU q6 p rs q5 _ (((S1.trans S2).trans S5).trans S6) Qd (S6 _ _ g5) (((R1.same S2).same S5).same S6)
   .rw[lx DU];exact Q4 ⟨bN,k1 (λy h=>by rw[Fk]at h;cases h;exact⟨FW,DU⟩) _ (S1.trans S2)⟩
theorem YA{rs:List Addr}{rows:List Rw}{tt:TT}(val:Rw->V)(ok:Rw->Bool)(dt:NB.length=3)(hn:n=2)(hσ:σ[i]? =some (some (.ref p)))(R:ak K H p rs rows)
  (ot:∀x∈rows,∀(H1:Hp)(R:Bool->Hp->Prop),R (ok x) H1->tt [none,some (.str (tx [x.1])),some (.int (x.2:Nat))] H1 R)
  (fe:∀x∈rows,∀(H1:Hp)(Q:VK),(∀H2,Qs H1 H2->Q (val x) H2)->te [none,some (.str (tx [x.1])),some (.int (x.2:Nat))] H1 Q)
  (hd:∀q H1,Qs H H1->H1 q=none->Q (.ref q) (upd H1 q (.lst ((rows.filter ok).map val)))):
  Yd NB (w8 K (ZN i)) (Aj K n (YG (JI 1) (YG (JI 2) A0))) tt te σ H Q:=by
 have hz:=zza
 have hl:=R.le;have hlen:=R.len;exists _,hσ,p,Z,⟨_,R.sq⟩;refine VR (xs:=rs.map V.ref) (λi vs H2=>Qs H H2/\vs=((rows.take i).filter ok).map val) ⟨Qs.refl H,Z⟩ ?_ ?_ ?_ (by lia)
 .rintro i vs H2 hi ⟨S,rfl⟩;exact⟨(R.same S).sq,by rw[lu];exact yas (yaL _ _) (by rw[lI];lia)⟩
 .rintro i x vs H2 hx ⟨S,rfl⟩;rw[lK]at hx;obtain⟨r,hr,rfl⟩:=yaS.mp hx;obtain⟨y,hy,g⟩:=(R.same S).rw.at' hr;subst hn;rw[dt];have hm:=lM hy;have ss:(rows.take (i+1)).filter ok=(rows.take i).filter ok++if ok y=true then[y]else[]:=by
   rw[yaE,hy,ybl]
   congr 1
   show List.filter ok [y]=_;rw[yaF];rfl
  exists r,_,Z,aj.of g,Z,_,_,Z,_,_,Z,Z;refine ot y hm _ _ ?_;rw[ss];cases ok y with
  |true=>exact Q4 (fe y hm _ _ λH3 S3=>⟨S.trans S3,by simp⟩)
  |false=>exact QW ⟨S,by simp⟩
 .rintro vs H2 ⟨S,rfl⟩ q hq;rw[yaq (by lia)];exact hd q H2 S hq
def FX(K:Frag):Sp:=λvs H Q _=>∃(p:Addr)(rs:List Addr)(rows:List Rw),vs=[.ref p]/\ak K H p rs rows/\Pos 100 rows/\(un rows).length<=1000/\∀H',Qs H H'->Q (.str (tx (un rows))) H'
theorem ym(rows:List Rw):rows.filter (λ_=>true)=rows:=by simp
theorem Yj(F:aA K "written_out" "written_out" XJ f fd)(O:Own mg):ag P w K mg M (ao P w) 1 f fd ["rows"] (FX K):=by
 refine qx F Yf (λvs H Q E h=>?_) (λad A L s H vs Q E hr h=>?_)
 .obtain⟨p,rs,rows,rfl,_⟩:=h;rfl
 .obtain⟨p,rs,rows,rfl,R,hp,hl,k⟩:=h;have hz:=zza
  refine⟨_,(Qr (QE (ZH (QF (ae.mk (Zt (NB:=[".0","symbol","many"]) Z ⟨Z,by rfl',by rfl',by rfl'⟩ (KJ (pv 0)) (λ_ _ _=>(K5 (K0:=K) (n:=2) Z Z (Qf (Qk (i:=1) (show([".0","symbol","many"]:List Str).Nodup by rfl') Z (Or.inl Z) (Or.inr Z)) (Qf (Qk (i:=2) (show([".0","symbol","many"]:List Str).Nodup by rfl') Z (Or.inl Z) (Or.inr Z)) QD)))) (λ_ _ _=>XG) (λ_ _ _=>(QI QB (pv 1) (pv 2))))) QO Z) Z Z))),?_⟩;exists Z;refine YA (p:=p) (rs:=rs) (rows:=rows) (λx=>.str (tx (replicate x.2 x.1))) (λ_=>true) rfl rfl rfl R (λx hx H1 R h=>h) (λx hx H1 Q h=>?_) (λq H1 S hq=>?_)
  .obtain⟨h1,h2,h3⟩:=hp x hx;refine⟨_,Z,_,Z,tx [x.1],(x.2:Int),Z,Z,by lia,by rw[Qh,lZ,lC];lia,by lia,?_⟩;rw[lZ,Zi];exact h _ (Qs.refl _)
  .rw[ym];have em:(rows.map λx=>V.str (tx (replicate x.2 x.1)))=((rows.map λx=>replicate x.2 x.1).map tx).map V.str:=by rw[lT,lT];rfl
   have ef:(rows.map λx=>replicate x.2 x.1).flatten=un rows:=by rw[un,List.flatMap_def]
   rw[em];refine⟨"",q,_,Z,Z,az.of Qd,yj (by rw[ef];exact hl),?_⟩;rw[yi,ef];exact k _ (S.trans (Qs.new hq))
structure cf(a l:List Nat)(x:Facts):Prop where
 pc:Q9 l=some x
 sh:Sh a l
 no:40∉a
 la:a.length<=100
 ll:l.length<=500
def wg(c:Nat->Addr):Sp:=λvs H Q E=>∃(l:List Nat)(x:Facts),vs=[.str (tx l)]/\Q9 l=some x/\l.length<=500/\(x.kind<=1->∀H',Qs H H'->E (.ref (c 2)) none H')/\(2<=x.kind->x.kind<=3->∀q H',Qs H H'->H q=none->H' q=some (.tup [.bl x.signed,.int (x.before:Nat),.int (x.behind:Nat)])->Q (.ref q) H')
theorem J6(S:Qs H H')(h:H' q=none):H q=none:=by
 cases e:H q with
 |none=>rfl
 |some o=>rw[S _ _ e]at h;cases h
theorem P5(F:aA K "room" "room" jQ f fd)(T:Txt K mg tk c kr)(gv:Def P w K mg M 6 "understood" ["picture"] (VU K c)):ag P w K mg M (ao P w) 7 f fd ["picture"] (wg c):=by
 refine DQ F KR (λvs H Q E h=>?_) (λad A L s H vs Q E hr h=>?_)
 .obtain⟨l,x,rfl,_⟩:=h;rfl
 .obtain⟨l,x,rfl,hp,hl,k1,k2⟩:=h;have hz:=zza
  have fr:=Zy (P:=P) (w:=w) (K:=K) (mg:=mg) (M:=M) (N:=["picture","rows","facts","kind","signed","before","behind"]) (qual:="room") (scope:=Qe jQ) (f:=f) (cd:=ad) (A:=A) (L:=L) (s:=s) (H:=H) (E:=E);have ht:=Zg fr;have hx:=Jb fr;refine⟨_,(Qg (aO.mk (Jk (gv.pq hr hx (Qv (pv 0) Qb)) (Q5 Z (Qf (Z' 1 KR.nd) (Qf (Z' 2 KR.nd) QD)))))
   (Qg (aO.mk (Jk (pv 2) (Q5 Z (Qf (Z' 3 KR.nd) (Qf (Z' 4 KR.nd) (Qf (Z' 5 KR.nd) (Qf (Z' 6 KR.nd) QD)))))))
   (Qg (Q1 (PW.pt (Xn (Ql Ja (pv 3) Qc (Qn _)) (Zq (Ql Ja (pv 3) Qc (Qn _))))) (Qr (aO.mk (ZD ht Z Z T.pk T.pP (Qv Qc Qb)))) QT)
   (Qr (QE (JC (QF (ae.mk (pv 4)) (QF (ae.mk (pv 5)) (QF (ae.mk (pv 6)) QO Z) Z) Z))))))),?_⟩
  refine⟨_,Z,l,Z,hl,(λz=>by rw[hp]at z;cases z),λx2 e q p rs r H1 S1 g1 g2 R1=>?_⟩;obtain rfl:x=x2:=by rw[hp]at e;exact lB e
  exists q,_,Z,aj.of g1,Z,_,_,Z,_,_,Z,Z;exists _,Z,r,_,Z,aj.of g2,Z,_,_,Z,_,_,Z,_,_,Z,_,_,Z,Z;have Ci:x.kind<=3:=j0 hp;exists _,Z,Z,_,Z;rw[show V.str "text"=V.str (kindS 0)from rfl,JZ _ Ci 0 (by lia)]
  by_cases h0:x.kind=0
  .rw[ly h0];exact Q4 (Q4 ⟨bN,k1 (by lia) _ S1⟩)
  .rw[lx h0];refine QW ⟨_,Z,Z,_,Z,?_⟩;rw[show V.str "letters"=V.str (kindS 1)from rfl,JZ _ Ci 1 (by lia)]
   by_cases h1:x.kind=1
   .rw[ly h1];exact Q4 ⟨bN,k1 (by lia) _ S1⟩
   .rw[lx h1];refine QW ⟨_,Z,_,Z,_,Z,Ax,λq2 EQ=>?_⟩;exact k2 (by lia) Ci q2 _ (S1.trans (Qs.new EQ)) (J6 S1 EQ) Qd
def wj:Sp:=λvs H Q _=>∃(a l:List Nat)(x:Facts),vs=[.str (tx l)]/\cf a l x/\∀H',Qs H H'->Q (.int ((a.filter jd).length:Nat)) H'
theorem xc(F:aA K "size_of" "size_of" Wl f fd)(O:Own mg)(gv:Def P w K mg M 6 "understood" ["picture"] (VU K c)):ag P w K mg M (ao P w) 7 f fd ["picture"] wj:=by
 refine DQ F WE (λvs H Q E h=>?_) (λad A L s H vs Q E hr h=>?_)
 .obtain⟨a,l,x,rfl,_⟩:=h;rfl
 .obtain⟨a,l,x,rfl,hp,k⟩:=h;have fr:=Zy (P:=P) (w:=w) (K:=K) (mg:=mg) (M:=M) (N:=["picture","rows","facts"]) (qual:="size_of") (scope:=Qe Wl) (f:=f) (cd:=ad) (A:=A) (L:=L) (s:=s) (H:=H) (E:=E);have hx:=Jb fr;have hla:=hp.la;have FL:("S":Str)=tx [83]:=by rfl'
  have P6:("V":Str)=tx [86]:=by rfl'
  refine⟨_,(Qg (aO.mk (Jk (gv.pq hr hx (Qv (pv 0) Qb)) (Q5 Z (Qf (Z' 1 WE.nd) (Qf (Z' 2 WE.nd) QD)))))
   (Qr (QE (ae.mk (Qq (jM Z) Z O.sum L2.boot_sum (Qv (Zt (NB:=[".0","symbol","many"]) Z ⟨Z,by rfl',by rfl',by rfl'⟩ (KJ (pv 1)) (λ_ _ _=>(K5 (K0:=K) (n:=2) Z Z (Qf (Qk (i:=1) (show([".0","symbol","many"]:List Str).Nodup by rfl') Z (Or.inl Z) (Or.inr Z)) (Qf (Qk (i:=2) (show([".0","symbol","many"]:List Str).Nodup by rfl') Z (Or.inl Z) (Or.inr Z)) QD)))) (λ_ _ _=>(X1 (PW.pt (Jn (Ql Xd (pv 1) Qc (Qn _)) (Jd (Ql Xd (pv 1) Qc (Qn _))))))) (λ_ _ _=>(pv 2))) Qb)))))),?_⟩
  refine⟨_,Z,l,Z,hp.ll,(λz=>by rw[hp.pc]at z;cases z),λx2 e q p rs r H1 S1 g1 g2 R1=>?_⟩;exists q,_,Z,aj.of g1,Z,_,_,Z,_,_,Z,Z;dsimp only[AX,oS,Jy,Ww];refine YA (p:=p) (rs:=rs) (rows:=rowsOf l) (λx=>.int (x.2:Nat)) (λx=>jd x.1) rfl rfl rfl R1 (λx hx H1 R h=>?_) (λx hx H1 Q h=>⟨_,Z,h _ (Qs.refl _)⟩) (λq H2 S hq=>?_)
  .have hd:jd x.1=(!decide (x.1=83)&& !decide (x.1=86)):=by
    unfold jd
    by_cases z1:x.1=83<;>by_cases z2:x.1=86<;>simp[z1,z2]
   rw[hd]at h;exists _,Z,Z,_,Z;rw[FL,Jv];cases h1:decide (x.1=83)with
   |true=>rw[h1]at h;exact QW h
   |false=>
    rw[h1]at h;refine Q4 ⟨_,Z,Z,_,Z,?_⟩;rw[P6,Jv];exact h
  .have em:(((rowsOf l).filter λx=>jd x.1).map λx=>V.int (x.2:Nat))=(((rowsOf l).filter λx=>jd x.1).map λx=>((x.2:Nat):Int)).map V.int:=by rw[lT];rfl
   have es:∀rows:List Rw,(rows.map λx=>((x.2:Nat):Int)).sum=(((rows.map (·.2)).sum:Nat):Int):=by
    intro rows
    induction rows with
    |nil=>rfl
    |cons y r ih=>rw[lU,ydQ,ih,lU,ydQ];push_cast;rfl
   rw[em];exists q,_,Z,az.of Qd;rw[es];have:=yf a;rw[<-U8 hp.sh]at this;unfold cA at this;rw[this];exact k _ (S1.trans (S.trans (Qs.new hq)))
end
end Lw
namespace aJ
open bj aQ PySem.NumText
noncomputable def bC(c:Nat):Option Nat:=if c=44 then some 44 else if c=66 then some 32 else if c=48 then some 48 else if c=47 then some 47 else if c=46 then some 46 else none
noncomputable def aM(b:Bool)(c:Nat):Nat:=if c=36 then 36 else if c=43 then(if b then 45 else 43)else if c=45 then(if b then 45 else 32)else if b then c else 32
noncomputable def aR:List Nat->List Nat->List Nat
 |[],_=>[]
 |c::r,fs=>match bC c with
  |some d=>d::aR r fs
  |none=>fs.headD 48::aR r fs.tail
noncomputable def aS:List Nat->List Nat->Nat
 |[],_=>0
 |c::r,s=>if c=57\/(ins c=false/\s.headD 0≠48)then 0 else aS r s.tail+1
noncomputable def place(c:Nat):Bool:=(bC c).isNone
noncomputable def many(l:List Nat):Nat:=(l.filter place).length
noncomputable def W5(body:List Nat)(u:Nat)(b:Bool):List Nat:=
 if au (body.headD 0)=true then replicate (aS body (aR body (pad u (many body)))-1) 32++[aM b (body.headD 0)]++(aR body (pad u (many body))).drop (aS body (aR body (pad u (many body))))
 else replicate (aS body (aR body (pad u (many body)))) (if body.headD 0=42 then 42 else 32)++(aR body (pad u (many body))).drop (aS body (aR body (pad u (many body))))
noncomputable def Kh(l:List Nat):List Nat:=if 42∈l then l.map (λc=>if c=46 then 46 else 42)else replicate l.length 32
noncomputable def bO(Y body tail:List Nat)(f:Int):List Nat:=
 if f=0/\57∉body/\au (body.headD 0)=false then Kh (Y++body++tail)
 else Y.map (aM (decide (f<0)))++W5 body f.natAbs (decide (f<0))++tail.map (aM (decide (f<0)))
noncomputable def ou(c:Nat):Nat:=if c=66 then 32 else c
noncomputable def lr(fl:Bool):Bool->List Nat->List Nat->List Nat
 |_,[],_=>[]
 |a,c::r,fs=>if ins c=true then ou c::lr fl false r fs else if(fl&&a)=true then 32::lr fl false r fs else fs.headD 48::lr fl false r fs.tail
noncomputable def ls(fl:Bool):Bool->List Nat->List Nat->Option Nat
 |_,[],_=>none
 |a,c::r,fs=>if ins c=true then(ls fl false r fs).map (· +1)else if(fl&&a)=true then(ls fl false r fs).map (· +1)else if c=57\/fs.headD 48≠48 then some 0 else(ls fl false r fs.tail).map (· +1)
def sE(c:Nat):Prop:=c∈([57,90,42,43,45,36]:List Nat)
theorem Xb(h:sE c):bC c=none/\ins c=false/\c≠46:=by
 have:∀c∈([57,90,42,43,45,36]:List Nat),bC c=none/\ins c=false/\c≠46:=by lia
 exact this c h
theorem WL(h:ins c=true):bC c=some (ou c)/\c≠57:=by
 have:∀c∈([44,66,48,47]:List Nat),bC c=some (ou c)/\c≠57:=by lia
 exact this c (yai.mp h)
def Wh(l:List Nat):Prop:=∀c∈l,sE c\/ins c=true
theorem wl(fl:Bool):∀(l:List Nat)(a:Bool)(fs:List Nat),(lr fl a l fs).length=l.length:=by
 intro l
 induction l with
 |nil=>intro a fs;rfl
 |cons c r ih=>
  intro a fs;unfold lr
  split
  .rw[lD,lD,ih]
  .split<;>rw[lD,lD,ih]
theorem ZY(a b:List Nat):many (a++b)=many a+many b:=by simp[many]
theorem JO(c:Nat)(r:List Nat):many (c::r)=(if bC c=none then 1 else 0)+many r:=by
 unfold many place;rw[yaF];cases bC c<;>simp<;>lia
theorem Xm{r fs:List Nat}(h:bC c=none):aR (c::r) fs=fs.headD 48::aR r fs.tail:=by rw[aR,h]
theorem Kt{r fs:List Nat}(h:bC c=some d):aR (c::r) fs=d::aR r fs:=by rw[aR,h]
theorem VZ{r fs:List Nat}(h:ins c=true):lr fl a (c::r) fs=ou c::lr fl false r fs:=by rw[lr,yaf h]
theorem jf{r fs:List Nat}(h:ins c=false)(ha:(fl&&a)=false):lr fl a (c::r) fs=fs.headD 48::lr fl false r fs.tail:=by rw[lr,yac (by rw[h];lia),yac (by rw[ha];lia)]
theorem Lc{r fs:List Nat}(h:ins c=false)(ha:(fl&&a)=true):lr fl a (c::r) fs=32::lr fl false r fs:=by rw[lr,yac (by rw[h];lia),yaf ha]
theorem YB{r fs:List Nat}(h:ins c=true):ls fl a (c::r) fs=(ls fl false r fs).map (· +1):=by rw[ls,yaf h]
theorem jg{r fs:List Nat}(h:ins c=false)(ha:(fl&&a)=false):ls fl a (c::r) fs=if c=57\/fs.headD 48≠48 then some 0 else(ls fl false r fs.tail).map (· +1):=by rw[ls,yac (by rw[h];lia),yac (by rw[ha];lia)]
theorem FY{r fs:List Nat}(h:ins c=false)(ha:(fl&&a)=true):ls fl a (c::r) fs=(ls fl false r fs).map (· +1):=by rw[ls,yac (by rw[h];lia),yaf ha]
theorem Ld(fl:Bool)(R:List Nat):∀(l fs:List Nat),Wh l->aR (l++R) fs=lr fl false l fs++aR R (fs.drop (many l)):=by
 intro l
 induction l with
 |nil=>intro fs _;rfl
 |cons c r ih=>
  intro fs h;have hr:Wh r:=λx hx=>h x (lG _ hx);rcases h c lH with hp|hi
  .obtain⟨h1,h2,h3⟩:=Xb hp;show aR (c::(r++R)) fs=_;rw[JO,yaf h1,Xm h1,jf h2 (by simp),ih _ hr,lQ, <-ycV,List.drop_one]
  .obtain⟨h1,_⟩:=WL hi;show aR (c::(r++R)) fs=_;rw[JO,yac (by rw[h1];simp),ybd];rw[Kt h1,VZ hi,ih _ hr];rfl
def Le(R:List Nat):Prop:=R=[]\/∃t,R=46::t
theorem Lf(fl:Bool)(R:List Nat)(hR:Le R):∀(l fs T:List Nat),Wh l->(R=[]\/∃t,T=46::t)->aS (l++R) (lr fl false l fs++T)=(ls fl false l fs).getD l.length:=by
 intro l
 induction l with
 |nil=>
  intro fs T _ hT;rcases hR with rfl|⟨t,rfl⟩
  .rfl
  .rcases hT with hT|⟨t',rfl⟩
   .cases hT
   .show aS (46::t) (46::t')=0;unfold aS;rw[yaf (.inr ⟨by lia,by simp⟩)]
 |cons c r ih=>
  intro fs T h hT;have hr:Wh r:=λx hx=>h x (lG _ hx);have gm:∀(o:Option Nat),(o.map (· +1)).getD (r.length+1)=o.getD r.length+1:=λo=>by cases o<;>rfl
  rcases h c lH with hp|hi
  .obtain⟨h1,h2,h3⟩:=Xb hp;show aS (c::(r++R)) _=_;rw[jf h2 (by simp),jg h2 (by simp),lQ,aS]
   by_cases hs:c=57\/fs.headD 48≠48
   .rw[yaf hs,yaf (by rcases hs with q|q;exact .inl q;exact .inr ⟨h2,q⟩)];rfl
   .rw[yac hs,yac (by rintro(q|⟨_,q⟩);exact hs (.inl q);exact hs (.inr q)),lD,gm];show aS (r++R) (lr fl false r fs.tail++T)+1=_;rw[ih _ _ hr hT]
  .obtain⟨h1,h9⟩:=WL hi;show aS (c::(r++R)) _=_;rw[VZ hi,YB hi,lQ,lD,gm,aS];rw[yac (by rintro(q|⟨q,_⟩);exact h9 q;rw[hi]at q;cases q)];show aS (r++R) (lr fl false r fs++T)+1=_;rw[ih _ _ hr hT]
theorem P7:∀(l gs:List Nat),(∀c∈l,bC c=none)->l.length<=gs.length->aR l gs=gs.take l.length:=by
 intro l
 induction l with
 |nil=>intro gs _ _;simp[aR]
 |cons c r ih=>
  intro gs h hl;cases gs with
  |nil=>simp at hl
  |cons g gs=>
   rw[Xm (h c lH)];show g::aR r gs=_;rw[ih gs (λx hx=>h x (lG _ hx)) (by simpa using hl)];rfl
theorem j4(h:u<10^k)(hk:1<=k):pad u (k+1)=48::pad u k:=by
 have:=dec_lt h hk;unfold pad;rw[show k+1-(dec u).length=(k-(dec u).length)+1 by lia,yaz,lQ]
theorem j5(a b:Bool)(l fs:List Nat):lr false a l fs=lr false b l fs:=by
 cases l with
 |nil=>rfl
 |cons c r=>
  cases h:ins c with
  |true=>rw[VZ h,VZ h]
  |false=>rw[jf h (by simp),jf h (by simp)]
theorem yn(a b:Bool)(l fs:List Nat):ls false a l fs=ls false b l fs:=by
 cases l with
 |nil=>rfl
 |cons c r=>
  cases h:ins c with
  |true=>rw[YB h,YB h]
  |false=>rw[jg h (by simp),jg h (by simp)]
theorem wm(fs:List Nat)(n:Nat):(fs.take (n+1)).tail=fs.tail.take n:=by cases fs<;>simp
theorem wn(fs:List Nat)(n d:Nat):(fs.take (n+1)).headD d=fs.headD d:=by cases fs<;>simp
theorem jh(fl:Bool):∀(l fs:List Nat)(n:Nat),Wh l->many l<=n->lr fl false l (fs.take n)=lr fl false l fs/\ls fl false l (fs.take n)=ls fl false l fs:=by
 intro l
 induction l with
 |nil=>intro fs n _ _;exact⟨Z,Z⟩
 |cons c r ih=>
  intro fs n h hn;have hr:Wh r:=λx hx=>h x (lG _ hx);rcases h c lH with hp|hi
  .obtain⟨h1,h2,h3⟩:=Xb hp;rw[JO,yaf h1]at hn;obtain⟨m,rfl⟩:∃m,n=m+1:=⟨n-1,by lia⟩;obtain⟨i1,i2⟩:=ih fs.tail m hr (by lia);rw[jf h2 (by simp),jf h2 (by simp),jg h2 (by simp),jg h2 (by simp),wm,wn,i1,i2];exact⟨Z,Z⟩
  .obtain⟨h1,_⟩:=WL hi;rw[JO,yac (by rw[h1];simp),ybd]at hn;obtain⟨i1,i2⟩:=ih fs n hr hn;rw[VZ hi,VZ hi,YB hi,YB hi,i1,i2];exact⟨Z,Z⟩
theorem yo(fl:Bool):∀(l:List Nat)(a:Bool)(fs:List Nat),(ls fl a l fs).getD l.length<=l.length:=by
 have gm:∀(o:Option Nat)(n:Nat),(o.map (· +1)).getD (n+1)=o.getD n+1:=λo n=>by cases o<;>rfl
 intro l
 induction l with
 |nil=>intro a fs;exact lA _
 |cons c r ih=>
  intro a fs;rw[lD];unfold ls
  split
  .rw[gm];exact ybV (ih _ _)
  .split
   .rw[gm];exact ybV (ih _ _)
   .split
    .exact lX _
    .rw[gm];exact ybV (ih _ _)
theorem FZ:sE 57:=by unfold sE;lia
theorem j6(hs:sE s)(h:bK s m l):many l=l.count s:=by
 have key:∀l:List Nat,(∀x∈l,x=s\/ins x=true)->many l=l.count s:=by
  intro l
  induction l with
  |nil=>intro _;rfl
  |cons a r ih=>
   intro ha;have hr:=ih λx hx=>ha x (lG _ hx);rw[JO,yei,hr];rcases ha a lH with rfl|hi
   .rw[yaf (Xb hs).1];simp;lia
   .have ul:a≠s:=λz=>by rw[z,(Xb hs).2.1]at hi;cases hi
    rw[yac (by rw[(WL hi).1];simp)];have:(a==s)=false:=by simpa using ul
    rw[this];simp
 exact key l h.all
section
variable {first:Nat}{ac tail:List Nat}
theorem _root_.aQ.Ed.wh(E:Ed Y first W N ac tail):Wh (W++N):=λc hc=>by
 rcases yao.mp hc with h|h
 .rcases E.w.all c h with rfl|h
  .exact .inl E.f
  .exact .inr h
 .rcases E.n with hn|⟨_,hn⟩
  .rw[hn]at h;cases h
  .rcases hn.all c h with rfl|h
   .exact .inl FZ
   .exact .inr h
theorem _root_.aQ.Ed.many(E:Ed Y first W N ac tail):many (W++N)=W.count first+N.count 57:=by
 rw[ZY,j6 E.f E.w];rcases E.n with hn|⟨_,hn⟩
 .rw[hn];rfl
 .rw[j6 FZ hn]
theorem _root_.aQ.Ed.brk(E:Ed Y first W N ac tail):∀c∈ac,bC c=none/\c≠46:=λc hc=>by
 rcases E.br with h|⟨k,b,_,h,hb⟩
 .rw[h]at hc;cases hc
 .rw[h]at hc;rw[yav hc];rcases hb with rfl|⟨rfl,_⟩
  .decide
  .exact⟨(Xb E.f).1,(Xb E.f).2.2⟩
theorem yp(h:∀c∈l,bC c=none):many l=l.length:=by
 unfold aJ.many place;rw[List.filter_eq_self.mpr λc hc=>by rw[h c hc];rfl]
theorem _root_.aQ.Ed.xf(E:Ed Y first W N ac tail):many (Qm ac)=ac.length:=by
 unfold Qm
 split
 .rename_i h;rw[h];rfl
 .rw[JO,yac (by lia),ybd,yp λc hc=>(E.brk c hc).1]
theorem _root_.aQ.Ed.Lg(E:Ed Y first W N ac tail)(h:gs.length=ac.length):aR (Qm ac) gs=if ac=[]then[]else 46::gs:=by
 unfold Qm
 split
 .rfl
 .rw[Kt (show bC 46=some 46 by lia),P7 ac gs (λc hc=>(E.brk c hc).1) (by lia),yaq (by lia)]
noncomputable def wV(first:Nat)(whole fs:List Nat):List Nat:=lr (au first) true whole fs
noncomputable def K6(first:Nat)(whole fs:List Nat):Nat:=(ls (au first) true whole fs).getD whole.length
noncomputable def AD(first:Nat)(whole fs:List Nat):List Nat:=if first≠57 then replicate (K6 first whole fs) (if first=42 then 42 else 32)++(wV first whole fs).drop (K6 first whole fs)else wV first whole fs
noncomputable def j7(first:Nat)(whole fs:List Nat)(b:Bool):List Nat:=if au first=true then(AD first whole fs).set (K6 first whole fs-1) (aM b first)else AD first whole fs
noncomputable def ay(first:Nat)(W N:List Nat):Nat:=W.count first+N.count 57-(if au first=true then 1 else 0)
theorem P8(n x:Nat)(l:List Nat):(replicate (n+1) 32++l).set n x=replicate n 32++[x]++l:=by
 rw[List.replicate_succ',lP,List.set_append];simp
theorem _root_.aQ.Ed.body(E:Ed Y first W N ac tail)(b:Bool)(h1:1<=ay first W N)(hY:qYa<10^(ay first W N+ac.length)):
  W5 (W++N++Qm ac) qYa b=j7 first (W++N) ((pad qYa (ay first W N+ac.length)).take (ay first W N)) b++(if ac=[]then[]else 46::(pad qYa (ay first W N+ac.length)).drop (ay first W N)):=by
 have hw:=E.wh;have Cj:=E.many;have P9:=E.xf;obtain⟨r,hr⟩:∃r,W++N=first::r:=by
  have:=E.xb N;cases hh:W++N with
  |nil=>rw[hh]at this;cases this
  |cons a r=>rw[hh]at this;exact⟨r,by rw[lB this]⟩
 have mt:=Xb E.f;have fj:E.f=E.f:=rfl;have hlen:(pad qYa (ay first W N+ac.length)).length=ay first W N+ac.length:=XB hY (by lia);have mo:((pad qYa (ay first W N+ac.length)).drop (ay first W N)).length=ac.length:=by rw[lJ,hlen];lia
 have P':(W++N++Qm ac).headD 0=first:=by rw[hr];rfl
 have Ck:Le (Qm ac):=by unfold Qm;split;exact .inl rfl;exact .inr ⟨_,Z⟩
 have hT:Qm ac=[]\/∃t,(if ac=[]then([]:List Nat)else 46::(pad qYa (ay first W N+ac.length)).drop (ay first W N))=46::t:=by
  by_cases hb:ac=[]
  .exact .inl (by unfold Qm;rw[yaf hb])
  .exact .inr ⟨_,by rw[yac hb]⟩
 unfold W5;rw[P',ZY,Cj,P9];cases ev:au first with
 |false=>
  have tz:ay first W N=W.count first+N.count 57:=by unfold ay;rw[ev];rfl
  rw[<-tz];have hs:aR (W++N++Qm ac) (pad qYa (ay first W N+ac.length))=wV first (W++N) ((pad qYa (ay first W N+ac.length)).take (ay first W N))++(if ac=[]then[]else 46::(pad qYa (ay first W N+ac.length)).drop (ay first W N)):=by
   unfold wV;rw[Ld false _ _ _ hw,Cj, <-tz,E.Lg mo,ev,j5 true false,(jh false _ _ _ hw (by lia)).1]
  have hh:aS (W++N++Qm ac) (aR (W++N++Qm ac) (pad qYa (ay first W N+ac.length)))=K6 first (W++N) ((pad qYa (ay first W N+ac.length)).take (ay first W N)):=by
   rw[hs];unfold wV K6;rw[ev,j5 true false,yn true false,Lf false _ Ck _ _ _ hw hT]
  rw[hh,hs,yac (by lia)];unfold j7 AD;rw[yac (show ¬ (au first=true) by rw[ev];lia)];have hle:K6 first (W++N) ((pad qYa (ay first W N+ac.length)).take (ay first W N))<=(wV first (W++N) ((pad qYa (ay first W N+ac.length)).take (ay first W N))).length:=by
   unfold K6 wV;rw[wl];exact yo _ _ _ _
  rw[ybp hle]
  by_cases IN:first=57
  .have h0:K6 first (W++N) ((pad qYa (ay first W N+ac.length)).take (ay first W N))=0:=by
    unfold K6;rw[hr,ev,jg mt.2.1 (by simp),yaf (.inl IN)];rfl
   rw[h0,yac (show ¬ (first≠57)from λz=>z IN)];simp
  .rw[yaf IN,lP]
 |true=>
  have IN:first≠57:=λz=>by rw[z]at ev;cases ev
  have Ra:first≠42:=λz=>by rw[z]at ev;cases ev
  have tz:ay first W N+1=W.count first+N.count 57:=by
   have hp:1<=W.count first:=ydD.mpr (yaW E.w.hd);unfold ay;rw[ev,yaf rfl];lia
  rw[<-tz,show ay first W N+1+ac.length=(ay first W N+ac.length)+1 by lia,j4 hY (by lia)];have DV:Wh r:=λx hx=>hw x (by rw[hr];exact lG _ hx);have Rb:aJ.many r=ay first W N:=by
   have:=Cj;rw[hr,JO,yaf mt.1]at this;lia
  generalize Rc:pad qYa (ay first W N+ac.length)=am at*;have hs:aR (W++N++Qm ac) (48::am)=48::(lr true false r am++(if ac=[]then[]else 46::am.drop (ay first W N))):=by
   rw[hr,lQ,Xm mt.1];show 48::aR (r++Qm ac) am=_;rw[Ld true _ _ _ DV,Rb,E.Lg mo]
  have gt:K6 first (W++N) (am.take (ay first W N))=(ls true false r am).getD r.length+1:=by
   unfold K6;rw[hr,ev,FY mt.2.1 rfl,(jh true _ _ _ DV (by lia)).2,lD];cases ls true false r am<;>rfl
  have hh:aS (W++N++Qm ac) (aR (W++N++Qm ac) (48::am))=(ls true false r am).getD r.length+1:=by
   rw[hs,hr,lQ,aS,yac (by rintro(q|⟨_,q⟩);exact IN q;exact q Z)];show aS (r++Qm ac) (lr true false r am++_)+1=_;rw[Lf true _ Ck _ _ _ DV hT]
  have Ay:wV first (W++N) (am.take (ay first W N))=32::lr true false r am:=by
   unfold wV;rw[hr,ev,Lc mt.2.1 rfl,(jh true _ _ _ DV (by lia)).1]
  rw[hh,hs,yaf rfl];unfold j7 AD;rw[yaf ev,yaf IN,yac Ra,gt,Ay,Nat.add_sub_cancel];rw[show List.drop ((ls true false r am).getD r.length+1) (32::lr true false r am)=(lr true false r am).drop ((ls true false r am).getD r.length)from rfl,P8];show _++List.drop ((ls true false r am).getD r.length) (lr true false r am++_)=_;rw[ybp (by rw[wl];exact yo _ _ _ _),lP,lP,lP]
end
end aJ
namespace Lw
open PySem PySem.Spec PyProof.Rows L2 bj aQ bY aJ
open Builtin Builtin.Str StrLaws
noncomputable def dv(ps:List (Nat × Nat)):List (Key × V):=ps.map λx=>(Sum.inr (tx [x.1]),V.str (tx [x.2]))
theorem F0(c:Nat):∀ps:List (Nat × Nat),Wz (dv ps) (Sum.inr (tx [c]):Key)=(ps.lookup c).map λd=>V.str (tx [d]):=by
 intro ps
 induction ps with
 |nil=>rfl
 |cons x r ih=>
  obtain⟨a,b⟩:=x;unfold Wz dv at ih ⊢;rw[lU,ybL,ybn]
  by_cases h:a=c
  .subst h;simp
  .have n1:decide ((Sum.inr (tx [a]):Key)=Sum.inr (tx [c]))=false:=lx λz=>h (ycL (UX (ydk z))).1;have n2:(c==a)=false:=yaC.mpr λz=>h z.symm;rw[n1,n2];exact ih
noncomputable def Lh:List (Nat × Nat):=[(44,44),(66,32),(48,48),(47,47),(46,46)]
noncomputable def Li:List (Nat × Nat):=[(36,36),(43,43),(45,32),(67,32),(82,32),(68,32),(66,32)]
noncomputable def Lj:List (Nat × Nat):=[(36,36),(43,45),(45,45),(67,67),(82,82),(68,68),(66,66)]
noncomputable def AE:List (Key × V):=[(Sum.inr ",",.str ","),(Sum.inr "B",.str " "),(Sum.inr "0",.str "0"),(Sum.inr "/",.str "/"),(Sum.inr ".",.str ".")]
noncomputable def Cm:List (Key × V):=[(Sum.inr "$",.str "$"),(Sum.inr "+",.str "+"),(Sum.inr "-",.str " "),(Sum.inr "C",.str " "),(Sum.inr "R",.str " "),(Sum.inr "D",.str " "),(Sum.inr "B",.str " ")]
noncomputable def Cn:List (Key × V):=[(Sum.inr "$",.str "$"),(Sum.inr "+",.str "-"),(Sum.inr "-",.str "-"),(Sum.inr "C",.str "C"),(Sum.inr "R",.str "R"),(Sum.inr "D",.str "D"),(Sum.inr "B",.str "B")]
theorem Rf:AE=dv Lh:=by rfl'
theorem Rg:Cm=dv Li:=by rfl'
theorem Rh:Cn=dv Lj:=by rfl'
theorem j8(c:Nat):Wz AE (Sum.inr (tx [c]):Key)=(bC c).map λd=>V.str (tx [d]):=by
 rw[Rf,F0]
 congr 1
 unfold Lh bC
 by_cases h1:c=44
 .subst h1;rfl
 .by_cases h2:c=66
  .subst h2;rfl
  .by_cases h3:c=48
   .subst h3;rfl
   .by_cases h4:c=47
    .subst h4;rfl
    .by_cases h5:c=46
     .subst h5;rfl
     .have e:∀a:Nat,c≠a->(c==a)=false:=λa h=>yaC.mpr h;simp[ybn,h1,h2,h3,h4,h5,e 44 h1,e 66 h2,e 48 h3,e 47 h4,e 46 h5]
noncomputable def cB:List Nat:=[36,43,45,67,82,68,66]
theorem Ri(h:c∈cB):Wz Cm (Sum.inr (tx [c]):Key)=some (.str (tx [aM false c])):=by
 rw[Rg,F0];have:∀c∈cB,Li.lookup c=some (aM false c):=by lia
 rw[this c h];rfl
theorem Rj(h:c∈cB):Wz Cn (Sum.inr (tx [c]):Key)=some (.str (tx [aM true c])):=by
 rw[Rh,F0];have:∀c∈cB,Lj.lookup c=some (aM true c):=by lia
 rw[this c h];rfl
theorem Zj(h:∀x∈l,x<128):(tx l).cps.all (· <128)=true:=by
 rw[Array.all_eq_true'];intro x hx;have:x∈l:=by simpa using hx
 simpa using h x this
theorem Lk(h:c∈cB):c<128:=by
 have:∀c∈cB,c<128:=by lia
 exact this c h
theorem j9:("*":Str)=tx [42]:=by rfl'
theorem Ki:(" ":Str)=tx [32]:=by rfl'
theorem F2:(".":Str)=tx [46]:=by rfl'
theorem Wo:("0":Str)=tx [48]:=by rfl'
theorem qf:("9":Str)=tx [57]:=by rfl'
theorem ji:("+-$":Str)=tx [43,45,36]:=by rfl'
theorem Ll:(",B0/":Str)=tx [44,66,48,47]:=by rfl'
section
variable {P:Program}{w:World}{K:Frag}{mg:Str->Option Value}{M:Heap}{f:Addr}{fd:FuncData}{tk:Nat->Tok}{c kr:Nat->Addr}
theorem len_signs{tt:TT}(ok:Nat->Bool)(dt:NB.length=2)(ha:∀x∈l,x<128) (hl:l.length<=900) (h:∀R:VK,R (.str (tx l)) H->tl σ H R)
  (ot:∀(y:Nat)(H1:Hp)(R:Bool->Hp->Prop),R (ok y) H1->tt [none,some (.str (tx [y]))] H1 R) (k:∀H',Qs H H'->Q (.int ((l.filter ok).length:Nat)) H'):
  oS (λxs H Q=>∃p ys,xs=[.ref p]/\(az K H p ys\/aj K H p ys)/\Q (.int (ys.length:Nat)) H) (Jy (Yd NB (BS tl) (JI 1) tt (ZN 1)) Ww) σ H Q:=by
 have hz:=zza
 have ci:=Qh l;dsimp only[oS,Jy,Ww];refine Ko (z:=tx l) (λm vs H2=>vs=((l.take m).filter ok).map (λc=>V.str (tx [c]))/\H2=H) h (Zj ha) ⟨Z,Z⟩ (λm vs H hm⟨e,_⟩=>?_) ?_ ?_ (by show(tx l).length<sizeLine;lia)
 .rw[e,lu];exact yas (yaL _ _) (by rw[lI];lia)
 .rintro m cc vs H1 hx ⟨rfl,rfl⟩;have f8:l[m]? =some cc:=by simpa using hx
  have ss:l.take (m+1)=l.take m++[cc]:=by rw[yaE,f8];rfl
  rw[show(⟨#[cc]⟩:Str)=tx [cc]from rfl,dt];refine ot cc _ _ ?_;rw[ss,ybl];cases hn:ok cc with
  |true=>
   refine Q4 ⟨_,Z,?_,Z⟩;rw[yaF,yaf hn];simp
  |false=>
   refine QW ⟨?_,Z⟩;rw[yaF,yac (by rw[hn];lia)];simp
 .rintro vs H1 ⟨rfl,rfl⟩ pv Rk;rw[yaq (show l.length<=(tx l).cps.size by simp)];exists pv,_,Z,.inl (az.of Qd);rw[lu];exact k _ (Qs.new Rk)
def za:Sp:=λvs H Q _=>∃(l:List Nat)(b:Bool),vs=[.str (tx l),.bl b]/\l.length<=100/\(∀x∈l,x∈cB)/\∀H',Qs H H'->Q (.str (tx (l.map (aM b)))) H'
theorem qg(F:aA K "sign_text" "sign_text" KZ f fd)(T:Txt K mg tk c kr)(KN:aB P w K (kr 4) Cm)(KW:aB P w K (kr 5) Cn):ag P w K mg M (ao P w) 1 f fd ["symbols","is_below"] za:=by
 refine qx F U0 (λvs H Q E h=>?_) (λad A L s H vs Q E hr h=>?_)
 .obtain⟨l,b,rfl,_⟩:=h;rfl
 .obtain⟨l,b,rfl,hl,hs,k⟩:=h;have hz:=zza
  have ci:=Qh l;refine⟨_,(Qr (QE (ZH (QF (ae.mk (UU (NB:=[".0","symbol"]) (FR:=["is_below"]) (fi:=[1]) Z ⟨Z,by rfl',by rfl',by rfl',by rfl',by rfl'⟩ Z Z (KC (pv 0)) (λ_ _ _=>(Qk (i:=1) (show([".0","symbol","is_below"]:List Str).Nodup by rfl') Z (Or.inl Z))) (λ_ _ _=>XG) (λ_ _ _=>(Jm (kw (K0:=K) Z (pv 2) (λ_=>rfl)) (Wg KW (QC (v:=V.ref (kr 5)) Z T.nV Z) (pv 1) (λ_ _=>rfl)) (Wg KN (QC (v:=V.ref (kr 4)) Z T.gX Z) (pv 1) (λ_ _=>rfl)))))) QO Z) Z Z))),?_⟩;exists Z;refine UV (z:=tx l) (fv:=[.bl b]) (λm vs H2=>vs=((l.take m).map (aM b)).map (λc=>V.str (tx [c]))/\H2=H) (λR h=>⟨_,Z,h⟩) (Zj λx hx=>Lk (hs x hx)) rfl ⟨Z,Z⟩ (λm vs H hm⟨e,_⟩=>?_) ?_ ?_ (by show(tx l).length<sizeLine;lia)
  .rw[e,lu,lu,lI];lia
  .rintro m cc vs H1 hx ⟨rfl,rfl⟩;have f8:l[m]? =some cc:=by simpa using hx
   have hm:=hs cc (lM f8);have ss:l.take (m+1)=l.take m++[cc]:=by rw[yaE,f8];rfl
   rw[show(⟨#[cc]⟩:Str)=tx [cc]from rfl];exists Z;dsimp only[vB];refine Q4 ⟨_,Z,b,Z,?_⟩;have fin:∀bb:Bool,bb=b->((l.take m).map (aM b)).map (λc=>V.str (tx [c]))++[.str (tx [aM bb cc])]=((l.take (m+1)).map (aM b)).map (λc=>V.str (tx [c])):=λbb e=>by rw[ss,e];simp
   cases b with
   |true=>exact Q4 ⟨_,Z,Sum.inr (tx [cc]),_,Z,Z,Rj hm,fin true rfl,Z⟩
   |false=>exact QW ⟨_,Z,Sum.inr (tx [cc]),_,Z,Z,Ri hm,fin false rfl,Z⟩
  .rintro vs H1 ⟨rfl,rfl⟩ q hq;rw[yaq (show l.length<=(tx l).cps.size by simp)];refine⟨"",q,(l.map (aM b)).map λc=>tx [c],Z,Z,az.of (by rw[Qd,lT (f:=λc=>tx [c])];rfl),X5 (by rw[lu];lia),?_⟩;rw[ZI];exact k _ (Qs.new hq)
def jj:Sp:=λvs H Q _=>∃(d:Nat)(r:List Nat),vs=[.str (tx (d::r))]/\r.length<=200/\Q (.bl (!(d::r).contains 57&& !au d)) H
theorem V0(F:aA K "hides_nought" "hides_nought" Xx f fd)(T:Txt K mg tk c kr):ag P w K mg M (ao P w) 1 f fd ["body"] jj:=by
 refine qx F VI (λvs H Q E h=>?_) (λad A L s H vs Q E hr h=>?_)
 .obtain⟨d,r,rfl,_⟩:=h;rfl
 .obtain⟨d,r,rfl,hl,k⟩:=h;have hz:=zza
  refine⟨_,(Qr (QE (ae.mk (Uw (J0 Jp Qc (pv 0) (by with_unfolding_all rfl)) (Uv (J0 Jp (QS Z1 (pv 0) Qi (λ_ _=>rfl)) (QC (v:=V.str "+-$") Z T.gG ⟨_,Z⟩) (by with_unfolding_all rfl))))))),?_⟩;exists _,Z,_,_,Z,Z,_,Z;rw[qf,JG];cases h1:(d::r).contains 57 with
  |true=>rw[h1]at k;exact QW k
  |false=>
   rw[h1]at k;have h0:(d::r)[0]? =some d:=rfl;refine Q4 ⟨_,Z,tx (d::r),(0:Int),d,Z,Z,by rw[Qh,lD];lia,Zc h0,_,_,Z,Z,?_⟩;rw[show(⟨#[d]⟩:Str)=tx [d]from rfl,ji,JG];exact k
def Uc:Sp:=λvs H Q _=>∃l:List Nat,vs=[.str (tx l)]/\l.length<=200/\(∀x∈l,x<128)/\∀H',Qs H H'->Q (.str (tx (Kh l))) H'
theorem Yk(F:aA K "nought_text" "nought_text" XO f fd)(O:Own mg):ag P w K mg M (ao P w) 1 f fd ["symbols"] Uc:=by
 refine qx F Yg (λvs H Q E h=>?_) (λad A L s H vs Q E hr h=>?_)
 .obtain⟨l,rfl,_⟩:=h;rfl
 .obtain⟨l,rfl,hl,ha,k⟩:=h;have hz:=zza
  have ci:=Qh l;refine⟨_,(Qg (Q1 (Ql Jp Qc (pv 0) (by with_unfolding_all rfl)) (Qr (QE (QJ QB (ae.mk Qc) (ae.mk (Qq QH Z O.len yaK (Qv (pv 0) Qb)))))) QT)
   (Qr (QE (ZH (QF (ae.mk (Zt (NB:=[".0","symbol"]) Z ⟨Z,by rfl',by rfl',by rfl'⟩ (KC (pv 0)) (λ_ _ _=>(Qk (i:=1) (show([".0","symbol"]:List Str).Nodup by rfl') Z (Or.inl Z))) (λ_ _ _=>XG) (λ_ _ _=>(Jm (Ql Ja (pv 1) Qc (Qn _)) Qc Qc)))) QO Z) Z Z)))),?_⟩
  exists _,Z,_,_,Z,Z,_,Z;rw[j9,JG];cases gt:l.contains 42 with
  |false=>
   have hn:Kh l=replicate l.length 32:=by unfold Kh;rw[yac (λz=>by rw[yai.mpr z]at gt;cases gt)]
   rw[hn]at k;refine Q4 ⟨_,Z,tx l,Z,by lia,?_⟩;rw[Ki];refine⟨tx [32],((tx l).length:Int),Z,Z,by lia,by rw[Qh,lZ,lC];lia,by lia,?_⟩;rw[lZ,Zi,ci];exact k _ (Qs.refl _)
  |true=>
   have hn:Kh l=l.map (λc=>if c=46 then 46 else 42):=by unfold Kh;rw[yaf (yai.mp gt)]
   rw[hn]at k;refine QW ⟨Z,?_⟩;refine Ko (z:=tx l) (λm vs H2=>vs=((l.take m).map (λc=>if c=46 then 46 else 42)).map (λc=>V.str (tx [c]))/\H2=H) (λR h=>⟨_,Z,h⟩) (Zj ha) ⟨Z,Z⟩ (λm vs H hm⟨e,_⟩=>?_) ?_ ?_ (by show(tx l).length<sizeLine;lia)
   .rw[e,lu,lu,lI];lia
   .rintro m cc vs H1 hx ⟨rfl,rfl⟩;have f8:l[m]? =some cc:=by simpa using hx
    have ss:l.take (m+1)=l.take m++[cc]:=by rw[yaE,f8];rfl
    rw[show(⟨#[cc]⟩:Str)=tx [cc]from rfl,F2];dsimp only[JI,vB];refine Q4 ⟨_,Z,Z,_,Z,?_⟩;rw[Jv]
    by_cases AB:cc=46
    .rw[ly AB];exact Q4 ⟨by rw[ss];simp[AB],Z⟩
    .rw[lx AB];exact QW ⟨by rw[ss];simp[AB],Z⟩
   .rintro vs H1 ⟨rfl,rfl⟩ q hq;rw[yaq (show l.length<=(tx l).cps.size by simp)];refine⟨"",q,(l.map (λc=>if c=46 then 46 else 42)).map λc=>tx [c],Z,Z,az.of (by rw[Qd,lT (f:=λc=>tx [c])];rfl),X5 (by rw[lu];lia),?_⟩;rw[ZI];exact k _ (Qs.new hq)
end
end Lw
namespace aJ
open bj aQ PySem.NumText
theorem wo:∀(l fs:List Nat),(aR l fs).length=l.length:=by
 intro l
 induction l with
 |nil=>intro fs;rfl
 |cons c r ih=>
  intro fs;cases h:bC c with
  |none=>rw[Xm h,lD,lD,ih]
  |some d=>rw[Kt h,lD,lD,ih]
theorem wq{l:List Nat}{i c:Nat}(h:l[i]? =some c):aJ.many (l.take (i+1))=aJ.many (l.take i)+(if bC c=none then 1 else 0):=by
 rw[yaE,h,ZY];show _+aJ.many [c]=_;rw[JO];rfl
theorem Rl(l:List Nat)(i:Nat):aJ.many (l.take i)+aJ.many (l.drop i)=aJ.many l:=by rw[<-ZY,yek]
theorem zc{fs:List Nat}(h:fs[k]? =some x)(d:Nat):(fs.drop k).headD d=x/\(fs.drop k).tail=fs.drop (k+1):=by
 have hk:=(yaj.mp h).1;rw[yaM hk];have:fs[k]=x:=(yaj.mp h).2;exact⟨this,Z⟩
theorem Lm:∀(l s:List Nat),aS l s<=l.length:=by
 intro l
 induction l with
 |nil=>intro s;exact lA _
 |cons c r ih=>
  intro s;rw[aS,lD]
  split
  .exact lX _
  .exact ybV (ih _)
theorem Rm(h:bC c=some d):d<128:=by
 unfold bC at h
 repeat' (split at h)
 all_goals first|(cases h;lia)|cases h
theorem Rn:∀(l fs:List Nat),(∀x∈fs,x<128)->∀y∈aR l fs,y<128:=by
 intro l
 induction l with
 |nil=>intro fs _ y hy;cases hy
 |cons c r ih=>
  intro fs hf y hy;cases h:bC c with
  |none=>
   rw[Xm h]at hy;rcases yag.mp hy with rfl|hy
   .cases fs with
    |nil=>decide
    |cons a fs=>exact hf a lH
   .exact ih _ (λx hx=>hf x (List.mem_of_mem_tail hx)) y hy
  |some d=>
   rw[Kt h]at hy;rcases yag.mp hy with rfl|hy
   .exact Rm h
   .exact ih _ hf y hy
theorem wt(u k:Nat):∀x∈pad u k,x<128:=λx hx=>by
 have h:=Kg u k x hx;lia
end aJ
namespace Lw
open PySem PySem.Spec PyProof.Rows L2 bj aQ bY aJ
open Builtin Builtin.Str StrLaws
section
variable {P:Program}{w:World}{K:Frag}{mg:Str->Option Value}{M:Heap}{f:Addr}{fd:FuncData}{tk:Nat->Tok}{c kr:Nat->Addr}
def Ud:Sp:=λvs H Q _=>∃(body:List Nat)(u:Nat),vs=[.str (tx body),.int (u:Nat)]/\body.length<=200/\(∀x∈body,x<128)/\u<10^18/\1<=aJ.many body/\u<10^aJ.many body/\∀H',Qs H H'->Q (.str (tx (aR body (pad u (aJ.many body))))) H'
theorem wu(F:aA K "spread" "spread" YX f fd)(O:Own mg)(T:Txt K mg tk c kr)(KB:aB P w K (kr 3) AE)(gx:Def P w K mg M 2 "figures_of" ["number"] qe):ag P w K mg M (ao P w) 3 f fd ["body","units"] Ud:=by
 refine qx F Z6 (λvs H Q E h=>?_) (λad A L s H vs Q E hr h=>?_)
 .obtain⟨body,u,rfl,_⟩:=h;rfl
 .obtain⟨body,u,rfl,hl,ha,hu,sF,iC,k⟩:=h;have hz:=zza
  have ci:=Qh body;have F4:aJ.many body<=body.length:=by unfold aJ.many;exact yaL _ _
  refine⟨_,(Qg (Qu (i:=3) Z6.nd Z (Or.inl Z) (ae.mk (Qq QX Z O.len yaK (Qv (Zt (NB:=[".0","symbol"]) Z ⟨Z,by rfl',by rfl',by rfl'⟩ (KC (pv 0)) (λ_ _ _=>(Qk (i:=1) (show([".0","symbol"]:List Str).Nodup by rfl') Z (Or.inl Z))) (λ_ _ _=>(X1 (Xf (WA KB (pv 1) (QC (v:=V.ref (kr 3)) Z T.gW Z)) (by with_unfolding_all rfl)))) (λ_ _ _=>(pv 1))) Qb))) Z Z)
   (Qg (Qu (i:=4) Z6.nd Z (Or.inl Z) (ae.mk (Zd yaA ydG ydH Vd (gx.pq hr Qy (Qv (pv 1) Qb)) (Qv (pv 3) Qb))) Z Z)
   (Qg (Qu (i:=5) Z6.nd Z (Or.inl Z) (Z3 QO) Z Z)
   (Qg (Qu (i:=6) Z6.nd Z (Or.inl Z) (ae.mk Qi) Z Z)
   (Qg (X2 yaG Z (KC (pv 0)) (Z' 2 Z6.nd) (Qr (Q1 (Xf (Oy KB (pv 2) (QC (v:=V.ref (kr 3)) Z T.gW Z)) (by with_unfolding_all rfl)) (Qr (aO.mk (XW (Zd yaV yaP yaQ ZG (pv 5) (Qv (Wg KB (QC (v:=V.ref (kr 3)) Z T.gW Z) (pv 2) (λ_ _=>rfl)) Qb))))) (Qg (aO.mk (XW (Zd yaV yaP yaQ ZG (pv 5) (Qv (QS Z1 (pv 4) (pv 6) (λ_ _=>rfl)) Qb))))
   (Qr (aO.mk (Vm (i:=6) Z6.nd Z (Or.inl Z) Qi Yp)))))) (λ_=>rfl))
   (Qr (QE (ZH (QF (ae.mk (pv 5)) QO Z) Z Z)))))))),?_⟩
  dsimp only[JI,Wt,Wu,Ux];refine len_signs (l:=body) place rfl ha (by lia) (λR h=>⟨_,Z,h⟩) (λy H1 R h=>?_) λH1 S1=>?_
  .exists _,Z,Sum.inr (tx [y]),Z,Z,_,Z;rw[j8];unfold place at h;cases e:bC y<;>rw[e]at h<;>exact h
  have IO:(body.filter place).length=aJ.many body:=rfl;rw[IO];refine⟨_,Z,u,Z,hu,λH2 S2=>⟨Z,_,Z,tx (dec u),(aJ.many body:Nat),Z,Z,Xa (by lia) (by lia),?_⟩⟩;rw[VW u sF];have ev:=XB iC sF;generalize BZ:pad u (aJ.many body)=am at*;have sG:=Qh am;refine⟨Aw,λp hp=>?_⟩;have S03:Qs H (upd H2 p (.lst [])):=(S1.trans S2).trans (Qs.new hp);have Ln:=S1.trans S2;refine⟨_,Z,tx body,Z,Zj ha,Oz (z:=tx body) (λi σ H3=>∃x2 done,σ=[some (.str (tx body)),some (.int (u:Nat)),x2,some (.int (aJ.many body:Nat)),some (.str (tx am)),some (.ref p),some (.int (aJ.many (body.take i):Nat))]/\H3=upd H2 p (.lst (done.map λc=>.str (tx [c])))/\done.length=i/\done++aR (body.drop i) (am.drop (aJ.many (body.take i)))=aR body am)
   ⟨none,[],Z,Z,Z,Z⟩ ?_ ?_⟩
  .rintro i cc σ H3 hx ⟨x2,done,rfl,rfl,mo,hinv⟩;have f8:body[i]? =some cc:=by simpa using hx
   have hi:=(yaj.mp f8).1;have dn:body.drop i=cc::body.drop (i+1):=by
    rw[yaM hi]
    congr 1
    exact(yaj.mp f8).2
   have Co:=wq f8;rw[show(⟨#[cc]⟩:Str)=tx [cc]from rfl];exists _,Z,Sum.inr (tx [cc]),Z,Z,_,Z;rw[j8];have app:∀d:Nat,upd (upd H2 p (.lst (done.map λc=>V.str (tx [c])))) p (.lst ((done.map λc=>V.str (tx [c]))++[.str (tx [d])]))=upd H2 p (.lst ((done++[d]).map λc=>V.str (tx [c]))):=λd=>by
    funext b
    by_cases hb:b=p
    .subst hb;rw[Qd,Qd];simp
    .rw[Qx hb,Qx hb,Qx hb]
   cases tz:bC cc with
   |some d=>
    rw[dn,Kt tz]at hinv;refine Q4 ⟨_,Z,.inl ⟨Z,_,.inl (.inl Qd)⟩,_,Z,Sum.inr (tx [cc]),_,Z,Z,by rw[j8,tz];rfl,p,_,_,Z,Z,Qd,by rw[lu];lia,?_⟩;rw[app d];refine⟨some (.str (tx [cc])),done++[d],?_,Z,by rw[lq,mo];rfl,?_⟩
    .rw[Co,yac (by rw[tz];simp)];rfl
    .rw[Co,yac (by rw[tz];simp),lP];exact hinv
   |none=>
    have bn:aJ.many (body.take i)<am.length:=by
     have:=Rl body (i+1);rw[Co,yaf tz]at this;lia
    obtain⟨g,hg⟩:∃g,am[aJ.many (body.take i)]? =some g:=⟨_,yah bn⟩;obtain⟨e1,e2⟩:=zc hg 48;rw[dn,Xm tz,e1,e2]at hinv;refine QW ⟨_,Z,.inl ⟨Z,_,.inl (.inl Qd)⟩,_,Z,_,Z,tx am,_,g,Z,Z,by lia,Zc hg,p,_,_,Z,Z,Qd,by rw[lu];lia,?_⟩;rw[show(⟨#[g]⟩:Str)=tx [g]from rfl,app g];refine⟨_,Z,_,_,Z,Z,some (.str (tx [cc])),done++[g],?_,Z,by rw[lq,mo];rfl,?_⟩
    .rw[Co,yaf tz];rfl
    .rw[Co,yaf tz,lP];exact hinv
  .rintro σ H3 ⟨x2,done,rfl,rfl,mo,hinv⟩;have hsz:(tx body).cps.size=body.length:=by simp
   rw[hsz]at hinv mo;rw[ycQ (lA _)]at hinv;have hd2:done=aR body am:=by rw[<-hinv];simp[aR]
   refine⟨Z,_,Z,"",p,done.map λc=>tx [c],Z,Z,az.of (by rw[Qd,lT];rfl),X5 (by lia),?_⟩;rw[ZI,hd2];exact k _ (λb o e=>by rw[Qx (Qz (Ln _ _ e) hp)];exact Ln _ _ e)
def Ue:Sp:=λvs H Q _=>∃body sg:List Nat,vs=[.str (tx body),.str (tx sg)]/\body.length<=200/\(∀x∈body,x<128)/\sg.length=body.length/\∀H',Qs H H'->Q (.int (aS body sg:Nat)) H'
theorem qh(F:aA K "hidden_in" "hidden_in" K2 f fd)(O:Own mg)(OE:mg "enumerate"=none)(T:Txt K mg tk c kr):ag P w K mg M (ao P w) 1 f fd ["body","signs"] Ue:=by
 refine qx F Ka (λvs H Q E h=>?_) (λad A L s H vs Q E hr h=>?_)
 .obtain⟨body,sg,rfl,_⟩:=h;rfl
 .obtain⟨body,sg,rfl,hl,ha,AF,k⟩:=h;have hz:=zza
  have ci:=Qh body;have iD:=Qh sg;refine⟨_,(Qg (X2 yaG Z (YS Z OE (Qv (pv 0) Qb)) (Q5 Z (Qf (Z' 2 Ka.nd) (Qf (Z' 3 Ka.nd) QD))) (Qr (Q1 (PW.pt (Xn (Ql Ja (pv 3) Qc (Qn _)) (Zq (PW.pt (Jn (Ql Jp (pv 3) (QC (v:=V.str ",B0/") Z T.gL ⟨_,Z⟩) (by with_unfolding_all rfl)) (Jd (Ql Xd (QS Z1 (pv 1) (pv 2) (λ_ _=>rfl)) Qc (Qn _)))))))) (Qr (QE (ae.mk (pv 2)))) QT)) (λ_=>rfl))
   (Qr (QE (ae.mk (Qq QH Z O.len yaK (Qv (pv 0) Qb)))))),?_⟩
  refine⟨_,Z,tx body,Z,Zj ha,VB (z:=tx body) (λi σ H2=>∃x2 x3,σ=[some (.str (tx body)),some (.str (tx sg)),x2,x3]/\Qs H H2/\aS body sg=i+aS (body.drop i) (sg.drop i)) ⟨none,none,Z,Qs.refl H,by simp⟩ ?_ ?_⟩
  .rintro i cc σ H2 p hx ⟨x2,x3,rfl,S2,hinv⟩ hp;have f8:body[i]? =some cc:=by simpa using hx
   have hi:=(yaj.mp f8).1;have dn:body.drop i=cc::body.drop (i+1):=by
    rw[yaM hi]
    congr 1
    exact(yaj.mp f8).2
   obtain⟨g,hg⟩:∃g,sg[i]? =some g:=⟨_,yah (by lia)⟩;obtain⟨e1,e2⟩:=zc hg 0;have S3:=S2.trans (Qs.new (o:=.tup [.int (i:Nat),.str ⟨#[cc]⟩]) hp);rw[dn,aS,e1,e2]at hinv;exists p,_,Z,aj.of Qd,Z,_,_,Z,_,_,Z,Z;generalize upd H2 p (.tup [.int (i:Nat),.str ⟨#[cc]⟩])=H3 at S3;rw[show(⟨#[cc]⟩:Str)=tx [cc]from rfl];exists _,Z,Z,_,Z;rw[qf,Jv]
   by_cases h9:cc=57
   .rw[ly h9];rw[yaf (.inl h9)]at hinv;refine Q4 (Q4 ⟨_,Z,?_⟩);have:=k H3 S3;rw[hinv]at this;exact this
   .rw[lx h9];refine QW ⟨_,Z,_,_,Z,Z,_,Z,?_⟩;rw[Ll,JG];cases On:([44,66,48,47]:List Nat).contains cc with
    |true=>
     rw[yac (by rintro(q|⟨q,_⟩);exact h9 q;rw[show ins cc=true from On]at q;cases q)]at hinv;exact QW (QW ⟨_,_,Z,S3,by lia⟩)
    |false=>
     refine Q4 ⟨_,Z,_,Z,tx sg,_,g,Z,Z,by lia,Zc hg,Z,_,Z,?_⟩;rw[show(⟨#[g]⟩:Str)=tx [g]from rfl,Wo,Jv]
     by_cases iE:g=48
     .rw[ly iE];rw[yac (by rintro(q|⟨_,q⟩);exact h9 q;exact q iE)]at hinv;exact QW ⟨_,_,Z,S3,by lia⟩
     .rw[lx iE];rw[yaf (.inr ⟨On,iE⟩)]at hinv;refine Q4 ⟨_,Z,?_⟩;have:=k H3 S3;rw[hinv]at this;exact this
  .rintro σ H2 ⟨x2,x3,rfl,S2,hinv⟩;have hsz:(tx body).cps.size=body.length:=by simp
   rw[hsz,ycQ (lA _)]at hinv;refine⟨_,Z,tx body,Z,by lia,?_⟩;have:=k H2 S2;rw[hinv]at this;rw[ci];exact this
def jk:Sp:=λvs H Q _=>∃(d:Nat)(r:List Nat)(u:Nat)(b:Bool),vs=[.str (tx (d::r)),.int (u:Nat),.bl b]/\r.length<=190/\(∀x∈d::r,x<128)/\u<10^18/\1<=aJ.many (d::r)/\u<10^aJ.many (d::r)/\∀H',Qs H H'->Q (.str (tx (W5 (d::r) u b))) H'
theorem qi(F:aA K "body_text" "body_text" K1 f fd)(T:Txt K mg tk c kr)(pA:Def P w K mg M 3 "spread" ["body","units"] Ud)(ny:Def P w K mg M 1 "hidden_in" ["body","signs"] Ue)(gI:Def P w K mg M 1 "sign_text" ["symbols","is_below"] za):
  ag P w K mg M (ao P w) 4 f fd ["body","units","is_below"] jk:=by
 refine qx F Xk (λvs H Q E h=>?_) (λad A L s H vs Q E hr h=>?_)
 .obtain⟨d,r,u,b,rfl,_⟩:=h;rfl
 .obtain⟨d,r,u,b,rfl,hl,ha,hu,sF,iC,k⟩:=h;have hz:=zza
  have h0:(d::r)[0]? =some d:=rfl;have f':=Qh (d::r);rw[lD]at f';refine⟨_,(Qg (Qu (i:=3) Xk.nd Z (Or.inl Z) (ae.mk (pA.pq hr Qy (Qv (pv 0) (Qv (pv 1) Qb)))) Z Z)
   (Qg (Qu (i:=4) Xk.nd Z (Or.inl Z) (ae.mk (ny.pq hr Qy (Qv (pv 0) (Qv (pv 3) Qb)))) Z Z)
   (Qg (Qu (i:=5) Xk.nd Z (Or.inl Z) (ae.mk (QS Z1 (pv 0) Qi (λ_ _=>rfl))) Z Z)
   (Qg (Q1 (Ql Jo (pv 5) (QC (v:=V.str "+-$") Z T.gG ⟨_,Z⟩) (by with_unfolding_all rfl)) (Qr (QE (QJ Qo (QJ Qo (QJ QB (ae.mk Qc) (QJ Zr (ae.mk (pv 4)) (ae.mk Qi))) (ae.mk (gI.pq hr Qy (Qv (pv 5) (Qv (pv 2) Qb))))) (ae.mk (QZ J2 (pv 3) (Q2 (pv 4)) Ju))))) QT)
   (Qr (QE (QJ Qo (QJ QB (Zn (Ql Ja (pv 5) Qc (Qn _)) (ae.mk Qc) (ae.mk Qc)) (ae.mk (pv 4))) (ae.mk (QZ J2 (pv 3) (Q2 (pv 4)) Ju))))))))),?_⟩
  refine⟨_,Z,_,Z,d::r,u,Z,by rw[lD];lia,ha,hu,sF,iC,λH1 S1=>?_⟩;have dh:=wo (d::r) (pad u (aJ.many (d::r)));have F5:=Lm (d::r) (aR (d::r) (pad u (aJ.many (d::r))));unfold W5 at k;generalize aR (d::r) (pad u (aJ.many (d::r)))=sg at dh F5 k;have htg:=Qh sg;refine⟨_,Z,_,Z,d::r,sg,Z,by rw[lD];lia,ha,dh,λH2 S2=>?_⟩;generalize aS (d::r) sg=hi at F5 k;rw[lD]at dh F5;exists _,Z,tx (d::r),(0:Int),d,Z,Z,by lia,Zc h0;rw[show(⟨#[d]⟩:Str)=tx [d]from rfl];exists _,Z,_,_,Z,Z,_,Z;rw[ji,JG];rw[show(d::r).headD 0=d from rfl]at k;have iF:=Qh (sg.drop hi);rw[lJ]at iF;cases ev:([43,45,36]:List Nat).contains d with
  |true=>
   rw[yaf (show au d=true from ev)]at k;have F6:d∈cB:=by
    have:∀d∈([43,45,36]:List Nat),d∈cB:=by lia
    exact this d (yai.mp ev)
   rw[Ki];refine Q4 ⟨_,Z,_,_,Z,Z,tx [32],(hi:Int)-1,Z,Z,by lia,by rw[Qh,lC];lia,by lia,?_⟩;rw[Zi];refine⟨_,Z,_,Z,[d],b,Z,by simp,λx hx=>by rw[yak.mp hx];exact F6,λH3 S3=>?_⟩;refine⟨_,_,Z,Z,by rw[Qh,Qh,lN,lu,lC];lia,?_⟩;rw[QR];refine⟨_,Z,_,Z,_,Z,tx sg,Z,by lia,?_⟩;rw[J7];refine⟨_,_,Z,Z,by rw[Qh,iF,lq,lN,lu,lC];lia,?_⟩;rw[QR,show((hi:Int)-1).toNat=hi-1 by lia];exact k _ ((S1.trans S2).trans S3)
  |false=>
   rw[yac (by rw[show au d=false from ev];lia)]at k;refine QW ?_;exists _,Z,Z,_,Z;rw[j9,Jv];refine JB (λv H'=>v=.str (tx [if d=42 then 42 else 32])/\H'=H2) (λz rest=>rest _ _ ⟨by rw[yaf (yap z)],Z⟩) (λz rest=>rest _ _ ⟨by rw[Ki,yac (yau z)],Z⟩) ?_;rintro v H' ⟨rfl,rfl⟩;refine⟨_,Z,tx [if d=42 then 42 else 32],(hi:Int),Z,Z,by lia,by rw[Qh,lZ,lC];lia,by lia,?_⟩;rw[lZ,Zi];refine⟨_,Z,_,Z,_,Z,tx sg,Z,by lia,?_⟩;rw[J7];refine⟨_,_,Z,Z,by rw[Qh,iF,lN];lia,?_⟩;rw[QR];exact k _ (S1.trans S2)
end
theorem bB.tk{rs:List Addr}{rows:List Rw}(h:bB H rs rows):∀k,bB H (rs.take k) (rows.take k):=by
 induction h with
 |nil=>intro k;rw[yez,yez];exact .nil
 |cons a _ ih=>
  intro k;cases k with
  |zero=>exact .nil
  |succ k=>exact .cons a (ih k)
theorem Ro(rs:List Addr)(h:a<=b)(hb:b<=rs.length):xn (rs.map V.ref) (some (a:Int)) (some (b:Int))=((rs.drop a).take (b-a)).map V.ref:=by
 unfold xn;rw[HT.YI,HT.YI,lu,ybb (yas h hb),ybb hb,List.map_take,yey]
theorem Uf:∀l∈([[],[43],[45],[36],[43,36],[45,36]]:List (List Nat)),(∀x∈l,x∈cB)/\l.length<=2:=by lia
theorem jl:∀l∈([[],[43],[45],[67,82],[68,66]]:List (List Nat)),(∀x∈l,x∈cB)/\l.length<=2:=by lia
theorem Wp:∀x∈om,x<128:=by lia
theorem Ku{Y W N ac tail:List Nat}(h:Y.length+(W.length+N.length)+ac.length+tail.length<=60):(QU Y W N ac tail).length<=61:=by
 have mo:(Qm ac).length<=ac.length+1:=by unfold Qm;split<;>simp
 unfold QU;rw[lq,lq,lq,lq];lia
theorem Kj(Y W N ac tail:List Nat):QU Y W N ac tail=Y++(W++N++Qm ac)++tail:=by unfold QU;simp[lP]
section
variable {P:Program}{w:World}{K:Frag}{mg:Str->Option Value}{M:Heap}{f:Addr}{fd:FuncData}{tk:Nat->Tok}{c:Nat->Addr}
def Ug(K:Frag):Sp:=λvs H Q _=>∃(p:Addr)(rs:List Addr)(Y:List Nat)(first:Nat)(W N ac tail:List Nat),vs=[.ref p]/\ak K H p rs (ar [] (QU Y W N ac tail))/\Ed Y first W N ac tail/\Y.length+(W.length+N.length)+ac.length+tail.length<=60/\
 ∀q H',Qs H H'->H' q=some (.tup [.str (tx Y),.str (tx (W++N++Qm ac)),.str (tx tail)])->Q (.ref q) H'
theorem V1(F:aA K "edited_parts" "edited_parts" Xv f fd)(md:Def P w K mg M 2 "lead_of" ["rows"] (jT K))(me:Def P w K mg M 3 "body_of" ["rows","at"] (jV K))(mH:Def P w K mg M 1 "written_out" ["rows"] (FX K))(mf:Def P w K mg M 1 "tail_of" ["rows","at"] (jU K)):
  ag P w K mg M (ao P w) 4 f fd ["rows"] (Ug K):=by
 refine okN F Js (λvs H Q E h=>?_) (λad A L s H vs Q E hr h=>?_)
 .obtain⟨p,rs,Y,first,W,N,ac,tail,rfl,_⟩:=h;rfl
 .obtain⟨p,rs,Y,first,W,N,ac,tail,rfl,R,Ee,hl,k⟩:=h;have hz:=zza
  have ST:=Ku hl;have eh:=yg Ee.DT;have Rp:=Ee.rows;have Fr:=Ee.I0 (ar [] N++(ar [] (Qm ac)++ar [] tail));rw[<-Rp]at Fr;generalize Lo:ar [] (QU Y W N ac tail)=rows at*;have l':rs.length=rows.length:=R.rw.len;have hle:=R.le;refine⟨_,(Qj (Jk (md.pq hr Qy (Qa (pv 0) Qb)) (Q5 Z (Qf (Z' 1 Js.nd) (Qf (Z' 2 Js.nd) QD))))
   (Qj (Jk (me.pq hr Qy (Qa (pv 0) (Qa (pv 2) Qb))) (Q5 Z (Qf (Z' 3 Js.nd) (Qf (Z' 4 Js.nd) (Qf (Z' 5 Js.nd) (Qf (Z' 6 Js.nd) (Qf (Z' 7 Js.nd) QD)))))))
   (Qp (QG (Jf (Qa (pv 1) (Qa (mH.pq hr Qy (Qa (QZ YK (pv 0) (Q2 (pv 2)) (Q2 (pv 7))) Qb)) (Qa (mf.pq hr Qy (Qa (pv 0) (Qa (pv 7) Qb))) Qb)))))))),?_⟩
  refine⟨_,Z,p,rs,rows,Z,R,λld b hb Rq h1 q1 H1 S1 g1=>⟨q1,_,Z,aj.of g1,Z,_,_,Z,_,_,Z,Z,?_⟩⟩;rw[Fr]at h1;obtain⟨rfl,F7⟩:Y=ld/\_:=by injection h1 with a1 a2;exact⟨a1,a2⟩
  refine⟨_,Z,_,Z,p,rs,rows,b,Z,R.same S1,hb,λpl many bi b2 b3 o sC h2 h3 q2 H2 S2 g2=>⟨q2,_,Z,aj.of g2,Z,_,_,Z,_,_,Z,_,_,Z,_,_,Z,_,_,Z,Z,?_⟩⟩;rw[<-F7,Ee.whole]at h2;obtain⟨rfl,rfl,rfl,Rr⟩:[first]=pl/\W.count first=many/\N.count 57=bi/\_:=by injection h2 with a1 a2;injection a2 with a2 a3;injection a3 with a3 a4;exact⟨a1,a2,a3,a4⟩
  rw[<-Rr,Ee.k9]at h3;have Lp:ar [] tail=rows.drop b3:=by injection h3
  have Rt:=yaI List.length F7;have Ru:=yaI List.length Lp;simp only[lq,lJ]at Rt Ru;have E9:b<=b3:=by lia
  have Cp:(rows.drop b).take (b3-b)=ar [] W++(ar [] N++ar [] (Qm ac)):=by
   rw[<-F7];have e:ar [] W++(ar [] N++(ar [] (Qm ac)++ar [] tail))=(ar [] W++(ar [] N++ar [] (Qm ac)))++ar [] tail:=by simp[lP]
   rw[e,List.take_append_of_le_length (by simp only[lq];lia),yaq (by simp only[lq];lia)]
  have AC:=S1.trans S2;refine⟨_,Z,_,Z,_,Z,_,Z,_,Z,_,Z,p,_,Z,(R.same AC).sq,λp2 im=>?_⟩;rw[Ro rs E9 (by lia)];have S3:=Qs.new (o:=.lst (((rs.drop b).take (b3-b)).map V.ref)) im;have R2:ak K (upd H2 p2 (.lst (((rs.drop b).take (b3-b)).map V.ref))) p2 ((rs.drop b).take (b3-b)) (ar [] W++(ar [] N++ar [] (Qm ac))):=by
   rw[<-Cp];exact⟨az.of Qd,(((R.same AC).rw.dr b).tk (b3-b)).keep λx xs h=>S3 _ _ h,by rw[lI,lJ];lia⟩
  have dP:un (ar [] W++(ar [] N++ar [] (Qm ac)))=W++N++Qm ac:=by rw[qa,qa,jc,jc,jc,lP]
  have mo:(Qm ac).length<=ac.length+1:=by unfold Qm;split<;>simp
  refine⟨p2,_,_,Z,R2,λx hx=>?_,by rw[dP,lq,lq];lia,λH4 S4=>?_⟩
  .have ii:x∈rows:=yaY (i:=b) (ybf (i:=b3-b) (by rw[Cp];exact hx));obtain⟨y1,y2,y3⟩:=eh x ii;exact⟨y1,by lia,y3⟩
  rw[dP];have oj:=(AC.trans S3).trans S4;refine⟨_,Z,_,Z,p,rs,rows,b3,Z,R.same oj,sC,λH5 S5=>?_⟩;have ci:KG (rows.drop b3)=some tail:=by rw[<-Lp];exact(Ke tail Ee.tl).1
  rw[ci];refine⟨Ax,λq hq=>?_⟩;exact k q _ ((oj.trans S5).trans (Qs.new hq)) Qd
def Vh(K:Frag)(c:Nat->Addr):Sp:=λvs H Q E=>∃(l:List Nat)(p:Addr)(u:Int)(o:Nat),vs=[.str (tx l),.ref p]/\l.length<=500/\oq K H p u o/\
 (((∀x,Q9 l=some x->x.kind<=3/\x.kind≠3)/\∀H',Qs H H'->E (.ref (c 2)) none H')\/
  ∃(Y:List Nat)(first:Nat)(W N ac tail:List Nat),Ed Y first W N ac tail/\Y.length+(W.length+N.length)+ac.length+tail.length<=60/\l=QU Y W N ac tail/\∀H',Qs H H'->Q (.str (tx (bO Y (W++N++Qm ac) tail (fit u o (ay first W N) ac.length)))) H')
theorem _root_.aQ.Ed.small{Y:List Nat}{first:Nat}{W N ac tail:List Nat}(E:Ed Y first W N ac tail):1<=ay first W N/\ay first W N+ac.length<=11/\W.count first+N.count 57=ay first W N+(if au first=true then 1 else 0):=by
 have h1:=E.w.cn;have h2:N.count 57<=3:=by
  rcases E.n with h|⟨_,h⟩
  .rw[h];lia
  .exact h.cn
 have h3:ac.length<=3:=by
  rcases E.br with h|⟨k,b,hk,h,_⟩
  .rw[h];lia
  .rw[h,lN];lia
 have hp:1<=W.count first:=ydD.mpr (yaW E.w.hd);unfold ay
 split
 .rename_i hf;have h4:=E.fl (yai.mp hf);exact⟨by lia,by lia,by lia⟩
 .exact⟨by lia,by lia,by lia⟩
theorem Uh(u:Int):(if u<0 then-u else u)=((u.natAbs:Nat):Int):=by split<;>lia
theorem wv(F:aA K "edited" "edited" Vg f fd)(O:Own mg)(hV:Def P w K mg M 6 "understood_as" ["kind","picture"] (WK K c))(gB:Def P w K mg M 4 "edited_parts" ["rows"] (Ug K))(mS:Def P w K mg M 3 "fitted" ["amount","before","behind"] (yk K))(mn:Def P w K mg M 1 "hides_nought" ["body"] jj)(mI:Def P w K mg M 1 "nought_text" ["symbols"] Uc)(gI:Def P w K mg M 1 "sign_text" ["symbols","is_below"] za)(nz:Def P w K mg M 4 "body_text" ["body","units","is_below"] jk):
  ag P w K mg M (ao P w) 7 f fd ["picture","amount"] (Vh K c):=by
 refine eB F Zh (λvs H Q E h=>?_) (λad A L s H vs Q E hr h=>?_)
 .obtain⟨l,p,u,o,rfl,_⟩:=h;rfl
 .obtain⟨l,pa,u,o,rfl,hl,qMa,hw⟩:=h;have hz:=zza
  have fr:=Zy (P:=P) (w:=w) (K:=K) (mg:=mg) (M:=M) (N:=["picture","amount","rows","signed","before","behind","lead","body","tail","units","is_below"]) (qual:="edited") (scope:=Qe Vg) (f:=f) (cd:=ad) (A:=A) (L:=L) (s:=s) (H:=H) (E:=E);have ht:=Zg fr;have hx:=Jb fr;refine⟨_,(Qj (Jk (hV.pq hr hx (Qa Qc (Qa (pv 0) Qb))) (Q5 Z (Qf (Z' 2 Zh.nd) (Qf (Q5 Z (Qf (Z' 3 Zh.nd) (Qf (Z' 4 Zh.nd) (Qf (Z' 5 Zh.nd) QD)))) QD))))
   (Qj (Jk (gB.pq hr hx (Qa (pv 2) Qb)) (Q5 Z (Qf (Z' 6 Zh.nd) (Qf (Z' 7 Zh.nd) (Qf (Z' 8 Zh.nd) QD)))))
   (Qj (QN (i:=9) Zh.nd Z (Or.inl Z) (mS.pq hr hx (Qa (pv 1) (Qa (pv 4) (Qa (pv 5) Qb)))))
   (Qj (JP (PW.pt (Jn (Ql Ja (pv 9) Qi (Qn _)) (Jd (WT (mn.pq hr hx (Qa (pv 7) Qb)))))) (Qp (QG (mI.pq hr hx (Qa (QI Qo (QI Qo (pv 6) (pv 7)) (pv 8)) Qb)))) QQ)
   (Qj (QN (i:=10) Zh.nd Z (Or.inl Z) (J0 K9 (pv 9) Qi (Qn _)))
   (Qp (QG (QI Qo (QI Qo (gI.pq hr hx (Qa (pv 6) (Qa (pv 10) Qb))) (nz.pq hr hx (Qa (pv 7) (Qa (Qq ZU Z O.abs ydC (Qa (pv 9) Qb)) (Qa (pv 10) Qb))))) (gI.pq hr hx (Qa (pv 8) (Qa (pv 10) Qb))))))))))),?_⟩
  refine⟨_,Z,l,3,Z,hl,by lia,λh=>?_,λx Cq F8 q p rs r H1 S1 g1 g2 R1=>?_⟩
  .rcases hw with⟨_,k1⟩|⟨Y,first,W,N,ac,tail,Ee,_,rfl,_⟩
   .exact k1
   .exact absurd rfl (h _ Ee.Cg).2
  rcases hw with⟨de,_⟩|⟨Y,first,W,N,ac,tail,Ee,hsz,rfl,k⟩
  .exact absurd F8 (de x Cq).2
  obtain rfl:=lB (Ee.Cg.symm.trans Cq);obtain⟨Ca,iG,FB⟩:=Ee.small;exists q,_,Z,aj.of g1,Z,_,_,Z,_,_,Z,r,_,Z,aj.of g2,Z,_,_,Z,_,_,Z,_,_,Z,Z,Z;rw[Kr Ee.DT]at R1;refine⟨_,Z,p,rs,Y,first,W,N,ac,tail,Z,R1,Ee,hsz,λq2 H2 S2 g3=>⟨q2,_,Z,aj.of g3,Z,_,_,Z,_,_,Z,_,_,Z,Z,?_⟩⟩;have AC:=S1.trans S2;refine⟨_,Z,_,Z,_,Z,pa,u,o,ay first W N,ac.length,Z,qMa.same AC,by lia,λH3 S3=>?_⟩;have TW:=AC.trans S3;have bn:=qd u o (ay first W N) ac.length;generalize fit u o (ay first W N) ac.length=ft at*;obtain⟨rr,fm⟩:∃rr,W++N++Qm ac=first::rr:=by
   have:=Ee.xb (N++Qm ac);cases hh:W++(N++Qm ac)with
   |nil=>rw[hh]at this;cases this
   |cons a r=>rw[hh]at this;exact⟨r,by rw[lP,hh,lB this]⟩
  have IO:many (W++N++Qm ac)=ay first W N+(if au first=true then 1 else 0)+ac.length:=by rw[ZY,Ee.many,Ee.xf,FB]
  have mo:(Qm ac).length<=ac.length+1:=by unfold Qm;split<;>simp
  have f':(W++N++Qm ac).length<=61:=by rw[lq,lq];lia
  have FM:∀x∈Y++(W++N++Qm ac)++tail,x<128:=λx hx=>Wp x (Ee.sym x (by rw[Kj];exact hx));obtain⟨Cr,ST⟩:=Uf Y Ee.ld;obtain⟨iD,ci⟩:=jl tail Ee.tl;have Cs:bO Y (W++N++Qm ac) tail ft=if ft=0/\57∉(W++N++Qm ac)/\au first=false then Kh (Y++(W++N++Qm ac)++tail)else Y.map (aM (decide (ft<0)))++W5 (W++N++Qm ac) ft.natAbs (decide (ft<0))++tail.map (aM (decide (ft<0))):=by
   unfold bO;rw[show(W++N++Qm ac).headD 0=first by rw[fm];rfl]
  rw[Cs]at k;clear Cs g1 g2 g3 R1 qMa;generalize ce:W++N++Qm ac=body at*;have F9:ft.natAbs<10^many body:=by
   rw[IO];exact yad bn (yat (by lia) (by lia))
  have Tk:ft.natAbs<10^18:=yad bn (yat (by lia) (by lia));have sF:1<=many body:=by lia
  subst fm;dsimp only[JI,Wt,Wu];refine JW (λσ' H4=>(∃y0 y1 y2 y3 y4 y5,σ'=[y0,y1,y2,y3,y4,y5,some (.str (tx Y)),some (.str (tx (first::rr))),some (.str (tx tail)),some (.int ft),none])/\Qs H H4/\¬ (ft=0/\57∉(first::rr)/\au first=false)) ?_ (λrest=>?_)
  .rintro σ' H4 ⟨⟨y0,y1,y2,y3,y4,y5,rfl⟩,S4,hn⟩;rw[yac hn]at k;exists _,Z,_,_,Z,Z;refine⟨_,Z,_,Z,Y,decide (ft<0),Z,by lia,Cr,λH5 S5=>?_⟩;refine⟨_,Z,_,Z,ft,Z,_,Z,first,rr,ft.natAbs,decide (ft<0),by rw[Uh];rfl,by rw[lD]at f';lia,λx hx=>FM x (lF _ (lE _ hx)),Tk,sF,F9,λH6 S6=>?_⟩;have Ct:(W5 (first::rr) ft.natAbs (decide (ft<0))).length<=300:=by
    have e1:=wo (first::rr) (pad ft.natAbs (many (first::rr)));have e2:=Lm (first::rr) (aR (first::rr) (pad ft.natAbs (many (first::rr))));unfold W5
    split
    .simp only[lq,lN,lJ,lC];lia
    .simp only[lq,lN,lJ];lia
   refine⟨_,_,Z,Z,by rw[Qh,Qh,lu];lia,?_⟩;rw[QR];refine⟨_,Z,_,Z,tail,decide (ft<0),Z,by lia,iD,λH7 S7=>?_⟩;refine⟨_,_,Z,Z,by rw[Qh,Qh,lq,lu,lu];lia,?_⟩;rw[QR];exact k _ (((S4.trans S5).trans S6).trans S7)
  .exists _,Z,Z,_,Z;rw[Xo]
   by_cases h0:ft=0
   .rw[ly h0];refine Q4 ⟨_,Z,first,rr,Z,by rw[lD]at f';lia,_,Z,?_⟩
    by_cases hc:57∉(first::rr)/\au first=false
    .have e:(!(first::rr).contains 57&& !au first)=true:=by
      rw[hc.2,yaO];refine⟨?_,Z⟩;cases q:(first::rr).contains 57 with
      |true=>exact absurd (yai.mp q) hc.1
      |false=>rfl
     rw[e];rw[yaf ⟨h0,hc⟩]at k;refine Q4 ⟨_,Z,_,Z,_,_,Z,Z,by rw[Qh,Qh];lia,?_⟩;rw[QR];refine⟨_,Z,_,_,Z,Z,by rw[Qh,Qh,lq];lia,?_⟩;rw[QR];exact⟨_,Z,by rw[lq,lq];lia,FM,λH4 S4=>k _ (TW.trans S4)⟩
    .have e:(!(first::rr).contains 57&& !au first)=false:=by
      cases q:(first::rr).contains 57 with
      |true=>rfl
      |false=>
       cases q2:au first with
       |true=>rfl
       |false=>exact absurd ⟨λz=>(by rw[yai.mpr z]at q;cases q),q2⟩ hc
     rw[e];exact QW (rest _ _ ⟨⟨_,_,_,_,_,_,Z⟩,TW,λz=>hc z.2⟩)
   .rw[lx h0];exact QW (QW (rest _ _ ⟨⟨_,_,_,_,_,_,Z⟩,TW,λz=>h0 z.1⟩))
end
end Lw
namespace aJ
open bj aQ PySem.NumText
section
variable {first:Nat}{ac tail:List Nat}
theorem yq:∀{l:List Nat},(∀c∈l,c≠46)->l.map (λc=>if c=46 then 46 else 42)=replicate l.length 42:=by
 intro l
 induction l with
 |nil=>intro _;rfl
 |cons a r ih=>
  intro h;rw[lU,ih λc hc=>h c (lG _ hc),yac (h a lH),lD,yaz]
theorem Rv:∀l∈([[],[43],[45],[36],[43,36],[45,36]]:List (List Nat)),∀c∈l,c≠46/\c≠42:=by lia
theorem Rx:∀l∈([[],[43],[45],[67,82],[68,66]]:List (List Nat)),∀c∈l,c≠46/\c≠42:=by lia
theorem Lq(h:ins c=true):c≠46/\c≠42:=by
 have:∀c∈([44,66,48,47]:List Nat),c≠46/\c≠42:=by lia
 exact this c (yai.mp h)
noncomputable def qu(Y:List Nat)(first:Nat)(W N ac tail:List Nat):List Nat:=
 if first=90 then replicate (QU Y W N ac tail).length 32
 else replicate (Y++(W++N)).length 42++(if ac=[]then replicate ((QU Y W N ac tail).length-(Y++(W++N)).length) 42 else 46::replicate ((QU Y W N ac tail).length-(Y++(W++N)).length-1) 42)
theorem _root_.aQ.Ed.hidden(E:Ed Y first W N ac tail)(IN:57∉W++N++ac)(ev:au first=false):Kh (Y++(W++N++Qm ac)++tail)=qu Y first W N ac tail:=by
 have F':first≠57:=λz=>IN (by
  rw[<-z];exact lF _ (lF _ (yaW E.w.hd)))
 have hf:first=90\/first=42:=by
  have:∀c∈([57,90,42,43,45,36]:List Nat),au c=false->c≠57->c=90\/c=42:=by lia
  exact this first E.f ev F'
 have hN:N=[]:=by
  rcases E.n with h|⟨_,h⟩
  .exact h
  .exact absurd (lF _ (lE _ (yaW h.hd))) IN
 have AG:∀c∈ac,c=first:=λc hc=>by
  rcases E.br with h|⟨k,b,_,h,hb⟩
  .rw[h]at hc;cases hc
  .rw[h]at hc;have Ry:=yav hc;rcases hb with rfl|⟨rfl,_⟩
   .exact absurd (lE _ (by rw[h];exact List.mem_replicate.mpr ⟨by simp,Z⟩)) IN
   .exact Ry
 have hl:=Rv Y E.ld;have ht:=Rx tail E.tl;have hW:∀c∈W,c=first\/ins c=true:=E.w.all;have ge:QU Y W N ac tail=Y++(W++N++Qm ac)++tail:=by unfold QU;simp[lP]
 subst hN;unfold Kh qu;rw[ge];rcases hf with rfl|rfl
 .rw[yaf rfl,yac];intro z;rcases yao.mp z with z|z
  .rcases yao.mp z with z|z
   .exact(hl _ z).2 rfl
   .rcases yao.mp z with z|z
    .rw[lS]at z;rcases hW _ z with q|q
     .cases q
     .exact(Lq q).2 rfl
    .unfold Qm at z
     split at z
     .cases z
     .rcases yag.mp z with q|q
      .cases q
      .have:=AG _ q;cases this
  .exact(ht _ z).2 rfl
 .have On:42∈Y++(W++[]++Qm ac)++tail:=lF _ (lE _ (lF _ (lF _ (yaW E.w.hd))));rw[yaf On,yac (by lia)];have h1:∀c∈Y++(W++[]),c≠46:=λc hc=>by
   rcases yao.mp hc with q|q
   .exact(hl _ q).1
   .rw[lS]at q;rcases hW _ q with q|q
    .rw[q];lia
    .exact(Lq q).1
  have h2:∀c∈ac++tail,c≠46:=λc hc=>by
   rcases yao.mp hc with q|q
   .rw[AG _ q];lia
   .exact(ht _ q).1
  by_cases hb:ac=[]
  .subst hb;have e:Y++(W++[]++Qm [])++tail=(Y++(W++[]))++([]++tail):=by unfold Qm;simp
   rw[yaf rfl,e,lO,yq h1,yq h2]
   congr 2
   simp
   try lia
  .have e:Y++(W++[]++Qm ac)++tail=(Y++(W++[]))++46::(ac++tail):=by unfold Qm;rw[yac hb];simp
   rw[yac hb,e,lO,lU,yq h1,yq h2,yaf rfl]
   congr 3
   simp
   try lia
theorem _root_.aQ.Ed.Rz(E:Ed Y first W N ac tail)(h1:1<=ay first W N)(hf:f.natAbs<10^(ay first W N+ac.length)):
  bO Y (W++N++Qm ac) tail f=if 57∉W++N++ac/\au first=false/\f=0 then qu Y first W N ac tail
   else Y.map (aM (decide (f<0)))++(j7 first (W++N) ((pad f.natAbs (ay first W N+ac.length)).take (ay first W N)) (decide (f<0))++(if ac=[]then[]else 46::(pad f.natAbs (ay first W N+ac.length)).drop (ay first W N)))++tail.map (aM (decide (f<0))):=by
 have hd:(57∉W++N++Qm ac)↔57∉W++N++ac:=by
  unfold Qm
  split
  .rename_i h;rw[h]
  .simp
 have hh:(W++N++Qm ac).headD 0=first:=by
  have:=E.xb (N++Qm ac);rw[lP];cases hx:W++(N++Qm ac)with
  |nil=>rw[hx]at this;cases this
  |cons a r=>rw[hx]at this;exact lB this
 unfold bO;rw[hh]
 by_cases hc:57∉W++N++ac/\au first=false/\f=0
 .rw[yaf hc,yaf ⟨hc.2.2,hd.mpr hc.1,hc.2.1⟩,E.hidden hc.1 hc.2.1]
 .rw[yac hc,yac (λz=>hc ⟨hd.mp z.2.1,z.2.2,z.1⟩),E.body _ h1 hf]
end
noncomputable def dg(c:Nat):Nat:=if 48<=c/\c<=57 then c else 48
noncomputable def bZ(body t:List Nat):List Nat:=((body.zip t).filter (λx=>place x.1)).map (λx=>dg x.2)
noncomputable def dQ(Y body t:List Nat):Nat:=digitsVal (bZ body (t.drop Y.length))
theorem Wq(c d:Nat)(r t:List Nat):bZ (c::r) (d::t)=if place c=true then dg d::bZ r t else bZ r t:=by
 unfold bZ;rw[List.zip_cons_cons,yaF]
 split<;>rfl
theorem RB(h:c≠57)(hs:s.headD 0=48):1<=aS (c::r) s:=by
 rw[aS,yac]
 .lia
 .rintro(q|⟨_,q⟩)
  .exact h q
  .exact q hs
theorem RC:∀(l fs:List Nat),(aR l fs).length=l.length:=by
 intro l
 induction l with
 |nil=>intro fs;rfl
 |cons c r ih=>
  intro fs;cases h:bC c with
  |none=>rw[Xm h,lD,lD,ih]
  |some d=>rw[Kt h,lD,lD,ih]
theorem Lr:∀c∈([43,45,36]:List Nat),∀b,dg (aM b c)=48:=by lia
section
variable {first:Nat}{ac tail:List Nat}
theorem _root_.aQ.Ed.cnt(E:Ed Y first W N ac tail):W.count first+N.count 57=ay first W N+(if au first=true then 1 else 0):=by
 unfold ay
 split
 .rename_i hf;have h4:=E.fl (yai.mp hf);lia
 .lia
theorem _root_.aQ.Ed.bP(E:Ed Y first W N ac tail):∃rr,W++N++Qm ac=first::rr:=by
 have:=E.xb (N++Qm ac);cases hh:W++(N++Qm ac)with
 |nil=>rw[hh]at this;cases this
 |cons a r=>rw[hh]at this;exact⟨r,by rw[lP,hh,lB this]⟩
theorem _root_.aQ.Ed.shape(E:Ed Y first W N ac tail)(b:Bool)(h1:1<=ay first W N)(hu:u<10^(ay first W N+ac.length)):
  ∃s pre:List Nat,s=aR (W++N++Qm ac) (pad u (many (W++N++Qm ac)))/\W5 (W++N++Qm ac) u b=pre++s.drop (aS (W++N++Qm ac) s)/\pre.length=aS (W++N++Qm ac) s/\(∀x∈pre,dg x=48)/\s.length=(W++N++Qm ac).length/\(pad u (many (W++N++Qm ac))).length=many (W++N++Qm ac)/\
   pre=if au first=true then replicate (aS (W++N++Qm ac) s-1) 32++[aM b first]else replicate (aS (W++N++Qm ac) s) (if first=42 then 42 else 32):=by
 have hm:many (W++N++Qm ac)=ay first W N+(if au first=true then 1 else 0)+ac.length:=by rw[ZY,E.many,E.xf,E.cnt]
 have iC:u<10^many (W++N++Qm ac):=yad hu (yat (by lia) (by lia));have mt:=XB iC (by lia);obtain⟨rr,fm⟩:=E.bP;refine⟨_,if au first=true then replicate (aS (W++N++Qm ac) (aR (W++N++Qm ac) (pad u (many (W++N++Qm ac))))-1) 32++[aM b first]else replicate (aS (W++N++Qm ac) (aR (W++N++Qm ac) (pad u (many (W++N++Qm ac))))) (if first=42 then 42 else 32),Z,?_,?_,?_,RC _ _,mt,Z⟩
 .unfold W5;rw[show(W++N++Qm ac).headD 0=first by rw[fm];rfl]
  split<;>rfl
 .split
  .rename_i hf;rw[hf,yaf rfl]at hm;have hh:1<=aS (W++N++Qm ac) (aR (W++N++Qm ac) (pad u (many (W++N++Qm ac)))):=by
    have fj:=yai.mp hf;have e:pad u (many (W++N++Qm ac))=48::pad u (ay first W N+ac.length):=by
     rw[hm,show ay first W N+1+ac.length=ay first W N+ac.length+1 by lia,j4 hu (by lia)]
    rw[e,fm];refine RB (λq=>by rw[q]at fj;exact absurd fj (by lia)) ?_;rw[Xm (Xb E.f).1];rfl
   rw[lq,lN,lC];lia
  .rw[lN]
 .split
  .rename_i hf;intro x hx;rcases yao.mp hx with h|h
   .rw[yav h];rfl
   .rw[yak.mp h];exact Lr first (yai.mp hf) b
  .intro x hx;rw[yav hx]
   split<;>rfl
end
open bj aQ bY PySem.NumText
noncomputable def ow(Y body tail:List Nat)(a b:Nat)(t:List Nat):Option Int:=
 if bO Y body tail (fit ((dQ Y body t:Nat):Int) b a b)=t then some ((dQ Y body t:Nat):Int)
 else if bO Y body tail (fit (-((dQ Y body t:Nat):Int)) b a b)=t then some (-((dQ Y body t:Nat):Int))else none
theorem V2(l t:List Nat):AllDigits (bZ l t):=λy hy=>by
 unfold bZ at hy;obtain⟨x,_,rfl⟩:=ybQ.mp hy;unfold dg
 split
 .assumption
 .lia
theorem RD(l t:List Nat):(bZ l t).length<=l.length:=by
 unfold bZ;rw[lu];refine yas (yaL _ _) ?_;rw[yel];exact Nat.min_le_left _ _
theorem Vi:∀(l t:List Nat),(bZ l t).length<=many l:=by
 intro l
 induction l with
 |nil=>intro t;exact lX _
 |cons c r ih=>
  intro t;cases t with
  |nil=>exact lX _
  |cons d t=>
   have:=ih t;rw[Wq,JO];unfold place;cases h:bC c with
   |none=>rw[yaf (show(none:Option Nat).isNone=true from Z),yaf rfl,lD];lia
   |some x=>rw[yac (by simp),yac (by simp)];lia
theorem ww(d:Nat):(([48,49,50,51,52,53,54,55,56,57]:List Nat).contains d)=decide (48<=d/\d<=57):=by
 by_cases h:48<=d/\d<=57
 .rw[ly h,yai];simp only[yag,yax,ybk];lia
 .rw[lx h];cases e:([48,49,50,51,52,53,54,55,56,57]:List Nat).contains d with
  |false=>rfl
  |true=>
   have:=yai.mp e;simp only[yag,yax,ybk]at this;omega
end aJ
namespace Lw
open PySem PySem.Spec PyProof.Rows L2 bj aQ bY aJ
open Builtin Builtin.Str StrLaws
inductive cD (H:Hp):List Addr->List (Nat × Nat)->Prop
 |nil:cD H [] []
 |cons {a:Addr} {x:Nat × Nat} {as:List Addr} {xs:List (Nat × Nat)}:H a=some (.tup [.str (tx [x.1]),.str (tx [x.2])])->cD H as xs->cD H (a::as) (x::xs)
theorem cD.keep{as:List Addr}{xs:List (Nat × Nat)}(h:cD H as xs)(S:Qs H H'):cD H' as xs:=by
 induction h with
 |nil=>exact .nil
 |cons e _ ih=>exact .cons (S _ _ e) ih
theorem cD.app{as:List Addr}{xs:List (Nat × Nat)}(h:cD H as xs)(e:H a=some (.tup [.str (tx [x.1]),.str (tx [x.2])])):cD H (as++[a]) (xs++[x]):=by
 induction h with
 |nil=>exact .cons e .nil
 |cons e1 _ ih=>exact .cons e1 ih
theorem cD.len{H:Hp}{as:List Addr}{xs:List (Nat × Nat)}(h:cD H as xs):as.length=xs.length:=by
 induction h with
 |nil=>rfl
 |cons _ _ ih=>rw[lD,lD,ih]
theorem cD.at'{as:List Addr}{xs:List (Nat × Nat)}(h:cD H as xs):∀{i:Nat}{a:Addr},as[i]? =some a->∃x,xs[i]? =some x/\H a=some (.tup [.str (tx [x.1]),.str (tx [x.2])]):=by
 induction h with
 |nil=>intro i a e;cases e
 |cons e1 _ ih=>
  intro i a e;cases i with
  |zero=>cases e;exact⟨_,Z,e1⟩
  |succ i=>exact ih (by simpa using e)
theorem YC:("0123456789":Str)=tx [48,49,50,51,52,53,54,55,56,57]:=by rfl'
section
variable {P:Program}{w:World}{K:Frag}{mg:Str->Option Value}{M:Heap}{f:Addr}{fd:FuncData}{tk:Nat->Tok}{c kr:Nat->Addr}
theorem yr{xs:List (Nat × Nat)}(val:Nat × Nat->Nat)(dt:NB.length=3)(hn:n=2)(hσ:σ[i]? =some (some (.ref p)))(hp:az K H p (ps.map V.ref))(PR:cD H ps xs)(hl:xs.length<=500)
  (fe:∀x∈xs,∀Q:VK,Q (.str (tx [val x])) H->te [none,some (.str (tx [x.1])),some (.str (tx [x.2]))] H Q)
  (hd:∀q,H q=none->Q (.ref q) (upd H q (.lst (xs.map λx=>.str (tx [val x]))))):
  Yd NB (w8 K (ZN i)) (Aj K n (YG (JI 1) (YG (JI 2) A0))) vB te σ H Q:=by
 have hz:=zza
 have hlen:=PR.len;exists _,hσ,p,Z,⟨_,hp⟩;refine VR (xs:=ps.map V.ref) (λi vs H2=>H2=H/\vs=(xs.take i).map λx=>V.str (tx [val x])) ⟨Z,Z⟩ ?_ ?_ ?_ (by rw[lu];lia)
 .rintro i vs H2 hi ⟨rfl,rfl⟩;exact⟨hp,by rw[lu,lI];lia⟩
 .rintro i x vs H2 hx ⟨rfl,rfl⟩;rw[lK]at hx;obtain⟨r,hr,rfl⟩:=yaS.mp hx;obtain⟨y,hy,g⟩:=PR.at' hr;subst hn;rw[dt];exists r,_,Z,aj.of g,Z,_,_,Z,_,_,Z,Z;dsimp only[vB];rw[yaf rfl];refine fe y (lM hy) _ ⟨Z,?_⟩;rw[yaE,hy,lO];rfl
 .rintro vs H2 ⟨rfl,rfl⟩ q hq;rw[yaq (by rw[lu];lia)];exact hd q hq
def wx(K:Frag)(c:Nat->Addr):Sp:=λvs H Q E=>∃l t:List Nat,vs=[.str (tx l),.str (tx t)]/\l.length<=500/\t.length<=200/\(∀x∈t,x<128)/\
 (((∀x,Q9 l=some x->x.kind<=3/\x.kind≠3)/\∀H',Qs H H'->E (.ref (c 2)) none H')\/
  ∃(Y:List Nat)(first:Nat)(W N ac tail:List Nat),Ed Y first W N ac tail/\Y.length+(W.length+N.length)+ac.length+tail.length<=60/\l=QU Y W N ac tail/\
  (∀v,ow Y (W++N++Qm ac) tail (ay first W N) ac.length t=some v->∀q H',Qs H H'->H q=none->H' q=some (.tup [.int v,.int (ac.length:Nat)])->Q (.ref q) H')/\
  (ow Y (W++N++Qm ac) tail (ay first W N) ac.length t=none->∀H',Qs H H'->E (.ref (c 5)) none H'))
theorem Yl(F:aA K "read_edited" "read_edited" ZW f fd)(O:Own mg)(OZ:mg "zip"=none)(T:Txt K mg tk c kr)(KB:aB P w K (kr 3) AE)(gf:Def P w K mg M 2 "number_of" ["text"] zX)(hV:Def P w K mg M 6 "understood_as" ["kind","picture"] (WK K c))(gB:Def P w K mg M 4 "edited_parts" ["rows"] (Ug K))(mT:Def P w K mg M 7 "edited" ["picture","amount"] (Vh K c)):
  ag P w K mg M (ao P w) 8 f fd ["picture","text"] (wx K c):=by
 refine DQ F Q6 (λvs H Q E h=>?_) (λad A L s H vs Q E hr h=>?_)
 .obtain⟨l,t,rfl,_⟩:=h;rfl
 .obtain⟨l,t,rfl,hl,ci,lw,hw⟩:=h;have hz:=zza
  have fr:=Zy (P:=P) (w:=w) (K:=K) (mg:=mg) (M:=M) (N:=["picture","text","rows","signed","before","behind","lead","body","tail","pairs","units","choice"]) (qual:="read_edited") (scope:=Qe ZW) (f:=f) (cd:=ad) (A:=A) (L:=L) (s:=s) (H:=H) (E:=E);have ht:=Zg fr;have hx:=Jb fr;refine⟨_,(Qg (aO.mk (Jk (hV.pq hr hx (Qv Qc (Qv (pv 0) Qb))) (Q5 Z (Qf (Z' 2 Q6.nd) (Qf (Q5 Z (Qf (Z' 3 Q6.nd) (Qf (Z' 4 Q6.nd) (Qf (Z' 5 Q6.nd) QD)))) QD)))))
   (Qg (aO.mk (Jk (gB.pq hr hx (Qv (pv 2) Qb)) (Q5 Z (Qf (Z' 6 Q6.nd) (Qf (Z' 7 Q6.nd) (Qf (Z' 8 Q6.nd) QD))))))
   (Qg (aO.mk (Ve (NB:=[".0","symbol","sign"]) (iy:=9) Z ⟨Z,by rfl',by rfl',by rfl'⟩ (OM Z OZ (Qv (pv 7) (Qv (QZ J2 (pv 1) (Q2 (Qq QH Z O.len yaK (Qv (pv 6) Qb))) Ju) Qb))) (λ_ _ _=>(K5 (K0:=K) (n:=2) Z Z (Qf (Qk (i:=1) (show([".0","symbol","sign"]:List Str).Nodup by rfl') Z (Or.inl Z) (Or.inr Z)) (Qf (Qk (i:=2) (show([".0","symbol","sign"]:List Str).Nodup by rfl') Z (Or.inl Z) (Or.inr Z)) QD)))) (λ_ _ _=>(X1 (Xf (WA KB (pv 1) (QC (v:=V.ref (kr 3)) Z T.gW Z)) (by with_unfolding_all rfl)))) (λ_ _ _=>(Jf (Qv (pv 1) (Qv (pv 2) Qb)))) Q6.nd Z (Or.inl Z) Z))
   (Qg (Qu (i:=10) Q6.nd Z (Or.inl Z) (ae.mk (gf.pq hr hx (Qv (ae.pe (ZH (QF (ae.mk (Zt (NB:=[".0","symbol","sign"]) Z ⟨Z,by rfl',by rfl',by rfl'⟩ (KJ (pv 9)) (λ_ _ _=>(K5 (K0:=K) (n:=2) Z Z (Qf (Qk (i:=1) (show([".0","symbol","sign"]:List Str).Nodup by rfl') Z (Or.inl Z) (Or.inr Z)) (Qf (Qk (i:=2) (show([".0","symbol","sign"]:List Str).Nodup by rfl') Z (Or.inl Z) (Or.inr Z)) QD)))) (λ_ _ _=>XG) (λ_ _ _=>(Jm (Ql Jo (pv 2) (QC (v:=V.str "0123456789") Z T.gO ⟨_,Z⟩) (by with_unfolding_all rfl)) (pv 2) Qc)))) QO Z) Z Z)) Qb))) Z Z)
   (Qg (X2 ON Z (jy (Jf (Qv (pv 10) (Qv (KK Z0 (pv 10)) Qb)))) (Z' 11 Q6.nd) (Qr (Q1 (Ql Ja (mT.pq hr hx (Qv (pv 0) (Qv (Jf (Qv (pv 11) (Qv (pv 5) Qb))) Qb))) (pv 1) (Qn _)) (Qr (QE (JC (QF (ae.mk (pv 11)) (QF (ae.mk (pv 5)) QO Z) Z)))) QT)) (λ_=>rfl))
   (Qr (aO.mk (ZD ht Z Z T.gU T.mD (Qv Qc Qb))))))))),?_⟩
  refine⟨_,Z,l,3,Z,hl,by lia,λh=>?_,λx Cq F8 q p rs r H1 S1 g1 g2 R1=>?_⟩
  .rcases hw with⟨_,k1⟩|⟨Y,first,W,N,ac,tail,Ee,_,rfl,_⟩
   .exact k1
   .exact absurd rfl (h _ Ee.Cg).2
  rcases hw with⟨de,_⟩|⟨Y,first,W,N,ac,tail,Ee,hsz,rfl,kv,kn⟩
  .exact absurd F8 (de x Cq).2
  obtain rfl:=lB (Ee.Cg.symm.trans Cq);obtain⟨Ca,iG,FB⟩:=Ee.small;exists q,_,Z,aj.of g1,Z,_,_,Z,_,_,Z,r,_,Z,aj.of g2,Z,_,_,Z,_,_,Z,_,_,Z,Z,Z;rw[Kr Ee.DT]at R1;refine⟨_,Z,p,rs,Y,first,W,N,ac,tail,Z,R1,Ee,hsz,λq2 H2 S2 g3=>⟨q2,_,Z,aj.of g3,Z,_,_,Z,_,_,Z,_,_,Z,Z,?_⟩⟩;have AC:=S1.trans S2;have mo:(Qm ac).length<=ac.length+1:=by unfold Qm;split<;>simp
  have f':(W++N++Qm ac).length<=61:=by rw[lq,lq];lia
  have FM:∀x∈W++N++Qm ac,x<128:=λx hx=>Wp x (Ee.sym x (by rw[Kj];exact lF _ (lE _ hx)));obtain⟨Cr,ST⟩:=Uf Y Ee.ld;have IO:many (W++N++Qm ac)<=12:=by rw[ZY,Ee.many,Ee.xf,FB];split<;>lia
  clear g1 g2 g3 R1;generalize ce:W++N++Qm ac=body at*;have bn:=Qh Y;have ot:=Qh t;have Ct:=Qh body;have iF:=Qh (t.drop Y.length);dsimp only[JI,Wt,Wu,Ux];refine kB (x:=tx body) (y:=tx (t.drop Y.length)) (λi vs H3=>∃ps,vs=ps.map V.ref/\Qs H2 H3/\cD H3 ps (((body.zip (t.drop Y.length)).take i).filter λx=>place x.1)) (λR h=>?_) (Zj FM) (Zj λx hx=>lw x (yaY hx)) ⟨[],Z,Qs.refl _,.nil⟩ ?_ ?_ ?_ ?_
  .refine⟨_,Z,_,Z,_,Z,tx Y,Z,by lia,_,Z,tx t,Z,by lia,?_⟩;rw[bn,J7];exact h
  .rintro i vs H3 hi ⟨ps,rfl,S3,PR⟩;rw[lu,PR.len];exact yas (yaL _ _) (by rw[lI];lia)
  .rintro i cc dd vs H3 pp hc hd ⟨ps,rfl,S3,PR⟩ Fw;have cQ:body[i]? =some cc:=by simpa using hc
   have oN:(t.drop Y.length)[i]? =some dd:=by simpa using hd
   have RE:(body.zip (t.drop Y.length))[i]? =some (cc,dd):=by rw[List.getElem?_zip_eq_some];exact⟨cQ,oN⟩
   have ss:(body.zip (t.drop Y.length)).take (i+1)=(body.zip (t.drop Y.length)).take i++[(cc,dd)]:=by rw[yaE,RE];rfl
   have S4:=Qs.new (o:=.tup [.str ⟨#[cc]⟩,.str ⟨#[dd]⟩]) Fw;exists pp,_,Z,aj.of Qd,Z,_,_,Z,_,_,Z,Z;generalize upd H3 pp (.tup [.str ⟨#[cc]⟩,.str ⟨#[dd]⟩])=H4 at S4;rw[show(⟨#[cc]⟩:Str)=tx [cc]from rfl,show(⟨#[dd]⟩:Str)=tx [dd]from rfl];exists _,Z,Sum.inr (tx [cc]),Z,Z,_,Z;rw[j8,ss,ybl];cases tz:bC cc with
   |some d=>exact QW ⟨ps,Z,S3.trans S4,by rw[yaF,yac (by show ¬ place cc=true;unfold place;rw[tz];simp)];simpa using PR.keep S4⟩
   |none=>
    refine Q4 ⟨_,Z,_,Z,bA,λq hq=>?_⟩;have S5:=Qs.new (o:=.tup [.str (tx [cc]),.str (tx [dd])]) hq;exists ps++[q],by simp,(S3.trans S4).trans S5;rw[yaF,yaf (by show place cc=true;unfold place;rw[tz];rfl)];exact(PR.keep (S4.trans S5)).app Qd
  .rintro vs H3 ⟨ps,rfl,S3,PR⟩ pl mt;have Ga:(body.zip (t.drop Y.length)).length<=min (tx body).cps.size (tx (t.drop Y.length)).cps.size:=by rw[yel];simp
   rw[yaq Ga]at PR;have S4:=Qs.new (o:=.lst (ps.map V.ref)) mt;have gl:upd H3 pl (.lst (ps.map V.ref)) pl=some (.lst (ps.map V.ref)):=Qd;have Gb:=PR.keep S4;generalize upd H3 pl (.lst (ps.map V.ref))=H4 at S4 gl Gb;have Ls:=S3.trans S4;have hzl:((body.zip (t.drop Y.length)).filter λx=>place x.1).length<=61:=yas (yaL _ _) (by rw[yel];lia);exists Z;refine yr (K:=K) (p:=pl) (λx=>dg x.2) rfl rfl rfl (az.of gl) Gb (by lia) (λx hx Q h=>?_) (λq hq=>?_)
   .exists _,Z,_,_,Z,Z,_,Z;rw[YC,JG,ww];unfold dg at h
    by_cases hd:48<=x.2/\x.2<=57
    .rw[yaf hd]at h;rw[ly hd];exact Q4 ⟨_,Z,h⟩
    .rw[yac hd]at h;rw[lx hd];rw[<-Wo]at h;exact QW h
   .have l':((body.zip (t.drop Y.length)).filter λx=>place x.1).map (λx=>dg x.2)=bZ body (t.drop Y.length):=rfl;have RF:=RD body (t.drop Y.length);have DB:=V2 body (t.drop Y.length);refine⟨"",q,(bZ body (t.drop Y.length)).map λc=>tx [c],Z,Z,az.of (by rw[Qd, <-l',lT,lT];rfl),X5 (by lia),?_⟩;rw[ZI];have RG:=Qh (bZ body (t.drop Y.length));refine⟨tx (bZ body (t.drop Y.length)),Z,DB,by lia,?_⟩;have S5:=Qs.new (o:=.lst (((body.zip (t.drop Y.length)).filter λx=>place x.1).map λx=>V.str (tx [dg x.2]))) hq;generalize upd H4 q (.lst (((body.zip (t.drop Y.length)).filter λx=>place x.1).map λx=>V.str (tx [dg x.2])))=H5 at S5;have RH:NumText.digitsVal (tx (bZ body (t.drop Y.length))).cps.toList=dQ Y body t:=by rw[JD];rfl
    rw[RH];have hrm:=Vi body (t.drop Y.length);have RI:dQ Y body t<10^12:=yad (X3 DB) (yat (by lia) (by lia));unfold ow at kv kn;generalize RJ:dQ Y body t=u at*;have RK:=(AC.trans Ls).trans S5;clear PR Gb l' DB RF RG gl S1 S2 S3 S4 Ls S5 AC;refine⟨_,Z,_,Z,_,Z,bA,λtt Gd=>⟨tt,Z,⟨_,aj.of Qd⟩,?_⟩⟩;have S6:=Qs.new (o:=.tup [.int (u:Nat),.int (-(u:Nat))]) Gd;have g6:upd H5 tt (.tup [.int (u:Nat),.int (-(u:Nat))]) tt=some (.tup [.int (u:Nat),.int (-(u:Nat))]):=Qd;generalize upd H5 tt (.tup [.int (u:Nat),.int (-(u:Nat))])=H6 at S6 g6;have Lu:=RK.trans S6;refine qA (xs:=[.int (u:Nat),.int (-(u:Nat))]) (λi σ H7=>(∃sH,σ=[some (.str (tx (QU Y W N ac tail))),some (.str (tx t)),some (.ref p),some (.bl (sgn Y first tail)),some (.int (ay first W N:Nat)),some (.int (ac.length:Nat)),some (.str (tx Y)),some (.str (tx body)),some (.str (tx tail)),some (.ref pl),some (.int (u:Nat)),sH])/\Qs H6 H7/\(1<=i->bO Y body tail (fit ((u:Nat):Int) ac.length (ay first W N) ac.length)≠t)/\(2<=i->bO Y body tail (fit (-((u:Nat):Int)) ac.length (ay first W N) ac.length)≠t)) ⟨⟨none,Z⟩,Qs.refl _,λz=>absurd z (by lia),λz=>absurd z (by lia)⟩ ?_ ?_ ?_
    .rintro i σ H7 hi ⟨_,S7,_⟩;exact aj.of (S7 _ _ g6)
    .rintro i x σ H7 hi ⟨⟨sH,rfl⟩,S7,n1,n2⟩;obtain⟨v,rfl,Ge,hv⟩:∃v:Int,x=.int v/\v.natAbs<10^12/\(v=(u:Nat)/\i=0\/v= -(u:Nat)/\i=1):=by
      have Cd:i<2:=(yaj.mp hi).1
      match i,hi,Cd with
      |0,hi,_=>exact⟨_,(lB hi).symm,by lia,.inl ⟨Z,Z⟩⟩
      |1,hi,_=>exact⟨_,(lB hi).symm,by lia,.inr ⟨Z,Z⟩⟩
     refine⟨_,Z,_,Z,_,Z,bA,λpa iB=>?_⟩;have S8:=Qs.new (o:=.tup [.int v,.int (ac.length:Nat)]) iB;refine⟨QU Y W N ac tail,pa,v,ac.length,Z,hl,⟨aj.of Qd,yaD Ge (by lia),by lia,by lia⟩,.inr ⟨Y,first,W,N,ac,tail,Ee,hsz,Z,λH9 S9=>?_⟩⟩;rw[ce];exists _,Z,Z,_,Z;rw[XH];have AH:=((Lu.trans S7).trans S8).trans S9
     by_cases he:bO Y body tail (fit v ac.length (ay first W N) ac.length)=t
     .rw[ly he];refine Q4 ⟨_,Z,_,Z,bA,λqz Cu=>?_⟩;refine kv v ?_ qz _ (AH.trans (Qs.new Cu)) (J6 AH Cu) Qd;rcases hv with⟨rfl,rfl⟩|⟨rfl,rfl⟩
      .rw[yaf he]
      .rw[yac (n1 (by lia)),yaf he]
     .rw[lx he];refine QW ⟨⟨_,Z⟩,(S7.trans S8).trans S9,λz=>?_,λz=>?_⟩
      .rcases hv with⟨rfl,rfl⟩|⟨rfl,rfl⟩
       .exact he
       .exact n1 (by lia)
      .rcases hv with⟨rfl,rfl⟩|⟨rfl,rfl⟩
       .exact absurd z (by lia)
       .exact he
    .rintro σ H7 ⟨⟨sH,rfl⟩,S7,n1,n2⟩;exact⟨bN,kn (by rw[yac (n1 (show 1<=2 by lia)),yac (n2 (show 2<=2 by lia))]) _ (Lu.trans S7)⟩
  .show min (tx body).length _<sizeLine;lia
def wy(x:Facts):Prop:=x.kind=2/\1<=x.before+x.behind/\x.before+x.behind<=18
def Lv(l:List Nat):Prop:=∀x,Q9 l=some x->x.kind≠2
def wz(K:Frag)(c:Nat->Addr):Sp:=λvs H Q E=>∃(l:List Nat)(p:Addr)(u o:Int),vs=[.str (tx l),.ref p]/\l.length<=500/\oq K H p u o/\
 ((Lv l/\∀H',Qs H H'->E (.ref (c 2)) none H')\/∃x,Q9 l=some x/\wy x/\∀H',Qs H H'->Q (.str (tx (cont x.signed x.before x.behind u o))) H')
theorem Gf(h:n<10^k)(hk:k<=18):n<10^18:=yad h (yat (by lia) hk)
theorem WM(i:Int):(if i<0 then-i else i)=((i.natAbs:Nat):Int):=by split<;>lia
theorem Ui(F:aA K "content_of" "content_of" Xl f fd)(O:Own mg)(T:Txt K mg tk c kr)(hV:Def P w K mg M 6 "understood_as" ["kind","picture"] (WK K c))(mS:Def P w K mg M 3 "fitted" ["amount","before","behind"] (yk K))(gx:Def P w K mg M 2 "figures_of" ["number"] qe):
  ag P w K mg M (ao P w) 7 f fd ["picture","amount"] (wz K c):=by
 refine eB F JU (λvs H Q E h=>?_) (λad A L s H vs Q E hr h=>?_)
 .obtain⟨l,p,u,o,rfl,_⟩:=h;rfl
 .obtain⟨l,p,u,o,rfl,hl,qMa,hc⟩:=h;have hz:=zza
  have fr:=Zy (P:=P) (w:=w) (K:=K) (mg:=mg) (M:=M) (N:=["picture","amount","rows","signed","before","behind","units","figures"]) (qual:="content_of") (scope:=Qe Xl) (f:=f) (cd:=ad) (A:=A) (L:=L) (s:=s) (H:=H) (E:=E);have hx:=Jb fr;refine⟨_,(Qj (Jk (hV.pq hr hx (Qa Qc (Qa (pv 0) Qb))) (Q5 Z (Qf (Z' 2 JU.nd) (Qf (Q5 Z (Qf (Z' 3 JU.nd) (Qf (Z' 4 JU.nd) (Qf (Z' 5 JU.nd) QD)))) QD))))
   (Qj (QN (i:=6) JU.nd Z (Or.inl Z) (mS.pq hr hx (Qa (pv 1) (Qa (pv 4) (Qa (pv 5) Qb)))))
   (Qj (QN (i:=7) JU.nd Z (Or.inl Z) (Zd yaA ydG ydH Vd (gx.pq hr hx (Qa (Qq ZU Z O.abs ydC (Qa (pv 6) Qb)) Qb)) (Qa (QI JK (pv 4) (pv 5)) Qb)))
   (Qj (JP (PW.pt (Jn (Je (pv 3) (λ_=>rfl)) (Jd (Ql K9 (pv 6) Qi (Qn _))))) (Qp (QG (QI Qo (QZ J2 (pv 7) Ju (Q2 (KK Z0 Qi))) (QS Z1 (QC (v:=V.str "pqrstuvwxy") Z T.gD ⟨_,Z⟩) (Jh Jg Z O.int ycU (Qa (QS Z1 (pv 7) (KK Z0 Qi) (λ_ _=>rfl)) Qb)) (λ_ _=>rfl))))) QQ)
   (Qp (QG (pv 7))))))),?_⟩
  rcases hc with⟨de,k⟩|⟨x,Fk,⟨ox,h1,Tk⟩,k⟩
  .exact⟨_,Z,l,2,Z,hl,by lia,λ_=>k,λx hp hk=>absurd hk (de x hp)⟩
  refine⟨_,Z,l,2,Z,hl,by lia,(λz=>absurd ox (z x Fk).2),λx' hp _ q p1 rs r H1 S1 g1 g2 R1=>?_⟩;obtain rfl:x=x':=lB (Fk.symm.trans hp);exists q,_,Z,aj.of g1,Z,_,_,Z,_,_,Z,r,_,Z,aj.of g2,Z,_,_,Z,_,_,Z,_,_,Z,Z,Z;refine⟨_,Z,_,Z,_,Z,p,u,o,x.before,x.behind,Z,qMa.same S1,Tk,λH2 S2=>?_⟩;have iH:=qd u o x.before x.behind;generalize oY:fit u o x.before x.behind=v at iH;have k:∀H',Qs H H'->Q (.str (tx (if x.signed=true/\v<0 then WJ (pad v.natAbs (x.before+x.behind))else pad v.natAbs (x.before+x.behind)))) H':=λH' S=>by
   have:=k H' S;unfold cont at this;rw[oY]at this;exact this
  have sI:x.before+x.behind<=1000:=by lia
  have ol:((x.before:Nat):Int)+((x.behind:Nat):Int)=((x.before+x.behind:Nat):Int):=by lia
  generalize x.before+x.behind=n at h1 Tk iH k sI ol;have ut:=XB iH h1;have lm:=Kg v.natAbs n;have du:=wb v.natAbs n;have RL:=VW v.natAbs h1;refine⟨_,Z,v,Z,v.natAbs,by rw[WM];rfl,Gf iH Tk,λH3 S3=>⟨Z,_,Z,_,Z,_,_,Z,Z,tx (dec v.natAbs),((x.before:Nat):Int)+((x.behind:Nat):Int),Z,Z,Xa (by lia) (by lia),?_⟩⟩;rw[ol,RL];generalize pad v.natAbs n=pl at k ut lm du;have TW:=(S1.trans S2).trans S3;have ci:=Qh pl;exists _,Z,x.signed,Z;cases AF:x.signed with
  |false=>
   rw[AF]at k;exact QW (QW ⟨_,Z,k _ TW⟩)
  |true=>
   rw[AF]at k;refine Q4 ⟨_,Z,_,_,Z,Z,_,Z,?_⟩
   by_cases hv:v<0
   .rw[ly hv];have k:=k H3 TW;rw[yaf ⟨Z,hv⟩]at k;obtain⟨d,bP,hd2⟩:=ZC du;have oy:NumText.AllDigits [d]:=λz hz=>lm z (by rw[bP];exact lE _ hz);have pr:=oy d (yak.mpr Z);refine Q4 ⟨_,Z,_,Z,_,Z,tx pl,Z,by lia,?_⟩;rw[Ks];have sJ:ck pl (-1)=some d:=by
     rw[bP];exact Kl _ _
    refine⟨_,Z,_,Z,tx pl, -1,d,Z,Z,by lia,sJ,tx [d],_,Z,ybG oy (by simp) (by rw[Qh];simp),by rw[Qh];simp,?_⟩;exists "pqrstuvwxy",_,d+64,Z,Z,by rfl',?_,_,_,Z,Z,?_
    .show ck ("pqrstuvwxy":Str).cps.toList ((NumText.digitsVal [d]:Nat):Int)=_;rw[PX oy];exact Zc (Lb d (by lia) (by lia))
    .show(tx pl.dropLast).length+(tx [d+64]).length<=sizeLine;rw[Qh,Qh,yaN];simp;lia
    .show Q (.str (tx pl.dropLast++tx [d+64])) H3;rw[QR];have e:WJ pl=pl.dropLast++[d+64]:=by unfold WJ;rw[hd2];rfl
     rw[e]at k;exact k
   .rw[lx hv];have k:=k H3 TW;rw[yac (λz=>hv z.2)]at k;exact QW ⟨_,Z,k⟩
theorem RM{i:Nat}{c:Bool}(hσ:σ[i]? =some (some (.bl c)))(Good:V->Hp->Prop)(hT:c=true->(∀v H',Good v H'->Q v H')->tb σ H Q) (hF:c=false->Good (.bl false) H) (rest:∀v H',Good v H'->Q v H'):w4 (ZN i) tb σ H Q:=by
 exists _,hσ,c,Z;cases c with
 |true=>rw[yaf rfl];exact hT rfl rest
 |false=>rw[yac (by lia)];exact rest _ _ (hF Z)
def Uj(K:Frag)(c:Nat->Addr):Sp:=λvs H Q E=>∃(l t:List Nat),vs=[.str (tx l),.str (tx t)]/\l.length<=500/\t.length<=100/\
 ((Lv l/\∀H',Qs H H'->E (.ref (c 2)) none H')\/∃x,Q9 l=some x/\wy x/\
  (¬ VX x.signed x.before x.behind t->∀H',Qs H H'->E (.ref (c 5)) none H')/\(VX x.signed x.before x.behind t->∀q H',Qs H H'->H q=none->H' q=some (.tup [.int (Jj x.signed t),.int (x.behind:Nat)])->Q (.ref q) H'))
theorem yt(h1:112<=d)(h2:d<=121):Txt.find "pqrstuvwxy" (tx [d])=((d-112:Nat):Int):=by
 have key:∀k:Nat,k<10->Txt.find "pqrstuvwxy" (tx [k+112])=((k:Nat):Int):=by rfl'
 have:=key (d-112) (by lia);rw[show d-112+112=d by lia]at this;exact this
theorem RN(h:k<10):("0123456789":Str).cps.toList[k]? =some (k+48):=by
 have key:∀k:Nat,k<10->("0123456789":Str).cps.toList[k]? =some (k+48):=by rfl'
 exact key k h
theorem wA(h:([112,113,114,115,116,117,118,119,120,121]:List Nat).contains d=true):112<=d/\d<=121:=(by decide:∀d∈([112,113,114,115,116,117,118,119,120,121]:List Nat),112<=d/\d<=121) d (yai.mp h)
theorem qj(F:aA K "amount_in" "amount_in" XQ f fd)(O:Own mg)(T:Txt K mg tk c kr)(hV:Def P w K mg M 6 "understood_as" ["kind","picture"] (WK K c))(gu:Def P w K mg M 1 "is_figures" ["text"] VP)(gf:Def P w K mg M 2 "number_of" ["text"] zX):
  ag P w K mg M (ao P w) 7 f fd ["picture","content"] (Uj K c):=by
 refine eB F JH (λvs H Q E h=>?_) (λad A L s H vs Q E hr h=>?_)
 .obtain⟨l,t,rfl,_⟩:=h;rfl
 .obtain⟨l,t,rfl,hl,RO,hc⟩:=h;have hz:=zza
  have fr:=Zy (P:=P) (w:=w) (K:=K) (mg:=mg) (M:=M) (N:=["picture","content","rows","signed","before","behind","last","is_below","figures","units"]) (qual:="amount_in") (scope:=Qe XQ) (f:=f) (cd:=ad) (A:=A) (L:=L) (s:=s) (H:=H) (E:=E);have ht:=Zg fr;have hx:=Jb fr;refine⟨_,(Qj (Jk (hV.pq hr hx (Qa Qc (Qa (pv 0) Qb))) (Q5 Z (Qf (Z' 2 JH.nd) (Qf (Q5 Z (Qf (Z' 3 JH.nd) (Qf (Z' 4 JH.nd) (Qf (Z' 5 JH.nd) QD)))) QD))))
   (Qj (JP (Ql Xd (Qq QH Z O.len yaK (Qa (pv 1) Qb)) (QI JK (pv 4) (pv 5)) (Qn _)) (Qp (ZD ht Z Z T.gU T.mD (Qa Qc Qb))) QQ)
   (Qj (QN (i:=6) JH.nd Z (Or.inl Z) (QS Z1 (pv 1) (KK Z0 Qi) (λ_ _=>rfl)))
   (Qj (QN (i:=7) JH.nd Z (Or.inl Z) (Uw (pv 3) (Uv (J0 Jo (pv 6) (QC (v:=V.str "pqrstuvwxy") Z T.gD ⟨_,Z⟩) (by with_unfolding_all rfl)))))
   (Qj (QN (i:=8) JH.nd Z (Or.inl Z) (Jm (Je (pv 7) (λ_=>rfl)) (QI Qo (QZ J2 (pv 1) Ju (Q2 (KK Z0 Qi))) (QS Z1 (QC (v:=V.str "0123456789") Z T.gO ⟨_,Z⟩) (Zd yaA slot_str_find type_str_find xZ (QC (v:=V.str "pqrstuvwxy") Z T.gD ⟨_,Z⟩) (Qa (pv 6) Qb)) (λ_ _=>rfl))) (pv 1)))
   (Qj (JP (Kz (WT (gu.pq hr hx (Qa (pv 8) Qb)))) (Qp (ZD ht Z Z T.gU T.mD (Qa Qc Qb))) QQ)
   (Qj (QN (i:=9) JH.nd Z (Or.inl Z) (gf.pq hr hx (Qa (pv 8) Qb)))
   (Qp (QG (Jf (Qa (Jm (Je (pv 7) (λ_=>rfl)) (KK Z0 (pv 9)) (pv 9)) (Qa (pv 5) Qb)))))))))))),?_⟩
  rcases hc with⟨de,k⟩|⟨x,Fk,⟨ox,h1,Tk⟩,kE,kQ⟩
  .exact⟨_,Z,l,2,Z,hl,by lia,λ_=>k,λx hp hk=>absurd hk (de x hp)⟩
  refine⟨_,Z,l,2,Z,hl,by lia,(λz=>absurd ox (z x Fk).2),λx' hp _ q p1 rs r H1 S1 g1 g2 R1=>?_⟩;obtain rfl:x=x':=lB (Fk.symm.trans hp);exists q,_,Z,aj.of g1,Z,_,_,Z,_,_,Z,r,_,Z,aj.of g2,Z,_,_,Z,_,_,Z,_,_,Z,Z,Z;have ci:=Qh t;have ol:((x.before:Nat):Int)+((x.behind:Nat):Int)=((x.before+x.behind:Nat):Int):=by lia
  exists _,Z,tx t,Z,by lia,_,Z,_,Z,_,_,Z,Z,Z,_,Z;rw[xV,ci]
  by_cases hlen:t.length=x.before+x.behind
  .rw[lx (by rw[ol];lia)];have sL:t≠[]:=λz=>by rw[z]at hlen;simp at hlen;lia
   obtain⟨d,bP,hd2⟩:=ZC sL;have sJ:ck t (-1)=some d:=by
    rw[bP];exact Kl _ _
   refine QW ⟨_,Z,_,Z,tx t, -1,d,Z,Z,by lia,sJ,?_⟩;have cE:JY x.signed t=(x.signed&&([112,113,114,115,116,117,118,119,120,121]:List Nat).contains d):=by unfold JY;rw[hd2];rfl
   dsimp only[JI,Wt,Wu];refine RM (c:=x.signed) rfl (λv H'=>v=.bl (JY x.signed t)/\H'=H1) (λz rest=>?_) (λz=>?_) ?_
   .refine⟨_,Z,_,_,Z,Z,rest _ _ ⟨?_,Z⟩⟩;rw[show(⟨#[d]⟩:Str)=tx [d]from rfl,PV,JG,cE,z];rfl
   .exact⟨by rw[cE,z];rfl,Z⟩
   rintro v H2 ⟨rfl,rfl⟩;exists _,Z,_,Z;have ev:(Jt x.signed t).length=t.length:=by
    unfold Jt
    split
    .rw[lq,yaN];simp;lia
    .rfl
   refine JB (λv H'=>v=.str (tx (Jt x.signed t))/\H'=H2) (λz rest=>?_) (λz rest=>?_) ?_
   .have DW:=wA (d:=d) (by rw[cE]at z;exact(ydc.mp z).2);refine⟨_,Z,_,Z,_,Z,tx t,Z,by lia,?_⟩;rw[Ks];exists Z,_,Z,"pqrstuvwxy",tx [d],Z,Z,trivial;exists "0123456789",((d-112:Nat):Int),d-112+48,Z,yaI V.int (yt DW.1 DW.2),by rfl',Zc (RN (by lia)),_,_,Z,Z,?_
    .show(tx t.dropLast).length+(tx [d-112+48]).length<=sizeLine;rw[Qh,Qh,yaN];simp;lia
    .show _;refine rest _ _ ⟨?_,Z⟩;show V.str (tx t.dropLast++tx [d-112+48])=_;rw[QR];unfold Jt;rw[yaf z,hd2];show V.str (tx (t.dropLast++[d-112+48]))=V.str (tx (t.dropLast++[d-64]));rw[show d-112+48=d-64 by lia]
   .exact⟨_,Z,rest _ _ ⟨by unfold Jt;rw[yac (by rw[z];lia)],Z⟩⟩
   rintro v H3 ⟨rfl,rfl⟩;have RP:=Qh (Jt x.signed t);exists _,Z,tx (Jt x.signed t),Z,by lia,_,Z;rw[JD];have fq:Jt x.signed t≠[]:=λz=>by rw[z]at ev;simp at ev;lia
   by_cases cF:NumText.AllDigits (Jt x.signed t)
   .rw[ly ⟨fq,cF⟩];refine QW ⟨_,Z,tx (Jt x.signed t),Z,cF,by lia,?_⟩;rw[JD];exists _,Z,_,Z;have fin:∀H',H'=H3->Q=Q->(∀q,H' q=none->Q (.ref q) (upd H' q (.tup [.int (Jj x.signed t),.int (x.behind:Nat)]))):=by
     rintro H' rfl _ q hq;refine kQ ⟨hlen,cF⟩ q _ (S1.trans (Qs.new hq)) ?_ Qd;cases e:H q with
     |none=>rfl
     |some o=>rw[S1 _ _ e]at hq;cases hq
    refine JB (λv H'=>v=.int (Jj x.signed t)/\H'=H3) (λz rest=>?_) (λz rest=>?_) ?_
    .exact⟨_,Z,_,Z,rest _ _ ⟨by unfold Jj;rw[yaf z],Z⟩⟩
    .exact⟨_,Z,rest _ _ ⟨by unfold Jj;rw[yac (by rw[z];lia)],Z⟩⟩
    rintro v H4 ⟨rfl,rfl⟩;exact⟨_,Z,bA,fin _ rfl rfl⟩
   .rw[lx λz=>cF z.2];exact Q4 ⟨bN,kE (λz=>cF z.2) _ S1⟩
  .rw[ly (by rw[ol];lia)];exact Q4 ⟨bN,kE (λz=>hlen z.1) _ S1⟩
def qk(c:Nat->Addr):Sp:=λvs H Q E=>∃l:List Nat,vs=[.str (tx l)]/\l.length<=500/\(Q9 l=none->∀H',Qs H H'->E (.ref (c 1)) none H')/\(∀x,Q9 l=some x->∀H',Qs H H'->Q (.str (kindS x.kind)) H')
theorem xg(F:aA K "kind_of" "kind_of" Wk f fd)(gv:Def P w K mg M 6 "understood" ["picture"] (VU K c)):ag P w K mg M (ao P w) 7 f fd ["picture"] (qk c):=by
 refine eB F WD (λvs H Q E h=>?_) (λad A L s H vs Q E hr h=>?_)
 .obtain⟨l,rfl,_⟩:=h;rfl
 .obtain⟨l,rfl,hl,k1,k2⟩:=h;have fr:=Zy (P:=P) (w:=w) (K:=K) (mg:=mg) (M:=M) (N:=["picture","rows","facts"]) (qual:="kind_of") (scope:=Qe Wk) (f:=f) (cd:=ad) (A:=A) (L:=L) (s:=s) (H:=H) (E:=E);have hx:=Jb fr;refine⟨_,(Qj (Jk (gv.pq hr hx (Qa (pv 0) Qb)) (Q5 Z (Qf (Z' 1 WD.nd) (Qf (Z' 2 WD.nd) QD))))
   (Qp (QG (QS Jl (pv 2) Qi (λ_ _=>rfl))))),?_⟩
  refine⟨_,Z,l,Z,hl,k1,λx e q p rs r H1 S1 g1 g2 R1=>?_⟩;exact⟨q,_,Z,aj.of g1,Z,_,_,Z,_,_,Z,Z,_,Z,r,_,_,_,Z,Z,aj.of g2,Z,k2 x e H1 S1⟩
end
end Lw
namespace L2
open PySem PySem.Spec PyProof.Rows
open Builtin Builtin.Str
section
theorem yu:cu X "str.ljust" (λx vs H Q=>∃z i,x=.str z/\vs=[.int i]/\PadOk i=true/\Q (.str (Txt.ljust z i)) H):=by
 intro U s σ H x vs v us Q I rx rv h;obtain⟨z,i,rfl,rfl,hp,q⟩:=h;obtain⟨t,rfl⟩:=rx;obtain⟨u,rfl,t',rfl⟩:=vals1 rv;exact yck F.slot_str_ljust F.entry_str_ljust (F.args_str_ljust_2 _ _) (gives_str_ljust z i t t' (yce hp).1 (yce hp).2) (ycv (fits_padR 32 (yce hp).2) λt2 k=>⟨.str _,H,I.tok k,⟨t2,Z⟩,q⟩)
theorem yw:cu X "str.rjust" (λx vs H Q=>∃z i,x=.str z/\vs=[.int i]/\PadOk i=true/\Q (.str (Txt.rjust z i)) H):=by
 intro U s σ H x vs v us Q I rx rv h;obtain⟨z,i,rfl,rfl,hp,q⟩:=h;obtain⟨t,rfl⟩:=rx;obtain⟨u,rfl,t',rfl⟩:=vals1 rv;exact yck F.slot_str_rjust F.entry_str_rjust (F.args_str_rjust_2 _ _) (gives_str_rjust z i t t' (yce hp).1 (yce hp).2) (ycv (fits_padL 32 (yce hp).2) λt2 k=>⟨.str _,H,I.tok k,⟨t2,Z⟩,q⟩)
end
inductive bF (w:World):List DictEntry->List (Key × V)->Prop where
 |nil:bF w [] []
 |cons {h:Int} {x:Str} {a:Addr} {t:Tok} {es:List DictEntry} {al:List (Key × V)} (e:h=oK w (.inr x)) (r:bF w es al):bF w (⟨h,.str x t,.ref a⟩::es) ((Sum.inr x,.ref a)::al)
theorem bF.pairs{al:List (Key × V)}(h:bF w es al):∃vs,KV al vs/\Pairs (JA P w) es vs/\vs.map (·.1)=al.map (·.1)/\∀e∈es,∃k,(JA P w).is k e.key=true/\e.hash=oK w k:=by
 induction h with
 |nil=>exact⟨[],.nil,.nil,Z,λe he=>by cases he⟩
 |@cons hh x a t es al e r ih=>
  obtain⟨vs,h1,h2,h3,h4⟩:=ih;refine⟨(Sum.inr x,.ref a)::vs,.cons ⟨Z,Z⟩ h1,.cons (JS P w x t) rfl h2,by rw[lU,lU,h3],λq hq=>?_⟩;rcases yag.mp hq with rfl|hq
  .exact⟨_,JS P w x t,e⟩
  .exact h4 q hq
theorem wB{K:Frag}{n:Nat}{al:List (Key × V)}(ne:(a==sysModules)=false)(l:K.lookup a=some ⟨.type "dict",none,.dict es n, #[]⟩)(h:bF w es.toList al)(nd:(al.map (·.1)).Nodup):aB P w K a al:=by
 obtain⟨vs,h1,h2,h3,h4⟩:=h.pairs (P:=P);exact⟨ne,λhp KX=>⟨vs,h1,_,_,_,KX a _ l,⟨Z,Z,Z⟩,Z,λe he=>h4 e (by simpa using he),h2,by rw[h3];exact nd⟩⟩
theorem yx{fd:FuncData}{args:Args}{binds:List (Str × Value)}{kd:Addr}{name:Str}(h1:bindArgs fd args=nsGet kd name>>=k)(hn:s.heap.Ns kd m)(hv:m name=some v)(h2:k (some v)=pure binds):BindsTo s fd args binds:=
 λ_ _ _ _ hq=>by
  rw[h1];refine yab (wpAny_nsGet hn ?_);rw[hv,h2];exact yan hq
structure fu(P:Program)(w:World)(K:Frag)(mg:Str->Option Value)(M:Heap)(k:Nat)(x:Str)(ps:List Str)(dv:V)(sp:Sp):Prop where
 ex:∃f fd d,mg x=some (.ref f)/\keepIn K (.ref f)=true/\Binds K fd ps [d]/\RelV dv d/\ag P w K mg M (ao P w) k f fd ps sp
noncomputable def oz{α:Type}:List α->List α->List α
 |[a,b,c],[d]=>[a,b,c,d]
 |_,_=>[]
theorem RQ{vs zs:List V}{us ws:List Value}(r:Vals vs us)(r2:Vals zs ws):Vals (oz vs zs) (oz us ws):=by
 match r,r2 with
 | .cons a (.cons b (.cons c .nil)),.cons d .nil=>exact .cons a (.cons b (.cons c (.cons d .nil)))
 | .nil,_=>exact .nil
 | .cons _ .nil,_=>exact .nil
 | .cons _ (.cons _ .nil),_=>exact .nil
 | .cons _ (.cons _ (.cons _ (.cons _ _))),_=>exact .nil
 | .cons _ (.cons _ (.cons _ .nil)),.nil=>exact .nil
 | .cons _ (.cons _ (.cons _ .nil)),.cons _ (.cons _ _)=>exact .nil
theorem RS{us ws:List α}(h:(oz us ws).length=4):∃a b c d,us=[a,b,c]/\ws=[d]:=by
 match us,ws,h with
 |[a,b,c],[d],_=>exact⟨a,b,c,d,Z,Z⟩
structure bL(P:Program)(w:World)(K:Frag)(mg:Str->Option Value)(M:Heap)(k:Nat)(x:Str)(ps ks:List Str)(sp:Sp):Prop where
 ex:∃f fd,mg x=some (.ref f)/\keepIn K (.ref f)=true/\cq K fd ps ks oz oz/\ag P w K mg M (ao P w) k f fd ps sp
section
variable {X:Cx}{k k':Nat}{x:Str}{ps ks:List Str}{dv:V}{sp:Sp}{E:XK}{p pos:Pos}{e:Expr}{es:List Expr}{t tk:TA}{Ty:List Keyword}
theorem fu.pe(D:fu X.prog X.w X.K X.mg X.M k x ps dv sp)(hr:aq k' X.A)(hk:k<=k')(hg:Gl X x)(hx:Passes (ao X.prog X.w) X E)(ha:PA X (e::es) t)(pr:(x==("__debug__":Str))=false:=by lia)
  (he:starEach (e::es) X.env=(false,eval e X.env)::starEach es X.env:=by rfl) (mt:(backTo pos (starEach es X.env)).any (·.1)=false:=by rfl):PE X (.Call (.Name x p) (e::es) [] pos) (Wx sp [dv] E t):=by
 obtain⟨f,fd,d,h1,h2,h3,h5,h4⟩:=D.ex;exact xE h4 (hr.mono hk) hg h1 h2 h3 (.cons h5 .nil) hx ha pr he mt
theorem bL.pe(D:bL X.prog X.w X.K X.mg X.M k x ps ks sp)(hr:aq k' X.A)(hk:k<=k')(hg:Gl X x)(hx:Passes (ao X.prog X.w) X E)(ha:PA X (e::es) t)(EG:PK X Ty tk)
  (lv:(backToKw pos (keywordEach Ty X.env)).all (·.1.isSome)=true:=by rfl) (EH:(backToKw pos (keywordEach Ty X.env)).filterMap (·.1)=ks:=by rfl)
  (pr:(x==("__debug__":Str))=false:=by lia) (he:starEach (e::es) X.env=(false,eval e X.env)::starEach es X.env:=by rfl)
  (mt:((backTo pos (starEach (e::es) X.env)).any (·.1)||(backToKw pos (keywordEach Ty X.env)).any (·.1.isNone))=false:=by rfl):
  PE X (.Call (.Name x p) (e::es) Ty pos) (jC sp oz E t tk):=by
 obtain⟨f,fd,h1,h2,h3,h4⟩:=D.ex;exact ve h4 (hr.mono hk) hg h1 h2 h3 hx ha EG lv EH pr he mt
end
theorem Lx{K:Frag}{x:Str}(X:K.In h)(G:h.Ns N m)(e:nsIn K N x=some (some v)):m x=some v:=by
 obtain⟨o,es,ep,ho,hd,_,hf⟩:=G;unfold nsIn at e
 split at e
 .rename_i c d es2 n2 sl q;have z:=X _ _ q;rw[ho]at z;cases z;cases hd
  split at e
  .rename_i en he;cases e;rw[<-hf];unfold nsFind findBy;rw[<-Array.find?_toList,he];rfl
  .split at e<;>cases e
 .cases e
structure aY(K:Frag)(x:Str)(st:Stmt)(nm:Str)(v:Value):Prop where
 ex:∃(f kd:Addr)(oc:Value)(od:Option Addr)(doc pm:Value)(an:Option Addr)(ad ct:Value)(on:Array (Option Value)),nsIn K mainGlobals x=some (some (.ref f))/\
  K.lookup f=some ⟨oc,od,.func (fnOf x x (J1 st) (QK st) (Qe st) .none (.ref kd) doc pm an ad ct),on⟩/\codeIn K ad x=true/\keepIn K (.ref f)=true/\nsOkIn K kd=true/\nsIn K kd nm=some (some v)
theorem wC{K:Frag}{x:Str}{st:Stmt}{nm:Str}{f kd:Addr}{od an:Option Addr}{on:Array (Option Value)}{doc pm ad ct:Value}(a:nsIn K mainGlobals x=some (some (.ref f)))
  (l:K.lookup f=some ⟨oc,od,.func (fnOf x x (J1 st) (QK st) (Qe st) .none (.ref kd) doc pm an ad ct),on⟩) (c:codeIn K ad x=true) (k:keepIn K (.ref f)=true) (n:nsOkIn K kd=true) (d:nsIn K kd nm=some (some v)):aY K x st nm v:=
 ⟨f,kd,oc,od,doc,pm,an,ad,ct,on,a,l,c,k,n,d⟩
section
variable {P:Program}{w:World}{K:Frag}{mg:Str->Option Value}{M h:Heap}{x:Str}{st:Stmt}{k:Nat}{sp:Sp}
theorem aY.RT{v0:Value}(D:aY K x st p4 v0)(X:K.In h)(G:h.Ns mainGlobals mg)(ai:∀f fd,aA K x x st f fd->ag P w K mg M (ao P w) k f fd [p1,p2,p3,p4] sp)
  (hb:∀(kV doc pm:Value)(an:Option Addr)(ad ct:Value)(u1 u2 u3 v:Value),bindArgs (fnOf x x (J1 st) (QK st) (Qe st) .none kV doc pm an ad ct) ⟨[u1,u2,u3],[(p4,v)]⟩=pure [(p1,u1),(p2,u2),(p3,u3),(p4,v)]):bL P w K mg M k x [p1,p2,p3,p4] [p4] sp:=by
 obtain⟨f,kd,oc,od,doc,pm,an,ad,ct,on,a,l,c,kp,n,d⟩:=D.ex;refine⟨f,_,mg_of X G a,kp,⟨λs us ws _ hl=>?_,RQ⟩,ai f _ ⟨⟨oc,od,.ref kd,doc,pm,an,ad,ct,on,Z,l,c⟩,kp⟩⟩;obtain⟨u1,u2,u3,v,rfl,rfl⟩:=RS hl;exact .of_eq (hb (.ref kd) doc pm an ad ct u1 u2 u3 v)
end
end L2
namespace AI
open bj aQ bY aJ
noncomputable def ba(t:List Nat)(n:Nat)(b:Bool):List Nat:=if b=true then replicate (n-t.length) 32++t.drop (t.length-n)else t.take n++replicate (n-t.length) 32
inductive Bx
 |num (s:Bool) (a b:Nat)
 |aV (Y:List Nat) (first:Nat) (W N ac tail:List Nat)
 |aH (n:Nat)
 |txt (n:Nat)
noncomputable def kd:Bx->Nat
 | .num .. =>2
 | .aV .. =>3
 | .aH _=>1
 | .txt _=>0
noncomputable instance (s:Bool)(a b:Nat)(l:List Nat):Decidable (VX s a b l):=by unfold VX PySem.NumText.AllDigits;infer_instance
noncomputable def sp(t:List Nat):List Nat:=(PySem.Txt.stripChars (tx t) " ").cps.toList
def xh(t:List Nat):Prop:=t≠[]/\PySem.NumText.AllDigits t/\t.length<=18
noncomputable instance (l:List Nat):Decidable (xh l):=by unfold xh PySem.NumText.AllDigits;infer_instance
noncomputable def KH:Bx->List Nat->Option (Int × Nat)
 | .num s a b,t=>if VX s a b t then some (Jj s t,b)else none
 | .aV Y first W N ac tail,t=>(ow Y (W++N++Qm ac) tail (ay first W N) ac.length t).map λu=>(u,ac.length)
 | .txt _,t=>if xh (sp t)then some ((PySem.NumText.digitsVal (sp t):Nat),0)else none
 | .aH _,_=>none
noncomputable def AJ:Bx->Int->Nat->List Nat
 | .num s a b,u,o=>cont s a b u o
 | .aV Y first W N ac tail,u,o=>bO Y (W++N++Qm ac) tail (fit u o (ay first W N) ac.length)
 |_,_,_=>[]
noncomputable def wW:Nat->Nat->Bool
 |2,1=>false
 |3,1=>false
 |1,2=>false
 |1,3=>false
 |_,_=>true
noncomputable def bV(c:Nat):Bool:=c==32||(decide (97<=c)&&decide (c<=122))||(decide (65<=c)&&decide (c<=90))
inductive Rs
 |ok (t:List Nat)
 |er (k:Nat)
noncomputable def sz:Bx->Nat
 | .aH n=>n
 | .txt n=>n
 |_=>0
noncomputable def cg:Bx->List Nat->Rs
 | .num s a b,t=>if 0<b then .er 7 else match KH (.num s a b) t with|none=>.er 5|some (u,_)=>.ok (pad u.natAbs a)
 |_,t=>.ok t
noncomputable def bG(x y:Bx)(rt:Bool)(t:List Nat):Rs:=
 if wW (kd x) (kd y)=false then .er 7
 else if 2<=kd y then match KH x t with|none=>.er 5|some (u,o)=>.ok (AJ y u o)
 else match cg x t with
  | .er k=>.er k
  | .ok m=>if kd y=1/\(ba m (sz y) rt).all bV=false then .er 6 else .ok (ba m (sz y) rt)
end AI
namespace Lw
open PySem PySem.Spec PyProof.Rows L2 bj aQ bY aJ AI
open Builtin Builtin.Str StrLaws
noncomputable def DX(r0 r1 r2 r3:Addr):List (Key × V):=[(Sum.inr "number",.ref r0),(Sum.inr "edited",.ref r1),(Sum.inr "text",.ref r2),(Sum.inr "letters",.ref r3)]
theorem RU(l:List Nat)(n:Nat):Txt.rjust (tx l) (n:Int)=tx (replicate (n-l.length) 32++l):=by
 unfold Txt.rjust;have h:=Qh l
 split
 .rename_i hc;rw[show n-l.length=0 by lia];rfl
 .rw[lZ,h];unfold padded tx;simp
theorem RV(l:List Nat)(n:Nat):Txt.ljust (tx l) (n:Int)=tx (l++replicate (n-l.length) 32):=by
 unfold Txt.ljust;have h:=Qh l
 split
 .rename_i hc;rw[show n-l.length=0 by lia];simp
 .rw[lZ,h];unfold padded tx;simp
theorem xi(z:Str)(a b:Nat):(strSub z a b).length<=z.length:=by
 have e:(strSub z a b).length=(strSub z a b).cps.toList.length:=rfl;rw[e,strSub_toList,lI,lJ];have e2:z.length=z.cps.toList.length:=rfl;rw[e2];lia
theorem Ly(t:List Nat):Txt.stripChars (tx t) " "=tx (sp t):=Ye _
theorem wD(t:List Nat):(sp t).length<=t.length:=by
 have e:(sp t).length=(Txt.stripChars (tx t) " ").length:=rfl;rw[e];unfold Txt.stripChars Txt.stripBy stripSame stripped;rw[<-Qh t]
 split
 .exact lA _
 .exact xi _ _ _
theorem YD:∀c:Nat,("abcdefghijklmnopqrstuvwxyzABCDEFGHIJKLMNOPQRSTUVWXYZ ":Str).cps.contains c=bV c:=by
 intro c;have key:∀c:Nat,c<128->("abcdefghijklmnopqrstuvwxyzABCDEFGHIJKLMNOPQRSTUVWXYZ ":Str).cps.contains c=bV c:=by rfl'
 by_cases h:c<128
 .exact key c h
 .have e:bV c=false:=by
   unfold bV;rw[lx (show ¬ c<=122 by lia),lx (show ¬ c<=90 by lia),ybh,ybh,ydd,ydd];exact beq_false_of_ne (by lia)
  rw[e];cases g:("abcdefghijklmnopqrstuvwxyzABCDEFGHIJKLMNOPQRSTUVWXYZ ":Str).cps.contains c with
  |false=>rfl
  |true=>
   exfalso;have all:("abcdefghijklmnopqrstuvwxyzABCDEFGHIJKLMNOPQRSTUVWXYZ ":Str).cps.toList.all (λc=>decide (c<128))=true:=by rfl'
   have m:c∈("abcdefghijklmnopqrstuvwxyzABCDEFGHIJKLMNOPQRSTUVWXYZ ":Str).cps.toList:=by
    rw[<-yai];simpa using g
   exact h (yap (ybw.mp all c m))
theorem Uk(l:List Nat):decide (V.str (Txt.stripChars (tx l) "abcdefghijklmnopqrstuvwxyzABCDEFGHIJKLMNOPQRSTUVWXYZ ")=V.str "")=l.all bV:=by
 have h:=qc "abcdefghijklmnopqrstuvwxyzABCDEFGHIJKLMNOPQRSTUVWXYZ " l;have e:decide (V.str (Txt.stripChars (tx l) "abcdefghijklmnopqrstuvwxyzABCDEFGHIJKLMNOPQRSTUVWXYZ ")=V.str "")=decide (Txt.stripChars (tx l) "abcdefghijklmnopqrstuvwxyzABCDEFGHIJKLMNOPQRSTUVWXYZ "=(Str.empty:Str)):=by
  have:(V.str (Txt.stripChars (tx l) "abcdefghijklmnopqrstuvwxyzABCDEFGHIJKLMNOPQRSTUVWXYZ ")=V.str "")↔Txt.stripChars (tx l) "abcdefghijklmnopqrstuvwxyzABCDEFGHIJKLMNOPQRSTUVWXYZ "=(Str.empty:Str):=⟨λz=>V.str.inj z,λz=>yaI V.str z⟩;exact ydX.mpr this
 rw[e,h,yca,decide_eq_true_iff,ybw];exact⟨λz c hc=>by rw[<-YD];exact z c hc,λz c hc=>by rw[YD];exact z c hc⟩
def xo(l:List Nat):Bx->Prop
 | .num s a b=>Q9 l=some ⟨2,s,a,b⟩/\1<=a+b/\a+b<=18
 | .aV Y first W N ac tail=>Ed Y first W N ac tail/\Y.length+(W.length+N.length)+ac.length+tail.length<=60/\l=QU Y W N ac tail
 | .aH n=>∃(x:Facts)(a:List Nat),x.kind=1/\cf a l x/\(a.filter jd).length=n/\n<=200
 | .txt n=>∃(x:Facts)(a:List Nat),x.kind=0/\cf a l x/\(a.filter jd).length=n/\n<=200
theorem xo.kind(h:xo l b):∃x,Q9 l=some x/\x.kind=kd b:=by
 cases b with
 |num s a b=>exact⟨_,h.1,Z⟩
 |aV Y first W N ac tail=>obtain⟨E,_,rfl⟩:=h;exact⟨_,E.Cg,Z⟩
 |aH n=>obtain⟨x,a,hk,PA,_⟩:=h;exact⟨x,PA.pc,hk⟩
 |txt n=>obtain⟨x,a,hk,PA,_⟩:=h;exact⟨x,PA.pc,hk⟩
theorem xo.size(h:xo l b)(hk:kd b<=1):∃x a,cf a l x/\(a.filter jd).length=sz b/\sz b<=200:=by
 cases b with
 |num s a b=>exact absurd hk (by show ¬ 2<=1;lia)
 |aV Y first W N ac tail=>exact absurd hk (by show ¬ 3<=1;lia)
 |aH n=>obtain⟨x,a,hk,PA,e,z⟩:=h;exact⟨x,a,PA,e,z⟩
 |txt n=>obtain⟨x,a,hk,PA,e,z⟩:=h;exact⟨x,a,PA,e,z⟩
theorem Kv(s:Bool)(t:List Nat):(Jt s t).length=t.length:=by
 unfold Jt
 split
 .rename_i h;cases t with
  |nil=>unfold JY at h;exact absurd (ydc.mp h).2 (by lia)
  |cons a r=>rw[lq,yaN];rfl
 .rfl
theorem wE(h:VX s a b t)(Tk:a+b<=18):(Jj s t).natAbs<10^18:=by
 have h1:=X3 h.2;rw[Kv,h.1]at h1;have h2:=Gf h1 Tk;unfold Jj
 split<;>lia
theorem Kx(b:Bx):kd b<=3:=by
 cases b
 .exact(show 2<=3 by lia)
 .exact(show 3<=3 by lia)
 .exact(show 1<=3 by lia)
 .exact(show 0<=3 by lia)
theorem Wr(Y:List Nat)(first:Nat)(W N ac tail t:List Nat):KH (.aV Y first W N ac tail) t=(ow Y (W++N++Qm ac) tail (ay first W N) ac.length t).map λu=>(u,ac.length):=rfl
section
variable {P:Program}{w:World}{K:Frag}{mg:Str->Option Value}{M:Heap}{f:Addr}{fd:FuncData}{tk:Nat->Tok}{c kr:Nat->Addr}
def Gg:Sp:=λvs H Q _=>∃(t:List Nat)(n:Nat)(b:Bool),vs=[.str (tx t),.int (n:Nat),.bl b]/\t.length<=200/\n<=200/\Q (.str (tx (ba t n b))) H
theorem xj(F:aA K "as_text" "as_text" VL f fd)(O:Own mg):ag P w K mg M (ao P w) 1 f fd ["text","size","right"] Gg:=by
 refine okN F zV (λvs H Q E h=>?_) (λad A L s H vs Q E hr h=>?_)
 .obtain⟨t,n,b,rfl,_⟩:=h;rfl
 .obtain⟨t,n,b,rfl,ht,hn,k⟩:=h;have hz:=zza
  have ci:=Qh t;refine⟨_,(Qj (JP (Je (pv 2) (λ_=>rfl)) (Qp (QG (Zd yaA slot_str_rjust type_str_rjust yw (QZ J2 (pv 0) (Q2 (Qq (Uz Z) Z O.max boot_max (Qa (QI Zr (Qq QH Z O.len yaK (Qa (pv 0) Qb)) (pv 1)) (Qa Qi Qb)))) Ju) (Qa (pv 1) Qb)))) QQ)
   (Qp (QG (Zd yaA slot_str_ljust type_str_ljust yu (QZ J2 (pv 0) Ju (Q2 (pv 1))) (Qa (pv 1) Qb))))),?_⟩
  exists _,Z,b,Z;unfold ba at k;refine aG (λhb=>?_) (λhb=>?_)
  .rw[yaf hb]at k;refine⟨_,Z,_,Z,tx t,Z,by lia,_,Z,_,_,Z,Z,_,_,Z,_,Z,tx t,Z,by lia,?_⟩;have e:(if(0:Int)>((tx t).length:Int)-((n:Nat):Int)then(0:Int)else((tx t).length:Int)-((n:Nat):Int))=((t.length-n:Nat):Int):=by split<;>lia
   rw[e,J7];refine⟨Z,_,Z,tx (t.drop (t.length-n)),(n:Nat),Z,Z,Xa (by lia) (by lia),?_⟩;rw[RU,lJ,show n-(t.length-(t.length-n))=n-t.length by lia];exact k
  .rw[yac (by rw[hb];lia)]at k;refine⟨_,Z,_,Z,_,Z,tx t,Z,by lia,?_⟩;have e:StrLaws.sliceText (tx t) none (some ((n:Nat):Int))=tx (t.take n):=by
    have e2:sliceText (tx t) none (some ((n:Nat):Int))=sliceText (tx t) (some ((0:Nat):Int)) (some ((n:Nat):Int)):=by
     unfold sliceText;rw[sliceIdx_none_lo];rfl
    rw[e2,XD t (lX _) (lX _)];simp
   rw[e];refine⟨Z,_,Z,tx (t.take n),(n:Nat),Z,Z,Xa (by lia) (by lia),?_⟩;rw[RV,lI,show n-min n t.length=n-t.length by lia];exact k
def yy(K:Frag):Sp:=λvs H Q _=>∃(l:List Nat)(p:Addr)(u:Int)(o:Nat)(y:Bx),vs=[.str (tx l),.ref p]/\l.length<=500/\oq K H p u o/\xo l y/\2<=kd y/\∀H',Qs H H'->Q (.str (tx (AJ y u o))) H'
theorem RW(F:aA K "put" "put" vR f fd)(gz:Def P w K mg M 7 "kind_of" ["picture"] (qk c))(mX:Def P w K mg M 7 "content_of" ["picture","amount"] (wz K c))(mT:Def P w K mg M 7 "edited" ["picture","amount"] (Vh K c)):ag P w K mg M (ao P w) 8 f fd ["picture","amount"] (yy K):=by
 refine eB F OV (λvs H Q E h=>?_) (λad A L s H vs Q E hr h=>?_)
 .obtain⟨l,p,u,o,y,rfl,_⟩:=h;rfl
 .obtain⟨l,p,u,o,y,rfl,hl,qMa,B,hk,k⟩:=h;have fr:=Zy (P:=P) (w:=w) (K:=K) (mg:=mg) (M:=M) (N:=["picture","amount"]) (qual:="put") (scope:=Qe vR) (f:=f) (cd:=ad) (A:=A) (L:=L) (s:=s) (H:=H) (E:=E);have hx:=Jb fr;obtain⟨x,hp,c7⟩:=B.kind;refine⟨_,(Qj (JP (Ql Ja (gz.pq hr hx (Qa (pv 0) Qb)) Qc (Qn _)) (Qp (QG (mX.pq hr hx (Qa (pv 0) (Qa (pv 1) Qb))))) QQ)
   (Qp (QG (mT.pq hr hx (Qa (pv 0) (Qa (pv 1) Qb)))))),?_⟩
  refine⟨_,Z,l,Z,hl,(λz=>by rw[hp]at z;cases z),λy' hy H1 S1=>?_⟩;obtain rfl:=lB (hp.symm.trans hy);exists Z,_,Z;rw[c7];cases y with
  |num s a b=>
   rw[show V.str "number"=V.str (kindS 2)from rfl,ly (show V.str (kindS (kd (.num s a b)))=V.str (kindS 2)from Z)];exact Q4 ⟨_,Z,_,Z,l,p,u,o,Z,hl,qMa.same S1,.inr ⟨_,B.1,⟨Z,B.2.1,B.2.2⟩,λH2 S2=>k _ (S1.trans S2)⟩⟩
  |aV Y first W N ac tail=>
   rw[show kd (Bx.aV Y first W N ac tail)=3 from rfl,show V.str "number"=V.str (kindS 2)from rfl,JZ 3 (by lia) 2 (by lia),lx (by lia)];exact QW ⟨_,Z,_,Z,_,p,u,o,Z,hl,qMa.same S1,.inr ⟨Y,first,W,N,ac,tail,B.1,B.2.1,B.2.2,λH2 S2=>k _ (S1.trans S2)⟩⟩
  |aH n=>exact absurd hk (by show ¬ 2<=1;lia)
  |txt n=>exact absurd hk (by show ¬ 2<=0;lia)
def zd(c:Nat->Addr):Sp:=λvs H Q E=>∃(t l:List Nat)(y:Bx),vs=[.str (tx t),.str (tx l)]/\l.length<=500/\t.length<=100/\(∀x∈t,x<128)/\xo l y/\kd y≠1/\
 (KH y t=none->∀H',Qs H H'->E (.ref (c 5)) none H')/\(∀u o,KH y t=some (u,o)->∀q H',Qs H H'->H q=none->H' q=some (.tup [.int u,.int (o:Nat)])->Q (.ref q) H')
theorem Ym(F:aA K "amount_from" "amount_from" ZX f fd)(O:Own mg)(T:Txt K mg tk c kr)(gz:Def P w K mg M 7 "kind_of" ["picture"] (qk c))(gM:Def P w K mg M 7 "amount_in" ["picture","content"] (Uj K c))(mJ:Def P w K mg M 8 "read_edited" ["picture","text"] (wx K c))(gu:Def P w K mg M 1 "is_figures" ["text"] VP)(gf:Def P w K mg M 2 "number_of" ["text"] zX):ag P w K mg M (ao P w) 9 f fd ["content","picture"] (zd c):=by
 refine eB F Xy (λvs H Q E h=>?_) (λad A L s H vs Q E hr h=>?_)
 .obtain⟨t,l,y,rfl,_⟩:=h;rfl
 .obtain⟨t,l,y,rfl,hl,ci,lw,B,hk,kE,kQ⟩:=h;have hz:=zza
  have fr:=Zy (P:=P) (w:=w) (K:=K) (mg:=mg) (M:=M) (N:=["content","picture","kind","figures"]) (qual:="amount_from") (scope:=Qe ZX) (f:=f) (cd:=ad) (A:=A) (L:=L) (s:=s) (H:=H) (E:=E);have hx:=Jb fr;have ht0:=Zg fr;have ht:=Zg fr;obtain⟨x,hp,c7⟩:=B.kind;refine⟨_,(Qj (QN (i:=2) Xy.nd Z (Or.inl Z) (gz.pq hr hx (Qa (pv 1) Qb)))
   (Qj (JP (Ql Ja (pv 2) Qc (Qn _)) (Qp (QG (gM.pq hr hx (Qa (pv 1) (Qa (pv 0) Qb))))) QQ)
   (Qj (JP (Ql Ja (pv 2) Qc (Qn _)) (Qp (QG (mJ.pq hr hx (Qa (pv 1) (Qa (pv 0) Qb))))) QQ)
   (Qj (QN (i:=3) Xy.nd Z (Or.inl Z) (Zd yaA ybD ybE Xh (pv 0) (Qa Qc Qb)))
   (Qj (JP (PW.pt (Xn (Kz (WT (gu.pq hr hx (Qa (pv 3) Qb)))) (Zq (Ql Wa (Qq QH Z O.len yaK (Qa (pv 3) Qb)) (QC (v:=V.int 18) Z T.gy ⟨_,Z⟩) (Qn _))))) (Qp (ZD ht Z Z T.gU T.mD (Qa Qc Qb))) QQ)
   (Qp (QG (Jf (Qa (gf.pq hr hx (Qa (pv 3) Qb)) (Qa Qi Qb)))))))))),?_⟩
  refine⟨_,Z,l,Z,hl,(λz=>by rw[hp]at z;cases z),λy' hy H1 S1=>?_⟩;obtain rfl:=lB (hp.symm.trans hy);exists _,Z,Z,_,Z;rw[c7];cases y with
  |num s a b=>
   rw[show V.str "number"=V.str (kindS 2)from rfl,ly (show V.str (kindS (kd (.num s a b)))=V.str (kindS 2)from Z)];refine Q4 ⟨_,Z,_,Z,l,t,Z,hl,by lia,.inr ⟨_,B.1,⟨Z,B.2.1,B.2.2⟩,λz=>?_,λz q H2 S2 hq g=>?_⟩⟩
   .exact λH2 S2=>kE (by unfold KH;exact yac z) _ (S1.trans S2)
   .exact kQ _ _ (by unfold KH;exact yaf z) q H2 (S1.trans S2) (J6 S1 hq) g
  |aV Y first W N ac tail=>
   rw[show kd (Bx.aV Y first W N ac tail)=3 from rfl,show V.str "number"=V.str (kindS 2)from rfl,JZ 3 (by lia) 2 (by lia),lx (by lia)];refine QW ⟨_,Z,Z,_,Z,?_⟩;rw[show V.str "edited"=V.str (kindS 3)from rfl,ly rfl];refine Q4 ⟨_,Z,_,Z,_,t,Z,hl,by lia,lw,.inr ⟨Y,first,W,N,ac,tail,B.1,B.2.1,B.2.2,λv hv q H2 S2 hq g=>?_,λz=>?_⟩⟩
   .exact kQ v ac.length (by rw[Wr,hv];rfl) q H2 (S1.trans S2) (J6 S1 hq) g
   .exact λH2 S2=>kE (by rw[Wr,z];rfl) _ (S1.trans S2)
  |aH n=>exact absurd rfl hk
  |txt n=>
   rw[show kd (Bx.txt n)=0 from rfl,show V.str "number"=V.str (kindS 2)from rfl,JZ 0 (by lia) 2 (by lia),lx (by lia)];refine QW ⟨_,Z,Z,_,Z,?_⟩;rw[show V.str "edited"=V.str (kindS 3)from rfl,JZ 0 (by lia) 3 (by lia),lx (by lia)];have dh:=wD t;have iI:=Qh t;have RX:=Qh (sp t);refine QW ⟨_,Z,Z,tx t," ",Z,Z,by show(tx t).length<=sizeLine;lia,?_⟩;dsimp only;rw[show Txt.stripChars (tx t) " "=tx (sp t)from Ly t];exists _,Z,tx (sp t),Z,by lia,_,Z;rw[JD]
   by_cases h1:sp t≠[]/\NumText.AllDigits (sp t)
   .rw[ly h1];refine QW ⟨_,Z,tx (sp t),Z,by lia,_,_,Z,Z,_,Z,?_⟩
    by_cases h2:(sp t).length<=18
    .rw[lx (show ¬ ((tx (sp t)).length:Int)>18 by lia)];refine QW ⟨_,Z,tx (sp t),Z,h1.2,by lia,?_⟩;rw[JD];refine⟨bA,λq hq=>?_⟩;exact kQ _ 0 (by unfold KH;exact yaf ⟨h1.1,h1.2,h2⟩) q _ (S1.trans (Qs.new hq)) (J6 S1 hq) Qd
    .rw[ly (show((tx (sp t)).length:Int)>18 by lia)];exact Q4 ⟨bN,kE (by unfold KH;exact yac λz=>h2 z.2.2) _ S1⟩
   .rw[lx h1];exact Q4 (Q4 ⟨bN,kE (by unfold KH;exact yac λz=>h1 ⟨z.1,z.2.1⟩) _ S1⟩)
def V3(c:Nat->Addr):Sp:=λvs H Q E=>∃(t l:List Nat)(s:Bool)(a b:Nat),vs=[.str (tx t),.str (tx l)]/\l.length<=500/\t.length<=100/\xo l (.num s a b)/\
 (∀k,cg (.num s a b) t=.er k->∀H',Qs H H'->E (.ref (c k)) none H')/\(∀m,cg (.num s a b) t=.ok m->∀H',Qs H H'->Q (.str (tx m)) H')
theorem V4(F:aA K "figures_from" "figures_from" ZE f fd)(O:Own mg)(T:Txt K mg tk c kr)(pZ:Def P w K mg M 7 "room" ["picture"] (wg c))(gM:Def P w K mg M 7 "amount_in" ["picture","content"] (Uj K c))(gx:Def P w K mg M 2 "figures_of" ["number"] qe):ag P w K mg M (ao P w) 8 f fd ["content","picture"] (V3 c):=by
 refine eB F JM (λvs H Q E h=>?_) (λad A L s H vs Q E hr h=>?_)
 .obtain⟨t,l,s,a,b,rfl,_⟩:=h;rfl
 .obtain⟨t,l,sg,a,b,rfl,hl,ci,B,kE,kQ⟩:=h;have hz:=zza
  have fr:=Zy (P:=P) (w:=w) (K:=K) (mg:=mg) (M:=M) (N:=["content","picture","signed","before","behind","units","places"]) (qual:="figures_from") (scope:=Qe ZE) (f:=f) (cd:=ad) (A:=A) (L:=L) (s:=s) (H:=H) (E:=E);have hx:=Jb fr;have ht:=Zg fr;have Tk:a+b<=18:=B.2.2;have h1:1<=a+b:=B.2.1;refine⟨_,(Qj (Jk (pZ.pq hr hx (Qa (pv 1) Qb)) (Q5 Z (Qf (Z' 2 JM.nd) (Qf (Z' 3 JM.nd) (Qf (Z' 4 JM.nd) QD)))))
   (Qj (JP (Ql Wa (pv 4) Qi (Qn _)) (Qp (ZD ht Z Z T.pq T.pS (Qa Qc Qb))) QQ)
   (Qj (Jk (gM.pq hr hx (Qa (pv 1) (Qa (pv 0) Qb))) (Q5 Z (Qf (Z' 5 JM.nd) (Qf (Z' 6 JM.nd) QD))))
   (Qp (QG (Zd yaA ydG ydH Vd (gx.pq hr hx (Qa (Qq ZU Z O.abs ydC (Qa (pv 5) Qb)) Qb)) (Qa (pv 3) Qb))))))),?_⟩
  refine⟨_,Z,l,_,Z,B.1,hl,(λz=>absurd z (by show ¬ (2:Nat)<=1;lia)),λ_ _ q H1 S1 hq g=>?_⟩;exists q,_,Z,aj.of g,Z,_,_,Z,_,_,Z,_,_,Z,Z;exists _,Z,_,_,Z,Z,_,Z
  by_cases hb:0<b
  .rw[ly (show((b:Nat):Int)>0 by lia)];exact Q4 ⟨bN,kE 7 (by unfold cg;exact yaf hb) _ S1⟩
  .rw[lx (show ¬ ((b:Nat):Int)>0 by lia)];have e0:cg (.num sg a b) t=match KH (.num sg a b) t with|none=>Rs.er 5|some (u,_)=>Rs.ok (pad u.natAbs a):=by
    show(if 0<b then _ else _)=_;rw[yac hb]
   refine QW ⟨_,Z,_,Z,l,t,Z,hl,ci,.inr ⟨_,B.1,⟨Z,B.2.1,B.2.2⟩,λz H2 S2=>?_,λz q2 H2 S2 EQ g2=>?_⟩⟩
   .refine kE 5 ?_ _ (S1.trans S2);rw[e0];have:KH (.num sg a b) t=none:=yac z;rw[this]
   .have e1:cg (.num sg a b) t=.ok (pad (Jj sg t).natAbs a):=by
     rw[e0];have:KH (.num sg a b) t=some (Jj sg t,b):=yaf z;rw[this]
    exists q2,_,Z,aj.of g2,Z,_,_,Z,_,_,Z,Z;have bn:(Jj sg t).natAbs<10^18:=wE z B.2.2;refine⟨_,Z,Jj sg t,Z,(Jj sg t).natAbs,by rw[WM];rfl,bn,λH3 S3=>⟨Z,_,Z,tx (dec (Jj sg t).natAbs),((a:Nat):Int),Z,Z,Xa (by lia) (by lia),?_⟩⟩;rw[VW _ (by lia)];exact kQ _ e1 _ ((S1.trans S2).trans S3)
noncomputable def DY:Nat->List V
 |0=>[.str "number",.str "edited",.str "text",.str "letters"]
 |1=>[.str "text",.str "letters"]
 |_=>[.str "number",.str "edited",.str "text"]
theorem RY(T:Txt K mg tk c kr):∀k≤3,∃ra,Wz (DX (kr 7) (kr 8) (kr 9) (kr 10)) (Sum.inr (kindS k):Key)=some (.ref ra)/\∀H,aj K H ra (DY k)
 |0,_=>⟨kr 9,Z,T.r6⟩
 |1,_=>⟨kr 10,Z,T.r8⟩
 |2,_=>⟨kr 7,Z,T.rY⟩
 |3,_=>⟨kr 8,Z,T.rZ⟩
theorem RZ:∀k,(DY k).all XT=true
 |0=>rfl
 |1=>rfl
 |_+2=>rfl
theorem WN{Y:List Nat}{first:Nat}{W N ac tail:List Nat}(Ee:Ed Y first W N ac tail):many (W++N++Qm ac)<=12:=by
 obtain⟨h1,h2,FB⟩:=Ee.small;rw[ZY,Ee.many,Ee.xf,FB]
 split<;>lia
theorem ql(B:xo l x)(h:KH x t=some (u,o)):u.natAbs<10^18/\o<=18:=by
 cases x with
 |num s a b=>
  by_cases z:VX s a b t
  .have e:some (Jj s t,b)=some (u,o):=by rw[<-h];exact(yaf z).symm
   have Tk:a+b<=18:=B.2.2;have h3:=wE z Tk;cases e;exact⟨h3,by lia⟩
  .have e:KH (.num s a b) t=none:=yac z;rw[e]at h;cases h
 |aV Y first W N ac tail=>
  rw[Wr]at h;obtain⟨v,hv,e⟩:=yaS.mp h;cases e;have hm:=WN B.1;have h1:dQ Y (W++N++Qm ac) t<10^18:=by
   refine yad (X3 (V2 _ _)) (yat (by lia) ?_);exact yas (Vi _ _) (by lia)
  have hb:=B.1.small;refine⟨?_,by lia⟩;unfold ow at hv
  split at hv
  .cases hv;lia
  .split at hv
   .cases hv;lia
   .cases hv
 |aH n=>cases h
 |txt n=>
  by_cases z:xh (sp t)
  .have e:some (((NumText.digitsVal (sp t):Nat):Int),0)=some (u,o):=by rw[<-h];exact(yaf z).symm
   cases e;have:=X3 z.2.1;have:=Gf this z.2.2;exact⟨by lia,by lia⟩
  .have e:KH (.txt n) t=none:=yac z;rw[e]at h;cases h
theorem yz:∀a≤3,∀b≤3,(if true=true then !dI (V.str (kindS b)) (DY a)else dI (V.str (kindS b)) (DY a))= !wW a b:=by rfl'
theorem wF:∀a≤3,∀b≤3,wW a b=true->2<=b->a≠1:=by lia
theorem R'(B:xo l (.num s a b))(h:cg (.num s a b) t=.ok m)(ht:t.length<=200):m.length<=200:=by
 have h1:1<=a+b:=B.2.1;have Tk:a+b<=18:=B.2.2;have e0:cg (.num s a b) t=if 0<b then Rs.er 7 else match KH (.num s a b) t with|none=>Rs.er 5|some (u,_)=>Rs.ok (pad u.natAbs a):=rfl
 rw[e0]at h
 split at h
 .cases h
 .split at h
  .cases h
  .rename_i u o hu;cases h;have hs:=ql B hu;unfold pad;rw[lq,lN];have:=dec_lt hs.1 (by lia);lia
def ZM(c:Nat->Addr):Sp:=λvs H Q E=>∃(t l l2:List Nat)(b:Bool),vs=[.str (tx t),.str (tx l),.str (tx l2),.bl b]/\l.length<=500/\l2.length<=500/\t.length<=100/\(∀x∈t,x<128)/\
 ((Q9 l=none/\∀H',Qs H H'->E (.ref (c 1)) none H')\/((∃x,Q9 l=some x)/\Q9 l2=none/\∀H',Qs H H'->E (.ref (c 1)) none H')\/
  ∃x y:Bx,xo l x/\xo l2 y/\(∀k,bG x y b t=.er k->∀H',Qs H H'->E (.ref (c k)) none H')/\(∀r,bG x y b t=.ok r->∀H',Qs H H'->Q (.str (tx r)) H'))
theorem jm(F:aA K "move" "move" jR f fd)(T:Txt K mg tk c kr)(KM:aB P w K (kr 6) (DX (kr 7) (kr 8) (kr 9) (kr 10)))(gz:Def P w K mg M 7 "kind_of" ["picture"] (qk c))(pV:Def P w K mg M 8 "put" ["picture","amount"] (yy K))(gK:Def P w K mg M 9 "amount_from" ["content","picture"] (zd c))(gJ:Def P w K mg M 8 "figures_from" ["content","picture"] (V3 c))(mU:Def P w K mg M 7 "size_of" ["picture"] wj)(mV:Def P w K mg M 1 "as_text" ["text","size","right"] Gg):
  ag P w K mg M (ao P w) 10 f fd ["content","picture","other","right"] (ZM c):=by
 refine eB F VJ (λvs H Q E h=>?_) (λad A L s H vs Q E hr h=>?_)
 .obtain⟨t,l,l2,b,rfl,_⟩:=h;rfl
 .obtain⟨t,l,l2,b,rfl,hl,oX,ci,lw,D⟩:=h;have hz:=zza
  have fr:=Zy (P:=P) (w:=w) (K:=K) (mg:=mg) (M:=M) (N:=["content","picture","other","right","source","target","text","moved"]) (qual:="move") (scope:=Qe jR) (f:=f) (cd:=ad) (A:=A) (L:=L) (s:=s) (H:=H) (E:=E);have hx:=Jb fr;have ht:=Zg fr;refine⟨_,(Qj (QN (i:=4) VJ.nd Z (Or.inl Z) (gz.pq hr hx (Qa (pv 1) Qb)))
   (Qj (QN (i:=5) VJ.nd Z (Or.inl Z) (gz.pq hr hx (Qa (pv 2) Qb)))
   (Qj (JP (Ql Xg (pv 5) (Wg KM (QC (v:=V.ref (kr 6)) Z T.nW Z) (pv 4) (λ_ _=>rfl)) (by with_unfolding_all rfl)) (Qp (ZD ht Z Z T.pq T.pS (Qa Qc Qb))) QQ)
   (Qj (JP (PW.pt (Xn (Ql Ja (pv 5) Qc (Qn _)) (Zq (Ql Ja (pv 5) Qc (Qn _))))) (Qp (QG (pV.pq hr hx (Qa (pv 2) (Qa (gK.pq hr hx (Qa (pv 0) (Qa (pv 1) Qb))) Qb))))) QQ)
   (Qj (QN (i:=6) VJ.nd Z (Or.inl Z) (Jm (Ql Ja (pv 4) Qc (Qn _)) (gJ.pq hr hx (Qa (pv 0) (Qa (pv 1) Qb))) (pv 0)))
   (Qj (QN (i:=7) VJ.nd Z (Or.inl Z) (mV.pq hr hx (Qa (pv 6) (Qa (mU.pq hr hx (Qa (pv 2) Qb)) (Qa (pv 3) Qb)))))
   (Qj (JP (PW.pt (Jn (Ql Ja (pv 5) Qc (Qn _)) (Jd (Ql Xd (Zd yaA ybD ybE Xh (pv 7) (Qa (QC (v:=V.str "abcdefghijklmnopqrstuvwxyzABCDEFGHIJKLMNOPQRSTUVWXYZ ") Z T.gk ⟨_,Z⟩) Qb)) Qc (Qn _))))) (Qp (ZD ht Z Z T.pj T.pR (Qa Qc Qb))) QQ)
   (Qp (QG (pv 7)))))))))),?_⟩
  rcases D with⟨hp,k⟩|⟨⟨x,hp⟩,im,k⟩|⟨x,y,B,B2,kE,kQ⟩
  .exact⟨_,Z,l,Z,hl,λ_=>k,λy hy=>by rw[hp]at hy;cases hy⟩
  .refine⟨_,Z,l,Z,hl,(λz=>by rw[hp]at z;cases z),λy hy H1 S1=>?_⟩;exact⟨_,Z,l2,Z,oX,λ_ H2 S2=>k _ (S1.trans S2),λy hy=>by rw[im]at hy;cases hy⟩
  obtain⟨fx,hp,hk⟩:=B.kind;obtain⟨fy,im,ox⟩:=B2.kind;refine⟨_,Z,l,Z,hl,(λz=>by rw[hp]at z;cases z),λy' hy H1 S1=>?_⟩;obtain rfl:=lB (hp.symm.trans hy);refine⟨_,Z,l2,Z,oX,(λz=>by rw[im]at z;cases z),λy2 Sa H2 S2=>?_⟩;obtain rfl:=lB (im.symm.trans Sa);rw[hk,ox];obtain⟨ra,IT,Sb⟩:=RY T (kd x) (Kx x);exists _,Z,_,Z,Sum.inr (kindS (kd x)),_,Z,Z,IT,ra,_,Z,.inr (Sb _),Z,RZ _,_,Z;have AC:=S1.trans S2;rw[yz _ (Kx x) _ (Kx y)];cases hg:wW (kd x) (kd y)with
  |false=>
   have em:bG x y b t=.er 7:=yaf hg;exact Q4 ⟨bN,kE 7 em _ AC⟩
  |true=>
  refine QW ⟨_,Z,Z,_,Z,?_⟩;have AK:bG x y b t=if 2<=kd y then(match KH x t with|none=>Rs.er 5|some (u,o)=>Rs.ok (AJ y u o))else match cg x t with
   | .er k=>Rs.er k
   | .ok m=>if kd y=1/\(ba m (sz y) b).all bV=false then Rs.er 6 else Rs.ok (ba m (sz y) b):=by
   unfold bG;exact yac (by rw[hg];lia)
  have iJ:t.length<=200:=by lia
  by_cases h2:2<=kd y
  .have em:bG x y b t=match KH x t with|none=>Rs.er 5|some (u,o)=>Rs.ok (AJ y u o):=by rw[AK,yaf h2]
   have go:∀{RR:VK},(∀r,bG x y b t=.ok r->∀H',Qs H H'->RR (.str (tx r)) H')->Wx (yy K) [] E (Jy (ZN 2) (Jy (Wx (zd c) [] E (Jy (ZN 0) (Jy (ZN 1) Ww))) Ww)) [some (.str (tx t)),some (.str (tx l)),some (.str (tx l2)),some (.bl b),some (.str (kindS (kd x))),some (.str (kindS (kd y))),none,none] H2 RR:=λSd=>
    ⟨_,Z,_,Z,_,Z,t,l,x,Z,hl,ci,lw,B,wF _ (Kx x) _ (Kx y) hg h2,λz H3 S3=>kE 5 (by rw[em,z]) _ (AC.trans S3),λu o hu q H3 S3 hq g=>by
     have hs:=ql B hu;exact⟨l2,q,u,o,y,Z,oX,⟨aj.of g,yad hs.1 (by lia),by lia,by have:=hs.2;lia⟩,B2,h2,λH4 S4=>Sd _ (by rw[em,hu]) _ ((AC.trans S3).trans S4)⟩⟩
   by_cases e2:kd y=2
   .rw[e2]at go;rw[e2,show V.str "number"=V.str (kindS 2)from rfl,ly rfl];exact Q4 (Q4 (go kQ))
   .have e3:kd y=3:=by have:=Kx y;lia
    rw[e3]at go;rw[e3,show V.str "number"=V.str (kindS 2)from rfl,JZ 3 (by lia) 2 (by lia),lx (by lia)];refine QW ⟨_,Z,Z,_,Z,?_⟩;rw[show V.str "edited"=V.str (kindS 3)from rfl,ly rfl];exact Q4 (go kQ)
  .have em:bG x y b t=match cg x t with
    | .er k=>Rs.er k
    | .ok m=>if kd y=1/\(ba m (sz y) b).all bV=false then Rs.er 6 else Rs.ok (ba m (sz y) b):=by rw[AK,yac h2]
   obtain⟨fz,a2,PA,hsz,Cv⟩:=B2.size (by lia);rw[show V.str "number"=V.str (kindS 2)from rfl,JZ _ (Kx y) 2 (by lia),lx (show ¬ kd y=2 by lia)];refine QW ⟨_,Z,Z,_,Z,?_⟩;rw[show V.str "edited"=V.str (kindS 3)from rfl,JZ _ (Kx y) 3 (by lia),lx (show ¬ kd y=3 by lia)];refine QW ⟨_,Z,Z,_,Z,?_⟩;rw[JZ _ (Kx x) 2 (by lia)];refine JB (λv H'=>∃m,cg x t=.ok m/\m.length<=200/\v=.str (tx m)/\Qs H H') (λz rest=>?_) (λz rest=>?_) ?_
   .have ex:kd x=2:=yap z;cases x with
    |num sg a bb=>
     refine⟨_,Z,_,Z,t,l,sg,a,bb,Z,hl,ci,B,λk hk H3 S3=>?_,λm hm H3 S3=>rest _ _ ⟨m,hm,?_,Z,AC.trans S3⟩⟩
     .exact kE k (by rw[em,hk]) _ (AC.trans S3)
     .exact R' B hm iJ
    |aV Y first W N ac tail=>cases ex
    |aH n=>cases ex
    |txt n=>cases ex
   .have ex:kd x≠2:=yau z;refine⟨_,Z,rest _ _ ⟨t,?_,iJ,Z,AC⟩⟩;cases x with
    |num sg a bb=>exact absurd rfl ex
    |aV Y first W N ac tail=>rfl
    |aH n=>rfl
    |txt n=>rfl
   rintro v H3 ⟨m,hm,F4,rfl,S3⟩;have Gh:bG x y b t=if kd y=1/\(ba m (sz y) b).all bV=false then Rs.er 6 else Rs.ok (ba m (sz y) b):=by rw[em,hm]
   refine⟨_,Z,_,Z,a2,l2,fz,Z,PA,λH4 S4=>⟨_,Z,m,sz y,b,by rw[hsz];rfl,F4,Cv,?_⟩⟩;have FH:(ba m (sz y) b).length<=400:=by
    unfold ba
    split
    .rw[lq,lN,lJ];lia
    .rw[lq,lN,lI];lia
   have Se:=Qh (ba m (sz y) b);have Gi:=S3.trans S4;exists _,Z,Z,_,Z;rw[show V.str "letters"=V.str (kindS 1)from rfl,JZ _ (Kx y) 1 (by lia)]
   by_cases h1:kd y=1
   .rw[ly h1];refine Q4 ⟨_,Z,Z,tx (ba m (sz y) b),_,Z,Z,by show(tx (ba m (sz y) b)).length<=sizeLine;lia,?_⟩;dsimp only;exists Z,_,Z;rw[Uk];cases hL:(ba m (sz y) b).all bV with
    |false=>exact Q4 ⟨bN,kE 6 (by rw[Gh,yaf ⟨h1,hL⟩]) _ Gi⟩
    |true=>exact QW ⟨_,Z,kQ _ (by rw[Gh,yac (λz=>by rw[hL]at z;cases z.2)]) _ Gi⟩
   .rw[lx h1];exact QW (QW ⟨_,Z,kQ _ (by rw[Gh,yac (λz=>h1 z.1)]) _ Gi⟩)
end
open PySem PySem.Spec PyProof.Rows L2 bj
section
variable {P:Program}{w:World}{K:Frag}{mg:Str->Option Value}{M:Heap}{f:Addr}{fd:FuncData}{tk:Nat->Tok}
theorem Ul{ns:List Int}(h:az K H a (ns.map V.int)):Du K (.ref a) H (!ns.isEmpty):=.inl ⟨_,h,by cases ns<;>rfl⟩
theorem qm(F:aA K "_law_draw" "_law_draw" K3 f fd)(O:Own mg):ag P w K mg M (ao P w) 1 f fd ["_law_script","_law_town","_law_many"] (Z2 K):=by
 refine qx F ZL (λvs H Q E h=>?_) (λad A L s H vs Q E hr h=>?_)
 .obtain⟨a,t,r,ns,c,many,rs,rfl,_⟩:=h;rfl
 .obtain⟨a,t,r,ns,c,many,rs,rfl,hS,T,nat,bX,hl,hc,cG,sF,k⟩:=h;have hu:=xQ hr;have T1:aE (upd H t (.dK [(Sum.inr "count",.int (c+1)),(Sum.inr "rests",.ref r)])) t r (c+1) rs:=⟨Qd,by rw[Qx T.ne.symm];exact T.rt,T.vs,by have:=T.c0;lia,by have:=T.ln;lia,T.ne⟩;have Cw:=hS.upd (o:=.dK [(Sum.inr "count",.int (c+1)),(Sum.inr "rests",.ref r)]) nat;have A1:Apart t r H (upd H t (.dK [(Sum.inr "count",.int (c+1)),(Sum.inr "rests",.ref r)])):=λb o e n1 n2=>by rw[Qx n1];exact e
  refine⟨_,(Qg (jO hu (ae.mk (pv 1)) (ae.mk Qc) (QJ JK (ae.mk (X0 hu (pv 1) Qc (λ_ _=>rfl))) (ae.mk Qi)) Z)
   (Qg (Qu (i:=3) ZL.nd Z (Or.inl Z) (Zn (Je (pv 0) (λ_=>rfl)) (QJ Vp (ae.mk (X0 hu (pv 1) Qc (λ_ _=>rfl))) (ae.mk (Qq QX Z O.len yaK (Qv (pv 0) Qb)))) (ae.mk Qi)) Z Z)
   (Qg (Qu (i:=4) ZL.nd Z (Or.inl Z) (ae.mk (vm hu (X0 hu (pv 1) Qc (λ_ _=>rfl)) (pv 3) (Jm (Je (pv 0) (λ_=>rfl)) (QS Jc (pv 0) (pv 3) (λ_ _=>rfl)) Qi) ⟨Z,Z,Z,Z⟩)) Z Z)
   (Qg (Q1 (Ql zw (pv 4) (QI yV Qi Qi) (Qn _)) (Qg (jO hu (ae.mk (X0 hu (pv 1) Qc (λ_ _=>rfl))) (ae.mk (pv 3)) (QJ qB (ae.mk (pv 4)) (ae.mk (pv 2))) Z)
   (Qr (QE (QJ Vp (ae.mk (pv 4)) (ae.mk (pv 2)))))) QT)
   (Qg (Qu (i:=5) ZL.nd Z (Or.inl Z) (QJ Vp (QJ JK (ae.mk (pv 4)) (QJ jz (ae.mk Qi) (ae.mk (X0 hu (pv 1) Qc (λ_ _=>rfl))))) (ae.mk Qi)) Z Z)
   (Qg (Qu (i:=5) ZL.nd Z (Or.inl Z) (QJ Vp (QJ yV (ae.mk (pv 5)) (ae.mk Qi)) (ae.mk Qi)) Z Z)
   (Qr (QE (QJ Vp (QJ qB (QJ Vp (QJ JK (QJ jz (QJ qB (ae.mk (pv 5)) (ae.mk Qi)) (ae.mk Qi)) (ae.mk (pv 5))) (ae.mk Qi)) (ae.mk Qi)) (ae.mk (pv 2))))))))))),?_⟩
  exists _,Z,t,_,Z,Km T.tw,_,_,Z,Z,_,Z,t,_,Z,zJ _ T.tw;exists _,Z,_,Ul Cw;refine aG (λhz=>?_) (λhz=>?_)
  .have hp:0<ns.length:=by cases ns with|nil=>cases hz|cons a r=>exact yeE _
   have Gj:(0:Int)<((ns.map V.int).length:Int):=by rw[lu];lia
   exists _,Z,t,_,Z,Km T1.tw,_,Z,a,_,Z,.inl Cw,_,_,Z,Z,Gj;have m1:=ybv (c+1) (ybP Gj);have m2:=ybe (c+1) Gj;obtain⟨j,hj⟩:=ybs m1;have FU:j<ns.length:=by rw[hj,lu]at m2;lia
   exists _,Z,t,_,Z,Kn T1.tw,r,Z,.inl ⟨rs,.inl T1.rt⟩,_,Z,_,Z,_,Ul Cw;rw[hz];refine Q4 ⟨_,Z,_,Z,a,_,_,V.int ns[j],Z,Z,Cw,?_,_,zD.k (k:=Sum.inl ((c+1) % ((ns.map V.int).length:Int))) T1.rt,?_⟩
   .show ck (ns.map V.int) ((c+1) % ((ns.map V.int).length:Int))=_;rw[hj];refine Zc ?_;rw[lK,yah FU];rfl
   obtain⟨z,hz⟩:=UN T1.vs ((c+1) % ((ns.map V.int).length:Int)) (ns[j]);rw[hz];exists _,Z,_,_,Z,Z,⟨by lia,by lia,by lia⟩,_,_,Z,Z,_,Z;refine aG (λg=>?_) (λg=>?_)
   .have P2:=UO T1.vs ((c+1) % ((ns.map V.int).length:Int)) (z/many);refine⟨_,Z,_,Z,_,_,Z,Z,⟨cG,by lia⟩,_,Z,t,_,Z,Kn T1.tw,_,Z,r,_,Z,iW.k (k:=Sum.inl ((c+1) % ((ns.map V.int).length:Int))) T1.rt (yad (m:=100001) (by have:=T.ln;lia) (by lia)),?_⟩;exists _,Z,_,Z,_,_,Z,Z,cG;refine k _ (putK rs (Sum.inl ((c+1) % ((ns.map V.int).length:Int))) (.int (z/many))) _ (ybv _ (ybP cG)) (ybe _ cG) ⟨?_,Qd,P2.1,T1.c0,?_,T.ne⟩ (A1.trans λb o e n1 n2=>by rw[Qx n2];exact e)
    .rw[Qx T.ne];exact T1.tw
    .have:=P2.2;have:=T.ln;lia
   .refine⟨_,Z,_,Z,t,_,Z,Km T1.tw,_,_,Z,Z,.inl ⟨by lia,by lia⟩,_,_,Z,Z,_,_,Z,Z,(show(0:Int)<4294967291 by lia),?_⟩;have n1:=ybv (z+104729*(c+1)) (show(4294967291:Int)≠0 by lia);have n2:=ybe (z+104729*(c+1)) (show(0:Int)<4294967291 by lia);refine⟨_,Z,_,_,Z,Z,⟨by lia,by lia,by show Int.natAbs _<2^64;lia⟩,_,_,Z,Z,(show(0:Int)<4294967279 by lia),?_⟩;exists _,Z,_,_,Z,Z,⟨by lia,by lia⟩,_,_,Z,Z,.inr ⟨by lia,by lia⟩,_,Z,_,_,Z,Z,_,_,Z,Z,(show(0:Int)<4294967231 by lia),_,_,Z,Z,⟨by lia,by lia⟩,_,Z,_,_,Z,Z,cG;exact k _ rs _ (ybv _ (ybP cG)) (ybe _ cG) T1 A1
  .exists _,Z,t,_,Z,Kn T1.tw,r,Z,.inl ⟨rs,.inl T1.rt⟩,_,Z,_,Z,_,Ul Cw;rw[hz];refine QW ⟨_,zD.k (k:=Sum.inl (0:Int)) T1.rt,?_⟩;obtain⟨z,hz⟩:=UN T1.vs ((0:Int)) (0);rw[hz];exists _,Z,_,_,Z,Z,⟨by lia,by lia,by lia⟩,_,_,Z,Z,_,Z;refine aG (λg=>?_) (λg=>?_)
   .have P2:=UO T1.vs ((0:Int)) (z/many);refine⟨_,Z,_,Z,_,_,Z,Z,⟨cG,by lia⟩,_,Z,t,_,Z,Kn T1.tw,_,Z,r,_,Z,iW.k (k:=Sum.inl ((0:Int))) T1.rt (yad (m:=100001) (by have:=T.ln;lia) (by lia)),?_⟩;exists _,Z,_,Z,_,_,Z,Z,cG;refine k _ (putK rs (Sum.inl ((0:Int))) (.int (z/many))) _ (ybv _ (ybP cG)) (ybe _ cG) ⟨?_,Qd,P2.1,T1.c0,?_,T.ne⟩ (A1.trans λb o e n1 n2=>by rw[Qx n2];exact e)
    .rw[Qx T.ne];exact T1.tw
    .have:=P2.2;have:=T.ln;lia
   .refine⟨_,Z,_,Z,t,_,Z,Km T1.tw,_,_,Z,Z,.inl ⟨by lia,by lia⟩,_,_,Z,Z,_,_,Z,Z,(show(0:Int)<4294967291 by lia),?_⟩;have n1:=ybv (z+104729*(c+1)) (show(4294967291:Int)≠0 by lia);have n2:=ybe (z+104729*(c+1)) (show(0:Int)<4294967291 by lia);refine⟨_,Z,_,_,Z,Z,⟨by lia,by lia,by show Int.natAbs _<2^64;lia⟩,_,_,Z,Z,(show(0:Int)<4294967279 by lia),?_⟩;exists _,Z,_,_,Z,Z,⟨by lia,by lia⟩,_,_,Z,Z,.inr ⟨by lia,by lia⟩,_,Z,_,_,Z,Z,_,_,Z,Z,(show(0:Int)<4294967231 by lia),_,_,Z,Z,⟨by lia,by lia⟩,_,Z,_,_,Z,Z,cG;exact k _ rs _ (ybv _ (ybP cG)) (ybe _ cG) T1 A1
theorem Um(F:aA K "_law_begun" "_law_begun" Kb f fd):ag P w K mg M (ao P w) 1 f fd [] qK:=by
 refine qx F YY (λvs H Q E h=>?_) (λad A L s H vs Q E hr h=>?_)
 .obtain⟨rfl,_⟩:=h;rfl
 .obtain⟨rfl,k⟩:=h;exists _,zI;intro p hp d hd;have Cy:d≠p:=λz=>by rw[z,Qd]at hd;cases hd
  have Lz:H d=none:=by rw[Qx Cy]at hd;exact hd
  exists by rw[Qx Cy.symm,Qd],[(Sum.inr "count",.int 0),(Sum.inr "rests",.ref d)],Z,ycd rfl;have e:WV [] [((Sum.inr "count":Key),V.int 0),((Sum.inr "rests":Key),V.ref d)]=[((Sum.inr "count":Key),V.int 0),((Sum.inr "rests":Key),V.ref d)]:=by
   have h:¬ ((Sum.inr "count":Key)=(Sum.inr "rests":Key)):=xW;unfold WV putK;simp[h]
  rw[e];refine k p d _ hp Lz ⟨Qd,by rw[Qx Cy,Qd],(λkv hm=>nomatch hm),by lia,by lia,Cy.symm⟩ λb o z=>?_;rw[Qx (Qz z hp),Qx (Qz z Lz),Qx (Qz z hp)];exact z
theorem qo{c:Int}{rs:List (Key × V)}(A:Apart t r H H')(T:aE H' t r c rs)(h:H' q=none):H q=none:=by
 cases e:H q with
 |none=>rfl
 |some o=>
  by_cases z1:q=t
  .rw[z1,T.tw]at h;cases h
  .by_cases z2:q=r
   .rw[z2,T.rt]at h;cases h
   .rw[A q o e z1 z2]at h;cases h
end
structure Kind(K:Frag)(c:Nat->Addr)(i:Nat):Prop where
 lo:1<=i
 hi:i<=14
 er:bE K (c i)
 ki:∀j,j<14->kitOne K (.ref (c i)) (.ref (c (j+1)))=some (decide (j+1=i))
 va:kitOne K (.ref (c i)) (.type "ValueError")=some true
 bo:exmOne K (.ref (c i)) (.ref (c 0))=some true
noncomputable def oA(i:Nat):Str:=(["no picture","no room","no quotient","no text","no figures","no letters","no move","no path","no amount","no group","bad size","no back","bad row","closed"]:List Str).getD (i-1) ""
noncomputable def kinds(i:Nat):List V:=[.bl (decide (0+1=i)),.bl (decide (1+1=i)),.bl (decide (2+1=i)),.bl (decide (3+1=i)),.bl (decide (4+1=i)),.bl (decide (5+1=i)),.bl (decide (6+1=i)),.bl (decide (7+1=i)),.bl (decide (8+1=i)),.bl (decide (9+1=i)),.bl (decide (10+1=i)),.bl (decide (11+1=i)),.bl (decide (12+1=i)),.bl (decide (13+1=i))]
theorem jn:∀i,i<15->1<=i->(kinds i).countP (λz=>bW z (.bl true))=1:=by lia
theorem yA:∀i,i<15->1<=i->(kinds i)[i-1]? =some (.bl true):=by lia
theorem yB:∀i,i<15->1<=i->∀j,j<i-1->(kinds i)[j]? =some (.bl false):=by lia
theorem YE(i:Nat):(kinds i).all XT=true:=rfl
noncomputable def Gk:List V:=[.str "no picture",.str "no room",.str "no quotient",.str "no text",.str "no figures",.str "no letters",.str "no move",.str "no path",.str "no amount",.str "no group",.str "bad size",.str "no back",.str "bad row",.str "closed"]
theorem Sf:∀i,i<15->1<=i->Gk[i-1]? =some (.str (oA i)):=by lia
def V5(K:Frag)(c:Nat->Addr):Sp:=λvs H Q _=>∃(a:Addr)(i:Nat),vs=[.ref a]/\H a=some (xR a (.ref (c i)))/\Kind K c i/\∀H',Qs H H'->Q (.str (oA i)) H'
section
variable {P:Program}{w:World}{K:Frag}{mg:Str->Option Value}{M:Heap}{f:Addr}{fd:FuncData}{tk:Nat->Tok}{c kr:Nat->Addr}
theorem Uo(F:aA K "_law_class" "_law_class" Kc f fd)(O:Own mg)(T:Txt K mg tk c kr):ag P w K mg M (ao P w) 1 f fd ["_law_kept"] (V5 K c):=by
 refine qx F JV (λvs H Q E h=>?_) (λad A L s H vs Q E hr h=>?_)
 .obtain⟨a,i,rfl,_⟩:=h;rfl
 .obtain⟨a,i,rfl,hH,G,k⟩:=h;have bf:∀(H1:Hp)(j:Nat),Qs H H1->j<14->(∃t,bw K H1 (.ref a) t/\kitOne K t (o9 (.ref (c (j+1))))=some (decide (j+1=i)))\/∃b C,V.ref a=.ref b/\H1 b=some (xR b (.ref C))/\bE K C/\kitOne K (.ref C) (o9 (.ref (c (j+1))))=some (decide (j+1=i)):=
   λH1 j e hj=>.inr ⟨a,c i,Z,e _ _ hH,G.er,G.ki j hj⟩
  refine⟨_,(Qg (Qu (i:=1) JV.nd Z (Or.inl Z) (Z3 (QF (ae.mk (Qq JJ Z O.bf yaJ (Qv (pv 0) (Qv (QC (v:=V.ref (c 1)) Z T.ph Z) Qb)))) (QF (ae.mk (Qq JJ Z O.bf yaJ (Qv (pv 0) (Qv (QC (v:=V.ref (c 2)) Z T.pk Z) Qb)))) (QF (ae.mk (Qq JJ Z O.bf yaJ (Qv (pv 0) (Qv (QC (v:=V.ref (c 3)) Z T.pI Z) Qb)))) QO Z) Z) Z)) Z Z)
   (Qg (Qu (i:=1) JV.nd Z (Or.inl Z) (QJ Vs (ae.mk (pv 1)) (Z3 (QF (ae.mk (Qq JJ Z O.bf yaJ (Qv (pv 0) (Qv (QC (v:=V.ref (c 4)) Z T.rS Z) Qb)))) (QF (ae.mk (Qq JJ Z O.bf yaJ (Qv (pv 0) (Qv (QC (v:=V.ref (c 5)) Z T.gU Z) Qb)))) (QF (ae.mk (Qq JJ Z O.bf yaJ (Qv (pv 0) (Qv (QC (v:=V.ref (c 6)) Z T.pj Z) Qb)))) QO Z) Z) Z))) Z Z)
   (Qg (Qu (i:=1) JV.nd Z (Or.inl Z) (QJ Vs (ae.mk (pv 1)) (Z3 (QF (ae.mk (Qq JJ Z O.bf yaJ (Qv (pv 0) (Qv (QC (v:=V.ref (c 7)) Z T.pq Z) Qb)))) (QF (ae.mk (Qq JJ Z O.bf yaJ (Qv (pv 0) (Qv (QC (v:=V.ref (c 8)) Z T.rT Z) Qb)))) (QF (ae.mk (Qq JJ Z O.bf yaJ (Qv (pv 0) (Qv (QC (v:=V.ref (c 9)) Z T.pY Z) Qb)))) QO Z) Z) Z))) Z Z)
   (Qg (Qu (i:=1) JV.nd Z (Or.inl Z) (QJ Vs (ae.mk (pv 1)) (Z3 (QF (ae.mk (Qq JJ Z O.bf yaJ (Qv (pv 0) (Qv (QC (v:=V.ref (c 10)) Z T.rQ Z) Qb)))) (QF (ae.mk (Qq JJ Z O.bf yaJ (Qv (pv 0) (Qv (QC (v:=V.ref (c 11)) Z T.rR Z) Qb)))) (QF (ae.mk (Qq JJ Z O.bf yaJ (Qv (pv 0) (Qv (QC (v:=V.ref (c 12)) Z T.rV Z) Qb)))) QO Z) Z) Z))) Z Z)
   (Qg (Qu (i:=1) JV.nd Z (Or.inl Z) (QJ Vs (ae.mk (pv 1)) (Z3 (QF (ae.mk (Qq JJ Z O.bf yaJ (Qv (pv 0) (Qv (QC (v:=V.ref (c 13)) Z T.rW Z) Qb)))) (QF (ae.mk (Qq JJ Z O.bf yaJ (Qv (pv 0) (Qv (QC (v:=V.ref (c 14)) Z T.rX Z) Qb)))) QO Z) Z))) Z Z)
   (Qg (Q1 (PW.pt (Xn (Ql Xd (Zd yaV slot_list_count type_list_count vt (pv 1) (Qv WZ Qb)) Qi (Qn _)) (Zq (Kz (WT (Qq JJ Z O.bf yaJ (Qv (pv 0) (Qv (xu (v:=V.ty "ValueError") Z O.val PyProof.Rows.Boot.«ValueError» rfl) Qb)))))))) (Qr (QE (ae.mk Qc))) QT)
   (Qg (Qu (i:=2) JV.nd Z (Or.inl Z) (Z3 (QF (ae.mk Qc) (QF (ae.mk Qc) (QF (ae.mk Qc) (QF (ae.mk Qc) (QF (ae.mk Qc) (QF (ae.mk Qc) (QF (ae.mk Qc) (QF (ae.mk Qc) QO Z) Z) Z) Z) Z) Z) Z) Z)) Z Z)
   (Qr (QE (ae.mk (QS Jc (QI Vs (pv 2) (ZR (Qv Qc (Qv Qc (Qv Qc (Qv Qc (Qv Qc (Qv Qc Qb)))))))) (Zd yaV slot_list_index type_list_index vv (pv 1) (Qv WZ Qb)) (λ_ _=>rfl)))))))))))),?_⟩
  have e0:=Qs.refl H;refine⟨_,Z,_,_,_,Z,Z,bf _ 0 e0 (by lia),_,Z,_,_,_,Z,Z,bf _ 1 e0 (by lia),_,Z,_,_,_,Z,Z,bf _ 2 e0 (by lia),by show 3<=sizeLine;lia,λp1 h1=>?_⟩;generalize hG:upd H p1 _=H1;have e1:Qs H H1:=by rw[<-hG];exact Qs.new h1
  have g1:H1 p1=some (.lst [.bl (decide (0+1=i)),.bl (decide (1+1=i)),.bl (decide (2+1=i))]):=by rw[<-hG];exact Qd
  clear hG h1;refine⟨_,Z,_,Z,_,_,_,Z,Z,bf _ 3 e1 (by lia),_,Z,_,_,_,Z,Z,bf _ 4 e1 (by lia),_,Z,_,_,_,Z,Z,bf _ 5 e1 (by lia),by show 3<=sizeLine;lia,λq2 h2=>⟨p1,q2,_,_,Z,Z,by rw[Qx (Qz g1 h2)];exact g1,Qd,by show 6<=sizeLine;lia,λp2 h3=>?_⟩⟩;generalize hG:upd (upd H1 q2 _) p2 _=H2;have e2:Qs H H2:=by rw[<-hG];exact(e1.trans (Qs.new h2)).trans (Qs.new h3)
  have g2:H2 p2=some (.lst [.bl (decide (0+1=i)),.bl (decide (1+1=i)),.bl (decide (2+1=i)),.bl (decide (3+1=i)),.bl (decide (4+1=i)),.bl (decide (5+1=i))]):=by rw[<-hG];exact Qd
  clear hG h2 h3;refine⟨_,Z,_,Z,_,_,_,Z,Z,bf _ 6 e2 (by lia),_,Z,_,_,_,Z,Z,bf _ 7 e2 (by lia),_,Z,_,_,_,Z,Z,bf _ 8 e2 (by lia),by show 3<=sizeLine;lia,λq3 h2=>⟨p2,q3,_,_,Z,Z,by rw[Qx (Qz g2 h2)];exact g2,Qd,by show 9<=sizeLine;lia,λp3 h3=>?_⟩⟩;generalize hG:upd (upd H2 q3 _) p3 _=H3;have e3:Qs H H3:=by rw[<-hG];exact(e2.trans (Qs.new h2)).trans (Qs.new h3)
  have g3:H3 p3=some (.lst [.bl (decide (0+1=i)),.bl (decide (1+1=i)),.bl (decide (2+1=i)),.bl (decide (3+1=i)),.bl (decide (4+1=i)),.bl (decide (5+1=i)),.bl (decide (6+1=i)),.bl (decide (7+1=i)),.bl (decide (8+1=i))]):=by rw[<-hG];exact Qd
  clear hG h2 h3;refine⟨_,Z,_,Z,_,_,_,Z,Z,bf _ 9 e3 (by lia),_,Z,_,_,_,Z,Z,bf _ 10 e3 (by lia),_,Z,_,_,_,Z,Z,bf _ 11 e3 (by lia),by show 3<=sizeLine;lia,λq4 h2=>⟨p3,q4,_,_,Z,Z,by rw[Qx (Qz g3 h2)];exact g3,Qd,by show 12<=sizeLine;lia,λp4 h3=>?_⟩⟩;generalize hG:upd (upd H3 q4 _) p4 _=H4;have e4:Qs H H4:=by rw[<-hG];exact(e3.trans (Qs.new h2)).trans (Qs.new h3)
  have g4:H4 p4=some (.lst [.bl (decide (0+1=i)),.bl (decide (1+1=i)),.bl (decide (2+1=i)),.bl (decide (3+1=i)),.bl (decide (4+1=i)),.bl (decide (5+1=i)),.bl (decide (6+1=i)),.bl (decide (7+1=i)),.bl (decide (8+1=i)),.bl (decide (9+1=i)),.bl (decide (10+1=i)),.bl (decide (11+1=i))]):=by rw[<-hG];exact Qd
  clear hG h2 h3;refine⟨_,Z,_,Z,_,_,_,Z,Z,bf _ 12 e4 (by lia),_,Z,_,_,_,Z,Z,bf _ 13 e4 (by lia),by show 2<=sizeLine;lia,λq5 h2=>⟨p4,q5,_,_,Z,Z,by rw[Qx (Qz g4 h2)];exact g4,Qd,by show 14<=sizeLine;lia,λp5 h3=>?_⟩⟩;generalize hG:upd (upd H4 q5 _) p5 _=H5;have e5:Qs H H5:=by rw[<-hG];exact(e4.trans (Qs.new h2)).trans (Qs.new h3)
  have g5:H5 p5=some (.lst [.bl (decide (0+1=i)),.bl (decide (1+1=i)),.bl (decide (2+1=i)),.bl (decide (3+1=i)),.bl (decide (4+1=i)),.bl (decide (5+1=i)),.bl (decide (6+1=i)),.bl (decide (7+1=i)),.bl (decide (8+1=i)),.bl (decide (9+1=i)),.bl (decide (10+1=i)),.bl (decide (11+1=i)),.bl (decide (12+1=i)),.bl (decide (13+1=i))]):=by rw[<-hG];exact Qd
  clear hG h2 h3;have hi:i<15:=by have:=G.hi;lia
  have g6:H5 p5=some (.lst (kinds i)):=g5;clear g5;have LB:∀H':Hp,H' p5=some (.lst (kinds i))->Dz K "list" (V.ref p5) H':=λH' g=>.inl ⟨Z,_,.inl (.inl g)⟩;exists _,Z,LB _ g6,p5,kinds i,_,Z,Z,g6,Z,YE i;rw[jn i hi G.lo];exists Z,_,Z;refine aG (λz=>absurd z (by lia)) (λ_=>?_);exists _,Z,_,_,_,Z,Z,.inr ⟨a,c i,Z,e5 _ _ hH,G.er,G.va⟩,_,Z;refine aG (λz=>absurd z (by lia)) (λ_=>?_);refine⟨by show 8<=sizeLine;lia,λp6 h6=>?_⟩;generalize hG:upd H5 p6 _=H6;have e6:Qs H H6:=by rw[<-hG];exact e5.trans (Qs.new h6)
  have k6:H6 p5=some (.lst (kinds i)):=by rw[<-hG,Qx (Qz g6 h6)];exact g6
  have g7:H6 p6=some (.lst [.str "no picture",.str "no room",.str "no quotient",.str "no text",.str "no figures",.str "no letters",.str "no move",.str "no path"]):=by rw[<-hG];exact Qd
  clear hG h6 g6;refine⟨_,Z,by show 6<=sizeLine;lia,λq6 h7=>⟨p6,q6,_,_,Z,Z,by rw[Qx (Qz g7 h7)];exact g7,Qd,by show 14<=sizeLine;lia,λp7 h8=>?_⟩⟩;generalize hG:upd (upd H6 q6 _) p7 _=H7;have e7:Qs H H7:=by rw[<-hG];exact(e6.trans (Qs.new h7)).trans (Qs.new h8)
  have k7:H7 p5=some (.lst (kinds i)):=by
   have z:Qs H6 H7:=by rw[<-hG];exact(Qs.new h7).trans (Qs.new h8)
   exact z _ _ k6
  have g8:H7 p7=some (.lst Gk):=by rw[<-hG];exact Qd
  clear hG h7 h8;refine⟨_,Z,LB _ k7,p5,kinds i,_,i-1,Z,Z,k7,Z,YE i,⟨_,yA i hi G.lo,Z⟩,λj z hj hz=>?_,p7,Gk,_,.str (oA i),Z,Z,.inl (.inl g8),Zc (Sf i hi G.lo),k _ e7⟩;rw[yB i hi G.lo j hj]at hz;cases hz;rfl
end
def DZ(K:Frag)(c:Nat->Addr)(te:XK->TE):L2.St->Hp->VK->Prop:=λσ H1 Q=>∀H0,Qs H1 H0->
 te (λcls _ H2=>∃i,cls=.ref (c i)/\Kind K c i/\∀a p H3,H2 a=none->Qs (upd H2 a (xR a cls)) H3->H3 p=none->Q (.ref p) (upd H3 p (.tup [.str (oA i)]))) σ H0
  (λv H2=>∀p,H2 p=none->Q (.ref p) (upd H2 p (.tup [.str "told",v])))
theorem wG:Passes (ao P w) X Ff:=λ_ _ _ _ _ _ _⟨_,_,_,_,_,_,_,_,_,_,_,_,_,_,h⟩=>False.elim h
theorem xk{K:Frag}{M:Heap}{k:Nat}{q:Str}{params:Arguments}{body:Expr}{scope:Scope}{tk:Nat->Tok}{L:List Env}{ad:Value}{N:List Str}{cl:List (Str × Addr)}{pm rc:Value}{s1:Shared}{H1:Hp}{Q:VK}
  (T:Txt K mg tk c kr) (gi:Def P w K mg M 1 "_law_class" ["_law_kept"] (V5 K c))
  (LA:bJ (Xe (ao P w) P w K mg M ["_law_deed","_law_kept","_law_found","e"] "_law_heard" (Qe JQ) fa ad A L s1 H1 Ff) N σ q params body scope f c' cl pm rc)
  (Do:∀x c,cl.lookup x=some c->c<s1.heap.objs.size) (dq:aq (k+1) (A.deeper (envOfC "_law_heard" (Qe JQ) s1.heap.objs.size fa ad)))
  (sM:∀(f c':Addr)(cl:List (Str × Addr))(A:Around)(L:List Env)(s:Shared)(H:Hp)(E:XK),aq k (A.deeper (envX q scope s.heap.objs.size f (.ref c') cl))->PE (zF P w K mg M N q scope f c' cl A L s H E) body (te E))
  (fw:∀(σ:L2.St)(H:Hp)(Q Q':VK)(E E':XK),(∀cls x H,E cls x H->E' cls x H)->(∀v H,Q v H->Q' v H)->te E σ H Q->te E' σ H Q')
  (GT:H1 c'=some (KP c' q)) (h:DZ K c te σ H1 Q):
  ∃t,aU (Xe (ao P w) P w K mg M ["_law_deed","_law_kept","_law_found","e"] "_law_heard" (Qe JQ) fa ad A L s1 H1 Ff) (QK JQ) t/\t {nx:=λ_ H'=>Q .ax H',rt:=Q} (start ["_law_deed","_law_kept","_law_found","e"] [.ref f]) H1:=by
 refine⟨_,(Qj (Jk (Jf (Qa Zk (Qa Zk Qb))) (Q5 Z (Qf (Z' 1 Za.nd) (Qf (Z' 2 Za.nd) QD))))
   (Qj (Nj (i:=3) (tb:=λE=>_) Z Z Z Z Z T.pW Za.nd Z Z (λE pn xe hx=>Qp (QN (i:=2) Za.nd Z (Or.inl Z) (Nz (i:=0) (te:=te E) LA.alt Z Z Z (Or.inl Z) dq hx Do (λs H SZ=>sM f c' cl _ _ s H E SZ)))) (λv=>Qp (QN (i:=1) Za.nd Z (Or.inl Z) (pv 3))))
   (Qp (QG (Jm (Xf (Ky (pv 1))) (Jf (Qa Qc (Qa (pv 2) Qb))) (Jf (Qa (gi.pe dq (ybV (lX k)) Z wG (Qa (pv 1) Qb)) Qb))))))),?_⟩
 refine⟨by show 2<=sizeLine;lia,λp0 h0=>⟨p0,_,Z,aj.of Qd,Z,_,_,Z,_,_,Z,Z,?_⟩⟩;have S0:=Qs.new (o:=.tup [.ax,.ax]) h0;refine⟨Z,S0 _ _ GT,fw σ _ _ _ _ _ (λcls x H2 hE=>?_) (λv H2 hQ=>?_) (h _ S0)⟩
 .obtain⟨i,rfl,G,hE⟩:=hE;refine⟨G.bo,λa ha=>⟨_,Z,?_⟩⟩;exists _,Z,_,Z;refine aG (λz=>nomatch (yap z)) (λ_=>?_);exact⟨_,Z,a,i,Z,Qd,G,λH3 e3=>⟨by show 1<=sizeLine;lia,λp hp=>hE a p H3 ha e3 hp⟩⟩
 .exists _,Z,_,Z;refine aG (λ_=>?_) (λz=>absurd z (by lia));exact⟨_,Z,by show 2<=sizeLine;lia,λp hp=>hQ p hp⟩
section
variable {fd:FuncData}{ca:Addr}{params:Arguments}{body:Expr}{scope:Scope}{bv:Pos}{tk:Nat->Tok}
theorem Vj(hK:X.K=K0)(F:aA X.K "_law_heard" "_law_heard" JQ fa fd)(hm:X.mg "_law_heard"=some (.ref fa))(hb:Binds X.K fd ["_law_deed"] [])(T:Txt X.K X.mg tk c kr)(gi:Def X.prog X.w X.K X.mg X.M 1 "_law_class" ["_law_kept"] (V5 X.K c))
  (hr:aq (k+2) X.A) (hg:Gl X "_law_heard")
  (qLa:b8 X.mg X.M ca Pa) (Ix:X.env.code=.ref ca) (hq:q=X.env.qual++"<lambda>") (ei:defaultsOf params X.env=([],[])) (ig:∀y,X.fn y=true)
  (sk:scope.kind=.function) (Fg:scope.isCoroutine=false) (sd:scope.isGenerator=false) (eC:∀y∈scope.names,y.2≠ .local/\y.2≠ .cell) (cT:xX scope X.env.scope=true)
  (Ev:∀cl pm c' rc,bindArgs (kla_fn "<lambda>" q params body scope cl pm (.ref c') rc) ⟨[],[]⟩=pure [])
  (sM:∀(f c':Addr)(cl:List (Str × Addr))(A:Around)(L:List Env)(s:Shared)(H:Hp)(E:XK),aq k (A.deeper (envX q scope s.heap.objs.size f (.ref c') cl))->PE (zF X.prog X.w X.K X.mg X.M X.N q scope f c' cl A L s H E) body (te E))
  (fw:∀(σ:L2.St)(H:Hp)(Q Q':VK)(E E':XK),(∀cls x H,E cls x H->E' cls x H)->(∀v H,Q v H->Q' v H)->te E σ H Q->te E' σ H Q'):
  PE X (.Call (.Name "_law_heard" p) [.Lambda params body scope ir] [] bv) (DI Pa q (λσ f c' H1 Q=>H1 c'=some (KP c' q)/\DZ K0 c te σ H1 Q)):=by
 subst hK;refine zK F Za hm hg hb hr wG qLa Ix hq ei ig sk Fg sd eC (UP cT) Ev (λad σ f c' cl pm rc s1 H1 Q LA Do dq h=>?_);exact xk T gi LA Do dq sM fw h.1 h.2
end
open PySem PySem.Spec PyProof.Rows L2 bj aQ
noncomputable abbrev tv(l:List Nat):V:=.str (tx l)
theorem jo{ls:List (List Nat)}{d:Nat}(h:(ls.map tv)[d]? =some x):∃l,l∈ls/\x=.str (tx l):=by
 rw[lK]at h;cases e:ls[d]? with
 |none=>rw[e]at h;cases h
 |some l=>rw[e]at h;exact⟨l,lM e,(lB h).symm⟩
section
variable {P:Program}{w:World}{K:Frag}{mg:Str->Option Value}{M:Heap}{f:Addr}{fd:FuncData}{tk:Nat->Tok}
noncomputable def Gm:List (List Nat):=[[],[],[44],[66],[48],[47],[66,44]]
theorem Sg:([.str "",.str "",.str ",",.str "B",.str "0",.str "/",.str "B,"]:List V)=Gm.map tv:=by rfl'
noncomputable def Gn:List (List Nat):=[[],[],[],[44],[47]]
theorem Si:([.str "",.str "",.str "",.str ",",.str "/"]:List V)=Gn.map tv:=by rfl'
theorem Sj:∀l∈Gm,(∀x∈l,ins x=true)/\l.length<=2:=by lia
theorem Sk:∀l∈Gn,(∀x∈l,ins x=true)/\l.length<=2:=by lia
theorem wH{s:Nat}{e:List Nat}(hs:ins s=false)(he:∀x∈e,ins x=true):e.count s=0:=List.count_eq_zero.mpr λz=>by have:=he s z;rw[hs]at this;cases this
theorem _root_.aQ.bK.app(hs:ins s=false)(h:bK s m l)(he:∀x∈e,ins x=true):bK s m (l++e):=by
 refine⟨by rw[ycl,h.hd];rfl,λx hx=>?_,by rw[List.count_append,wH hs he];exact h.cn⟩;rcases yao.mp hx with hx|hx
 .exact h.all x hx
 .exact .inr (he x hx)
theorem _root_.aQ.bK.snoc(h:bK s m l):bK s (m+1) (l++[s]):=by
 refine⟨by rw[ycl,h.hd];rfl,λx hx=>?_,by rw[List.count_append];have:=h.cn;simp;lia⟩;rcases yao.mp hx with hx|hx
 .exact h.all x hx
 .exact .inl (yak.mp hx)
theorem _root_.aQ.bK.cons{s m:Nat}{l:List Nat}(h:bK s m l):bK s (m+1) (s::l):=by
 refine⟨Z,λx hx=>?_,by rw[yeq];have:=h.cn;lia⟩;rcases yag.mp hx with hx|hx
 .exact .inl hx
 .exact h.all x hx
theorem _root_.aQ.bK.mono(h:bK s m l)(hm:m<=m'):bK s m' l:=⟨h.hd,h.all,yas h.cn hm⟩
def Gp(K:Frag):Sp:=λvs H Q _=>∃(a t r:Addr)(ns:List Int)(c:Int)(s m:Nat),vs=[.ref a,.ref t,.str (tx [s]),.int (m:Nat)]/\aP K H a t r ns c/\c<90000/\ins s=false/\0<m/\m<=5/\
 ∀(l:List Nat)(c':Int)(H':Hp),bK s m l->l.length<=20->aP K H' a t r ns c'->c'<=c+10->Apart t r H H'->Q (.str (tx l)) H'
theorem Yn(F:aA K "_law_places" "_law_places" XR f fd)(O:Own mg)(hJ:Def P w K mg M 1 "_law_draw" ["_law_script","_law_town","_law_many"] (Z2 K)):
  ag P w K mg M (ao P w) 2 f fd ["_law_script","_law_town","_law_symbol","_law_most"] (Gp K):=by
 refine okN F ZF (λvs H Q E h=>?_) (λad A L s H vs Q E hr h=>?_)
 .obtain⟨a,t,r,ns,c,s,m,rfl,_⟩:=h;rfl
 .obtain⟨a,t,r,ns,c,sy,m,rfl,B,hc,hs,cG,hm5,k⟩:=h;have hz:=zza
  refine⟨_,(Qj (QN (i:=4) ZF.nd Z (Or.inl Z) (pv 2))
   (Qj (Vo yaG Z (XX Z O.range (Qa (hJ.pq hr Qy (Qa (pv 0) (Qa (pv 1) (Qa (pv 3) Qb)))) Qb)) (Z' 5 ZF.nd) (Qp (QN (i:=4) ZF.nd Z (Or.inl Z) (QI Qo (QI Qo (pv 4) (QS Jc (ZR (Qa Qc (Qa Qc (Qa Qc (Qa Qc (Qa Qc (Qa Qc (Qa Qc Qb)))))))) (hJ.pq hr Qy (Qa (pv 0) (Qa (pv 1) (Qa Qi Qb)))) (λ_ _=>rfl))) (pv 2)))))
   (Qp (QG (QI Qo (pv 4) (QS Jc (ZR (Qa Qc (Qa Qc (Qa Qc (Qa Qc (Qa Qc Qb)))))) (hJ.pq hr Qy (Qa (pv 0) (Qa (pv 1) (Qa Qi Qb)))) (λ_ _=>rfl))))))),?_⟩
  exists _,Z;refine B.draw (n:=(m:Int)) rfl rfl (λR h=>⟨_,Z,h⟩) (by lia) (by lia) (by lia) λd H1 hd B1 A1=>?_;refine⟨(d:Int),Z,by lia,by lia,XY (n:=(d:Int).toNat) (λi σ H3=>∃l x c3,σ=[some (.ref a),some (.ref t),some (.str (tx [sy])),some (.int (m:Nat)),some (.str (tx l)),x]/\bK sy (i+1) l/\l.length<=1+3*i/\aP K H3 a t r ns c3/\c3=c+1+i/\Apart t r H H3)
   ⟨[sy],none,_,Z,⟨Z,λx hx=>.inl (yak.mp hx),by simp⟩,by simp,B1,by lia,A1⟩ ?_ ?_⟩
  .rintro i σ H3 hi ⟨l,x,c3,rfl,hl,ST,B3,rfl,A3⟩;exists _,Z;refine B3.pick (xs:=Gm.map tv) rfl rfl (λR h=>by rw[<-Sg]at h;exact h) (by lia) (by lia) (by lia) (by lia) λd2 x2 H4 ii B4 A4=>?_;obtain⟨e,he,rfl⟩:=jo ii;obtain⟨Gq,Fz⟩:=Sj e he;refine⟨_,_,Z,Z,by rw[Qh,Qh];lia,?_⟩;rw[QR];refine⟨_,Z,_,_,Z,Z,by rw[Qh,Qh,lq,lC];lia,?_⟩;rw[QR];refine⟨l++e++[sy],_,_,Z,(hl.app hs Gq).snoc,by rw[lq,lq,lC];lia,B4,by lia,A3.trans A4⟩
  .rintro σ H3 ⟨l,x,c3,rfl,hl,ST,B3,rfl,A3⟩;exists _,Z;refine B3.pick (xs:=Gn.map tv) rfl rfl (λR h=>by rw[<-Si]at h;exact h) (by lia) (by lia) (by lia) (by lia) λd2 x2 H4 ii B4 A4=>?_;obtain⟨e,he,rfl⟩:=jo ii;obtain⟨Gq,Fz⟩:=Sk e he;refine⟨_,_,Z,Z,by rw[Qh,Qh];lia,?_⟩;rw[QR];exact k _ _ _ ((hl.app hs Gq).mono (by lia)) (by rw[lq];lia) B4 (by lia) (A3.trans A4)
def V6(K:Frag):Sp:=λvs H Q _=>∃(p:Addr)(Y fi W N ac tail:List Nat),vs=[.ref p]/\aj K H p [tv Y,tv fi,tv (W++N),tv ac,tv tail]/\Y.length+(W.length+N.length)+ac.length+tail.length<=200/\Q (.str (tx (QU Y W N ac tail))) H
theorem qp(F:aA K "_law_line" "_law_line" K4 f fd):ag P w K mg M (ao P w) 1 f fd ["_law_parts"] (V6 K):=by
 refine okN F Zo (λvs H Q E h=>?_) (λad A L s H vs Q E hr h=>?_)
 .obtain⟨p,_,_,_,_,_,_,rfl,_⟩:=h;rfl
 .obtain⟨p,Y,fi,W,N,ac,tail,rfl,sq,hl,k⟩:=h;have hz:=zza
  refine⟨_,(Qj (Jk (pv 0) (Q5 Z (Qf (Z' 1 Zo.nd) (Qf (Z' 2 Zo.nd) (Qf (Z' 3 Zo.nd) (Qf (Z' 4 Zo.nd) (Qf (Z' 5 Zo.nd) QD)))))))
   (Qp (QG (QI Qo (QI Qo (QI Qo (pv 1) (pv 3)) (Jm (Ql Xd (pv 4) Qc (Qn _)) (QI Qo Qc (pv 4)) Qc)) (pv 5))))),?_⟩
  exists _,Z,p,_,Z,sq,Z,_,_,Z,_,_,Z,_,_,Z,_,_,Z,_,_,Z,Z;refine⟨_,Z,_,Z,_,_,Z,Z,by rw[Qh,Qh,lq];lia,?_⟩;rw[QR];exists _,Z,Z,_,Z;rw[W3,XH];refine JB (λx H'=>x=.str (tx (Qm ac))/\H'=H) (λz rest=>?_) (λz rest=>?_) ?_
  .have hb:ac≠[]:=λq=>by rw[ly q]at z;cases z
   exists _,Z,_,_,Z,Z,?_
   .rw[vV,Qh,Qh,lC];lia
   .rw[vV,QR];exact rest _ _ ⟨by unfold Qm;rw[yac hb];rfl,Z⟩
  .have hb:ac=[]:=by
    by_cases q:ac=[]
    .exact q
    .rw[lx q]at z;cases z
   exact rest _ _ ⟨by unfold Qm;rw[yaf hb],Z⟩
  rintro x H' ⟨rfl,rfl⟩;have mo:(Qm ac).length<=ac.length+1:=by unfold Qm;split<;>simp
  refine⟨_,_,Z,Z,by rw[Qh,Qh,lq,lq];lia,?_⟩;rw[QR];refine⟨_,Z,_,_,Z,Z,by rw[Qh,Qh,lq,lq,lq];lia,?_⟩;rw[QR];have e:Y++(W++N)++Qm ac++tail=QU Y W N ac tail:=by unfold QU;simp[lP]
  rw[e];exact k
end
noncomputable def ze:List (List Nat):=[[57],[90],[42],[43],[45],[36],[90],[57]]
theorem yC:([.str "9",.str "Z",.str "*",.str "+",.str "-",.str "$",.str "Z",.str "9"]:List V)=ze.map tv:=by rfl'
theorem wI:∀l∈ze,∃y,l=[y]/\y∈([57,90,42,43,45,36]:List Nat):=by
 intro l h;simp only[ze,yag,yax,ybk]at h;rcases h with rfl|rfl|rfl|rfl|rfl|rfl|rfl|rfl<;>exact⟨_,Z,by lia⟩
noncomputable def D0:List (List Nat):=[[],[57],[57,57],[57,57,57]]
theorem Sl:([.str "",.str "9",.str "99",.str "999"]:List V)=D0.map tv:=by rfl'
theorem Sm:∀l∈D0,l=[]\/∃k b,k<3/\l=replicate (k+1) b/\b=57:=by
 intro l h;simp only[D0,yag,yax,ybk]at h;rcases h with rfl|rfl|rfl|rfl
 .exact .inl rfl
 .exact .inr ⟨0,57,by lia,Z,Z⟩
 .exact .inr ⟨1,57,by lia,Z,Z⟩
 .exact .inr ⟨2,57,by lia,Z,Z⟩
noncomputable def Gr:List (List Nat):=[[],[36]]
theorem Sn:([.str "",.str "$"]:List V)=Gr.map tv:=by rfl'
noncomputable def D3:List (List Nat):=[[],[43],[45]]
theorem So:([.str "",.str "+",.str "-"]:List V)=D3.map tv:=by rfl'
noncomputable def Gs:List (List Nat):=[[]]
theorem Sq:([.str ""]:List V)=Gs.map tv:=by rfl'
noncomputable def Gu:List (List Nat):=[[],[],[43],[45],[67,82],[68,66]]
theorem Sr:([.str "",.str "",.str "+",.str "-",.str "CR",.str "DB"]:List V)=Gu.map tv:=by rfl'
noncomputable def AL:List (List Nat):=[[43],[45]]
theorem Ss:([.str "+",.str "-"]:List V)=AL.map tv:=by rfl'
theorem Su:("Z*":Str)=tx [90,42]:=by rfl'
theorem Sv:("-":Str)=tx [45]:=by rfl'
theorem Sw(s:Nat)(l:List Nat):PySem.Txt.count (tx l) (tx [s])=(l.count s:Int):=by
 have h:∀l:List Nat,PyProof.Rows.cnt s l=(l.count s:Int):=by
  intro l
  induction l with
  |nil=>rfl
  |cons a r ih=>
   rw[PyProof.Rows.cnt_cons,ih,yei]
   by_cases z:a=s
   .subst z;simp;lia
   .rw[yac z];have:(a==s)=false:=by simpa using z
    rw[this];simp
 rw[show(tx [s])=(⟨#[s]⟩:Str)from rfl,PyProof.Rows.count_cnt,h]
theorem jp:∀k:Nat,k<6->decide (V.str (Txt.stripChars (tx (replicate k 57)) "9")=V.str "")=true:=by rfl'
section
variable {P:Program}{w:World}{K:Frag}{mg:Str->Option Value}{M:Heap}{f:Addr}{fd:FuncData}{tk:Nat->Tok}
def Cz(K:Frag):Sp:=λvs H Q _=>∃(a t r:Addr)(ns:List Int)(c:Int),vs=[.ref a,.ref t]/\aP K H a t r ns c/\c<80000/\
 ∀(Y:List Nat)(first:Nat)(W N ac tail:List Nat)(q:Addr)(c':Int)(H':Hp),Ed Y first W N ac tail->Y.length+(W.length+N.length)+ac.length+tail.length<=60->H q=none->
  H' q=some (.tup [tv Y,tv [first],tv (W++N),tv ac,tv tail])->aP K H' a t r ns c'->c'<=c+40->Apart t r H H'->Q (.ref q) H'
theorem WO(F:aA K "_law_an_edited" "_law_an_edited" ZQ f fd)(O:Own mg)(hJ:Def P w K mg M 1 "_law_draw" ["_law_script","_law_town","_law_many"] (Z2 K))(gT:Def P w K mg M 2 "_law_places" ["_law_script","_law_town","_law_symbol","_law_most"] (Gp K)):
  ag P w K mg M (ao P w) 3 f fd ["_law_script","_law_town"] (Cz K):=by
 refine qx F QL (λvs H Q E h=>?_) (λad A L s H vs Q E hr h=>?_)
 .obtain⟨a,t,r,ns,c,rfl,_⟩:=h;rfl
 .obtain⟨a,t,r,ns,c,rfl,B,hc,k⟩:=h;have hz:=zza
  refine⟨_,(Qg (Qu (i:=2) QL.nd Z (Or.inl Z) (ae.mk (QS Jc (ZR (Qv Qc (Qv Qc (Qv Qc (Qv Qc (Qv Qc (Qv Qc (Qv Qc (Qv Qc Qb))))))))) (hJ.pq hr Qy (Qv (pv 0) (Qv (pv 1) (Qv Qi Qb)))) (λ_ _=>rfl))) Z Z)
   (Qg (Qu (i:=3) QL.nd Z (Or.inl Z) (ae.mk (gT.pq hr Qy (Qv (pv 0) (Qv (pv 1) (Qv (pv 2) (Qv Qi Qb)))))) Z Z)
   (Qg (Q1 (PW.pt (Jn (Ql Jo (pv 2) Qc (by with_unfolding_all rfl)) (Jd (Ql K9 (Zd yaA slot_str_count type_str_count kj (pv 3) (Qv (pv 2) Qb)) Qi (Qn _))))) (Qr (Qu (i:=3) QL.nd Z (Or.inl Z) (QJ Qo (ae.mk (pv 2)) (ae.mk (pv 3))) Z Z)) QT)
   (Qg (Q1 (PW.pt (Jn (Ql Xd (pv 2) Qc (Qn _)) (Jd (Ql Ja (hJ.pq hr Qy (Qv (pv 0) (Qv (pv 1) (Qv Qi Qb)))) Qi (Qn _))))) (Qr (Qu (i:=3) QL.nd Z (Or.inl Z) (QJ Qo (ae.mk (pv 3)) (ae.mk (gT.pq hr Qy (Qv (pv 0) (Qv (pv 1) (Qv Qc (Qv Qi Qb))))))) Z Z)) QT)
   (Qg (Qu (i:=4) QL.nd Z (Or.inl Z) (ae.mk (QS Jc (ZR (Qv Qc (Qv Qc (Qv Qc (Qv Qc Qb))))) (hJ.pq hr Qy (Qv (pv 0) (Qv (pv 1) (Qv Qi Qb)))) (λ_ _=>rfl))) Z Z)
   (Qg (Q1 (PW.pt (Jn (Ql Ja (hJ.pq hr Qy (Qv (pv 0) (Qv (pv 1) (Qv Qi Qb)))) Qi (Qn _)) (Jn (Ql Jo (pv 2) Qc (by with_unfolding_all rfl)) (Jd (Ql Jp Qc (pv 3) (by with_unfolding_all rfl)))))) (Qr (Qu (i:=4) QL.nd Z (Or.inl Z) (QJ QB (ae.mk (pv 2)) (QJ JK (ae.mk Qi) (ae.mk (hJ.pq hr Qy (Qv (pv 0) (Qv (pv 1) (Qv Qi Qb))))))) Z Z)) QT)
   (Qg (Qu (i:=5) QL.nd Z (Or.inl Z) (Zn (Ql Jp (pv 2) Qc (by with_unfolding_all rfl)) (Z3 (QF (ae.mk Qc) (QF (ae.mk Qc) (QF (ae.mk Qc) QO Z) Z) Z)) (Z3 (QF (ae.mk Qc) QO Z))) Z Z)
   (Qg (Qu (i:=6) QL.nd Z (Or.inl Z) (QJ Qo (ae.mk (QS Jc (pv 5) (hJ.pq hr Qy (Qv (pv 0) (Qv (pv 1) (Qv (Qq QX Z O.len yaK (Qv (pv 5) Qb)) Qb)))) (λ_ _=>rfl))) (Zn (Ql Xd (pv 2) Qc (Qn _)) (ae.mk (QS Jc (ZR (Qv Qc (Qv Qc Qb))) (hJ.pq hr Qy (Qv (pv 0) (Qv (pv 1) (Qv Qi Qb)))) (λ_ _=>rfl))) (ae.mk Qc))) Z Z)
   (Qg (Qu (i:=7) QL.nd Z (Or.inl Z) (ae.mk Qc) Z Z)
   (Qg (Q1 (PW.pt (Jn (Ql Jp (pv 2) Qc (by with_unfolding_all rfl)) (Jd (Ql Xg (QZ J2 (pv 6) Ju (Q2 Qi)) (Jf (Qv Qc (Qv Qc Qb))) (by with_unfolding_all rfl))))) (Qr (Qu (i:=7) QL.nd Z (Or.inl Z) (ae.mk (QS Jc (ZR (Qv Qc (Qv Qc (Qv Qc (Qv Qc (Qv Qc (Qv Qc Qb))))))) (hJ.pq hr Qy (Qv (pv 0) (Qv (pv 1) (Qv Qi Qb)))) (λ_ _=>rfl))) Z Z)) QT)
   (Qg (Q1 (PW.pt (Jn (Ql Ja (pv 2) Qc (Qn _)) (Jn (Ql Ja (Zd yaA ybD ybE Xh (pv 3) (Qv Qc Qb)) Qc (Qn _)) (Jd (Ql Ja (QI Qo (QI Qo (pv 6) (pv 4)) (pv 7)) Qc (Qn _)))))) (Qr (Qu (i:=7) QL.nd Z (Or.inl Z) (ae.mk Qc) Z Z)) QT)
   (Qr (QE (JC (QF (ae.mk (pv 6)) (QF (ae.mk (pv 2)) (QF (ae.mk (pv 3)) (QF (ae.mk (pv 4)) (QF (ae.mk (pv 7)) QO Z) Z) Z) Z) Z))))))))))))))),?_⟩
  refine B.pick (xs:=ze.map tv) rfl rfl (λR h=>by rw[<-yC]at h;exact h) (by lia) (by lia) (by lia) (by lia) λd1 x1 H1 di B1 A1=>?_;obtain⟨l1,fZ,rfl⟩:=jo di;obtain⟨first,rfl,fj⟩:=wI l1 fZ;clear di fZ;obtain⟨Aq,Sy,SA,SD,SE⟩:=kX first fj;refine⟨_,Z,_,Z,_,Z,a,t,r,ns,c+1,first,4,Z,B1,by lia,Aq,by lia,by lia,λW0 c2 H2 CA Gv B2 l4 A2=>?_⟩;have D4:=A1.trans A2;dsimp only[JI,Wt,Wu];refine JW (λσ' H'=>∃W,σ'=[some (.ref a),some (.ref t),some (tv [first]),some (tv W),none,none,none,none]/\H'=H2/\bK first 5 W/\W.length<=21/\(first∈([43,45,36]:List Nat)->2<=W.count first)) ?_ (λrest=>?_);rotate_left
  .exists _,Z,_,_,Z,Z,_,Z;rw[vU,JG]
   by_cases ev:([43,45,36]:List Nat).contains first=true
   .rw[ev];refine Q4 ⟨_,Z,Z,_,Z,tx W0,tx [first],Z,Z,trivial,?_⟩;exists _,_,yaI V.int (Sw first W0),Z,_,Z
    by_cases h2:W0.count first<2
    .rw[ly (by lia)];refine Q4 ⟨_,Z,_,Z,_,_,Z,Z,by rw[Qh,Qh];simp;lia,?_⟩;rw[QR];have h1:1<=W0.count first:=ydD.mpr (yaW CA.hd);refine rest _ _ ⟨first::W0,Z,Z,CA.cons,by simp;lia,λ_=>by rw[yeq];lia⟩
    .rw[lx (by lia)];exact QW (rest _ _ ⟨W0,Z,Z,CA.mono (by lia),by lia,λ_=>by lia⟩)
   .have sG:([43,45,36]:List Nat).contains first=false:=by simpa using ev
    rw[sG];exact QW (QW (rest _ _ ⟨W0,Z,Z,CA.mono (by lia),by lia,λz=>absurd (yai.mpr z) ev⟩))
  rintro σ' H' ⟨W,rfl,rfl,hW,hWl,SF⟩;clear CA Gv;refine JW (λσ' H3=>∃N c3,σ'=[some (.ref a),some (.ref t),some (tv [first]),some (tv (W++N)),none,none,none,none]/\aP K H3 a t r ns c3/\c3<=c+25/\Apart t r H H3/\(N=[]\/(first≠57/\bK 57 3 N))/\N.length<=20) ?_ (λrest=>?_);rotate_left
  .exists _,Z,Z,_,Z;rw[Y0,Jv]
   by_cases h9:first=57
   .rw[ly h9];exact QW (QW (rest _ _ ⟨[],c2,by rw[lS],B2,by lia,D4,.inl rfl,by simp⟩))
   .rw[lx h9];refine Q4 ?_;refine B2.draw (n:=2) rfl rfl (λR h=>h) (by lia) (by lia) (by lia) λd3 H3 LC B3 A3=>?_;exists Z,_,Z;refine aG (λz=>?_) (λz=>?_)
    .refine⟨_,Z,_,Z,_,Z,a,t,r,ns,c2+1,57,3,Z,B3,by lia,by lia,by lia,by lia,λN c4 H4 hN LD B4 SG A4=>?_⟩;refine⟨_,_,Z,Z,by rw[Qh,Qh];lia,?_⟩;rw[QR];exact rest _ _ ⟨N,c4,Z,B4,by lia,(D4.trans A3).trans A4,.inr ⟨h9,hN⟩,LD⟩
    .exact rest _ _ ⟨[],c2+1,by rw[lS],B3,by lia,D4.trans A3,.inl rfl,by simp⟩
  rintro σ' H3 ⟨N,c3,rfl,B3,sN,A3,hN,LD⟩;clear B1 B2 A1 A2 D4;refine B3.pick (xs:=D0.map tv) rfl rfl (λR h=>by rw[<-Sl]at h;exact h) (by lia) (by lia) (by lia) (by lia) λd4 x4 H4 Gw B4 A4=>?_;obtain⟨b0,fA,rfl⟩:=jo Gw;have CB:=Sm b0 fA;have CC:=A3.trans A4;clear Gw fA;dsimp only[JI,Wt,Wu];refine JW (λσ' H5=>∃ac c5,σ'=[some (.ref a),some (.ref t),some (tv [first]),some (tv (W++N)),some (tv ac),none,none,none]/\aP K H5 a t r ns c5/\c5<=c+28/\Apart t r H H5/\(ac=[]\/∃k b,k<3/\ac=replicate (k+1) b/\(b=57\/(b=first/\(first=90\/first=42)/\N=[])))) ?_ (λrest=>?_);rotate_left
  .have K7:∀c5 H5,aP K H5 a t r ns c5->c5<=c+28->Apart t r H H5->_:=λc5 H5 B5 AM A5=>rest _ H5 ⟨b0,c5,Z,B5,AM,A5,CB.imp id λ⟨k,b,h1,h2,h3⟩=>⟨k,b,h1,h2,.inl h3⟩⟩;refine B4.draw (n:=3) rfl rfl (λR h=>h) (by lia) (by lia) (by lia) λd5 H5 Gx B5 A5=>?_;exists Z,_,Z;refine aG (λz=>?_) (λz=>?_)
   .exists _,Z,_,_,Z,Z,_,Z;rw[Su,JG]
    by_cases Gy:([90,42]:List Nat).contains first=true
    .rw[Gy];refine Q4 ⟨_,Z,_,_,Z,Z,_,Z,?_⟩;rw[Y0,JG]
     by_cases IN:(W++N).contains 57=true
     .rw[IN];exact QW (K7 _ _ B5 (by lia) (CC.trans A5))
     .have Gz:(W++N).contains 57=false:=by simpa using IN
      rw[Gz];refine Q4 ⟨_,Z,?_⟩;refine B5.draw (n:=3) rfl rfl (λR h=>h) (by lia) (by lia) (by lia) λd6 H6 hd6 B6 A6=>?_;have hm:(1:Int)+(d6:Nat)=((d6+1:Nat):Int):=by lia
      exists _,_,Z,Z;dsimp only;rw[hm];refine⟨tx [first],((d6+1:Nat):Int),Z,Z,by lia,by rw[Qh,lZ,lC];lia,by lia,?_⟩;rw[lZ,Zi];refine rest _ _ ⟨_,_,Z,B6,by lia,(CC.trans A5).trans A6,.inr ⟨d6,first,by lia,Z,.inr ⟨Z,?_,?_⟩⟩⟩
      .simpa using Gy
      .rcases hN with h|⟨_,h⟩
       .exact h
       .exact absurd (yai.mpr (lE W (yaW h.hd))) IN
    .have GA:([90,42]:List Nat).contains first=false:=by simpa using Gy
     rw[GA];exact QW (QW (K7 _ _ B5 (by lia) (CC.trans A5)))
   .exact QW (K7 _ _ B5 (by lia) (CC.trans A5))
  rintro σ' H5 ⟨ac,c5,rfl,B5,AM,A5,AG⟩;clear B3 B4 A3 A4 CC CB;have f':ac.length<=3:=by
   rcases AG with rfl|⟨kk,b,hk,rfl,_⟩
   .simp
   .rw[lN];lia
  exists _,Z,_,_,Z,Z,_,Z;rw[IW,JG];refine JB (λv H'=>∃p sg,v=.ref p/\H' p=some (.lst (sg.map tv))/\Qs H5 H'/\(sg=Gs\/(sg=D3/\first≠43/\first≠45))) (λz rest=>?_) (λz rest=>?_) ?_
  .refine⟨Ax,λp hp=>rest _ _ ⟨p,D3,Z,by rw[Qd];exact yaI (λx=>some (HO.lst x)) So,Qs.new hp,.inr ⟨Z,?_⟩⟩⟩;have:([43,45]:List Nat).contains first=false:=by simpa using z
   constructor
   .intro q;rw[q]at this;cases this
   .intro q;rw[q]at this;cases this
  .exact⟨bN,λp hp=>rest _ _ ⟨p,Gs,Z,by rw[Qd];exact yaI (λx=>some (HO.lst x)) Sq,Qs.new hp,.inl rfl⟩⟩
  rintro v H6 ⟨ps,sg,rfl,gs,S6,AF⟩;have B6:=B5.same S6;have A6:=A5.trans (Apart.of S6);have dh:sg.length=1\/sg.length=3:=by
   rcases AF with rfl|⟨rfl,_⟩
   .exact .inl rfl
   .exact .inr rfl
  exists _,Z;refine B6.draw (n:=(sg.length:Int)) rfl rfl (λR h=>⟨_,Z,ps,_,Z,.inl (az.of gs),by rw[lu];exact h⟩) (by lia) (by lia) (by lia) λd7 H7 SH B7 A7=>?_;obtain⟨x7,CD⟩:∃x,(sg.map tv)[d7]? =some x:=⟨_,yah (by rw[lu];lia)⟩;have LF:=B6.keep A7 gs λ_ z=>nomatch z;have GB:=A6.trans A7;exists ps,_,_,x7,Z,Z,az.of LF,Zc CD;obtain⟨sl,iK,rfl⟩:=jo CD;have iL:sl=[]\/((sl=[43]\/sl=[45])/\first≠43/\first≠45):=by
   rcases AF with rfl|⟨rfl,h⟩
   .exact .inl (yak.mp iK)
   .simp only[D3,yag,yax,ybk]at iK;rcases iK with h1|h1|h1
    .exact .inl h1
    .exact .inr ⟨.inl h1,h⟩
    .exact .inr ⟨.inr h1,h⟩
  have GC:sl.length<=1:=by rcases iL with rfl|⟨rfl|rfl,_⟩<;>simp
  exists _,Z,Z,_,Z;rw[FI,Jv];refine JB (λv H'=>∃dl c8,v=.str (tx dl)/\aP K H' a t r ns c8/\c8<=c+31/\Apart t r H H'/\(dl=[]\/(dl=[36]/\first≠36))) (λz rest=>?_) (λz rest=>?_) ?_
  .have GD:first≠36:=λq=>by rw[ly q]at z;cases z
   refine B7.pick (xs:=Gr.map tv) rfl rfl (λR h=>by rw[<-Sn,FI]at h;exact h) (by lia) (by lia) (by lia) (by lia) λd8 x8 H8 SI B8 A8=>?_;obtain⟨dl,mo,rfl⟩:=jo SI;refine rest _ _ ⟨dl,_,Z,B8,by lia,GB.trans A8,?_⟩;simp only[Gr,yag,yax,ybk]at mo;exact mo.imp id λh=>⟨h,GD⟩
  .exact rest _ _ ⟨[],_,by rw[W3],B7,by lia,GB,.inl rfl⟩
  rintro v H8 ⟨dl,c8,rfl,B8,hc8,A8,mo⟩;have SJ:dl.length<=1:=by rcases mo with rfl|⟨rfl,_⟩<;>simp
  refine⟨_,_,Z,Z,by rw[Qh,Qh];lia,?_⟩;rw[QR];clear CD iK LF gs S6 B5 B6 B7 A5 A6 A7 GB SH;generalize Fr:sl++dl=Y;have CF:Y∈([[],[43],[45],[36],[43,36],[45,36]]:List (List Nat)):=by
   rw[<-Fr];rcases iL with rfl|⟨rfl|rfl,_⟩<;>rcases mo with rfl|⟨rfl,_⟩<;>lia
  have fZ:first=43\/first=45->Y=[]\/Y=[36]:=λq=>by
   rw[<-Fr];rcases iL with rfl|⟨_,h1,h2⟩
   .exact mo.imp id λh=>h.1
   .exact absurd q λz=>z.elim h1 h2
  have oX:first=36->Y=[]\/Y=[43]\/Y=[45]:=λq=>by
   rw[<-Fr];rcases mo with rfl|⟨_,h⟩
   .rw[lS];exact iL.imp id λh=>h.1
   .exact absurd q h
  have ST:Y.length<=2:=by rw[<-Fr,lq];lia
  dsimp only[JI,Wt,Wu];refine JW (λσ' H9=>∃tail c9,σ'=[some (.ref a),some (.ref t),some (tv [first]),some (tv (W++N)),some (tv ac),some (.ref ps),some (tv Y),some (tv tail)]/\aP K H9 a t r ns c9/\c9<=c+32/\Apart t r H H9/\tail∈([[],[43],[45],[67,82],[68,66]]:List (List Nat))/\(tail≠[]->(first≠43/\first≠45)/\(Y=[]\/Y=[36]))) ?_ (λrest=>?_);rotate_left
  .have oB:∀H9,aP K H9 a t r ns c8->Apart t r H H9->_:=λH9 B9 A9=>rest [some (.ref a),some (.ref t),some (tv [first]),some (tv (W++N)),some (tv ac),some (.ref ps),some (tv Y),some (tv [])] H9 ⟨[],c8,Z,B9,by lia,A9,by lia,λz=>absurd rfl z⟩;exists _,Z,_,_,Z,Z,_,Z;rw[JG]
   by_cases GF:([43,45]:List Nat).contains first=true
   .rw[GF,W3];exact QW (QW (oB _ B8 A8))
   .have fB:([43,45]:List Nat).contains first=false:=by simpa using GF
    have CG:first≠43/\first≠45:=by
     constructor
     .intro q;rw[q]at fB;cases fB
     .intro q;rw[q]at fB;cases fB
    rw[fB];refine Q4 ⟨_,Z,_,Z,tx Y,Z,by rw[Qh];lia,?_⟩;rw[U7];refine⟨bA,λpt GG=>?_⟩;have S9:=Qs.new (o:=.tup [.str "+",.str "-"]) GG;have g9:upd H8 pt (.tup [.str "+",.str "-"]) pt=some (.tup (AL.map tv)):=by rw[Qd];exact yaI (λx=>some (HO.tup x)) Ss
    generalize upd H8 pt (.tup [.str "+",.str "-"])=H9 at S9 g9;exists pt,_,Z,.inr (aj.of g9),Z,Wn AL,_,Z;rw[yaf rfl,in_list]
    by_cases On:AL.contains (Y.take 1)=true
    .rw[On,W3];exact QW (oB _ (B8.same S9) (A8.trans (Apart.of S9)))
    .have CH:AL.contains (Y.take 1)=false:=by simpa using On
     rw[CH];refine Q4 ?_;refine(B8.same S9).pick (xs:=Gu.map tv) rfl rfl (λR h=>by rw[<-Sr]at h;exact h) (by lia) (by lia) (by lia) (by lia) λd9 x9 No SK SM SN=>?_;obtain⟨tail,ci,rfl⟩:=jo SK;have GH:Y=[]\/Y=[36]:=by
      have h:∀l∈([[],[43],[45],[36],[43,36],[45,36]]:List (List Nat)),AL.contains (l.take 1)=false->l=[]\/l=[36]:=by lia
      exact h Y CF CH
     refine rest _ _ ⟨tail,_,Z,SM,by lia,(A8.trans (Apart.of S9)).trans SN,?_,λ_=>⟨CG,GH⟩⟩;have h:∀l∈Gu,l∈([[],[43],[45],[67,82],[68,66]]:List (List Nat)):=by lia
     exact h tail ci
  rintro σ' H9 ⟨tail,c9,rfl,B9,hc9,A9,ci,iD⟩;have sO:tail.length<=2:=by
   have h:∀l∈([[],[43],[45],[67,82],[68,66]]:List (List Nat)),l.length<=2:=by lia
   exact h tail ci
  refine JW (λσ' No=>∃tail,σ'=[some (.ref a),some (.ref t),some (tv [first]),some (tv (W++N)),some (tv ac),some (.ref ps),some (tv Y),some (tv tail)]/\No=H9/\tail∈([[],[43],[45],[67,82],[68,66]]:List (List Nat))/\(tail≠[]->(first≠43/\first≠45)/\(Y=[]\/Y=[36]))/\¬ (first=57/\(∀x∈W,x=57)/\Y=[]/\ac=[]/\tail=[])/\tail.length<=2) ?_ (λrest=>?_)
  .rintro σ' No ⟨tail,rfl,rfl,ci,iD,GI,sO⟩;refine⟨_,Z,_,Z,_,Z,_,Z,_,Z,IP,λq hq=>?_⟩;exact k Y first W N ac tail q c9 _ ⟨hW,hN,fj,SF,AG,CF,fZ,oX,ci,iD,GI⟩ (by lia) (B.free B9 A9 hq) Qd (B9.same (Qs.new hq)) (by lia) (A9.trans (Apart.of (Qs.new hq)))
  .have K7:¬ (first=57/\(∀x∈W,x=57)/\Y=[]/\ac=[]/\tail=[])->_:=λGI=>rest _ H9 ⟨tail,Z,Z,ci,iD,GI,sO⟩;exists _,Z,Z,_,Z;rw[Y0,Jv]
   by_cases h9:first=57
   .rw[ly h9];have SO:N=[]:=hN.resolve_right λh=>h.1 h9;refine Q4 ⟨_,Z,Z,tx (W++N),tx [57],Z,Z,by show(tx (W++N)).length<=sizeLine;rw[Qh,lq];lia,Z,_,Z,?_⟩;refine aG (λz=>?_) (λz=>?_)
    .refine⟨_,Z,_,Z,_,_,Z,Z,by rw[Qh,Qh];lia,?_⟩;rw[QR];refine⟨_,Z,_,_,Z,Z,by rw[Qh,Qh,lq];lia,?_⟩;rw[QR];exists Z,_,Z;rw[W3,XH]
     by_cases h0:Y++ac++tail=[]
     .rw[ly h0];refine Q4 (rest _ H9 ⟨[45],by rw[Sv];rfl,Z,by lia,λ_=>⟨⟨by rw[h9];lia,by rw[h9];lia⟩,.inl ?_⟩,λz=>absurd z.2.2.2.2 (by lia),by lia⟩);have:=yea.mp h0;exact(yea.mp this.1).1
     .rw[lx h0];exact QW (K7 λz=>h0 (by rw[z.2.2.1,z.2.2.2.1,z.2.2.2.2];rfl))
    .refine QW (K7 λq=>?_);have GJ:W=replicate W.length 57:=yej.mpr ⟨Z,q.2.1⟩;have hlen:W.length<6:=by
      have h5:=hW.cn;rw[h9]at h5;have:W.count 57=W.length:=List.count_eq_length.mpr λb hb=>(q.2.1 b hb).symm;lia
     have:=jp W.length hlen;rw[<-GJ]at this;rw[SO,lS, <-Y0]at z;rw[this]at z;cases z
   .rw[lx h9];exact QW (QW (K7 λz=>h9 z.1))
end
end Lw
namespace bY
open bj aQ PySem.NumText
theorem wJ(ho:o<=18)(hp:p<=18):u*10^(18-o)/10^(18-p)=u*10^p/10^o:=by
 have h1:u*10^(18-o)/10^(18-p)=(u*10^(18-o)*10^o)/(10^(18-p)*10^o):=(yem _ _ (ycx (by lia))).symm;have h2:u*10^p/10^o=(u*10^p*10^(18-p))/(10^o*10^(18-p)):=(yem _ _ (ycx (by lia))).symm;have e1:u*10^(18-o)*10^o=u*10^18:=by rw[yew, <-Nat.pow_add,show 18-o+o=18 by lia]
 have e2:u*10^p*10^(18-p)=u*10^18:=by rw[yew, <-Nat.pow_add,show p+(18-p)=18 by lia]
 rw[h1,h2,e1,e2,ydz (10^(18-p)) (10^o)]
theorem jq{k:Nat}:aF.aT (k:Int)=((10^k:Nat):Int):=by
 unfold aF.aT;rw[lZ];push_cast;rfl
theorem SQ(u:Int){o p:Nat}(ho:o<=18)(hp:p<=18):aF.zS u o p=if u<0 then-((u.natAbs*10^p/10^o:Nat):Int)else((u.natAbs*10^p/10^o:Nat):Int):=by
 rw[aF.OQ (by lia) (by lia) (by lia) (by lia),aF.UW (aF.Ze _) (aF.Ze _)];have e1:aF.aT (18-(o:Int))=((10^(18-o):Nat):Int):=by
  rw[show(18-(o:Int))=((18-o:Nat):Int) by lia];exact jq
 have e2:aF.aT (18-(p:Int))=((10^(18-p):Nat):Int):=by
  rw[show(18-(p:Int))=((18-p:Nat):Int) by lia];exact jq
 have e3:aF.Kp u=((u.natAbs:Nat):Int):=by unfold aF.Kp;split<;>lia
 have e4:aF.Kp u*aF.aT (18-(o:Int))/aF.aT (18-(p:Int))=((u.natAbs*10^p/10^o:Nat):Int):=by
  rw[e1,e2,e3, <-wJ ho hp];push_cast;rfl
 rw[e4]
theorem LG(u:Int){o a b:Nat}(ho:o<=18)(hb:b<=18):(fit u o a b).natAbs=(u.natAbs*10^b/10^o) % 10^(a+b)/\(fit u o a b<0↔u<0/\(u.natAbs*10^b/10^o) % 10^(a+b)≠0):=by
 have hc:=SQ u ho hb;generalize u.natAbs*10^b/10^o=X at hc;have e:aF.aT ((a:Int)+b)=((10^(a+b):Nat):Int):=by
  rw[show(a:Int)+b=((a+b:Nat):Int) by lia];exact jq
 have ha:aF.Kp (aF.zS u o b)=(X:Int):=by
  rw[hc];unfold aF.Kp
  split<;>split<;>lia
 have hm:(X:Int) % ((10^(a+b):Nat):Int)=((X % 10^(a+b):Nat):Int):=by push_cast;rfl
 unfold fit;rw[ha,e,hm];have bn:X % 10^(a+b)≠0->X≠0:=λh z=>h (by rw[z];exact Nat.zero_mod _);generalize X % 10^(a+b)=qYa at bn;rw[hc]
 by_cases hu:u<0
 .rw[yaf hu]
  by_cases hX:X=0
  .have hY:qYa=0:=ydF λz=>bn z hX;subst hX hY;exact⟨by simp,by simp⟩
  .rw[yaf (by lia)];exact⟨by lia,by lia⟩
 .rw[yac hu,yac (by lia)];exact⟨by lia,by lia⟩
end bY
namespace Lw
open PySem PySem.Spec PyProof.Rows L2 bj aQ bY aJ
open Builtin Builtin.Str StrLaws
theorem Vk:∀k:Nat,k<19->PySem.intText? (("1":Str)++Ya "0" k)=some (10^k)/\(("1":Str)++Ya "0" k).length<=640/\("1":Str).length+(Ya "0" k).length<=sizeLine/\("0":Str).length*k<=sizeLine:=by rfl'
section
variable {P:Program}{w:World}{K:Frag}{mg:Str->Option Value}{M:Heap}{f:Addr}{fd:FuncData}{tk:Nat->Tok}
def Ws(K:Frag):Sp:=λvs H Q _=>∃(a t r:Addr)(ns:List Int)(c am sP:Int)(rs:List (Key × V)),vs=[.ref a,.ref t,.int am,.int sP]/\az K H a (ns.map V.int)/\aE H t r c rs/\a≠t/\a≠r/\ns.length<=63/\c<90000/\0<=am/\am<=9/\0<=sP/\sP<=9/\
 ∀(u o c':Int)(cx:List (Key × V))(H':Hp)(q:Addr),u.natAbs<10^9->0<=o->o<=sP->H q=none->H' q=some (.tup [.int u,.int o])->aE H' t r c' cx->c'<=c+20->Apart t r H H'->Q (.ref q) H'
theorem WP(F:aA K "_law_an_amount" "_law_an_amount" ZP f fd)(O:Own mg)(hJ:Def P w K mg M 1 "_law_draw" ["_law_script","_law_town","_law_many"] (Z2 K)):
  ag P w K mg M (ao P w) 2 f fd ["_law_script","_law_town","_law_figures","_law_far"] (Ws K):=by
 refine okN F Zb (λvs H Q E h=>?_) (λad A L s H vs Q E hr h=>?_)
 .obtain⟨a,t,r,ns,c,am,sP,rs,rfl,_⟩:=h;rfl
 .obtain⟨a,t,r,ns,c,am,sP,rs,rfl,hS,T,nat,bX,hl,hc,LH,hf1,hg0,hg1,k⟩:=h;refine⟨_,(Qj (Uy (i:=4) (j:=5) Z Zb.nd Z Z (by lia) Z Z (Qa Qi (Qa (hJ.pq hr Qy (Qa (pv 0) (Qa (pv 1) (Qa (QI JK (pv 3) Qi) Qb)))) Qb)) Z)
   (Qj (Vo yaG Z (XX Z O.range (Qa (hJ.pq hr Qy (Qa (pv 0) (Qa (pv 1) (Qa (QI JK (pv 2) Qi) Qb)))) Qb)) (Z' 6 Zb.nd) (Qp (QN (i:=4) Zb.nd Z (Or.inl Z) (QI JK (QI jz (pv 4) Qi) (hJ.pq hr Qy (Qa (pv 0) (Qa (pv 1) (Qa Qi Qb))))))))
   (Qp (QG (Jf (Qa (Jm (Ql Ja (hJ.pq hr Qy (Qa (pv 0) (Qa (pv 1) (Qa Qi Qb)))) Qi (Qn _)) (pv 4) (QI Zr Qi (pv 4))) (Qa (pv 5) Qb))))))),?_⟩
  refine⟨_,Z,_,Z,_,Z,_,_,Z,Z,a,t,r,ns,c,_,rs,Z,hS,T,nat,bX,hl,by lia,by lia,by lia,λo AA H1 o0 o1 T1 A1=>⟨_,_,Z,?_⟩⟩;refine⟨_,Z,_,Z,_,Z,_,_,Z,Z,a,t,r,ns,_,_,AA,Z,A1.seq hS nat bX,T1,nat,bX,hl,by lia,by lia,by lia,λn fg H2 n0 n1 T2 A2=>?_⟩;refine⟨n,Z,by lia,by lia,XY (n:=n.toNat) (λi σ H3=>∃z x c3 oC,σ=[some (.ref a),some (.ref t),some (.int am),some (.int sP),some (.int z),some (.int o),x]/\0<=z/\z<10^i/\aE H3 t r c3 oC/\c3<=c+2+i/\Apart t r H H3)
   ⟨0,none,_,fg,Z,by lia,by lia,T2,by lia,A1.trans A2⟩ ?_ ?_⟩
  .rintro i σ H3 hi ⟨z,x,c3,oC,rfl,z0,z1,T3,sN,A3⟩;refine⟨_,Z,_,_,Z,Z,.inr ⟨by lia,by lia⟩,_,Z,_,Z,a,t,r,ns,c3,_,oC,Z,A3.seq hS nat bX,T3,nat,bX,hl,by lia,by lia,by lia,λd CI H4 d0 d1 T4 A4=>?_⟩;refine⟨_,_,Z,Z,_,_,_,CI,Z,by lia,?_,T4,by lia,A3.trans A4⟩;rw[Int.pow_succ];lia
  .rintro σ H3 ⟨z,x,c3,oC,rfl,z0,z1,T3,sN,A3⟩;have zb:z<10^9:=Int.lt_of_lt_of_le z1 (by
    have:n.toNat<=9:=by lia
    have h:=yat (n:=10) (by lia) this
    exact_mod_cast h)
   refine⟨_,Z,_,Z,a,t,r,ns,c3,_,oC,Z,A3.seq hS nat bX,T3,nat,bX,hl,by lia,by lia,by lia,λd CI H4 d0 d1 T4 A4=>?_⟩;exists Z,_,Z;refine aG (λg=>?_) (λg=>?_)
   .refine⟨_,Z,_,Z,by show 2<=sizeLine;lia,λq hq=>?_⟩;exact k z o _ CI _ q (by lia) o0 (by lia) (qo (A3.trans A4) T4 hq) Qd (T4.same (Qs.new hq)) (by lia) ((A3.trans A4).trans (.of (Qs.new hq)))
   .refine⟨_,Z,_,_,Z,Z,_,Z,by show 2<=sizeLine;lia,λq hq=>?_⟩;exact k (0-z) o _ CI _ q (by lia) o0 (by lia) (qo (A3.trans A4) T4 hq) Qd (T4.same (Qs.new hq)) (by lia) ((A3.trans A4).trans (.of (Qs.new hq)))
end
theorem wK(Good:V->Hp->Prop)(rest:∀v H',Good v H'->Q v H') (h:(∀v H',Good v H'->Q v H')->w4 ta tb σ H Q):w4 ta tb σ H Q:=h rest
theorem zg(Good:V->Hp->Prop)(rest:∀v H',Good v H'->Q v H') (h:(∀v H',Good v H'->Q v H')->Dr c ta tb σ H Q):Dr c ta tb σ H Q:=h rest
noncomputable def dw(b:Bool):List (Key × V):=[(Sum.inr "+",.str (tx [aM b 43])),(Sum.inr "-",.str (tx [aM b 45])),(Sum.inr "$",.str "$"),(Sum.inr "",.str "")]
theorem wL:∀b,WV [] (dw b)=dw b:=by rfl'
theorem wM:∀b,∀c∈([43,45,36]:List Nat),Wz (dw b) (Sum.inr (tx [c]):Key)=some (.str (tx [aM b c])):=by rfl'
theorem SR:∀b,Wz (dw b) (Sum.inr (tx []):Key)=some (.str (tx [])):=by rfl'
noncomputable abbrev sg(l:List Nat):List V:=l.map λc=>.str (tx [c])
noncomputable abbrev NE:List Str:=["_law_parts","_law_amount","_law_lead","_law_first","_law_whole","_law_broken","_law_tail","_law_symbol","_law_places_here","_law_floats","_law_before","_law_behind","_law_units","_law_figures","_law_less","_law_mark","_law_size","_law_ahead","_law_stars","_law_row","_law_left","_law_stop","_law_at","_law_end"]
noncomputable def sv:Option Nat->V
 |none=>.ax
 |some s=>.int (s:Nat)
noncomputable def AN:List (List Nat):=[[67,82],[68,66]]
theorem SS:([.str "CR",.str "DB"]:List V)=AN.map tv:=by rfl'
theorem SU:("  ":Str)=tx [32,32]:=by rfl'
noncomputable def yD(first:Nat)(row:List Nat)(stop:Nat):List Nat:=if first≠57 then replicate stop (if first=42 then 42 else 32)++row.drop stop else row
noncomputable def oD(first:Nat)(row:List Nat)(stop:Nat)(b:Bool):List Nat:=if au first=true then(yD first row stop).set (stop-1) (aM b first)else yD first row stop
theorem yE:∀(b:Bool),∀t∈([[],[43],[45],[67,82],[68,66]]:List (List Nat)),(AN.contains t=true->(if b=true then t else[32,32])=t.map (aM b))/\(AN.contains t=false->t=[]\/∃c,t=[c]/\c∈([43,45,36]:List Nat)):=by
 intro b t ht;simp only[yag,yax,ybk]at ht;rcases ht with rfl|rfl|rfl|rfl|rfl
 .exact⟨(λz=>by cases z),λ_=>.inl rfl⟩
 .exact⟨(λz=>by cases z),λ_=>.inr ⟨_,Z,by lia⟩⟩
 .exact⟨(λz=>by cases z),λ_=>.inr ⟨_,Z,by lia⟩⟩
 .exact⟨(λ_=>by cases b<;>rfl),λz=>by cases z⟩
 .exact⟨(λ_=>by cases b<;>rfl),λz=>by cases z⟩
section
variable {P:Program}{w:World}{K:Frag}{mg:Str->Option Value}{M:Heap}{f:Addr}{fd:FuncData}{tk:Nat->Tok}
theorem SV(O:Own mg){ad:Value}{L:List Env}(hr:aq 1 (A.deeper (envOfC "_law_edit" (Qe Jw) s.heap.objs.size f ad))):
  ∃u2,aU (Xe (ao P w) P w K mg M NE "_law_edit" (Qe Jw) f ad A L s H E).bD ((QK Jw).drop 11) u2/\
   ∀(D:Ends)(H4:Hp)(y0 y1 y4 y7 y8 ms AT re iM sQ oE iN:Option V)(Y:List Nat)(first:Nat)(ac tail am row:List Nat)(a b:Nat)(cr:Bool)(d p:Addr)(st:Option Nat),
    H4 d=some (.dK (dw cr))->H4 p=some (.lst (sg row))->row.length<=100->st.getD row.length<=row.length->(au first=true->1<=st.getD row.length)->Y∈([[],[43],[45],[36],[43,36],[45,36]]:List (List Nat))->tail∈([[],[43],[45],[67,82],[68,66]]:List (List Nat))->am.length=a+b->b=ac.length->a+b<=100->
    (∀H',Qs H4 H'->D.rt (.str (tx (Y.map (aM cr)++(oD first row (st.getD row.length) cr++(if ac=[]then[]else 46::am.drop a))++tail.map (aM cr)))) H')->
    u2 D [y0,y1,some (tv Y),some (tv [first]),y4,some (tv ac),some (tv tail),y7,y8,some (.bl (au first)),some (.int (a:Nat)),some (.int (b:Nat)),ms,some (tv am),some (.bl cr),some (.ref d),AT,re,iM,some (.ref p),sQ,some (sv st),oE,iN] H4:=by
 have hz:=zza
 have hu:=xQ hr;refine⟨_,(aN.ps (Qg (Qu (i:=21) QA.nd Z (Or.inl Z) (Zn (Xf (Ky (pv 21))) (ae.mk (Qq QX Z O.len yaK (Qv (pv 19) Qb))) (ae.mk (pv 21))) Z Z)
   (Qg (Q1 (Ql Xd (pv 3) Qc (Qn _)) (Qr (Qu (i:=19) QA.nd Z (Or.inl Z) (QJ Vs (QJ MZ (Z3 (QF (Zn (Ql Ja (pv 3) Qc (Qn _)) (ae.mk Qc) (ae.mk Qc)) QO Z)) (ae.mk (pv 21))) (ae.mk (QZ YK (pv 19) (Q2 (pv 21)) Ju))) Z Z)) QT)
   (Qg (Q1 (Je (pv 9) (λ_=>rfl)) (Qr (aO.mk (Jk (X0 hu (pv 15) (pv 3) (λ_ _=>rfl)) (yU (pv 19) (QI Zr (pv 21) Qi) set_list)))) QT)
   (Qg (Qu (i:=23) QA.nd Z (Or.inl Z) (Zn (Ql XC (pv 6) (Jf (Qv Qc (Qv Qc Qb))) (by with_unfolding_all rfl)) (Zn (Je (pv 14) (λ_=>rfl)) (ae.mk (pv 6)) (ae.mk Qc)) (ae.mk (X0 hu (pv 15) (pv 6) (λ_ _=>rfl)))) Z Z)
   (Qr (QE (QJ Qo (QJ Qo (ZH (QF (QJ Vs (ae.mk (UU (NB:=[".0","_law_sign"]) (FR:=["_law_mark"]) (fi:=[15]) Z ⟨Z,by rfl',by rfl',by rfl',by rfl',by rfl'⟩ Z Z (KC (pv 2)) (λ_ _ _=>(Qk (i:=1) (show([".0","_law_sign","_law_mark"]:List Str).Nodup by rfl') Z (Or.inl Z))) (λ_ _ _=>XG) (λ_ _ _=>(X0 hu (pv 2) (pv 1) (λ_ _=>rfl))))) (ae.mk (pv 19))) QO Z) Z Z) (Zn (Ql Wa (pv 11) Qi (Qn _)) (QJ Qo (ae.mk Qc) (ae.mk (QZ J2 (pv 13) (Q2 (pv 10)) Ju))) (ae.mk Qc))) (ae.mk (pv 23)))))))))),?_⟩
 intro D H4 y0 y1 y4 y7 y8 ms AT re iM sQ oE iN Y first ac tail am row a b cr d p st gd gp l' gt FS CF ci ev hb Pi k;obtain⟨Cr,ST⟩:=Uf Y CF;obtain⟨iD,sO⟩:=jl tail ci;dsimp only[JI,Wt,Wu];refine zg (λv H'=>v=.int ((st.getD row.length:Nat):Int)/\H'=H4) ?_ (λrest=>?_);rotate_left
 .exists _,Z,_,Z;cases st with
  |none=>exact Q4 ⟨_,Z,p,_,Z,.inl (az.of gp),rest _ _ ⟨by rw[lu];rfl,Z⟩⟩
  |some s0=>exact QW ⟨_,Z,rest _ _ ⟨Z,Z⟩⟩
 rintro v H' ⟨rfl,rfl⟩;generalize st.getD row.length=stop at*
 try dsimp only[JI,Wt,Wu]
 refine JW (λσ' H5=>∃pn,σ'=[y0,y1,some (tv Y),some (tv [first]),y4,some (tv ac),some (tv tail),y7,y8,some (.bl (au first)),some (.int (a:Nat)),some (.int (b:Nat)),ms,some (tv am),some (.bl cr),some (.ref d),AT,re,iM,some (.ref pn),sQ,some (.int (stop:Nat)),oE,iN]/\Qs H' H5/\H5 pn=some (.lst (sg (yD first row stop)))/\(au first=true->H' pn=none)) ?_ (λrest=>?_);rotate_left
 .exists _,Z,Z,_,Z;rw[qf,Jv]
  by_cases IN:first=57
  .rw[ly IN];exact QW (rest _ _ ⟨p,Z,Qs.refl _,by unfold yD;rw[yac (λz=>z IN)];exact gp,λz=>by rw[IN]at z;cases z⟩)
  .rw[lx IN];refine Q4 ⟨_,Z,Z,_,Z,?_⟩;rw[j9,Jv];refine JB (λv H5=>v=.str (tx [if first=42 then 42 else 32])/\H5=H') (λz rest=>rest _ _ ⟨by rw[yaf (yap z)],Z⟩) (λz rest=>rest _ _ ⟨by rw[Ki,yac (yau z)],Z⟩) ?_;rintro v H5 ⟨rfl,rfl⟩;refine⟨bN,λp1 fX=>⟨_,Z,p1,(stop:Int),_,Z,Z,Qd,by lia,by lia,by show 1*(stop:Int).toNat<=sizeLine;rw[lZ];lia,λp2 im=>?_⟩⟩;have S1:=Qs.new (o:=.lst [.str (tx [if first=42 then 42 else 32])]) fX;have S2:=Qs.new (o:=.lst (replicate (stop:Int).toNat [V.str (tx [if first=42 then 42 else 32])]).flatten) im;have g2:upd (upd H5 p1 (.lst [.str (tx [if first=42 then 42 else 32])])) p2 (.lst (replicate (stop:Int).toNat [V.str (tx [if first=42 then 42 else 32])]).flatten) p2=some (.lst (sg (replicate stop (if first=42 then 42 else 32)))):=by
    rw[Qd,lZ]
    congr 2
    have:∀n:Nat,(replicate n [V.str (tx [if first=42 then 42 else 32])]).flatten=sg (replicate n (if first=42 then 42 else 32)):=by
     intro n
     induction n with
     |zero=>rfl
     |succ n ih=>rw[yaz,ybu,ih,yaz];rfl
    exact this stop
   have AC:=S1.trans S2;generalize upd (upd H5 p1 (.lst [.str (tx [if first=42 then 42 else 32])])) p2 (.lst (replicate (stop:Int).toNat [V.str (tx [if first=42 then 42 else 32])]).flatten)=H6 at AC g2;refine⟨_,Z,_,Z,_,Z,p,_,Z,az.of (AC _ _ gp),λp3 Az=>?_⟩;have GK:xn (sg row) (some (stop:Int)) none=sg (row.drop stop):=by
    unfold xn;rw[HT.YI,HT.jD,lu,ybb gt,yaq (by rw[lJ,lu];exact lA _)];exact yey.symm
   rw[GK];have S3:=Qs.new (o:=.lst (sg (row.drop stop))) Az;refine⟨p2,p3,_,_,Z,Z,S3 _ _ g2,Qd,by rw[lu,lu,lN,lJ];lia,λpn ed=>?_⟩;refine rest _ _ ⟨pn,Z,(AC.trans S3).trans (Qs.new ed),?_,λ_=>?_⟩
   .rw[Qd];unfold yD;rw[yaf IN];simp[sg]
   .exact J6 (AC.trans S3) ed
 rintro σ' H5 ⟨pn,rfl,S5,g5,ip⟩;have f':(yD first row stop).length<=100:=by
  unfold yD
  split
  .rw[lq,lN,lJ];lia
  .exact l'
 refine JW (λσ' H6=>σ'=[y0,y1,some (tv Y),some (tv [first]),y4,some (tv ac),some (tv tail),y7,y8,some (.bl (au first)),some (.int (a:Nat)),some (.int (b:Nat)),ms,some (tv am),some (.bl cr),some (.ref d),AT,re,iM,some (.ref pn),sQ,some (.int (stop:Nat)),oE,iN]/\Qs H' H6/\H6 pn=some (.lst (sg (oD first row stop cr)))) ?_ (λrest=>?_);rotate_left
 .exists _,Z,au first,Z;refine aG (λzf=>?_) (λzf=>rest _ _ ⟨Z,S5,by unfold oD;rw[yac (by rw[zf];lia)];exact g5⟩);have fj:first∈([43,45,36]:List Nat):=yai.mp zf;have ed:=ip zf;have h1:=FS zf;have hlen:stop<=(yD first row stop).length:=by
   have:¬ (first=57):=λz=>by rw[z]at zf;cases zf
   unfold yD;rw[yaf this,lq,lN];lia
  exists _,Z,_,Z,d,_,Z,.inl ⟨_,Sum.inr (tx [first]),.inl (S5 _ _ gd),Z,(wM cr first fj).symm⟩,_,Z,_,Z,_,_,Z,Z,pn,_,(stop:Int)-1,stop-1,Z,Z,g5,?_
  .unfold fS;rw[yaf (by lia),yaf (by rw[lu];lia)]
   congr 1
   lia
  .refine rest _ _ ⟨Z,λx o e=>?_,?_⟩
   .rw[Qx (Qz e ed)];exact S5 _ _ e
   .rw[Qd];unfold oD;rw[yaf zf]
    congr 2
    exact List.map_set.symm
 rintro σ' H6 ⟨rfl,S6,g6⟩;have E3:(oD first row stop cr).length<=100:=by unfold oD;split;rw[ycb];exact f';exact f'
 generalize oD first row stop cr=j7 at*;dsimp only[JI,Wt,Wu];refine zg (λv H7=>v=.str (tx (tail.map (aM cr)))/\Qs H6 H7) ?_ (λrest=>?_);rotate_left
 .refine⟨_,Z,bA,λpt GG=>?_⟩;have S9:=Qs.new (o:=.tup [.str "CR",.str "DB"]) GG;have g9:upd H6 pt (.tup [.str "CR",.str "DB"]) pt=some (.tup (AN.map tv)):=by rw[Qd];exact yaI (λx=>some (HO.tup x)) SS
  generalize upd H6 pt (.tup [.str "CR",.str "DB"])=H7 at S9 g9;exists pt,_,Z,.inr (aj.of g9),Z,Wn AN,_,Z;rw[yac (show ¬ (false=true) by lia),in_list];obtain⟨t1,t2⟩:=yE cr tail ci;cases On:AN.contains tail with
  |true=>
   have e:=t1 On;refine Q4 ⟨_,Z,cr,Z,?_⟩;cases cr with
   |true=>exact Q4 ⟨_,Z,rest _ _ ⟨by rw[<-e];rfl,S9⟩⟩
   |false=>exact QW (rest _ _ ⟨by rw[SU, <-e];rfl,S9⟩)
  |false=>
   refine QW ⟨_,Z,_,Z,d,?_⟩;rcases t2 On with rfl|⟨c,rfl,hc⟩
   .exact⟨_,Z,.inl ⟨_,Sum.inr (tx []),.inl (S9 _ _ (S6 _ _ gd)),Z,(SR cr).symm⟩,rest _ _ ⟨Z,S9⟩⟩
   .exact⟨_,Z,.inl ⟨_,Sum.inr (tx [c]),.inl (S9 _ _ (S6 _ _ gd)),Z,(wM cr c hc).symm⟩,rest _ _ ⟨Z,S9⟩⟩
 rintro v H7 ⟨rfl,S7⟩;have LI:=S6.trans S7;have bn:=Qh Y;exists Z;have DW:∀x∈Y,x∈([43,45,36]:List Nat):=by
  have:∀l∈([[],[43],[45],[36],[43,36],[45,36]]:List (List Nat)),∀x∈l,x∈([43,45,36]:List Nat):=by lia
  exact this Y CF
 dsimp only[Jy,Ww,bc];refine UV (z:=tx Y) (fv:=[.ref d]) (λm vs H8=>vs=sg ((Y.take m).map (aM cr))/\H8=H7) (λR h=>⟨_,Z,h⟩) (Zj λx hx=>Lk (Cr x hx)) rfl ⟨Z,Z⟩ (λm vs H hm⟨e,_⟩=>?_) ?_ ?_ (by show(tx Y).length<sizeLine;lia)
 .rw[e,lu,lu,lI];lia
 .rintro m cc vs H8 hx ⟨rfl,rfl⟩;have f8:Y[m]? =some cc:=by simpa using hx
  have ss:Y.take (m+1)=Y.take m++[cc]:=by rw[yaE,f8];rfl
  rw[show(⟨#[cc]⟩:Str)=tx [cc]from rfl];exists Z;dsimp only[vB];exact Q4 ⟨_,Z,_,Z,d,_,Z,.inl ⟨_,Sum.inr (tx [cc]),.inl (LI _ _ gd),Z,(wM cr cc (DW cc (lM f8))).symm⟩,by rw[ss];simp[sg],Z⟩
 rintro vs H8 ⟨rfl,rfl⟩ p1 fX;rw[yaq (show Y.length<=(tx Y).cps.size by simp)];have S8:=Qs.new (o:=.lst (sg (Y.map (aM cr)))) fX;refine⟨_,Z,p1,pn,_,_,Z,Z,Qd,S8 _ _ (S7 _ _ g6),by rw[lu,lu,lu];lia,λp2 im=>?_⟩;have S9:=(LI.trans S8).trans (Qs.new (o:=.lst (sg (Y.map (aM cr))++sg j7)) im);have SW:(Y.map (aM cr)++j7).length<=200:=by rw[lq,lu];lia
 refine⟨"",p2,(Y.map (aM cr)++j7).map λc=>tx [c],Z,Z,az.of (by rw[Qd,lT,lO];rfl),X5 (by lia),?_⟩;rw[ZI];generalize upd (upd H8 p1 (.lst (sg (Y.map (aM cr))))) p2 (.lst (sg (Y.map (aM cr))++sg j7))=H9 at S9;exists _,Z,_,_,Z,Z,_,Z;have GL:=Qh am;have iF:=Qh (am.drop a);rw[lJ]at iF;refine JB (λv H'=>v=.str (tx (if ac=[]then[]else 46::am.drop a))/\H'=H9) (λz rest=>?_) (λz rest=>?_) ?_
 .have fA:ac≠[]:=λe=>by rw[e]at hb;have:=yap z;simp at hb;lia
  refine⟨_,Z,_,Z,_,Z,tx am,Z,by lia,?_⟩;rw[J7,F2];refine⟨_,_,Z,Z,by rw[Qh,iF,lC];lia,?_⟩;rw[QR];exact rest _ _ ⟨by rw[yac fA];rfl,Z⟩
 .have fA:ac=[]:=by
   have:=yau z;exact yaH.mp (by lia)
  exact rest _ _ ⟨by rw[yaf fA,W3],Z⟩
 rintro v No ⟨rfl,rfl⟩;have F4:(if ac=[]then([]:List Nat)else 46::am.drop a).length<=200:=by split;simp;rw[lD,lJ];lia
 refine⟨_,_,Z,Z,by rw[Qh,Qh];lia,?_⟩;rw[QR];refine⟨_,Z,_,_,Z,Z,by rw[Qh,Qh,lq,lu];lia,?_⟩;rw[QR,lP (Y.map (aM cr))];exact k _ S9
end
theorem yF(l:List Nat):Yv (tx l)=sg l:=by unfold Yv;simp
theorem fork{b1 b2:Bool}{T qUa C:Prop}(hC:(if b2=true then T else qUa)->C)(h1:b1=true->b2=true->T)(h2:(b1&&b2)=false->qUa):if b1=true then C else(if false=true then T else qUa):=by
 cases b1 with
 |false=>exact QW (QW (h2 Z))
 |true=>
  refine Q4 (hC ?_);cases b2 with
  |false=>exact QW (h2 Z)
  |true=>exact Q4 (h1 Z Z)
noncomputable def GN(st x:Option Nat):Option Nat:=match st with
 |some s=>some s
 |none=>x
theorem yG{l fs:List Nat}(h:ins c=false):1<=(ls true true (c::l) fs).getD (c::l).length:=by
 rw[FY h rfl];cases ls true false l fs<;>simp
section
variable {P:Program}{w:World}{K:Frag}{mg:Str->Option Value}{M:Heap}{f:Addr}{fd:FuncData}{tk:Nat->Tok}
theorem SX(O:Own mg)(OL:mg "list"=none)(OE:mg "enumerate"=none){ad:Value}{L:List Env}(hr:aq 1 (A.deeper (envOfC "_law_edit" (Qe Jw) s.heap.objs.size f ad))):
  ∃u2,aU (Xe (ao P w) P w K mg M NE "_law_edit" (Qe Jw) f ad A L s H E).bD ((QK Jw).drop 9) u2/\
   ∀(D:Ends)(H3:Hp)(y0 y1 y7 y8 ms AT re iM LJ sQ LK oE iN:Option V)(Y:List Nat)(first:Nat)(W N ac tail am:List Nat)(a b:Nat)(cr:Bool)(d:Addr),
    H3 d=some (.dK (dw cr))->Ed Y first W N ac tail->(W++N).length<=60->(∀x∈W++N,x<128)->a=ay first W N->b=ac.length->a+b<=11->1<=a->am.length=a+b->(∀x∈am,x<128)->
    (∀H',Qs H3 H'->D.rt (.str (tx (Y.map (aM cr)++(aJ.j7 first (W++N) (am.take a) cr++(if ac=[]then[]else 46::am.drop a))++tail.map (aM cr)))) H')->
    u2 D [y0,y1,some (tv Y),some (tv [first]),some (tv (W++N)),some (tv ac),some (tv tail),y7,y8,some (.bl (au first)),some (.int (a:Nat)),some (.int (b:Nat)),ms,some (tv am),some (.bl cr),some (.ref d),AT,re,iM,LJ,sQ,LK,oE,iN] H3:=by
 have hz:=zza
 have hu:=xQ hr;obtain⟨u3,sB,h2⟩:=SV (P:=P) (w:=w) (K:=K) (M:=M) (f:=f) (L:=L) (H:=H) (E:=E) O hr;refine⟨_,(aN.ps (Qg (aO.mk (NT (i:=19) (j:=20) (k:=21) Z QA.nd Z Z Z (by lia) (by lia) (by lia) Z Z Z (Qv (ZR Qb) (Qv (Jh (call_list_str Z) Z OL boot_list (Qv (QZ J2 (pv 13) Ju (Q2 (pv 10))) Qb)) (Qv Zk Qb))) Z))
   (Qg (X2 yaG Z (YS Z OE (Qv (pv 4) Qb)) (Q5 Z (Qf (Z' 22 QA.nd) (Qf (Z' 7 QA.nd) QD))) (Qr (Q1 (Ql Jo (pv 7) Qc (by with_unfolding_all rfl)) (Qr (aO.mk (XW (Zd yaV yaP yaQ ZG (pv 19) (Qv (Jm (Ql Ja (pv 7) Qc (Qn _)) Qc (pv 7)) Qb))))) (Qr (Q1 (PW.pt (Jn (Je (pv 9) (λ_=>rfl)) (Jd (Ql Ja (pv 22) Qi (Qn _))))) (Qr (aO.mk (XW (Zd yaV yaP yaQ ZG (pv 19) (Qv Qc Qb))))) (Qg (aO.mk (XW (Zd yaV yaP yaQ ZG (pv 19) (Qv (Zd yaV slot_list_pop type_list_pop vi (pv 20) (Qv Qi Qb)) Qb))))
   (Qr (Q1 (PW.pt (Jn (Xf (Ky (pv 21))) (Jd (PW.pt (Xn (Ql Ja (pv 7) Qc (Qn _)) (Zq (Ql Xd (QS Jc (pv 19) (KK Z0 Qi) (λ_ _=>rfl)) Qc (Qn _)))))))) (Qr (Qu (i:=21) QA.nd Z (Or.inl Z) (ae.mk (pv 22)) Z Z)) QT))))))) (λ_=>rfl))
   (aN.mk sB)))),?_⟩
 intro D H3 y0 y1 y7 y8 ms AT re iM LJ sQ LK oE iN Y first W N ac tail am a b cr d gd Ee iX FM ha hb Pi LL ev oo k;obtain⟨Ca,iG,FB⟩:=Ee.small;have GO:=Ee.wh;have Cj:=Ee.many;obtain⟨r0,fY⟩:∃r0,W++N=first::r0:=by
  have:=Ee.xb N;cases hh:W++N with
  |nil=>rw[hh]at this;cases this
  |cons x r=>rw[hh]at this;exact⟨r,by rw[lB this]⟩
 have D5:=Xb Ee.f;have D6:=Qh (W++N);have GL:=Qh am;have ss:=Qh (am.take a);have CJ:(am.take a).length=a:=by rw[lI];lia
 refine⟨Aw,λp hp=>?_⟩;refine⟨_,Z,_,Z,_,Z,tx am,Z,by lia,?_⟩;rw[Kq am (by lia)];refine⟨tx (am.take a),Z,Zj λx hx=>oo x (ybf hx),by show(tx (am.take a)).length<=sizeLine;lia,λr SZ=>⟨_,_,_,Z,?_⟩⟩;rw[yF];have S1:=Qs.new (o:=.lst []) hp;have S2:=Qs.new (o:=.lst (sg (am.take a))) SZ;have GP:p≠r:=λz=>by rw[<-z,Qd]at SZ;cases SZ
 have gp:upd (upd H3 p (.lst [])) r (.lst (sg (am.take a))) p=some (.lst (sg [])):=by rw[Qx GP,Qd];rfl
 have gr:upd (upd H3 p (.lst [])) r (.lst (sg (am.take a))) r=some (.lst (sg (am.take a))):=Qd;have S3:=S1.trans S2;have LM:H3 r=none:=J6 S1 SZ;generalize upd (upd H3 p (.lst [])) r (.lst (sg (am.take a)))=H4 at S3 gp gr;have Cy:p≠d:=λz=>by rw[<-z,hp]at gd;cases gd
 have nrd:r≠d:=λz=>by rw[<-z,LM]at gd;cases gd
 generalize hfs:am.take a=fs at*;refine⟨_,Z,tx (W++N),Z,Zj FM,VB (z:=tx (W++N)) (λi σ H5=>∃x7 D7 st done left,σ=[y0,y1,some (tv Y),some (tv [first]),some (tv (W++N)),some (tv ac),some (tv tail),x7,y8,some (.bl (au first)),some (.int (a:Nat)),some (.int (b:Nat)),ms,some (tv am),some (.bl cr),some (.ref d),AT,re,iM,some (.ref p),some (.ref r),some (sv st),D7,iN]/\
   Qs H3 H5/\H5 p=some (.lst (sg done))/\H5 r=some (.lst (sg left))/\done.length=i/\done++lr (au first) (decide (i=0)) ((W++N).drop i) left=lr (au first) true (W++N) fs/\GN st ((ls (au first) (decide (i=0)) ((W++N).drop i) left).map (· +i))=ls (au first) true (W++N) fs/\left.length+(if(au first&&decide (i=0))=true then 1 else 0)=aJ.many ((W++N).drop i))
  ⟨y7,oE,none,[],fs,Z,S3,gp,gr,Z,Z,?_,?_⟩ ?_ ?_⟩
 .show(ls (au first) true (W++N) fs).map (· +0)=_;cases ls (au first) true (W++N) fs<;>rfl
 .show fs.length+_=aJ.many (W++N);rw[Cj,FB,CJ,ha];cases au first<;>rfl
 .rintro i cc σ H5 p2 hx ⟨x7,D7,st,done,left,rfl,S5,g5,GQ,mo,Gc,gt,ia⟩ im;have f8:(W++N)[i]? =some cc:=by simpa using hx
  have hi:=(yaj.mp f8).1;have dn:(W++N).drop i=cc::(W++N).drop (i+1):=by
   rw[yaM hi]
   congr 1
   exact(yaj.mp f8).2
  rw[dn]at Gc gt ia;have cH:decide (i+1=0)=false:=by simp
  have SY:p2≠p:=λz=>by rw[z,g5]at im;cases im
  have Ta:p2≠r:=λz=>by rw[z,GQ]at im;cases im
  have S6:=S5.trans (Qs.new (o:=.tup [.int (i:Nat),.str ⟨#[cc]⟩]) im);exists p2,_,Z,aj.of Qd,Z,_,_,Z,_,_,Z,Z;have g6:upd H5 p2 (.tup [.int (i:Nat),.str ⟨#[cc]⟩]) p=some (.lst (sg done)):=by rw[Qx SY.symm];exact g5
  have CK:upd H5 p2 (.tup [.int (i:Nat),.str ⟨#[cc]⟩]) r=some (.lst (sg left)):=by rw[Qx Ta.symm];exact GQ
  generalize upd H5 p2 (.tup [.int (i:Nat),.str ⟨#[cc]⟩])=H6 at S6 g6 CK;rw[show(⟨#[cc]⟩:Str)=tx [cc]from rfl];have put:∀(H7:Hp)(v:Nat),Qs H3 H7->Qs H3 (upd H7 p (.lst (sg (done++[v])))):=λH7 v S x o e=>by
   rw[Qx (Qz e hp)];exact S _ _ e
  have sR:∀(H7:Hp)(v:Nat)(lf:List Nat),H7 r=some (.lst (sg lf))->upd H7 p (.lst (sg (done++[v]))) r=some (.lst (sg lf)):=λH7 v lf e=>by rw[Qx GP.symm];exact e
  have iO:∀v:Nat,sg done++[.str (tx [v])]=sg (done++[v]):=λv=>by simp[sg]
  exists _,Z,_,_,Z,Z,_,Z;rw[Ll,JG];refine aG (λzi=>?_) (λzi=>?_)
  .have fC:ins cc=true:=zi;rw[VZ fC]at Gc;rw[YB fC]at gt;rw[JO,yac (show ¬ (bC cc=none) by rw[(WL fC).1];simp),ybd]at ia;exists _,Z,.inl ⟨Z,_,.inl (.inl g6)⟩,_,Z,Z,_,Z;rw[show("B":Str)=tx [66] by rfl',Jv];refine JB (λv H'=>v=.str (tx [ou cc])/\H'=H6) (λz rest=>rest _ _ ⟨by unfold ou;rw[Ki,yaf (yap z)],Z⟩) (λz rest=>⟨_,Z,rest _ _ ⟨by unfold ou;rw[yac (yau z)],Z⟩⟩) ?_;rintro v H' ⟨rfl,rfl⟩;refine⟨p,_,_,Z,Z,g6,by rw[lu];lia,?_⟩;rw[iO];have h0:¬ ((au first&&decide (i=0))=true):=λz=>by
    rw[yaO]at z;have oF:i=0:=yap z.2;rw[oF,List.drop_zero,fY]at dn;have e0:first=cc:=by injection dn
    rw[<-e0,D5.2.1]at fC;cases fC
   exists _,_,st,done++[ou cc],left,Z,put _ _ S6,Qd,sR _ _ _ CK,by rw[lq,mo];rfl,?_,?_
   .rw[cH,lP];exact Gc
   .rw[cH, <-gt,yet]
    congr 2
    funext x
    show x+(i+1)=x+1+i;lia
   .rw[cH,ybh];rw[yac h0]at ia;exact ia
  .have fC:ins cc=false:=zi;have mt:sE cc:=by
    rcases GO cc (lM f8)with h|h
    .exact h
    .rw[fC]at h;cases h
   have CL:=Xb mt;rw[JO,yaf CL.1]at ia;refine⟨_,Z,au first,Z,fork (λh=>⟨_,Z,Z,_,Z,h⟩) (λzf z0=>?_) (λh0=>?_)⟩
   .rw[Xo]at z0;have oF:i=0:=by have:=yap z0;lia
    subst oF;have h0:(au first&&decide ((0:Nat)=0))=true:=by rw[zf];rfl
    rw[Lc fC h0]at Gc;rw[FY fC h0]at gt;rw[yaf h0]at ia;rw[Ki];refine⟨_,Z,.inl ⟨Z,_,.inl (.inl g6)⟩,p,_,_,Z,Z,g6,by rw[lu];lia,?_⟩;rw[iO];exists _,_,st,done++[32],left,Z,put _ _ S6,Qd,sR _ _ _ CK,by rw[lq,mo];rfl,?_,?_
    .rw[cH,lP];exact Gc
    .rw[cH, <-gt,yet]
     congr 2
    .rw[cH,ybh];show left.length+0=_;lia
   .have h0:(au first&&decide (i=0))=false:=by
     have e:decide (V.int (i:Nat)=V.int 0)=decide (i=0):=by
      rw[Xo]
      by_cases q:i=0
      .rw[ly q,ly (by lia)]
      .rw[lx q,lx (by lia)]
     rw[<-e];exact h0
    rw[jf fC h0]at Gc;rw[jg fC h0]at gt;rw[h0]at ia;obtain⟨g,lf,rfl⟩:∃g lf,left=g::lf:=by
     cases left with
     |nil=>simp at ia;lia
     |cons g lf=>exact⟨g,lf,Z⟩
    have Fs:seqIndex? 0 (sg (g::lf)).length=some 0:=by
     unfold seqIndex?;simp
    refine⟨_,Z,.inl ⟨Z,_,.inl (.inl g6)⟩,_,Z,.inl ⟨Z,_,.inl (.inl CK)⟩,r,_,0,0,.str (tx [g]),Z,Z,CK,by lia,by lia,Fs,Z,p,_,_,Z,Z,by rw[Qx GP];exact g6,by rw[lu];lia,?_⟩;rw[iO];have er:(sg (g::lf)).eraseIdx 0=sg lf:=rfl;rw[er];have S7:Qs H3 (upd H6 r (.lst (sg lf))):=λx o e=>by
     rw[Qx (Qz e LM)];exact S6 _ _ e
    have S8:=put _ g S7;have g8:upd (upd H6 r (.lst (sg lf))) p (.lst (sg (done++[g]))) p=some (.lst (sg (done++[g]))):=Qd;have CM:=sR (upd H6 r (.lst (sg lf))) g lf Qd;generalize upd (upd H6 r (.lst (sg lf))) p (.lst (sg (done++[g])))=H8 at S8 g8 CM;have dc:done++[g]++lr (au first) false ((W++N).drop (i+1)) lf=lr (au first) true (W++N) fs:=by rw[lP];exact Gc
    have iP:lf.length+0=aJ.many ((W++N).drop (i+1)):=by
     have:(g::lf).length+0=1+aJ.many ((W++N).drop (i+1)):=ia;rw[lD]at this;lia
    have hd2:(done++[g]).length=i+1:=by rw[lq,mo];rfl
    have gt:GN st ((if cc=57\/g≠48 then some 0 else(ls (au first) false ((W++N).drop (i+1)) lf).map (· +1)).map (· +i))=ls (au first) true (W++N) fs:=gt;have mm:((ls (au first) false ((W++N).drop (i+1)) lf).map (· +1)).map (· +i)=(ls (au first) false ((W++N).drop (i+1)) lf).map (· +(i+1)):=by
     rw[yet]
     congr 1
     funext x
     show x+1+i=x+(i+1);lia
    exists _,Z,_,Z;cases st with
    |some s0=>
     refine QW (QW ⟨_,_,some s0,done++[g],lf,Z,S8,g8,CM,hd2,by rw[cH];exact dc,by rw[<-gt];rfl,by rw[cH,ybh];exact iP⟩)
    |none=>
     have yes:(cc=57\/g≠48)->ls (au first) true (W++N) fs=some i:=λh=>by
      rw[<-gt,yaf h];show some (0+i)=_;rw[ybd]
     have no:¬ (cc=57\/g≠48)->GN none ((ls (au first) false ((W++N).drop (i+1)) lf).map (· +(i+1)))=ls (au first) true (W++N) fs:=λh=>by
      rw[<-gt,yac h,mm]
     refine Q4 ⟨_,Z,Z,_,Z,?_⟩;rw[qf,Jv]
     by_cases h9:cc=57
     .rw[ly h9];refine Q4 (Q4 ⟨_,Z,_,_,some i,done++[g],lf,Z,S8,g8,CM,hd2,by rw[cH];exact dc,by rw[yes (.inl h9)];rfl,by rw[cH,ybh];exact iP⟩)
     .rw[lx h9];refine QW ⟨_,Z,_,Z,p,_,_,.str (tx [g]),Z,Z,az.of g8,by rw[<-iO];exact Kl _ _,Z,_,Z,?_⟩;rw[Wo,Jv]
      by_cases iE:g=48
      .rw[ly iE];exact QW ⟨_,_,none,done++[g],lf,Z,S8,g8,CM,hd2,by rw[cH];exact dc,by rw[cH];exact no (λz=>z.elim h9 (λq=>q iE)),by rw[cH,ybh];exact iP⟩
      .rw[lx iE];exact Q4 ⟨_,Z,_,_,some i,done++[g],lf,Z,S8,g8,CM,hd2,by rw[cH];exact dc,by rw[yes (.inr iE)];rfl,by rw[cH,ybh];exact iP⟩
 .rintro σ H5 ⟨x7,D7,st,done,left,rfl,S5,g5,GQ,mo,Gc,gt,ia⟩;have hsz:(tx (W++N)).cps.size=(W++N).length:=by simp
  rw[hsz]at mo Gc gt;rw[ycQ (lA _)]at Gc gt;have bP:done=lr (au first) true (W++N) fs:=by rw[<-Gc];simp[lr]
  have BX:st=ls (au first) true (W++N) fs:=by rw[<-gt];cases st<;>rfl
  have CN:st.getD done.length=K6 first (W++N) fs:=by unfold K6;rw[BX,mo]
  have Tb:H5 d=some (.dK (dw cr)):=S5 _ _ gd;refine h2 D H5 y0 y1 (some (tv (W++N))) x7 y8 ms AT re iM (some (.ref r)) D7 iN Y first ac tail am done a b cr d p st Tb g5 (by lia) ?_ (λzf=>?_) Ee.ld Ee.tl ev hb (by lia) λH' S'=>?_
  .rw[mo,BX];exact yo _ _ _ _
  .rw[mo,BX,fY,zf];exact yG D5.2.1
  .rw[CN];have e:oD first done (K6 first (W++N) fs) cr=aJ.j7 first (W++N) fs cr:=by rw[bP];rfl
   rw[e];exact k _ (S5.trans S')
end
theorem Tc:("Z":Str)=tx [90]:=by rfl'
section
variable {P:Program}{w:World}{K:Frag}{mg:Str->Option Value}{M:Heap}{f:Addr}{fd:FuncData}{tk:Nat->Tok}
theorem Td(O:Own mg)(OL:mg "list"=none)(OE:mg "enumerate"=none)(gg:Def P w K mg M 1 "_law_line" ["_law_parts"] (V6 K)){ad:Value}{L:List Env}(hr:aq 1 (A.deeper (envOfC "_law_edit" (Qe Jw) s.heap.objs.size f ad))):
  ∃u2,aU (Xe (ao P w) P w K mg M NE "_law_edit" (Qe Jw) f ad A L s H E).bD ((QK Jw).drop 8) u2/\
   ∀(D:Ends)(H3:Hp)(q d:Addr)(y1 y8 ms:Option V)(Y:List Nat)(first:Nat)(W N ac tail am:List Nat)(a b:Nat)(cr:Bool)(qYa:Nat),
    aj K H3 q [tv Y,tv [first],tv (W++N),tv ac,tv tail]->H3 d=some (.dK (dw cr))->Ed Y first W N ac tail->Y.length+(W.length+N.length)+ac.length+tail.length<=60->(∀x∈W++N,x<128)->a=ay first W N->b=ac.length->a+b<=11->1<=a->am.length=a+b->(∀x∈am,x<128)->NumText.AllDigits am->NumText.digitsVal am=qYa->
    (∀H',Qs H3 H'->D.rt (.str (tx (if 57∉W++N++ac/\au first=false/\qYa=0 then aJ.qu Y first W N ac tail else Y.map (aM cr)++(aJ.j7 first (W++N) (am.take a) cr++(if ac=[]then[]else 46::am.drop a))++tail.map (aM cr)))) H')->
    u2 D [some (.ref q),y1,some (tv Y),some (tv [first]),some (tv (W++N)),some (tv ac),some (tv tail),none,y8,some (.bl (au first)),some (.int (a:Nat)),some (.int (b:Nat)),ms,some (tv am),some (.bl cr),some (.ref d),none,none,none,none,none,none,none,none] H3:=by
 have hz:=zza
 have hu:=xQ hr;obtain⟨u3,sB,h2⟩:=SX (P:=P) (w:=w) (K:=K) (M:=M) (f:=f) (L:=L) (H:=H) (E:=E) O OL OE hr;refine⟨_,(aN.ps (Qg (Q1 (PW.pt (Jn (Ql Jp Qc (QI Qo (pv 4) (pv 5)) (by with_unfolding_all rfl)) (Jn (Kz (Je (pv 9) (λ_=>rfl))) (Jd (Ql Ja (Zd yaA ybD ybE Xh (pv 13) (Qv Qc Qb)) Qc (Qn _)))))) (Qg (Qu (i:=16) QA.nd Z (Or.inl Z) (ae.mk (Qq QH Z O.len yaK (Qv (gg.pq hr Qy (Qv (pv 0) Qb)) Qb))) Z Z)
   (Qg (Qu (i:=17) QA.nd Z (Or.inl Z) (ae.mk (Qq QH Z O.len yaK (Qv (QI Qo (pv 2) (pv 4)) Qb))) Z Z)
   (Qg (Qu (i:=18) QA.nd Z (Or.inl Z) (QJ Qo (QJ QB (ae.mk Qc) (ae.mk (pv 17))) (Zn (Ql Wa (pv 11) Qi (Qn _)) (QJ Qo (ae.mk Qc) (QJ QB (ae.mk Qc) (QJ Zr (QJ Zr (ae.mk (pv 16)) (ae.mk (pv 17))) (ae.mk Qi)))) (QJ QB (ae.mk Qc) (QJ Zr (ae.mk (pv 16)) (ae.mk (pv 17)))))) Z Z)
   (Qr (QE (Zn (Ql Ja (pv 3) Qc (Qn _)) (QJ QB (ae.mk Qc) (ae.mk (pv 16))) (ae.mk (pv 18)))))))) QT)
   (aN.mk sB))),?_⟩
 intro D H3 q d y1 y8 ms Y first W N ac tail am a b cr qYa sq gd Ee hl FM hA hB Pi LL ut fD lm u8 k;have iX:(W++N).length<=60:=by rw[lq];lia
 have D6:=Qh (W++N);have Ct:=Qh ac;have GL:=Qh am;have ge:∀x∈QU Y W N ac tail,x<128:=λx hx=>Wp x (Ee.sym x hx);have ST:=Ku (Y:=Y) (W:=W) (N:=N) (ac:=ac) (tail:=tail) (by lia);have bn:=Qh (QU Y W N ac tail);have GR:=Qh Y;have hah:(Y++(W++N)).length<=(QU Y W N ac tail).length:=by unfold QU;simp only[lq];lia
 have CO:(tx (Y++(W++N))).length=(Y++(W++N)).length:=Qh _
 try dsimp only[JI,Wt,Wu]
 refine JW (λσ' H4=>σ'=[some (.ref q),y1,some (tv Y),some (tv [first]),some (tv (W++N)),some (tv ac),some (tv tail),none,y8,some (.bl (au first)),some (.int (a:Nat)),some (.int (b:Nat)),ms,some (tv am),some (.bl cr),some (.ref d),none,none,none,none,none,none,none,none]/\H4=H3/\¬ (57∉W++N++ac/\au first=false/\qYa=0)) ?_ (λrest=>?_);rotate_left
 .exists _,Z,_,Z,_,_,Z,Z,by rw[D6,Ct];lia,_,_,Z,Z,_,Z;rw[QR,qf,JG];refine aG (λz9=>?_) (λz9=>QW (rest _ _ ⟨Z,Z,λz=>z.1 (yai.mp (by cases q:(W++N++ac).contains 57;rw[q]at z9;cases z9;rfl))⟩));exists _,Z,au first,Z;refine aG (λzf=>?_) (λzf=>QW (rest _ _ ⟨Z,Z,λz=>by rw[z.2.1]at zf;cases zf⟩));exists _,Z,Z,tx am,tx [48],Z,Z,by show(tx am).length<=sizeLine;lia,Z,_,Z;rw[<-Wo,WI lm,u8];refine aG (λz0=>?_) (λz0=>rest _ _ ⟨Z,Z,λz=>absurd z.2.2 (yau z0)⟩);have h9:57∉W++N++ac:=λz=>by rw[yai.mpr z]at z9;cases z9
  have ev:au first=false:=by simpa using zf
  have LH:qYa=0:=yap z0;rw[yaf ⟨h9,ev,LH⟩]at k;unfold aJ.qu at k;refine⟨_,Z,q,Y,[first],W,N,ac,tail,Z,sq,by lia,_,Z,by lia,?_⟩;refine⟨_,Z,_,Z,_,_,Z,Z,by rw[GR,D6];lia,?_⟩;rw[QR];refine⟨_,Z,by rw[CO];lia,?_⟩;rw[bn,CO,j9];generalize hsz:(QU Y W N ac tail).length=sz at*;generalize GS:(Y++(W++N)).length=ah at*;refine⟨_,Z,tx [42],(ah:Int),Z,Z,by lia,by rw[Qh,lZ,lC];lia,by lia,?_⟩;rw[lZ,Zi];exists _,Z,_,_,Z,Z,_,Z;refine JB (λv H5=>v=.str (tx (if ac=[]then replicate (sz-ah) 42 else 46::replicate (sz-ah-1) 42))/\H5=H3) (λz rest=>?_) (λz rest=>?_) ?_
  .have fA:ac≠[]:=λe=>by rw[e]at hB;have:=yap z;simp at hB;lia
   have h1:ah+1<=sz:=by
    rw[<-hsz, <-GS];unfold QU Qm;rw[yac fA];simp only[lq,lD];lia
   refine⟨_,Z,_,Z,_,_,Z,Z,_,_,Z,Z,tx [42],(sz:Int)-(ah:Int)-1,Z,Z,by lia,by rw[Qh,lC];lia,by lia,?_⟩;rw[Zi,F2];refine⟨_,_,Z,Z,by rw[Qh,Qh,lN,lC];lia,?_⟩;rw[QR,show((sz:Int)-(ah:Int)-1).toNat=sz-ah-1 by lia];exact rest _ _ ⟨by rw[yac fA];rfl,Z⟩
  .have fA:ac=[]:=by
    have:=yau z;have h0:b=0:=by lia
    rw[h0]at hB;exact yaH.mp hB.symm
   refine⟨_,Z,_,Z,_,_,Z,Z,tx [42],(sz:Int)-(ah:Int),Z,Z,by lia,by rw[Qh,lC];lia,by lia,?_⟩;rw[Zi,show((sz:Int)-(ah:Int)).toNat=sz-ah by lia];exact rest _ _ ⟨by rw[yaf fA],Z⟩
  rintro v H5 ⟨rfl,rfl⟩;have AG:(if ac=[]then replicate (sz-ah) 42 else 46::replicate (sz-ah-1) 42).length<=200:=by split<;>simp<;>lia
  refine⟨_,_,Z,Z,by rw[Qh,Qh,lN];lia,?_⟩;rw[QR];exists _,Z,Z,_,Z;rw[Tc,Jv]
  by_cases D8:first=90
  .rw[ly D8];rw[yaf D8]at k;rw[Ki];refine Q4 ⟨_,Z,tx [32],(sz:Int),Z,Z,by lia,by rw[Qh,lZ,lC];lia,by lia,?_⟩;rw[lZ,Zi];exact k _ (Qs.refl _)
  .rw[lx D8];rw[yac D8]at k;exact QW ⟨_,Z,k _ (Qs.refl _)⟩
 rintro σ' H4 ⟨rfl,rfl,hn⟩;rw[yac hn]at k;exact h2 _ _ _ _ _ _ _ _ _ _ _ _ _ _ _ Y first W N ac tail am a b cr d gd Ee iX FM hA hB Pi LL ut fD k
end
noncomputable def bQ(c:Nat):Bool:=([57,90,42,43,45,36]:List Nat).contains c
theorem yH:∀{l:List Nat},Wh l->(l.filter bQ).length=many l:=by
 intro l
 induction l with
 |nil=>intro _;rfl
 |cons c r ih=>
  intro h;have hr:=ih λx hx=>h x (lG _ hx);rw[JO,yaF];rcases h c lH with hp|hi
  .rw[yaf (show bQ c=true from yai.mpr hp),yaf (Xb hp).1,lD,hr];lia
  .have:bQ c=false:=by
    cases q:bQ c with
    |false=>rfl
    |true=>have:=(Xb (yai.mp q)).2.1;rw[hi]at this;cases this
   rw[yac (by rw[this];lia),yac (by rw[(WL hi).1];simp),hr,ybd]
theorem LN:("9Z*+-$":Str)=tx [57,90,42,43,45,36]:=by rfl'
section
variable {P:Program}{w:World}{K:Frag}{mg:Str->Option Value}{M:Heap}{f:Addr}{fd:FuncData}{tk:Nat->Tok}
def Xc(K:Frag):Sp:=λvs H Q _=>∃(q pa:Addr)(Y:List Nat)(first:Nat)(W N ac tail:List Nat)(u:Int)(o:Nat),vs=[.ref q,.ref pa]/\aj K H q [tv Y,tv [first],tv (W++N),tv ac,tv tail]/\aj K H pa [.int u,.int (o:Nat)]/\Ed Y first W N ac tail/\Y.length+(W.length+N.length)+ac.length+tail.length<=60/\u.natAbs<10^13/\o<=18/\
 ∀H',Qs H H'->Q (.str (tx (bO Y (W++N++Qm ac) tail (fit u o (ay first W N) ac.length)))) H'
theorem qr(F:aA K "_law_edit" "_law_edit" Jw f fd)(O:Own mg)(OL:mg "list"=none)(OE:mg "enumerate"=none)(gg:Def P w K mg M 1 "_law_line" ["_law_parts"] (V6 K)):
  ag P w K mg M (ao P w) 2 f fd ["_law_parts","_law_amount"] (Xc K):=by
 refine okN F QA (λvs H Q E h=>?_) (λad A L s H vs Q E hr h=>?_)
 .obtain⟨q,pa,Y,first,W,N,ac,tail,u,o,rfl,_⟩:=h;rfl
 .obtain⟨q,pa,Y,first,W,N,ac,tail,u,o,rfl,sq,sa,Ee,hl,dz,ho,k⟩:=h;have hz:=zza
  have hu:=xQ hr;obtain⟨Ca,iG,FB⟩:=Ee.small;have GO:=Ee.wh;have FM:∀y∈W++N,y<128:=λy hy=>Wp y (Ee.sym y (by rw[Kj];exact lF _ (lE _ (lF _ hy))));have iX:(W++N).length<=60:=by rw[lq];lia
  have D6:=Qh (W++N);obtain⟨u2,sB,h2⟩:=Td (P:=P) (w:=w) (K:=K) (M:=M) (f:=f) (L:=L) (H:=H) (E:=E) O OL OE gg hr;refine⟨_,(aN.ps (Qg (aO.mk (Jk (pv 0) (Q5 Z (Qf (Z' 2 QA.nd) (Qf (Z' 3 QA.nd) (Qf (Z' 4 QA.nd) (Qf (Z' 5 QA.nd) (Qf (Z' 6 QA.nd) QD))))))))
   (Qg (aO.mk (Ve (NB:=[".0","_law_symbol"]) (iy:=8) Z ⟨Z,by rfl',by rfl',by rfl'⟩ (KC (pv 4)) (λ_ _ _=>(Qk (i:=1) (show([".0","_law_symbol"]:List Str).Nodup by rfl') Z (Or.inl Z))) (λ_ _ _=>(X1 (Ql Jo (pv 1) Qc (by with_unfolding_all rfl)))) (λ_ _ _=>(pv 1)) QA.nd Z (Or.inl Z) Z))
   (Qg (Qu (i:=9) QA.nd Z (Or.inl Z) (ae.mk (J0 Jo (pv 3) Qc (by with_unfolding_all rfl))) Z Z)
   (Qg (aO.mk (Uy (i:=10) (j:=11) Z QA.nd Z Z (by lia) Z Z (Qv (QI Zr (Qq QX Z O.len yaK (Qv (pv 8) Qb)) (Jm (Je (pv 9) (λ_=>rfl)) Qi Qi)) (Qv (Qq QH Z O.len yaK (Qv (pv 5) Qb)) Qb)) Z))
   (Qg (Qu (i:=12) QA.nd Z (Or.inl Z) (QJ YN (QJ YM (ae.mk (Qq ZU Z O.abs ydC (Qv (QS Jl (pv 1) Qi (λ_ _=>rfl)) Qb))) (ae.mk (Jh Jg Z O.int ycU (Qv (QI Qo Qc (QI QB Qc (pv 11))) Qb)))) (ae.mk (Jh Jg Z O.int ycU (Qv (QI Qo Qc (QI QB Qc (QS Jl (pv 1) Qi (λ_ _=>rfl)))) Qb)))) Z Z)
   (Qg (Qu (i:=13) QA.nd Z (Or.inl Z) (ae.mk (QZ J2 (QI Qo (QI QB Qc (QI JK (pv 10) (pv 11))) (Jh Zm Z O.str yen (Qv (pv 12) Qb))) (Q2 (QI Zr (QI Zr Qi (pv 10)) (pv 11))) Ju)) Z Z)
   (Qg (Qu (i:=14) QA.nd Z (Or.inl Z) (ae.mk (Uw (J0 K9 (QS Jl (pv 1) Qi (λ_ _=>rfl)) Qi (Qn _)) (Uv (J0 Xd (Zd yaA ybD ybE Xh (pv 13) (Qv Qc Qb)) Qc (Qn _))))) Z Z)
   (Qg (Qu (i:=15) QA.nd Z (Or.inr Z) (kC (Vf (ae.mk Qc) (Zn (Je (pv 14) (λ_=>rfl)) (ae.mk Qc) (ae.mk Qc)) (Vf (ae.mk Qc) (Zn (Je (pv 14) (λ_=>rfl)) (ae.mk Qc) (ae.mk Qc)) (Vf (ae.mk Qc) (ae.mk Qc) (Vf (ae.mk Qc) (ae.mk Qc) OP)))) Z Z (List.cons_ne_nil _ _) (ycd Z)) Z Z)
   (aN.mk sB)))))))))),?_⟩
  simp only[L2.start,lU,ycz,lD,ybj,lQ,lR,Nat.reduceAdd,Nat.reduceSub,yaz,List.replicate_zero];exists _,Z,q,_,Z,sq,Z,_,_,Z,_,_,Z,_,_,Z,_,_,Z,_,_,Z,Z;dsimp only[JI,Wt,Wu,List.set_cons_succ,List.set_cons_zero];refine Ko (z:=tx (W++N)) (λm vs H2=>vs=sg (((W++N).take m).filter bQ)/\H2=H) (λR h=>⟨_,Z,h⟩) (Zj FM) ⟨Z,Z⟩ (λm vs H hm⟨e,_⟩=>?_) ?_ ?_ (by show(tx (W++N)).length<sizeLine;lia)
  .rw[e,lu];exact yas (yaL _ _) (by rw[lI];lia)
  .rintro m cc vs H1 hx ⟨rfl,rfl⟩;have f8:(W++N)[m]? =some cc:=by simpa using hx
   have ss:(W++N).take (m+1)=(W++N).take m++[cc]:=by rw[yaE,f8];rfl
   rw[show(⟨#[cc]⟩:Str)=tx [cc]from rfl];exists _,Z,_,_,Z,Z,_,Z;rw[LN,JG,ss,ybl];cases hn:([57,90,42,43,45,36]:List Nat).contains cc with
   |true=>
    refine Q4 ⟨_,Z,?_,Z⟩;rw[yaF,yaf (show bQ cc=true from hn)];simp[sg]
   |false=>
    refine QW ⟨?_,Z⟩;rw[yaF,yac (by rw[show bQ cc=false from hn];lia)];simp[sg]
  rintro vs LO ⟨rfl,rfl⟩ p8 Te;rw[yaq (show(W++N).length<=(tx (W++N)).cps.size by simp)];have S1:=Qs.new (o:=.lst (sg ((W++N).filter bQ))) Te;have g8:upd LO p8 (.lst (sg ((W++N).filter bQ))) p8=some (.lst (sg ((W++N).filter bQ))):=Qd;generalize upd LO p8 (.lst (sg ((W++N).filter bQ)))=H1 at S1 g8
  replace sq:=sq.same S1
  replace sa:=sa.same S1
  exists _,Z,_,_,Z,Z;rw[ji,JG];rw[show([43,45,36]:List Nat).contains first=au first from rfl];exists _,Z,p8,_,Z,.inl (az.of g8),_,Z,au first,Z;refine JB (λv H'=>v=.int (if au first=true then 1 else 0)/\H'=H1) (λz rest=>rest _ _ ⟨by rw[yaf z],Z⟩) (λz rest=>rest _ _ ⟨by rw[yac (by rw[z];lia)],Z⟩) ?_;rintro v H' ⟨rfl,rfl⟩;have Ct:=Qh ac;exists _,_,Z,Z,_,Z,tx ac,Z,by lia,_,_,Z;have tz:((sg ((W++N).filter bQ)).length:Int)-(if au first=true then 1 else 0)=((ay first W N:Nat):Int):=by
   rw[lu,yH GO,Ee.many,FB]
   split<;>lia
  dsimp only;rw[tz,Ct];generalize hA:ay first W N=a at*;generalize hB:ac.length=b at*;obtain⟨f1,f2,f3,f4⟩:=Vk b (by lia);obtain⟨g1,g2,g3,g4⟩:=Vk o (by lia);have iC:u.natAbs*10^b<2^100:=by
   have h1:10^b<=10^11:=yat (by lia) (by lia)
   calc u.natAbs*10^b<=10^13*10^11:=Nat.mul_le_mul (ybi dz) h1
    _<2^100:=by lia
  have GU:10^o<2^200:=yba (yat (by lia) ho) (by lia);have CL:10^b<2^200:=yba (yat (by lia) (show b<=18 by lia)) (by lia);have c1:(((10:Int)^b))=((10^b:Nat):Int):=by push_cast;rfl
  have c2:(((10:Int)^o))=((10^o:Nat):Int):=by push_cast;rfl
  have hX:((if u<0 then-u else u)*(10:Int)^b)/(10:Int)^o=((u.natAbs*10^b/10^o:Nat):Int):=by
   rw[Uh,c1,c2];push_cast;rfl
  refine⟨_,Z,pa,_,_,_,Z,Z,sa,Z,u,Z,_,Z,"0",(b:Int),Z,Z,by lia,by rw[lZ];exact f4,by lia,?_⟩;rw[lZ];exists _,_,Z,Z,f3,_,_,Z,f1,f2,_,_,Z,Z,⟨?_,?_⟩
  .rw[Uh,yaR];exact yaD (yaD dz (by lia)) (show 2^200<2^2000 by lia)
  .rw[c1,yaR];exact yaD CL (by lia)
  refine⟨_,Z,pa,_,_,_,Z,Z,sa,Z,"0",(o:Int),Z,Z,by lia,by rw[lZ];exact g4,by lia,?_⟩;rw[lZ];exists _,_,Z,Z,g3,_,_,Z,g1,g2,_,_,Z,Z,⟨?_,?_⟩
  .rw[c2];exact_mod_cast ycx (by lia)
  .rw[c2,yaR];exact yaD GU (by lia)
  dsimp only;rw[hX];obtain⟨q1,q2⟩:=LG u (o:=o) (a:=a) (b:=b) ho (by lia);have cI:u.natAbs*10^b/10^o<2^100:=yba (Nat.div_le_self _ _) iC;have sS:=Ee.Rz (f:=fit u o a b) (by lia) (by rw[hA,hB];exact qd u o a b);rw[hA,hB]at sS;rw[sS]at k;clear sS;generalize fit u o a b=ft at*;generalize u.natAbs*10^b/10^o=X at q1 q2 cI;have mo:=qT cI;have GV:=Qh (dec X);have ol:((a:Nat):Int)+((b:Nat):Int)=((a+b:Nat):Int):=by lia
  have sT:(0:Int)-(a:Nat)-(b:Nat)= -((a+b:Nat):Int):=by lia
  have cJ:1<=a+b:=by lia
  refine⟨_,Z,_,Z,_,_,Z,Z,"0",((a:Nat):Int)+((b:Nat):Int),Z,Z,by lia,?_,by lia,?_⟩
  .rw[ol,lZ,Wo,Qh];simp;lia
  rw[ol,lZ,Wo,Zi];exists _,Z,_,Z,?_
  .rw[yaR]
   by_cases h0:X=0
   .rw[h0];lia
   .exact(ydp h0).mpr (yaD cI (by lia))
  rw[bj.XZ];refine⟨_,_,Z,Z,by rw[Qh,GV,lN];lia,?_⟩;rw[QR];refine⟨_,Z,_,_,Z,Z,_,Z,_,_,Z,Z,_,Z,_,Z,by rw[Qh,lq,lN];lia,?_⟩;rw[sT,Kf _ cJ,jZ X cJ, <-q1];have hm:ft.natAbs<10^(a+b):=by rw[q1];exact Nat.mod_lt _ (ycx (by lia))
  have ut:=XB hm cJ;have lm:=Kg ft.natAbs (a+b);have u8:=Ua ft.natAbs (a+b);have fD:=wt ft.natAbs (a+b);rw[<-q1]at q2;generalize pad ft.natAbs (a+b)=am at*;have GL:=Qh am;dsimp only[JI,Wt,Wu];refine wK (λv H2=>v=.bl (decide (ft<0))/\H2=H') ?_ (λrest=>?_);rotate_left
  .exists _,Z,pa,_,_,_,Z,Z,sa,Z,_,_,Z,Z,_,Z
   by_cases dP:u<0
   .rw[ly dP];refine Q4 ⟨_,Z,Z,tx am,tx [48],Z,Z,by show(tx am).length<=sizeLine;lia,Z,?_⟩;rw[<-Wo,WI lm,u8];refine rest _ _ ⟨?_,Z⟩
    congr 1
    by_cases hY:ft.natAbs=0
    .rw[ly hY,lx (λz=>(q2.mp z).2 hY)];rfl
    .rw[lx hY,ly (q2.mpr ⟨dP,hY⟩)];rfl
   .rw[lx dP];exact QW (rest _ _ ⟨by rw[lx (λz=>dP (q2.mp z).1)],Z⟩)
  rintro v H2 ⟨rfl,rfl⟩;generalize Cr:decide (ft<0)=cr at*;intro d hd;dsimp only[jI];exists _,Z,cr,Z;refine JB (λv H3=>v=.str (tx [aM cr 43])/\H3=upd H2 d (.dK [])) (λz rest=>rest _ _ ⟨by rw[z];rfl,Z⟩) (λz rest=>rest _ _ ⟨by rw[z];rfl,Z⟩) ?_;rintro v H3 ⟨rfl,rfl⟩;exists _,Z,cr,Z;refine JB (λv H3=>v=.str (tx [aM cr 45])/\H3=upd H2 d (.dK [])) (λz rest=>rest _ _ ⟨by rw[z];rfl,Z⟩) (λz rest=>rest _ _ ⟨by rw[z];rfl,Z⟩) ?_;rintro v H3 ⟨rfl,rfl⟩;exists Qd,dw cr,Z,ycd rfl;rw[wL];have S3:Qs H2 (upd (upd H2 d (.dK [])) d (.dK (dw cr))):=λb o e=>by
   have hb:=Qz e hd;rw[Qx hb,Qx hb];exact e
  have gd:upd (upd H2 d (.dK [])) d (.dK (dw cr)) d=some (.dK (dw cr)):=Qd;generalize upd (upd H2 d (.dK [])) d (.dK (dw cr))=H3 at S3 gd
  replace sq:=sq.same S3
  have TW:=S1.trans S3;exact h2 _ _ q d _ _ _ Y first W N ac tail am a b cr ft.natAbs sq gd Ee (by rw[hB];exact hl) FM hA.symm hB.symm (by lia) (by lia) ut fD lm u8 λH' S'=>by
   have e:(57∉W++N++ac/\au first=false/\ft.natAbs=0)↔(57∉W++N++ac/\au first=false/\ft=0):=by rw[Int.natAbs_eq_zero]
   have:=k _ (TW.trans S');simp only[e];exact this
end
open PySem PySem.Spec PyProof.Rows L2 bj aQ bY
theorem Tf:("V":Str)=tx [86]:=by rfl'
theorem Tg:("S":Str)=tx [83]:=by rfl'
theorem D9:("0":Str)=tx [48]:=by rfl'
theorem Th:∀(s:Bool)(a b:Nat),a<6->b<4->(Z9 s a b).length<=61:=by
 intro s a b ha hb;unfold Z9;have h1:(if s=true then[83]else([]:List Nat)).length<=1:=by split<;>simp
 have h2:(if b=0 then([]:List Nat)else 86::replicate b 57).length<=b+1:=by split<;>simp
 rw[lq,lq,lN];lia
section
variable {P:Program}{w:World}{K:Frag}{mg:Str->Option Value}{M:Heap}{f:Addr}{fd:FuncData}{tk:Nat->Tok}
def zh(K:Frag):Sp:=λvs H Q _=>∃(a t r:Addr)(ns:List Int)(c:Int),vs=[.ref a,.ref t]/\aP K H a t r ns c/\c<80000/\
 ∀(s:Bool)(a2 b:Nat)(q:Addr)(c':Int)(H':Hp),a2<6->b<4->a2+b≠0->H q=none->H' q=some (.tup [tv (Z9 s a2 b),.bl s,.int (a2:Nat),.int (b:Nat)])->aP K H' a t r ns c'->c'<=c+5->Apart t r H H'->Q (.ref q) H'
theorem W6(F:aA K "_law_a_number" "_law_a_number" Z7 f fd)(hJ:Def P w K mg M 1 "_law_draw" ["_law_script","_law_town","_law_many"] (Z2 K)):ag P w K mg M (ao P w) 2 f fd ["_law_script","_law_town"] (zh K):=by
 refine okN F JF (λvs H Q E h=>?_) (λad A L s H vs Q E hr h=>?_)
 .obtain⟨a,t,r,ns,c,rfl,_⟩:=h;rfl
 .obtain⟨a,t,r,ns,c,rfl,B,hc,k⟩:=h;have hz:=zza
  refine⟨_,(Qj (QN (i:=2) JF.nd Z (Or.inl Z) (J0 Ja (hJ.pq hr Qy (Qa (pv 0) (Qa (pv 1) (Qa Qi Qb)))) Qi (Qn _)))
   (Qj (QN (i:=3) JF.nd Z (Or.inl Z) (hJ.pq hr Qy (Qa (pv 0) (Qa (pv 1) (Qa Qi Qb)))))
   (Qj (QN (i:=4) JF.nd Z (Or.inl Z) (hJ.pq hr Qy (Qa (pv 0) (Qa (pv 1) (Qa Qi Qb)))))
   (Qj (QN (i:=4) JF.nd Z (Or.inl Z) (Jm (Ql Ja (QI JK (pv 3) (pv 4)) Qi (Qn _)) Qi (pv 4)))
   (Qj (QN (i:=5) JF.nd Z (Or.inl Z) (QI Qo (QI Qo (Jm (Je (pv 2) (λ_=>rfl)) Qc Qc) (QI QB Qc (pv 3))) (Jm (Ql Wa (pv 4) Qi (Qn _)) (QI Qo Qc (QI QB Qc (pv 4))) Qc)))
   (Qp (QG (Jf (Qa (pv 5) (Qa (pv 2) (Qa (pv 3) (Qa (pv 4) Qb)))))))))))),?_⟩
  refine B.draw (n:=2) rfl rfl (λR h=>h) (by lia) (by lia) (by lia) λd1 H1 bP B1 A1=>?_;exists Z;rw[Xo];generalize decide ((d1:Int)=0)=sg;dsimp only[JI,Wt,Wu];refine B1.draw (n:=6) rfl rfl (λR h=>h) (by lia) (by lia) (by lia) λa2 H2 hd2 B2 A2=>?_;refine B2.draw (n:=4) rfl rfl (λR h=>h) (by lia) (by lia) (by lia) λb2 H3 LC B3 A3=>?_;have LP:=(A1.trans A2).trans A3;exists _,Z,_,Z,_,_,Z,Z,Z,_,Z;rw[Xo];refine JB (λv H'=>∃b:Nat,v=.int (b:Nat)/\H'=H3/\b<4/\a2+b≠0) (λz rest=>?_) (λz rest=>?_) ?_
  .have:=yap z;exact rest _ _ ⟨1,Z,Z,by lia,by lia⟩
  .have:=yau z;exact⟨_,Z,rest _ _ ⟨b2,Z,Z,by lia,by lia⟩⟩
  rintro v H' ⟨b,rfl,rfl,Ti,Pi⟩;rw[Y0];exists _,Z,sg,Z;refine JB (λv H4=>v=.str (tx (if sg=true then[83]else[]))/\H4=H') (λz rest=>rest _ _ ⟨by rw[Tg,yaf z],Z⟩) (λz rest=>rest _ _ ⟨by rw[W3,yac (by rw[z];lia)],Z⟩) ?_;rintro v H4 ⟨rfl,rfl⟩;have GC:(if sg=true then[83]else([]:List Nat)).length<=1:=by split<;>simp
  refine⟨_,Z,tx [57],(a2:Int),Z,Z,by lia,by rw[Qh,lZ,lC];lia,by lia,?_⟩;rw[lZ,Zi];refine⟨_,_,Z,Z,by rw[Qh,Qh,lN];lia,?_⟩;rw[QR];exists _,Z,_,_,Z,Z,_,Z;refine JB (λv H5=>v=.str (tx (if b=0 then([]:List Nat)else 86::replicate b 57))/\H5=H4) (λz rest=>?_) (λz rest=>?_) ?_
  .have hb:b≠0:=by have:=yap z;lia
   refine⟨_,Z,tx [57],(b:Int),Z,Z,by lia,by rw[Qh,lZ,lC];lia,by lia,?_⟩;rw[lZ,Zi,Tf];refine⟨_,_,Z,Z,by rw[Qh,Qh,lN];simp;lia,?_⟩;rw[QR];exact rest _ _ ⟨by rw[yac hb];rfl,Z⟩
  .have hb:b=0:=by have:=yau z;lia
   exact rest _ _ ⟨by rw[yaf hb,W3],Z⟩
  rintro v H5 ⟨rfl,rfl⟩;have h2:(if b=0 then([]:List Nat)else 86::replicate b 57).length<=b+1:=by split<;>simp
  refine⟨_,_,Z,Z,by rw[Qh,Qh,lq,lN];lia,?_⟩;rw[QR];refine⟨_,Z,_,Z,_,Z,_,Z,eZ,λq hq=>?_⟩;exact k sg a2 b q _ _ (by lia) Ti Pi (B.free B3 LP hq) Qd (B3.same (Qs.new hq)) (by lia) (LP.trans (Apart.of (Qs.new hq)))
def WQ(K:Frag):Sp:=λvs H Q _=>∃(s:Bool)(a b:Nat)(p:Addr)(u:Int)(o:Nat),vs=[.bl s,.int (a:Nat),.int (b:Nat),.ref p]/\aj K H p [.int u,.int (o:Nat)]/\u.natAbs<10^13/\o<=18/\b<=8/\1<=a+b/\a+b<=18/\Q (.str (tx (cont s a b u o))) H
theorem V7(F:aA K "_law_content" "_law_content" Xz f fd)(O:Own mg):ag P w K mg M (ao P w) 1 f fd ["_law_shows","_law_before","_law_behind","_law_amount"] (WQ K):=by
 refine okN F Z8 (λvs H Q E h=>?_) (λad A L s H vs Q E hr h=>?_)
 .obtain⟨s,a,b,p,u,o,rfl,_⟩:=h;rfl
 .obtain⟨sg,a,b,p,u,o,rfl,sq,hu,ho,Tj,cJ,Tn,k⟩:=h;have hz:=zza
  obtain⟨f1,f2,f3,f4⟩:=Vk b (by lia);obtain⟨g1,g2,g3,g4⟩:=Vk o (by lia);refine⟨_,(Qj (QN (i:=4) Z8.nd Z (Or.inl Z) (QI YN (QI YM (Qq ZU Z O.abs ydC (Qa (QS Jl (pv 3) Qi (λ_ _=>rfl)) Qb)) (Jh Jg Z O.int ycU (Qa (QI Qo Qc (QI QB Qc (pv 2))) Qb))) (Jh Jg Z O.int ycU (Qa (QI Qo Qc (QI QB Qc (QS Jl (pv 3) Qi (λ_ _=>rfl)))) Qb))))
   (Qj (QN (i:=5) Z8.nd Z (Or.inl Z) (QZ J2 (QI Qo (QI QB Qc (QI JK (pv 1) (pv 2))) (Jh Zm Z O.str yen (Qa (pv 4) Qb))) (Q2 (QI Zr (QI Zr Qi (pv 1)) (pv 2))) Ju))
   (Qj (JP (PW.pt (Jn (Je (pv 0) (λ_=>rfl)) (Jn (Ql K9 (QS Jl (pv 3) Qi (λ_ _=>rfl)) Qi (Qn _)) (Jd (Ql Xd (Zd yaA ybD ybE Xh (pv 5) (Qa Qc Qb)) Qc (Qn _)))))) (Qp (QG (QI Qo (QZ J2 (pv 5) Ju (Q2 (KK Z0 Qi))) (QS Z1 Qc (Zd yaA slot_str_index type_str_index kl Qc (Qa (QS Z1 (pv 5) (KK Z0 Qi) (λ_ _=>rfl)) Qb)) (λ_ _=>rfl))))) QQ)
   (Qp (QG (pv 5)))))),?_⟩
  have iC:u.natAbs*10^b<2^100:=by
   have h1:10^b<=10^8:=yat (by lia) Tj
   calc u.natAbs*10^b<=10^13*10^8:=Nat.mul_le_mul (ybi hu) h1
    _<2^100:=by lia
  have GU:10^o<2^200:=yba (yat (by lia) ho) (by lia);have CL:10^b<2^200:=yba (yat (by lia) (show b<=18 by lia)) (by lia);have c1:(((10:Int)^b))=((10^b:Nat):Int):=by push_cast;rfl
  have c2:(((10:Int)^o))=((10^o:Nat):Int):=by push_cast;rfl
  have hX:((if u<0 then-u else u)*(10:Int)^b)/(10:Int)^o=((u.natAbs*10^b/10^o:Nat):Int):=by
   rw[WM,c1,c2];push_cast;rfl
  refine⟨_,Z,p,_,_,_,Z,Z,sq,Z,u,Z,_,Z,"0",(b:Int),Z,Z,by lia,by rw[lZ];exact f4,by lia,?_⟩;rw[lZ];exists _,_,Z,Z,f3,_,_,Z,f1,f2,_,_,Z,Z,⟨?_,?_⟩
  .rw[WM,yaR];exact yaD (yaD hu (by lia)) (show 2^200<2^2000 by lia)
  .rw[c1,yaR];exact yaD CL (by lia)
  refine⟨_,Z,p,_,_,_,Z,Z,sq,Z,"0",(o:Int),Z,Z,by lia,by rw[lZ];exact g4,by lia,?_⟩;rw[lZ];exists _,_,Z,Z,g3,_,_,Z,g1,g2,_,_,Z,Z,⟨?_,?_⟩
  .rw[c2];exact_mod_cast ycx (by lia)
  .rw[c2,yaR];exact yaD GU (by lia)
  dsimp only[JI,Wt,Wu];rw[hX];obtain⟨q1,q2⟩:=LG u (o:=o) (a:=a) (b:=b) ho (by lia);have cI:u.natAbs*10^b/10^o<2^100:=yba (Nat.div_le_self _ _) iC;generalize u.natAbs*10^b/10^o=X at q1 q2 cI;have CP:cont sg a b u o=if sg=true/\fit u o a b<0 then WJ (pad (X % 10^(a+b)) (a+b))else pad (X % 10^(a+b)) (a+b):=by
   unfold cont;rw[q1]
  rw[CP]at k;have mo:=qT cI;have GV:=Qh (dec X);have ol:((a:Nat):Int)+((b:Nat):Int)=((a+b:Nat):Int):=by lia
  have sT:(0:Int)-(a:Nat)-(b:Nat)= -((a+b:Nat):Int):=by lia
  refine⟨_,Z,_,Z,_,_,Z,Z,"0",((a:Nat):Int)+((b:Nat):Int),Z,Z,by lia,?_,by lia,?_⟩
  .rw[ol,lZ,D9,Qh];simp;lia
  rw[ol,lZ,D9,Zi];exists _,Z,_,Z,?_
  .rw[yaR]
   by_cases h0:X=0
   .rw[h0];lia
   .exact(ydp h0).mpr (yaD cI (by lia))
  rw[bj.XZ];refine⟨_,_,Z,Z,by rw[Qh,GV,lN];lia,?_⟩;rw[QR];refine⟨_,Z,_,_,Z,Z,_,Z,_,_,Z,Z,_,Z,_,Z,by rw[Qh,lq,lN];lia,?_⟩;rw[sT,Kf _ cJ,jZ X cJ];have hm:X % 10^(a+b)<10^(a+b):=Nat.mod_lt _ (ycx (by lia));have ut:=XB hm cJ;have lm:=Kg (X % 10^(a+b)) (a+b);have du:=wb (X % 10^(a+b)) (a+b);have u8:=Ua (X % 10^(a+b)) (a+b);generalize X % 10^(a+b)=qYa at k q1 q2 hm ut lm du u8;generalize pad qYa (a+b)=pl at k ut lm du u8;have ci:=Qh pl;have K7:¬ (sg=true/\fit u o a b<0)->Q (.str (tx pl)) H:=λz=>by rw[yac z]at k;exact k
  exists _,Z,sg,Z;cases sg with
  |false=>exact QW (QW ⟨_,Z,K7 (λz=>absurd z.1 (by lia))⟩)
  |true=>
   refine Q4 ⟨_,Z,p,_,_,_,Z,Z,sq,Z,_,_,Z,Z,_,Z,?_⟩
   by_cases dP:u<0
   .rw[ly dP];refine Q4 ⟨_,Z,Z,tx pl,tx [48],Z,Z,by show(tx pl).length<=sizeLine;lia,Z,_,Z,?_⟩;rw[<-D9,WI lm,u8]
    by_cases hY:qYa=0
    .rw[ly hY];exact QW ⟨_,Z,K7 (λz=>(q2.mp z.2).2 hY)⟩
    .rw[lx hY];rw[yaf ⟨Z,q2.mpr ⟨dP,hY⟩⟩]at k;obtain⟨d,bP,hd2⟩:=ZC du;have oy:NumText.AllDigits [d]:=λz hz=>lm z (by rw[bP];exact lE _ hz);have pr:=oy d (yak.mpr Z);refine Q4 ⟨_,Z,_,Z,_,Z,tx pl,Z,by lia,?_⟩;rw[Ks];have sJ:ck pl (-1)=some d:=by
      rw[bP];exact Kl _ _
     have Aq:([48,49,50,51,52,53,54,55,56,57]:List Nat)[d-48]? =some d:=by
      have key:∀k:Nat,k<10->([48,49,50,51,52,53,54,55,56,57]:List Nat)[k]? =some (k+48):=by lia
      have:=key (d-48) (by lia);rw[this]
      congr 1
      lia
     have ig:∀j,j<d-48->([48,49,50,51,52,53,54,55,56,57]:List Nat)[j]? ≠some d:=by
      intro j hj;have key:∀k:Nat,k<10->([48,49,50,51,52,53,54,55,56,57]:List Nat)[k]? =some (k+48):=by lia
      rw[key j (by lia)];intro z;have:=lB z;lia
     obtain⟨rr,GW⟩:=yh _ Aq ig;refine⟨Z,_,Z,_,Z,tx pl, -1,d,Z,Z,by lia,sJ,"0123456789",tx [d],d-48,rr,Z,Z,by rw[YC];exact GW,?_⟩;exists "pqrstuvwxy",((d-48:Nat):Int),d+64,Z,Z,by rfl',Zc (Lb d (by lia) (by lia)),_,_,Z,Z,?_
     .show(tx pl.dropLast).length+(tx [d+64]).length<=sizeLine;rw[Qh,Qh,yaN];simp;lia
     .show Q (.str (tx pl.dropLast++tx [d+64])) H;rw[QR];have e:WJ pl=pl.dropLast++[d+64]:=by unfold WJ;rw[hd2];rfl
      rw[e]at k;exact k
   .rw[lx dP];exact QW (QW ⟨_,Z,K7 (λz=>dP (q2.mp z.2).1)⟩)
end
end Lw
namespace bY
open bj aQ PySem.NumText
theorem To(h:48<=d/\d<=57):([112,113,114,115,116,117,118,119,120,121]:List Nat).contains d=false:=by
 simp;lia
theorem yI(s:Bool)(u o:Int)(h1:1<=a+b):VX s a b (cont s a b u o)/\(Jj s (cont s a b u o)=if s=true/\fit u o a b<0 then-((fit u o a b).natAbs:Int)else((fit u o a b).natAbs:Int))/\(cont s a b u o).length=a+b/\(s=false->AllDigits (cont s a b u o))/\(∀x∈cont s a b u o,x<128):=by
 have bn:=qd u o a b;unfold cont;generalize (fit u o a b).natAbs=n at bn;have hl:=XB bn h1;have hd:=Kg n (a+b);have ul:=wb n (a+b);have hv:=Ua n (a+b);generalize pad n (a+b)=pl at hl hd ul hv;obtain⟨d,bP,hd2⟩:=ZC ul;have pr:=hd d (by rw[bP];exact lE _ (yak.mpr Z))
 by_cases hc:s=true/\fit u o a b<0
 .rw[yaf hc,yaf hc];have e:WJ pl=pl.dropLast++[d+64]:=by unfold WJ;rw[hd2];rfl
  have On:([112,113,114,115,116,117,118,119,120,121]:List Nat).contains (d+64)=true:=(by decide:∀d:Nat,d<58->48<=d->([112,113,114,115,116,117,118,119,120,121]:List Nat).contains (d+64)=true) d (Nat.lt_succ_of_le pr.2) pr.1
  have hb:JY s (WJ pl)=true:=by
   unfold JY;rw[e,ybq,hc.1];exact On
  have hf:Jt s (WJ pl)=pl:=by
   unfold Jt;rw[yaf hb,e,yep,ybq];show pl.dropLast++[d+64-64]=pl;rw[Nat.add_sub_cancel];exact bP.symm
  have ST:(WJ pl).length=a+b:=by
   rw[e,lq,yaN];simp;lia
  refine⟨⟨ST,by rw[hf];exact hd⟩,?_,ST,(λz=>by rw[z]at hc;exact absurd hc.1 (by lia)),λx hx=>?_⟩
  .unfold Jj;rw[yaf hb,hf,hv]
  .rw[e]at hx;rcases yao.mp hx with hx|hx
   .have:=hd x (ybH _ hx);lia
   .have:=yak.mp hx;lia
 .rw[yac hc,yac hc];have hb:JY s pl=false:=by
   unfold JY;rw[hd2];show(s&&List.contains _ d)=false;rw[To pr,ybh]
  have hf:Jt s pl=pl:=by unfold Jt;rw[yac (by rw[hb];lia)]
  refine⟨⟨hl,by rw[hf];exact hd⟩,?_,hl,λ_=>hd,λx hx=>?_⟩
  .unfold Jj;rw[yac (by rw[hb];lia),hf,hv]
  .have:=hd x hx;lia
end bY
namespace Lw
open PySem PySem.Spec PyProof.Rows L2 bj aQ bY aJ AI
open Builtin Builtin.Str StrLaws
theorem Tp(t:List Nat)(n:Nat):(replicate n 32++t).drop t.length=ba t n true:=by
 unfold ba;rw[yaf rfl];rw[List.drop_append,List.drop_replicate,lN]
theorem Tq(t:List Nat)(n:Nat):(t++replicate n 32).take n=ba t n false:=by
 unfold ba;rw[yac (by lia),List.take_append,List.take_replicate,ybb (Nat.sub_le _ _)]
theorem Tr(t:List Nat)(n:Nat)(b:Bool):(ba t n b).length=n:=by
 unfold ba
 split
 .rw[lq,lN,lJ];lia
 .rw[lq,lN,lI];lia
theorem Ts(h:∀x∈t,x<128) (n:Nat) (b:Bool):∀x∈ba t n b,x<128:=by
 intro x hx;unfold ba at hx
 split at hx
 .rcases yao.mp hx with hx|hx
  .rw[yav hx];lia
  .exact h x (yaY hx)
 .rcases yao.mp hx with hx|hx
  .exact h x (ybf hx)
  .rw[yav hx];lia
theorem yJ(first:Nat)(whole fs:List Nat)(b:Bool):(aJ.j7 first whole fs b).length=whole.length:=by
 have h1:(wV first whole fs).length=whole.length:=wl _ _ _ _;have h2:K6 first whole fs<=whole.length:=yo _ _ _ _;have h3:(AD first whole fs).length=whole.length:=by
  unfold AD
  split
  .rw[lq,lN,lJ,h1];lia
  .exact h1
 unfold aJ.j7
 split
 .rw[ycb];exact h3
 .exact h3
theorem _root_.aQ.Ed.Tt{Y:List Nat}{first:Nat}{W N ac tail:List Nat}(E:Ed Y first W N ac tail)(hf:f.natAbs<10^(ay first W N+ac.length)):(bO Y (W++N++Qm ac) tail f).length=(QU Y W N ac tail).length:=by
 obtain⟨h1,_,_⟩:=E.small;have hp:=XB hf (by lia);have hb:(W5 (W++N++Qm ac) f.natAbs (decide (f<0))).length=(W++N++Qm ac).length:=by
  rw[E.body _ h1 hf,lq,yJ,show(W++N++Qm ac).length=(W++N).length+(Qm ac).length from lq]
  congr 1
  unfold Qm
  split
  .rfl
  .rw[lD,lD,lJ,hp];lia
 rw[Kj];unfold bO Kh
 split
 .split<;>simp
 .simp only[lq,lu]at hb ⊢;lia
theorem LQ:∀c∈cB,∀b,aM b c<128:=by lia
theorem wN{l:List Nat}{b:Bool}(h:∀x∈l,x∈cB):∀x∈l.map (aM b),x<128:=λx hx=>by
 obtain⟨y,hy,rfl⟩:=ybQ.mp hx;exact LQ y (h y hy) b
theorem _root_.aQ.Ed.Tu{Y:List Nat}{first:Nat}{W N ac tail:List Nat}(E:Ed Y first W N ac tail)(hf:f.natAbs<10^(ay first W N+ac.length)):∀x∈bO Y (W++N++Qm ac) tail f,x<128:=by
 intro x hx;unfold bO at hx
 split at hx
 .unfold Kh at hx
  split at hx
  .obtain⟨y,_,rfl⟩:=ybQ.mp hx
   split<;>lia
  .rw[yav hx];lia
 .rcases yao.mp hx with hx|hx
  .rcases yao.mp hx with hx|hx
   .exact wN (Uf Y E.ld).1 x hx
   .obtain⟨s,pre,hs,e,_,_,_,_,df⟩:=E.shape (decide (f<0)) E.small.1 hf;rw[e]at hx;rcases yao.mp hx with hx|hx
    .rw[df]at hx
     split at hx
     .rename_i ev;rcases yao.mp hx with hx|hx
      .rw[yav hx];lia
      .have hm:first∈cB:=by
        have:∀d∈([43,45,36]:List Nat),d∈cB:=by lia
        exact this first (yai.mp ev)
       rw[yak.mp hx];exact LQ first hm _
     .rw[yav hx]
      split<;>lia
    .rw[hs]at hx;exact Rn _ _ (wt _ _) x (yaY hx)
  .exact wN (jl tail E.tl).1 x hx
theorem LR(hc:c=88\/c=65)(h:n<12)(h0:n≠0):cf (replicate n c) (replicate n c) ⟨if c=88 then 0 else 1,false,0,0⟩/\((replicate n c).filter jd).length=n:=by
 have no:40∉replicate n c:=λz=>by have:=yav z;lia
 obtain⟨m,rfl⟩:∃m,n=m+1:=⟨n-1,by lia⟩;have hp:=wa (c:=c) (m:=m) hc (by lia);refine⟨⟨hp,kU _ no,no,by rw[lN];lia,by rw[lN];lia⟩,?_⟩;rw[List.filter_replicate,yaf (by rcases hc with rfl|rfl<;>rfl),lN]
section
variable {P:Program}{w:World}{K:Frag}{mg:Str->Option Value}{M:Heap}{f:Addr}{fd:FuncData}{tk:Nat->Tok}
def wO:Sp:=λvs H Q _=>∃(t:List Nat)(n:Nat)(b:Bool),vs=[.str (tx t),.int (n:Nat),.bl b]/\t.length<=200/\n<=200/\Q (.str (tx (ba t n b))) H
theorem V8(F:aA K "_law_text_in" "_law_text_in" XA f fd)(O:Own mg):ag P w K mg M (ao P w) 1 f fd ["_law_content_here","_law_size","_law_right_here"] wO:=by
 refine okN F VM (λvs H Q E h=>?_) (λad A L s H vs Q E hr h=>?_)
 .obtain⟨t,n,b,rfl,_⟩:=h;rfl
 .obtain⟨t,n,b,rfl,ht,hn,k⟩:=h;have hz:=zza
  have ci:=Qh t;refine⟨_,(Qj (JP (Je (pv 2) (λ_=>rfl)) (Qp (QG (QZ J2 (QI Qo (QI QB Qc (pv 1)) (pv 0)) (Q2 (Qq QH Z O.len yaK (Qa (pv 0) Qb))) Ju))) QQ)
   (Qp (QG (QZ J2 (QI Qo (pv 0) (QI QB Qc (pv 1))) Ju (Q2 (pv 1)))))),?_⟩
  exists _,Z,b,Z;rw[Ki];refine aG (λhb=>?_) (λhb=>?_)
  .rw[hb, <-Tp]at k;refine⟨_,Z,tx [32],(n:Int),Z,Z,by lia,by rw[Qh,lZ,lC];lia,by lia,?_⟩;rw[lZ,Zi];refine⟨_,Z,_,_,Z,Z,by rw[Qh,Qh,lN];lia,?_⟩;rw[QR];refine⟨_,Z,tx t,Z,by lia,_,Z,_,Z,by rw[Qh,lq,lN];lia,?_⟩;rw[ci,J7];exact k
  .rw[hb, <-Tq]at k;refine⟨_,Z,_,Z,tx [32],(n:Int),Z,Z,by lia,by rw[Qh,lZ,lC];lia,by lia,?_⟩;rw[lZ,Zi];refine⟨_,_,Z,Z,by rw[Qh,Qh,lN];lia,?_⟩;rw[QR];refine⟨_,Z,_,Z,_,Z,by rw[Qh,lq,lN];lia,?_⟩;rw[Kq _ (by rw[lq,lN];lia)];exact k
end
noncomputable def sU:Bx->List Nat
 | .num s a b=>Z9 s a b
 | .aV Y _ W N ac tail=>QU Y W N ac tail
 | .aH n=>replicate n 65
 | .txt n=>replicate n 88
def xl(H:Hp)(q:Addr):Bx->List Nat->Prop
 | .num s a b,t=>∃rr,H q=some (.tup [tv (Z9 s a b),.str "number",.ref rr,tv t])/\H rr=some (.tup [.bl s,.int (a:Nat),.int (b:Nat)])
 | .aV Y first W N ac tail,t=>∃rr,H q=some (.tup [tv (QU Y W N ac tail),.str "edited",.ref rr,tv t])/\H rr=some (.tup [tv Y,tv [first],tv (W++N),tv ac,tv tail])
 | .aH n,t=>H q=some (.tup [tv (replicate n 65),.str "letters",.ax,tv t])
 | .txt n,t=>H q=some (.tup [tv (replicate n 88),.str "text",.ax,tv t])
def jr:Bx->List Nat->Prop
 | .num s a b,t=>a<6/\b<4/\a+b≠0/\t.length=a+b/\∀x∈t,x<128
 | .aV Y first W N ac tail,t=>Ed Y first W N ac tail/\Y.length+(W.length+N.length)+ac.length+tail.length<=60/\t.length=(QU Y W N ac tail).length/\(∀x∈t,x<128)/\(au first=true->∀d,t[Y.length]? =some d->dg d=48)
 | .aH n,t=>1<=n/\n<=8/\t.length=n/\∀x∈t,x<128
 | .txt n,t=>1<=n/\n<=8/\t.length=n/\∀x∈t,x<128
def Dn(K:Frag)(H:Hp)(a t r:Addr)(ns:List Int)(cm:Int)(R:VK):Prop:=
 ∀(x:Bx)(tt:List Nat)(q:Addr)(c':Int)(H':Hp),xl H' q x tt->jr x tt->H q=none->aP K H' a t r ns c'->c'<=cm->Apart t r H H'->R (.ref q) H'
theorem Dn.step{K:Frag}{H H1:Hp}{ns:List Int}{c c1 cm:Int}{R:VK}(h:Dn K H a t r ns cm R)(B:aP K H a t r ns c)(B1:aP K H1 a t r ns c1)(A:Apart t r H H1):Dn K H1 a t r ns cm R:=
 λx tt q c' H' bh bg hq B' hc A'=>h x tt q c' H' bh bg (B.free B1 A hq) B' hc (A.trans A')
theorem sV:(" ":Str)=tx [32]:=by rfl'
theorem D':("x":Str)=tx [120]:=by rfl'
theorem Ea:("X":Str)=tx [88]:=by rfl'
theorem LS:("A":Str)=tx [65]:=by rfl'
theorem yK(t:List Nat)(n:Nat):sliceText (tx t) none (some ((n:Nat):Int))=tx (t.take n):=by
 have e2:sliceText (tx t) none (some ((n:Nat):Int))=sliceText (tx t) (some ((0:Nat):Int)) (some ((n:Nat):Int)):=by
  unfold sliceText;rw[sliceIdx_none_lo];rfl
 rw[e2,XD t (lX _) (lX _)];simp
theorem js(h:c<128):∀x∈replicate n c,x<128:=λx hx=>by rw[yav hx];exact h
theorem Up{l m:List Nat}(h1:∀x∈l,x<128) (h2:∀x∈m,x<128):∀x∈l++m,x<128:=λx hx=>(yao.mp hx).elim (h1 x) (h2 x)
noncomputable abbrev CQ:List Str:=["_law_script","_law_town","_law_turn","_law_size","_law_line_here","_law_shows","_law_before","_law_behind","_law_content_here","_law_parts","_law_sort","_law_k"]
section
variable {P:Program}{w:World}{K:Frag}{mg:Str->Option Value}{M:Heap}{f:Addr}{fd:FuncData}{tk:Nat->Tok}
theorem Tv(O:Own mg)(hJ:Def P w K mg M 1 "_law_draw" ["_law_script","_law_town","_law_many"] (Z2 K)){ad:Value}{L:List Env}(hr:aq 3 (A.deeper (envOfC "_law_a_box" (Qe QP) s.heap.objs.size f ad))):
  ∃u2,aU (Xe (ao P w) P w K mg M CQ "_law_a_box" (Qe QP) f ad A L s H E).bD ((QK QP).drop 6) u2/\
   ∀(D:Ends)(H1:Hp)(y2 y4 y5 y6 y7 y9 li:Option V)(a t r:Addr)(ns:List Int)(c1 cm:Int)(n so:Nat)(tt:List Nat),
    aP K H1 a t r ns c1->c1+3<=cm->cm<100000->1<=n->n<=8->tt.length=n->(∀x∈tt,x<128)->Dn K H1 a t r ns cm D.rt->
    u2 D [some (.ref a),some (.ref t),y2,some (.int (n:Nat)),y4,y5,y6,y7,some (tv tt),y9,some (.int (so:Nat)),li] H1:=by
 have hz:=zza
 refine⟨_,(aN.ps (Qg (Q1 (PW.pt (Jn (Ql Ja (pv 10) Qi (Qn _)) (Jd (Ql Ja (hJ.pq hr Qy (Qv (pv 0) (Qv (pv 1) (Qv Qi Qb)))) Qi (Qn _))))) (Qg (Qu (i:=8) QM.nd Z (Or.inl Z) (ae.mk (QZ J2 (QI Qo (QI Qo (QI QB Qc (hJ.pq hr Qy (Qv (pv 0) (Qv (pv 1) (Qv Qi Qb))))) (pv 8)) (QI QB Qc (hJ.pq hr Qy (Qv (pv 0) (Qv (pv 1) (Qv Qi Qb)))))) Ju (Q2 (pv 3)))) Z Z)
   (Qr (Qu (i:=8) QM.nd Z (Or.inl Z) (QJ Qo (ae.mk (pv 8)) (QJ QB (ae.mk Qc) (QJ Zr (ae.mk (pv 3)) (ae.mk (Qq QH Z O.len yaK (Qv (pv 8) Qb)))))) Z Z))) QT)
   (Qr (QE (JC (QF (QJ QB (ae.mk Qc) (ae.mk (pv 3))) (QF (ae.mk Qc) (QF (ae.mk Zk) (QF (ae.mk (pv 8)) QO Z) Z) Z) Z)))))),?_⟩
 intro D H1 y2 y4 y5 y6 y7 y9 li a t r ns c1 cm n so tt B1 ix sW fb ib ci lw k;dsimp only[JI,Wt,Wu];refine JW (λσ' H'=>∃Tl c2,σ'=[some (.ref a),some (.ref t),y2,some (.int (n:Nat)),y4,y5,y6,y7,some (tv Tl),y9,some (.int (so:Nat)),li]/\aP K H' a t r ns c2/\c2<=cm/\Dn K H' a t r ns cm D.rt/\Tl.length=n/\∀x∈Tl,x<128) ?_ (λrest=>?_);rotate_left
 .exists _,Z,Z,_,Z;refine aG (λz=>?_) (λz=>QW (rest _ _ ⟨tt,c1,Z,B1,by lia,k,ci,lw⟩));refine B1.draw (n:=2) rfl rfl (λR h=>h) (by lia) (by lia) (by lia) λd2 H2 hd2 B2 A2=>?_;have k2:=k.step B1 B2 A2;exists Z,_,Z;refine aG (λz=>?_) (λz=>rest _ _ ⟨tt,_,Z,B2,by lia,k2,ci,lw⟩);refine B2.draw (n:=3) rfl rfl (λR h=>h) (by lia) (by lia) (by lia) λd3 H3 LC B3 A3=>?_;have k3:=k2.step B2 B3 A3;refine⟨" ",(d3:Int),Z,Z,by lia,by rw[lZ,sV,Qh];simp;lia,by lia,?_⟩;rw[lZ,sV,Zi];have fZ:=Qh (replicate d3 32);have oX:=Qh tt;rw[lN]at fZ;refine⟨_,Z,_,_,Z,Z,by lia,?_⟩;rw[QR];refine B3.draw (n:=3) rfl rfl (λR h=>h) (by lia) (by lia) (by lia) λd4 H4 hd4 B4 A4=>?_;have k4:=k3.step B3 B4 A4;refine⟨" ",(d4:Int),Z,Z,by lia,by rw[lZ,sV,Qh];simp;lia,by lia,?_⟩;rw[lZ,sV,Zi];have Tw:=Qh (replicate d4 32);have Tx:=Qh (replicate d3 32++tt);rw[lN]at Tw;rw[lq,lN]at Tx;refine⟨_,_,Z,Z,by lia,?_⟩;rw[QR];have Tz:=Qh (replicate d3 32++tt++replicate d4 32);rw[lq,lq,lN,lN]at Tz;refine⟨_,Z,_,Z,tx (replicate d3 32++tt++replicate d4 32),Z,by lia,?_⟩;rw[yK];have CS:∀x∈(replicate d3 32++tt++replicate d4 32).take n,x<128:=λx hx=>Up (Up (js (by lia)) lw) (js (by lia)) x (ybf hx);have GX:((replicate d3 32++tt++replicate d4 32).take n).length<=n:=by rw[lI];lia
  generalize (replicate d3 32++tt++replicate d4 32).take n=t4 at CS GX;have hl6:=Qh t4;refine⟨_,Z,_,Z,_,Z,tx t4,Z,by lia,_,_,Z,Z," ",(n:Int)-(tx t4).length,Z,Z,by lia,by rw[sV,Qh];simp;lia,by lia,?_⟩;have e7:((n:Int)-(tx t4).length).toNat=n-t4.length:=by lia
  rw[e7,sV,Zi];have TB:=Qh (replicate (n-t4.length) 32);rw[lN]at TB;refine⟨_,_,Z,Z,by lia,?_⟩;rw[QR];exact rest _ _ ⟨t4++replicate (n-t4.length) 32,_,Z,B4,by lia,k4,by rw[lq,lN];lia,Up CS (js (by lia))⟩
 rintro σ' H' ⟨Tl,c2,rfl,B',l4,k',iJ,GY⟩;refine⟨_,Z,"X",(n:Int),Z,Z,by lia,by rw[lZ,Ea,Qh];simp;lia,by lia,?_⟩;rw[lZ,Ea,Zi];refine⟨_,Z,eZ,λq hq=>?_⟩;exact k' (.txt n) Tl q c2 _ Qd ⟨fb,ib,iJ,GY⟩ hq (B'.same (Qs.new hq)) l4 (.of (Qs.new hq))
noncomputable def qs(c:Nat):Nat:=if([97,98,99,88,89,90,32]:List Nat).contains c=true then c else 113
theorem TC:("abcXYZ ":Str)=tx [97,98,99,88,89,90,32]:=by rfl'
theorem TF(c:Nat)(h:c<128):qs c<128:=by unfold qs;split<;>lia
theorem TH(O:Own mg)(hJ:Def P w K mg M 1 "_law_draw" ["_law_script","_law_town","_law_many"] (Z2 K)){ad:Value}{L:List Env}(hr:aq 3 (A.deeper (envOfC "_law_a_box" (Qe QP) s.heap.objs.size f ad))):
  ∃u2,aU (Xe (ao P w) P w K mg M CQ "_law_a_box" (Qe QP) f ad A L s H E).bD ((QK QP).drop 5) u2/\
   ∀(D:Ends)(H1:Hp)(y4 y5 y6 y7 y9 li:Option V)(a t r:Addr)(ns:List Int)(c1 cm:Int)(tu n so:Nat)(tt:List Nat),
    aP K H1 a t r ns c1->c1+3<=cm->cm<100000->1<=n->n<=8->tt.length=n->(∀x∈tt,x<128)->Dn K H1 a t r ns cm D.rt->
    u2 D [some (.ref a),some (.ref t),some (.int (tu:Nat)),some (.int (n:Nat)),y4,y5,y6,y7,some (tv tt),y9,some (.int (so:Nat)),li] H1:=by
 have hz:=zza
 obtain⟨u3,sB,h2⟩:=Tv (P:=P) (w:=w) (K:=K) (M:=M) (f:=f) (L:=L) (H:=H) (E:=E) O hJ hr;refine⟨_,(aN.ps (Qg (Q1 (Ql Ja (pv 2) Qi (Qn _)) (Qg (Qu (i:=8) QM.nd Z (Or.inl Z) (ZH (QF (ae.mk (Zt (NB:=[".0","_law_sign"]) Z ⟨Z,by rfl',by rfl',by rfl'⟩ (KC (pv 8)) (λ_ _ _=>(Qk (i:=1) (show([".0","_law_sign"]:List Str).Nodup by rfl') Z (Or.inl Z))) (λ_ _ _=>XG) (λ_ _ _=>(Jm (Ql Jo (pv 1) Qc (by with_unfolding_all rfl)) (pv 1) Qc)))) QO Z) Z Z) Z Z)
   (Qr (QE (JC (QF (QJ QB (ae.mk Qc) (ae.mk (pv 3))) (QF (ae.mk Qc) (QF (ae.mk Zk) (QF (ae.mk (pv 8)) QO Z) Z) Z) Z))))) QT)
   (aN.mk sB))),?_⟩
 intro D H1 y4 y5 y6 y7 y9 li a t r ns c1 cm tu n so tt B1 ix sW fb ib ci lw k;have iI:=Qh tt;exists _,Z,Z,_,Z;refine aG (λz=>?_) (λz=>h2 _ _ _ _ _ _ _ _ _ _ _ _ _ _ _ _ _ _ B1 ix sW fb ib ci lw k);exists Z;refine Ko (z:=tx tt) (λm vs H2=>vs=((tt.take m).map qs).map (λc=>V.str (tx [c]))/\H2=H1) (λR h=>⟨_,Z,h⟩) (Zj lw) ⟨Z,Z⟩ (λm vs H hm⟨e,_⟩=>?_) ?_ ?_ (by show(tx tt).length<sizeLine;lia)
 .rw[e,lu,lu,lI];lia
 .rintro m cc vs H2 hx ⟨rfl,rfl⟩;have f8:tt[m]? =some cc:=by simpa using hx
  have ss:tt.take (m+1)=tt.take m++[cc]:=by rw[yaE,f8];rfl
  rw[show(⟨#[cc]⟩:Str)=tx [cc]from rfl];exists _,Z,_,_,Z,Z,_,Z;rw[TC,JG];have fin:∀d,d=qs cc->((tt.take m).map qs).map (λc=>V.str (tx [c]))++[.str (tx [d])]=((tt.take (m+1)).map qs).map (λc=>V.str (tx [c])):=λd e=>by rw[ss,e];simp
  cases g:([97,98,99,88,89,90,32]:List Nat).contains cc with
  |true=>exact Q4 ⟨_,Z,fin _ (by unfold qs;rw[yaf g]),Z⟩
  |false=>exact QW ⟨fin 113 (by unfold qs;rw[yac (by rw[g];lia)]),Z⟩
 .rintro vs H2 ⟨rfl,rfl⟩ q hq;rw[yaq (show tt.length<=(tx tt).cps.size by simp)];refine⟨"",q,(tt.map qs).map λc=>tx [c],Z,Z,az.of (by rw[Qd,lT (f:=λc=>tx [c])];rfl),X5 (by rw[lu];lia),?_⟩;rw[ZI];have S:=Qs.new (o:=.lst ((tt.map qs).map (λc=>V.str (tx [c])))) hq;have B2:=B1.same S;have k2:=k.step B1 B2 (.of S);generalize upd H2 q (.lst ((tt.map qs).map (λc=>V.str (tx [c]))))=H3 at B2 k2;refine⟨_,Z,"A",(n:Int),Z,Z,by lia,by rw[lZ,LS,Qh];simp;lia,by lia,?_⟩;rw[lZ,LS,Zi];refine⟨_,Z,eZ,λq2 EQ=>?_⟩;exact k2 (.aH n) (tt.map qs) q2 c1 _ Qd ⟨fb,ib,by rw[lu];exact ci,λx hx=>by obtain⟨y,hy,rfl⟩:=ybQ.mp hx;exact TF y (lw y hy)⟩ EQ (B2.same (Qs.new EQ)) (by lia) (.of (Qs.new EQ))
noncomputable def Eb:List (List Nat):=[[48,49,50,51,52,53,54,55,56,57],[97,98,99,88,89,90,32,32],[97,49,32,46,45,90,126,32]]
theorem TJ:([.str "0123456789",.str "abcXYZ  ",.str "a1 .-Z~ "]:List V)=Eb.map tv:=by rfl'
theorem TK:∀l∈Eb,8<=l.length/\l.length<=10/\∀x∈l,x<128:=by lia
theorem TL(O:Own mg)(hJ:Def P w K mg M 1 "_law_draw" ["_law_script","_law_town","_law_many"] (Z2 K)){ad:Value}{L:List Env}(hr:aq 3 (A.deeper (envOfC "_law_a_box" (Qe QP) s.heap.objs.size f ad))):
  ∃u2,aU (Xe (ao P w) P w K mg M CQ "_law_a_box" (Qe QP) f ad A L s H E).bD ((QK QP).drop 3) u2/\
   ∀(D:Ends)(H1:Hp)(y4 y5 y6 y7 y8 y9 At li:Option V)(a t r:Addr)(ns:List Int)(c1 cm:Int)(tu n:Nat),
    aP K H1 a t r ns c1->c1+20<=cm->cm<100000->1<=n->n<=8->Dn K H1 a t r ns cm D.rt->
    u2 D [some (.ref a),some (.ref t),some (.int (tu:Nat)),some (.int (n:Nat)),y4,y5,y6,y7,y8,y9,At,li] H1:=by
 have hz:=zza
 obtain⟨u3,sB,h2⟩:=TH (P:=P) (w:=w) (K:=K) (M:=M) (f:=f) (L:=L) (H:=H) (E:=E) O hJ hr;refine⟨_,(aN.ps (Qg (aO.mk (Uy (i:=10) (j:=8) Z QM.nd Z Z (by lia) Z Z (Qv (hJ.pq hr Qy (Qv (pv 0) (Qv (pv 1) (Qv Qi Qb)))) (Qv Qc Qb)) Z))
   (Qg (X2 yaG Z (XX Z O.range (Qv (pv 3) Qb)) (Z' 11 QM.nd) (Qr (Qu (i:=8) QM.nd Z (Or.inl Z) (QJ Qo (ae.mk (pv 8)) (ae.mk (QS Z1 (QS Jc (ZR (Qv Qc (Qv Qc (Qv Qc Qb)))) (pv 10) (λ_ _=>rfl)) (hJ.pq hr Qy (Qv (pv 0) (Qv (pv 1) (Qv Qi Qb)))) (λ_ _=>rfl)))) Z Z)) (λ_=>rfl))
   (aN.mk sB)))),?_⟩
 intro D H1 y4 y5 y6 y7 y8 y9 At li a t r ns c1 cm tu n B1 ix sW fb ib k;refine B1.draw (n:=3) rfl rfl (λR h=>h) (by lia) (by lia) (by lia) λso H2 hso B2 A2=>?_;have k2:=k.step B1 B2 A2;refine⟨_,_,Z,_,Z,(n:Int),Z,by lia,by lia,XY (n:=n) (λi σ H3=>∃sH tt c3,σ=[some (.ref a),some (.ref t),some (.int (tu:Nat)),some (.int (n:Nat)),y4,y5,y6,y7,some (tv tt),y9,some (.int (so:Nat)),sH]/\tt.length=i/\(∀x∈tt,x<128)/\aP K H3 a t r ns c3/\c3<=c1+1+i/\Dn K H3 a t r ns cm D.rt) ⟨li,[],_,Z,Z,(λx hx=>by cases hx),B2,by lia,k2⟩ ?_ ?_⟩
 .rintro i σ H3 hi ⟨sH,tt,c3,rfl,ci,lw,B3,sN,k3⟩;have iI:=Qh tt;refine⟨_,Z,Ax,λp hp=>?_⟩;have S:=Qs.new (o:=.lst [.str "0123456789",.str "abcXYZ  ",.str "a1 .-Z~ "]) hp;have g4:upd H3 p (.lst [.str "0123456789",.str "abcXYZ  ",.str "a1 .-Z~ "]) p=some (.lst (Eb.map tv)):=by rw[Qd,TJ]
  have B4:=B3.same S;have k4:=k3.step B3 B4 (.of S);generalize upd H3 p (.lst [.str "0123456789",.str "abcXYZ  ",.str "a1 .-Z~ "])=H4 at g4 B4 k4;obtain⟨l,hl⟩:∃l,Eb[so]? =some l:=⟨_,yah (show so<3 by lia)⟩;obtain⟨l8,l10,GZ⟩:=TK l (lM hl);refine⟨_,Z,p,_,so,tv l,Z,Z,.inl (.inl g4),Zc (by rw[lK,hl];rfl),?_⟩;refine B4.draw (n:=8) rfl rfl (λR h=>h) (by lia) (by lia) (by lia) λd H5 hd B5 A5=>?_;have k5:=k4.step B4 B5 A5;obtain⟨ch,Cl⟩:∃ch,l[d]? =some ch:=⟨_,yah (by lia)⟩;have hlx:=Qh l;exists tx l,(d:Int),ch,Z,Z,by lia,Zc Cl;have fZ:(⟨#[ch]⟩:Str).length=1:=rfl;refine⟨_,_,Z,Z,by show(tx tt).length+(⟨#[ch]⟩:Str).length<=sizeLine;lia,?_⟩;rw[show(⟨#[ch]⟩:Str)=tx [ch]from rfl,QR];exact⟨_,_,_,Z,by rw[lq];simp;lia,Up lw (λx hx=>by rw[yak.mp hx];exact GZ ch (lM Cl)),B5,by lia,k5⟩
 .rintro σ H3 ⟨sH,tt,c3,rfl,ci,lw,B3,sN,k3⟩;exact h2 _ _ _ _ _ _ _ _ _ _ _ _ _ _ _ _ _ _ B3 (by lia) sW fb ib ci lw k3
end
theorem yL(s:Bool)(a b:Nat)(u o:Int):∀x∈cont s a b u o,x<128:=by
 have hp:∀n k,∀x∈pad n k,x<128:=λn k x hx=>by have:=Kg n k x hx;lia
 unfold cont
 split
 .intro x hx;unfold WJ at hx;rcases yao.mp hx with h|h
  .exact hp _ _ x (ybH _ h)
  .rw[yak.mp h];cases e:(pad (fit u o a b).natAbs (a+b)).getLast? with
   |none=>show 48+64<128;lia
   |some d=>
    have:=Kg _ _ d (ydb e);show d+64<128;lia
 .exact hp _ _
theorem zk{Y:List Nat}{first:Nat}{W N ac tail:List Nat}(E:Ed Y first W N ac tail):1<=(QU Y W N ac tail).length:=by
 have:=E.w.hd;cases W with
 |nil=>cases this
 |cons x r=>unfold QU;simp only[lq,lD];lia
noncomputable def xd(t:List Nat):List Nat:=120::t.drop 1
theorem LU(h:1<=t.length):(xd t).length=t.length:=by unfold xd;rw[lD,lJ];lia
theorem LV(h:∀x∈t,x<128):∀x∈xd t,x<128:=λx hx=>by
 rcases yag.mp hx with rfl|hx
 .decide
 .exact h x (yaY hx)
theorem TM(h:(xd t)[i]? =some d):(i=0/\d=120)\/t[i]? =some d:=by
 cases i with
 |zero=>left;exact⟨Z,(lB h).symm⟩
 |succ i=>right;unfold xd at h;rw[List.getElem?_cons_succ,ybZ]at h;rw[<-h,yeC]
theorem yM{Y:List Nat}{first:Nat}{W N ac tail:List Nat}(Ee:Ed Y first W N ac tail)(f:Int)(hf:au first=true)(d:Nat)(h:(bO Y (W++N++Qm ac) tail f)[Y.length]? =some d):dg d=48:=by
 obtain⟨rr,fm⟩:=Ee.bP;have ev:au ((W++N++Qm ac).headD 0)=true:=by rw[fm];exact hf
 have hm:∀c,au c=true->∀b,dg (aM b c)=48:=λc hc=>Lr c (by
  unfold au at hc;simp only[ycJ,List.contains_nil,ydd,Bool.or_eq_true,yci]at hc;simp only[yag,yax,ybk];lia)
 unfold bO at h;rw[yac (λz=>by rw[ev]at z;exact absurd z.2.2 (by lia)),lP,ycn (by rw[lu];exact lA _),lu,yeG]at h;unfold W5 at h;rw[yaf ev]at h;cases g:aS (W++N++Qm ac) (aR (W++N++Qm ac) (pad f.natAbs (many (W++N++Qm ac))))-1 with
 |zero=>
  rw[g]at h;have e:aM (decide (f<0)) ((W++N++Qm ac).headD 0)=d:=lB h;rw[<-e];exact hm _ ev _
 |succ m=>
  rw[g,yaz]at h;have e:32=d:=lB h;rw[<-e]
  decide
section
variable {P:Program}{w:World}{K:Frag}{mg:Str->Option Value}{M:Heap}{f:Addr}{fd:FuncData}{tk:Nat->Tok}
theorem TN(O:Own mg)(hJ:Def P w K mg M 1 "_law_draw" ["_law_script","_law_town","_law_many"] (Z2 K))(gc:Def P w K mg M 2 "_law_an_amount" ["_law_script","_law_town","_law_figures","_law_far"] (Ws K))(gh:Def P w K mg M 3 "_law_an_edited" ["_law_script","_law_town"] (Cz K))(hU:Def P w K mg M 2 "_law_edit" ["_law_parts","_law_amount"] (Xc K))(gg:Def P w K mg M 1 "_law_line" ["_law_parts"] (V6 K)){ad:Value}{L:List Env}(hr:aq 3 (A.deeper (envOfC "_law_a_box" (Qe QP) s.heap.objs.size f ad))):
  ∃u2,aU (Xe (ao P w) P w K mg M CQ "_law_a_box" (Qe QP) f ad A L s H E).bD ((QK QP).drop 2) u2/\
   ∀(D:Ends)(H1:Hp)(y4 y5 y6 y7 y8 y9 At li:Option V)(a t r:Addr)(ns:List Int)(c1 cm:Int)(tu n:Nat),
    aP K H1 a t r ns c1->c1+70<=cm->cm<80000->1<=n->n<=8->Dn K H1 a t r ns cm D.rt->
    u2 D [some (.ref a),some (.ref t),some (.int (tu:Nat)),some (.int (n:Nat)),y4,y5,y6,y7,y8,y9,At,li] H1:=by
 have hz:=zza
 obtain⟨u3,sB,h2⟩:=TL (P:=P) (w:=w) (K:=K) (M:=M) (f:=f) (L:=L) (H:=H) (E:=E) O hJ hr;refine⟨_,(aN.ps (Qg (Q1 (Ql Ja (pv 2) Qi (Qn _)) (Qg (Qu (i:=9) QM.nd Z (Or.inl Z) (ae.mk (gh.pq hr Qy (Qv (pv 0) (Qv (pv 1) Qb)))) Z Z)
   (Qg (Qu (i:=8) QM.nd Z (Or.inl Z) (ae.mk (hU.pq hr Qy (Qv (pv 9) (Qv (gc.pq hr Qy (Qv (pv 0) (Qv (pv 1) (Qv Qi (Qv Qi Qb))))) Qb)))) Z Z)
   (Qg (Q1 (Ql Ja (hJ.pq hr Qy (Qv (pv 0) (Qv (pv 1) (Qv Qi Qb)))) Qi (Qn _)) (Qr (Qu (i:=8) QM.nd Z (Or.inl Z) (QJ Qo (ae.mk Qc) (ae.mk (QZ J2 (pv 8) (Q2 Qi) Ju))) Z Z)) QT)
   (Qr (QE (JC (QF (ae.mk (gg.pq hr Qy (Qv (pv 9) Qb))) (QF (ae.mk Qc) (QF (ae.mk (pv 9)) (QF (ae.mk (pv 8)) QO Z) Z) Z) Z))))))) QT)
   (aN.mk sB))),?_⟩
 intro D H1 y4 y5 y6 y7 y8 y9 At li a t r ns c1 cm tu n B1 ix sW fb ib k;exists _,Z,Z,_,Z;refine aG (λz=>?_) (λz=>h2 _ _ _ _ _ _ _ _ _ _ _ _ _ _ _ _ _ _ B1 (by lia) (by lia) fb ib k);refine⟨_,Z,_,Z,a,t,r,ns,c1,Z,B1,by lia,λY first W N ac tail q c2 H2 Ee hsz hq gq B2 l4 A2=>?_⟩;have k2:=k.step B1 B2 A2;obtain⟨fg,T2⟩:=B2.tw;refine⟨_,Z,_,Z,_,Z,a,t,r,ns,c2,6,3,fg,Z,B2.sq,T2,B2.nat,B2.bX,B2.ln,by lia,by lia,by lia,by lia,by lia,λu oi c3 oC H3 q1 bu o0 o5 Iw g1 T3 sN A3=>?_⟩;obtain⟨o,rfl⟩:=ybs o0;have B3:=B2.drawn A3 T3;have k3:=k2.step B2 B3 A3;have G0:=B2.keep A3 gq (λ_ z=>nomatch z);refine⟨q,q1,Y,first,W,N,ac,tail,u,o,Z,aj.of G0,aj.of g1,Ee,hsz,yaD bu (by lia),by lia,λH4 S4=>?_⟩;have B4:=B3.same S4;have k4:=k3.step B3 B4 (.of S4);have TQ:=S4 _ _ G0;have ev:=qd u o (ay first W N) ac.length;have hlen:=Ee.Tt ev;have Op:=Ee.Tu ev;have FS:=yM Ee (fit u o (ay first W N) ac.length);generalize bO Y (W++N++Qm ac) tail (fit u o (ay first W N) ac.length)=tt at hlen Op FS;have ST:(QU Y W N ac tail).length<=61:=Ku hsz;have fZ:1<=(QU Y W N ac tail).length:=zk Ee;have iI:=Qh tt;clear g1 T2 T3 A2 A3 B2 B3 k2 k3 gq G0 ev;dsimp only[JI,Wt,Wu];refine JW (λσ' H'=>∃Tl c5,σ'=[some (.ref a),some (.ref t),some (.int (tu:Nat)),some (.int (n:Nat)),y4,y5,y6,y7,some (tv Tl),some (.ref q),At,li]/\aP K H' a t r ns c5/\c5<=cm/\Dn K H' a t r ns cm D.rt/\H' q=some (.tup [tv Y,tv [first],tv (W++N),tv ac,tv tail])/\jr (.aV Y first W N ac tail) Tl) ?_ (λrest=>?_);rotate_left
 .refine B4.draw (n:=8) rfl rfl (λR h=>h) (by lia) (by lia) (by lia) λd5 H5 Gx B5 A5=>?_;have k5:=k4.step B4 B5 A5;have CT:=B4.keep A5 TQ (λ_ z=>nomatch z);exists Z,_,Z;refine aG (λz=>?_) (λz=>rest _ _ ⟨tt,_,Z,B5,by lia,k5,CT,Ee,hsz,hlen,Op,FS⟩);refine⟨_,Z,_,Z,tx tt,Z,by lia,?_⟩;rw[show(some (1:Int))=some ((1:Nat):Int)from rfl,J7];have di:=Qh [120];have ii:=Qh (tt.drop 1);rw[lJ]at ii;exists _,_,Z,Z,?_
  .rw[D'];simp at di;lia
  rw[D',QR];refine rest _ _ ⟨xd tt,_,Z,B5,by lia,k5,CT,Ee,hsz,by rw[LU (by lia)];exact hlen,LV Op,λhf d hd=>?_⟩;rcases TM hd with⟨_,rfl⟩|hd
  .decide
  .exact FS hf d hd
 rintro σ' H5 ⟨Tl,c5,rfl,B5,AM,k5,CT,bg⟩;exists _,Z,q,Y,[first],W,N,ac,tail,Z,aj.of CT;refine⟨by lia,_,Z,_,Z,eZ,λq2 EQ=>?_⟩;have S6:=Qs.new (o:=.tup [tv (QU Y W N ac tail),.str "edited",.ref q,tv Tl]) EQ;exact k5 (.aV Y first W N ac tail) Tl q2 c5 _ ⟨q,Qd,S6 _ _ CT⟩ bg EQ (B5.same S6) AM (.of S6)
theorem TR(O:Own mg)(hJ:Def P w K mg M 1 "_law_draw" ["_law_script","_law_town","_law_many"] (Z2 K))(gc:Def P w K mg M 2 "_law_an_amount" ["_law_script","_law_town","_law_figures","_law_far"] (Ws K))(gE:Def P w K mg M 2 "_law_a_number" ["_law_script","_law_town"] (zh K))(hZ:Def P w K mg M 1 "_law_content" ["_law_shows","_law_before","_law_behind","_law_amount"] (WQ K))(gh:Def P w K mg M 3 "_law_an_edited" ["_law_script","_law_town"] (Cz K))(hU:Def P w K mg M 2 "_law_edit" ["_law_parts","_law_amount"] (Xc K))(gg:Def P w K mg M 1 "_law_line" ["_law_parts"] (V6 K)){ad:Value}{L:List Env}(hr:aq 3 (A.deeper (envOfC "_law_a_box" (Qe QP) s.heap.objs.size f ad))):
  ∃u2,aU (Xe (ao P w) P w K mg M CQ "_law_a_box" (Qe QP) f ad A L s H E).bD ((QK QP).drop 1) u2/\
   ∀(D:Ends)(H1:Hp)(y4 y5 y6 y7 y8 y9 At li:Option V)(a t r:Addr)(ns:List Int)(c1 cm:Int)(tu n:Nat),
    aP K H1 a t r ns c1->c1+70<=cm->cm<80000->1<=n->n<=8->Dn K H1 a t r ns cm D.rt->
    u2 D [some (.ref a),some (.ref t),some (.int (tu:Nat)),some (.int (n:Nat)),y4,y5,y6,y7,y8,y9,At,li] H1:=by
 have hz:=zza
 obtain⟨u3,sB,h2⟩:=TN (P:=P) (w:=w) (K:=K) (M:=M) (f:=f) (L:=L) (H:=H) (E:=E) O hJ gc gh hU gg hr;refine⟨_,(aN.ps (Qg (Q1 (Ql Ja (pv 2) Qi (Qn _)) (Qg (aO.mk (Jk (gE.pq hr Qy (Qv (pv 0) (Qv (pv 1) Qb))) (Q5 Z (Qf (Z' 4 QM.nd) (Qf (Z' 5 QM.nd) (Qf (Z' 6 QM.nd) (Qf (Z' 7 QM.nd) QD)))))))
   (Qg (Qu (i:=8) QM.nd Z (Or.inl Z) (ae.mk (hZ.pq hr Qy (Qv (pv 5) (Qv (pv 6) (Qv (pv 7) (Qv (gc.pq hr Qy (Qv (pv 0) (Qv (pv 1) (Qv Qi (Qv Qi Qb))))) Qb)))))) Z Z)
   (Qg (Q1 (Ql Ja (hJ.pq hr Qy (Qv (pv 0) (Qv (pv 1) (Qv Qi Qb)))) Qi (Qn _)) (Qr (Qu (i:=8) QM.nd Z (Or.inl Z) (QJ Qo (ae.mk Qc) (ae.mk (QZ J2 (pv 8) (Q2 Qi) Ju))) Z Z)) QT)
   (Qr (QE (JC (QF (ae.mk (pv 4)) (QF (ae.mk Qc) (QF (JC (QF (ae.mk (pv 5)) (QF (ae.mk (pv 6)) (QF (ae.mk (pv 7)) QO Z) Z) Z)) (QF (ae.mk (pv 8)) QO Z) Z) Z) Z))))))) QT)
   (aN.mk sB))),?_⟩
 intro D H1 y4 y5 y6 y7 y8 y9 At li a t r ns c1 cm tu n B1 ix sW fb ib k;exists _,Z,Z,_,Z;refine aG (λz=>?_) (λz=>h2 _ _ _ _ _ _ _ _ _ _ _ _ _ _ _ _ _ _ B1 ix sW fb ib k);refine⟨_,Z,_,Z,a,t,r,ns,c1,Z,B1,by lia,λsg a2 b q c2 H2 ha hb Pi hq gq B2 l4 A2=>⟨q,_,Z,aj.of gq,Z,_,_,Z,_,_,Z,_,_,Z,_,_,Z,Z,?_⟩⟩;have k2:=k.step B1 B2 A2;obtain⟨fg,T2⟩:=B2.tw;refine⟨_,Z,_,Z,_,Z,_,Z,_,Z,a,t,r,ns,c2,8,3,fg,Z,B2.sq,T2,B2.nat,B2.bX,B2.ln,by lia,by lia,by lia,by lia,by lia,λu oi c3 oC H3 q1 bu o0 o5 Iw g1 T3 sN A3=>?_⟩;obtain⟨o,rfl⟩:=ybs o0;have B3:=B2.drawn A3 T3;have k3:=k2.step B2 B3 A3;refine⟨sg,a2,b,q1,u,o,Z,aj.of g1,yaD bu (by lia),by lia,by lia,by lia,by lia,?_⟩;have hlen:=(yI sg (a:=a2) (b:=b) u o (by lia)).1.1;have Op:=yL sg a2 b u o;generalize cont sg a2 b u o=tt at hlen Op;have iI:=Qh tt;clear gq g1 T2 T3 A2 A3 B2 k2;dsimp only[JI,Wt,Wu];refine JW (λσ' H'=>∃Tl c5,σ'=[some (.ref a),some (.ref t),some (.int (tu:Nat)),some (.int (n:Nat)),some (tv (Z9 sg a2 b)),some (.bl sg),some (.int (a2:Nat)),some (.int (b:Nat)),some (tv Tl),y9,At,li]/\aP K H' a t r ns c5/\c5<=cm/\Dn K H' a t r ns cm D.rt/\jr (.num sg a2 b) Tl) ?_ (λrest=>?_);rotate_left
 .refine B3.draw (n:=8) rfl rfl (λR h=>h) (by lia) (by lia) (by lia) λd5 H5 Gx B5 A5=>?_;have k5:=k3.step B3 B5 A5;exists Z,_,Z;refine aG (λz=>?_) (λz=>rest _ _ ⟨tt,_,Z,B5,by lia,k5,ha,hb,Pi,hlen,Op⟩);refine⟨_,Z,_,Z,tx tt,Z,by lia,?_⟩;rw[show(some (1:Int))=some ((1:Nat):Int)from rfl,J7];have di:=Qh [120];have ii:=Qh (tt.drop 1);rw[lJ]at ii;exists _,_,Z,Z,?_
  .rw[D'];simp at di;lia
  rw[D',QR];exact rest _ _ ⟨xd tt,_,Z,B5,by lia,k5,ha,hb,Pi,by rw[LU (by lia)];exact hlen,LV Op⟩
 rintro σ' H5 ⟨Tl,c5,rfl,B5,AM,k5,bg⟩;refine⟨_,Z,_,Z,_,Z,_,Z,Ax,λrr fm=>?_⟩;have S6:=Qs.new (o:=.tup [.bl sg,.int (a2:Nat),.int (b:Nat)]) fm;have B6:=B5.same S6;have k6:=k5.step B5 B6 (.of S6);have g6:upd H5 rr (.tup [.bl sg,.int (a2:Nat),.int (b:Nat)]) rr=some (.tup [.bl sg,.int (a2:Nat),.int (b:Nat)]):=Qd;generalize upd H5 rr (.tup [.bl sg,.int (a2:Nat),.int (b:Nat)])=H6 at B6 k6 g6;refine⟨_,Z,eZ,λq2 EQ=>?_⟩;have S7:=Qs.new (o:=.tup [tv (Z9 sg a2 b),.str "number",.ref rr,tv Tl]) EQ;exact k6 (.num sg a2 b) Tl q2 c5 _ ⟨rr,Qd,S7 _ _ g6⟩ bg EQ (B6.same S7) AM (.of S7)
def wP(K:Frag):Sp:=λvs H Q _=>∃(a t r:Addr)(ns:List Int)(c:Int),vs=[.ref a,.ref t]/\aP K H a t r ns c/\c<70000/\Dn K H a t r ns (c+80) Q
theorem Uq(F:aA K "_law_a_box" "_law_a_box" QP f fd)(O:Own mg)(hJ:Def P w K mg M 1 "_law_draw" ["_law_script","_law_town","_law_many"] (Z2 K))(gc:Def P w K mg M 2 "_law_an_amount" ["_law_script","_law_town","_law_figures","_law_far"] (Ws K))(gE:Def P w K mg M 2 "_law_a_number" ["_law_script","_law_town"] (zh K))(hZ:Def P w K mg M 1 "_law_content" ["_law_shows","_law_before","_law_behind","_law_amount"] (WQ K))(gh:Def P w K mg M 3 "_law_an_edited" ["_law_script","_law_town"] (Cz K))(hU:Def P w K mg M 2 "_law_edit" ["_law_parts","_law_amount"] (Xc K))(gg:Def P w K mg M 1 "_law_line" ["_law_parts"] (V6 K)):
  ag P w K mg M (ao P w) 4 f fd ["_law_script","_law_town"] (wP K):=by
 refine okN F QM (λvs H Q E h=>?_) (λad A L s H vs Q E hr h=>?_)
 .obtain⟨a,t,r,ns,c,rfl,_⟩:=h;rfl
 .obtain⟨a,t,r,ns,c,rfl,B,hc,k⟩:=h;obtain⟨u3,sB,h2⟩:=TR (P:=P) (w:=w) (K:=K) (M:=M) (f:=f) (L:=L) (H:=H) (E:=E) O hJ gc gE hZ gh hU gg hr;refine⟨_,(aN.ps (Qg (aO.mk (Uy (i:=2) (j:=3) Z QM.nd Z Z (by lia) Z Z (Qv (hJ.pq hr Qy (Qv (pv 0) (Qv (pv 1) (Qv Qi Qb)))) (Qv (QI JK Qi (hJ.pq hr Qy (Qv (pv 0) (Qv (pv 1) (Qv Qi Qb))))) Qb)) Z))
   (aN.mk sB))),?_⟩
  refine B.draw (n:=4) rfl rfl (λR h=>h) (by lia) (by lia) (by lia) λd1 H1 bP B1 A1=>?_;have k1:=k.step B B1 A1;refine B1.draw (n:=8) rfl rfl (λR h=>h) (by lia) (by lia) (by lia) λd2 H2 hd2 B2 A2=>?_;have k2:=k1.step B1 B2 A2;exists _,_,Z,Z,_,_,Z;have e:(1:Int)+(d2:Nat)=((1+d2:Nat):Int):=by lia
  have h3:=h2 {nx:=λx H'=>Q V.ax H',rt:=Q} H2 none none none none none none none none a t r ns (c+1+1) (c+80) d1 (1+d2) B2 (by lia) (by lia) (by lia) (by lia) k2;rw[<-e]at h3;exact h3
end
theorem qt{K:Frag}{NB:List Str}{i:Nat}{tt:TT}{R:V->V->Hp->VK->Prop}{σ:L2.St}{H:Hp}{Q:VK}{l:List Nat}(bad:Nat->Bool)(dt:NB.length=2)(hσ:σ[i]? =some (some (tv l)))(hl:l.length<=500)(ha:∀x∈l,x<128)
  (ot:∀c∈l,∀(H:Hp)(R:Bool->Hp->Prop),R (bad c) H->tt [none,some (tv [c])] H R)
  (hR:∀x y H Q,(∃a b xs ys k,x=.ref a/\y=.ref b/\az K H a xs/\az K H b ys/\((bH K H 1 xs ys/\k=false)\/(xs.length≠ys.length/\k=true))/\Q (.bl k) H)->R x y H Q)
  (k:∀H',Qs H H'->Q (.bl (l.any bad)) H'):bc R (Yd NB (BS (ZN i)) (JI 1) tt (ZN 1)) (Dv Ww) σ H Q:=by
 have hz:=zza
 have iI:=Qh l;refine Ko (z:=tx l) (λm vs H2=>vs=((l.take m).filter bad).map (λc=>tv [c])/\H2=H) (λR h=>⟨_,hσ,h⟩) (Zj ha) ⟨Z,Z⟩ (λm vs H hm⟨e,_⟩=>?_) ?_ ?_ (by show(tx l).length<sizeLine;lia)
 .rw[e,lu];exact yas (yaL _ _) (by rw[lI];lia)
 .rintro m cc vs H2 hx ⟨rfl,rfl⟩;have f8:l[m]? =some cc:=by simpa using hx
  have ss:l.take (m+1)=l.take m++[cc]:=by rw[yaE,f8];rfl
  rw[dt];refine ot cc (lM f8) _ _ ?_;rw[ss,ybl,lO];cases g:bad cc with
  |true=>exact Q4 ⟨_,Z,by rw[yaF,yaf g];rfl,Z⟩
  |false=>exact QW ⟨by rw[yaF,yac (by rw[g];lia)];simp,Z⟩
 .rintro vs H2 ⟨rfl,rfl⟩ q hq;rw[yaq (show l.length<=(tx l).cps.size by simp)];refine⟨Aw,λp hp=>hR _ _ _ _ ⟨q,p,(l.filter bad).map (λc=>tv [c]),[],l.any bad,Z,Z,?_,az.of Qd,?_,k _ ((Qs.new hq).trans (Qs.new hp))⟩⟩
  .exact az.of (Qs.new hp _ _ Qd)
  .cases g:l.any bad with
   |false=>
    have e:l.filter bad=[]:=yeb.mpr λx hx z=>by
     have:=ybJ.mp g x hx;exact this z
    rw[e];exact .inl ⟨.nil,Z⟩
   |true=>
    refine .inr ⟨λz=>?_,Z⟩;obtain⟨x,hx,hb⟩:=ydW.mp g;have:x∈l.filter bad:=ydl.mpr ⟨hx,hb⟩;rw[lu]at z;rw[yaH.mp z]at this;cases this
theorem TU(t:List Nat):∀x∈sp t,x∈t:=by
 intro x hx;unfold sp Txt.stripChars Txt.stripBy stripSame stripped at hx
 split at hx
 .rw[JD]at hx;exact hx
 .rw[strSub_toList]at hx;have:=yaY (ybf hx);rw[JD]at this;exact this
noncomputable def AO(c:Nat):Bool:= !decide (48<=c/\c<=57)
theorem zl(l:List Nat):l.any AO= !decide (NumText.AllDigits l):=by
 by_cases h:NumText.AllDigits l
 .rw[ly h];exact ybJ.mpr λx hx=>by unfold AO;rw[ly (h x hx)];lia
 .rw[lx h];cases g:l.any AO with
  |true=>rfl
  |false=>
   exfalso;refine h λx hx=>?_;have:=ybJ.mp g x hx;unfold AO at this
   by_cases z:48<=x/\x<=57
   .exact z
   .rw[lx z]at this;exact absurd rfl this
theorem yN:∀d:Nat,d<128->Txt.find "pqrstuvwxy" (tx [d])=if 112<=d/\d<=121 then((d-112:Nat):Int)else-1:=by rfl'
theorem TV(d:Nat):([112,113,114,115,116,117,118,119,120,121]:List Nat).contains d=decide (112<=d/\d<=121):=by
 by_cases h:112<=d/\d<=121
 .rw[ly h,yai];simp only[yag,yax,ybk];lia
 .rw[lx h];cases e:([112,113,114,115,116,117,118,119,120,121]:List Nat).contains d with
  |false=>rfl
  |true=>exact absurd (wA e) h
theorem yO(h:∀x∈t,x<128):∀x∈Jt s t,x<128:=by
 unfold Jt
 split
 .intro x hx;rcases yao.mp hx with q|q
  .exact h x (ybH _ q)
  .rw[yak.mp q];cases e:t.getLast? with
   |none=>show 0-64<128;lia
   |some d=>have:=h d (ydb e);show d-64<128;lia
 .exact h
noncomputable abbrev NA:List Str:=["_law_one","_law_line_here","_law_kind","_law_room_so","_law_content_here","_law_short_so","_law_sign","_law_last","_law_lead","_law_first","_law_whole","_law_broken","_law_tail","_law_figures","_law_at","_law_place","_law_symbol","_law_units"]
section
variable {P:Program}{w:World}{K:Frag}{mg:Str->Option Value}{M:Heap}{f:Addr}{fd:FuncData}{tk:Nat->Tok}
def oG(H:Hp)(o:Option (Int × Nat))(R:VK):Prop:=
 (o=none->∀H',Qs H H'->R .ax H')/\(∀u p,o=some (u,p)->∀q H',Qs H H'->H q=none->H' q=some (.tup [.int u,.int (p:Nat)])->R (.ref q) H')
theorem oG.step{H H1:Hp}{o:Option (Int × Nat)}{R:VK}(h:oG H o R)(S:Qs H H1):oG H1 o R:=
 ⟨λe H' S'=>h.1 e H' (S.trans S'),λu p e q H' S' hq g=>h.2 u p e q H' (S.trans S') (J6 S hq) g⟩
theorem TX(O:Own mg)(OE:mg "enumerate"=none)(hU:Def P w K mg M 2 "_law_edit" ["_law_parts","_law_amount"] (Xc K)){ad:Value}{L:List Env}(hr:aq 2 (A.deeper (envOfC "_law_amount_of" (Qe Qw) s.heap.objs.size f ad)))
  (sB:aU (Xe (ao P w) P w K mg M NA "_law_amount_of" (Qe Qw) f ad A L s H E).bD ((QK Qw).drop 2) u3):
  ∃u2,aU (Xe (ao P w) P w K mg M NA "_law_amount_of" (Qe Qw) f ad A L s H E).bD ((QK Qw).drop 1) u2/\
   ∀(D:Ends)(H1:Hp)(y0 y1 y3 y5 y6 y7 y8 y9 At li ms GE GM cK AT re:Option V)(k:Nat)(t:List Nat)(n:Nat),
    k<=3->t.length<=8\/k≠0->(∀x∈t,x<128)->(k=0->oG H1 (KH (.txt n) t) D.rt)->
    (k≠0->u3 D [y0,y1,some (.str (kindS k)),y3,some (tv t),y5,y6,y7,y8,y9,At,li,ms,GE,GM,cK,AT,re] H1)->
    u2 D [y0,y1,some (.str (kindS k)),y3,some (tv t),y5,y6,y7,y8,y9,At,li,ms,GE,GM,cK,AT,re] H1:=by
 have hz:=zza
 refine⟨_,(aN.ps (Qg (Q1 (Ql Ja (pv 2) Qc (Qn _)) (Qg (Qu (i:=5) Qt.nd Z (Or.inl Z) (ae.mk (Zd yaA ybD ybE Xh (pv 4) (Qv Qc Qb))) Z Z)
   (Qg (Q1 (PW.pt (Xn (Ql Ja (pv 5) Qc (Qn _)) (Zq (Ql (qP (n:=1) (qJ hr)) (Zt (NB:=[".0","_law_sign"]) Z ⟨Z,by rfl',by rfl',by rfl'⟩ (KC (pv 5)) (λ_ _ _=>(Qk (i:=1) (show([".0","_law_sign"]:List Str).Nodup by rfl') Z (Or.inl Z))) (λ_ _ _=>(X1 (Ql Jp (pv 1) Qc (by with_unfolding_all rfl)))) (λ_ _ _=>(pv 1))) (ZR Qb) (Qn _))))) (Qr (QE (ae.mk Zk))) QT)
   (Qr (QE (JC (QF (ae.mk (Jh Jg Z O.int ycU (Qv (pv 5) Qb))) (QF (ae.mk Qi) QO Z) Z)))))) QT)
   (aN.mk sB))),?_⟩
 intro D H1 y0 y1 y3 y5 y6 y7 y8 y9 At li ms GE GM cK AT re k t n hk ci lw kk k3;exists _,Z,Z,_,Z;rw[show V.str "text"=V.str (kindS 0)from rfl,JZ _ hk 0 (by lia)]
 by_cases h0:k=0
 rotate_left
 .rw[lx h0];exact QW (k3 h0)
 rw[ly h0];have kk:=kk h0;have ci:t.length<=8:=ci.resolve_right λz=>z h0;have iI:=Qh t;have dh:=wD t;have hsx:=Qh (sp t);have G3:∀x∈sp t,x<128:=λx hx=>lw x (TU t x hx);refine Q4 ⟨_,Z,Z,tx t," ",Z,Z,by show(tx t).length<=sizeLine;lia,?_⟩;dsimp only;rw[show Txt.stripChars (tx t) " "=tx (sp t)from Ly t];exists _,Z,Z,_,Z;rw[Wm,JD];have ea:KH (.txt n) t=if xh (sp t)then some (((NumText.digitsVal (sp t):Nat):Int),0)else none:=rfl
 by_cases hn:sp t=[]
 .rw[ly hn];exact Q4 (Q4 (kk.1 (by rw[ea,yac λz=>z.1 hn]) _ (Qs.refl _)))
 rw[lx hn];refine QW ?_;refine qt (K:=K) AO rfl rfl (by lia) G3 (λc hc H R h=>?_) (λ_ _ _ _ h=>h) (λH2 S2=>?_)
 .exists _,Z,_,_,Z,Z,_,Z;rw[YC,JG,ww];exact h
 exists _,Z;rw[zl];have CU:=kk.step S2
 by_cases hd:NumText.AllDigits (sp t)
 .rw[ly hd];refine QW ⟨_,Z,tx (sp t),_,Z,ybG (by rw[JD];exact hd) (by rw[JD];exact hn) (by lia),by lia,bA,λq hq=>?_⟩;rw[JD];exact CU.2 _ 0 (by rw[ea,yaf ⟨hn,hd,by lia⟩]) q _ (Qs.new hq) hq Qd
 .rw[lx hd];exact Q4 (CU.1 (by rw[ea,yac λz=>hd z.2.1]) _ (Qs.refl _))
end
theorem TY:∀k:Nat,k<10->dec k=[k+48]:=by rfl'
section
variable {P:Program}{w:World}{K:Frag}{mg:Str->Option Value}{M:Heap}{f:Addr}{fd:FuncData}{tk:Nat->Tok}
theorem TZ(O:Own mg){ad:Value}{L:List Env}(hr:aq 2 (A.deeper (envOfC "_law_amount_of" (Qe Qw) s.heap.objs.size f ad)))
  (sB:aU (Xe (ao P w) P w K mg M NA "_law_amount_of" (Qe Qw) f ad A L s H E).bD ((QK Qw).drop 3) u3):
  ∃u2,aU (Xe (ao P w) P w K mg M NA "_law_amount_of" (Qe Qw) f ad A L s H E).bD ((QK Qw).drop 2) u2/\
   ∀(D:Ends)(H1:Hp)(y0 y1 y3 y5 y6 y7 y8 y9 At li ms GE GM cK AT re:Option V)(k:Nat)(t:List Nat)(sg:Bool)(a b:Nat),
    k<=3->(∀x∈t,x<128)->(k=2->∃rr,y3=some (.ref rr)/\aj K H1 rr [.bl sg,.int (a:Nat),.int (b:Nat)]/\1<=a+b/\a+b<=18/\t.length=a+b/\oG H1 (KH (.num sg a b) t) D.rt)->
    (k≠2->u3 D [y0,y1,some (.str (kindS k)),y3,some (tv t),y5,y6,y7,y8,y9,At,li,ms,GE,GM,cK,AT,re] H1)->
    u2 D [y0,y1,some (.str (kindS k)),y3,some (tv t),y5,y6,y7,y8,y9,At,li,ms,GE,GM,cK,AT,re] H1:=by
 have hz:=zza
 refine⟨_,(aN.ps (Qg (Q1 (Ql Ja (pv 2) Qc (Qn _)) (Qg (Qu (i:=7) Qt.nd Z (Or.inl Z) (Zn (Je (QS Jl (pv 3) Qi (λ_ _=>rfl)) (λ_=>rfl)) (ae.mk (Zd yaA slot_str_find type_str_find xZ Qc (Qv (QS Z1 (pv 4) (KK Z0 Qi) (λ_ _=>rfl)) Qb))) (ae.mk (KK Z0 Qi))) Z Z)
   (Qg (Qu (i:=5) Qt.nd Z (Or.inl Z) (Zn (Ql zw (pv 7) Qi (Qn _)) (QJ Qo (ae.mk (QZ J2 (pv 4) Ju (Q2 (KK Z0 Qi)))) (ae.mk (Jh Zm Z O.str yen (Qv (pv 7) Qb)))) (ae.mk (pv 4))) Z Z)
   (Qg (Q1 (Ql (qP (n:=1) (qJ hr)) (Zt (NB:=[".0","_law_sign"]) Z ⟨Z,by rfl',by rfl',by rfl'⟩ (KC (pv 5)) (λ_ _ _=>(Qk (i:=1) (show([".0","_law_sign"]:List Str).Nodup by rfl') Z (Or.inl Z))) (λ_ _ _=>(X1 (Ql Jp (pv 1) Qc (by with_unfolding_all rfl)))) (λ_ _ _=>(pv 1))) (ZR Qb) (Qn _)) (Qr (QE (ae.mk Zk))) QT)
   (Qr (QE (JC (QF (Zn (Ql zw (pv 7) Qi (Qn _)) (QJ Zr (ae.mk Qi) (ae.mk (Jh Jg Z O.int ycU (Qv (pv 5) Qb)))) (ae.mk (Jh Jg Z O.int ycU (Qv (pv 5) Qb)))) (QF (ae.mk (QS Jl (pv 3) Qi (λ_ _=>rfl))) QO Z) Z))))))) QT)
   (aN.mk sB))),?_⟩
 intro D H1 y0 y1 y3 y5 y6 y7 y8 y9 At li ms GE GM cK AT re k t sg a b hk lw kk k3;exists _,Z,Z,_,Z;rw[show V.str "number"=V.str (kindS 2)from rfl,JZ _ hk 2 (by lia)]
 by_cases h0:k=2
 rotate_left
 .rw[lx h0];exact QW (k3 h0)
 rw[ly h0];obtain⟨rr,rfl,sq,h1,Tk,ci,kk⟩:=kk h0;clear k3;have iI:=Qh t;have sL:t≠[]:=λz=>by rw[z]at ci;simp at ci;lia
 obtain⟨d,bP,hd2⟩:=ZC sL;have iF:d<128:=lw d (by rw[bP];exact lE _ (yak.mpr Z));have sJ:ck t (-1)=some d:=by
  rw[bP];exact Kl _ _
 have cE:JY sg t=(sg&&decide (112<=d/\d<=121)):=by unfold JY;rw[hd2, <-TV];rfl
 have ev:=Kv sg t;have oo:=yO (s:=sg) lw;refine Q4 ⟨_,Z,rr,_,_,_,Z,Z,sq,Z,sg,Z,?_⟩;dsimp only[JI,Wt,Wu];refine JB (λv H'=>v=.int (if JY sg t=true then((d-112:Nat):Int)else-1)/\H'=H1) (λz rest=>?_) (λz rest=>?_) ?_
 .refine⟨Z,_,Z,_,Z,tx t, -1,d,Z,Z,by lia,sJ,"pqrstuvwxy",tx [d],Z,Z,trivial,rest _ _ ⟨?_,Z⟩⟩;dsimp only;rw[yN d iF,cE,z,ydP]
  by_cases hq:112<=d/\d<=121
  .rw[yaf hq,ly hq,yaf rfl]
  .rw[yac hq,lx hq,yac (by lia)]
 .refine⟨_,Z,rest _ _ ⟨?_,Z⟩⟩;rw[cE,z,ycr,yac (by lia)]
 rintro v H2 ⟨rfl,rfl⟩;have cw:∀m:Nat,((if JY sg t=true then((d-112:Nat):Int)else-1)≥0)↔JY sg t=true:=λ_=>by
  by_cases hb:JY sg t=true
  .rw[yaf hb];exact⟨λ_=>hb,λ_=>Int.natCast_nonneg _⟩
  .rw[yac hb];exact⟨λz=>absurd z (by lia),λz=>absurd z hb⟩
 have CV:decide ((if JY sg t=true then((d-112:Nat):Int)else-1)≥0)=JY sg t:=by rw[yca,decide_eq_true_iff];exact cw 0
 exists _,Z,_,_,Z,Z,_,Z;rw[CV];refine JB (λv H'=>v=tv (Jt sg t)/\H'=H2) (λz rest=>?_) (λz rest=>?_) ?_
 .have T6:112<=d/\d<=121:=by rw[cE]at z;exact yap (ydc.mp z).2
  refine⟨_,Z,_,Z,_,Z,tx t,Z,by lia,?_⟩;rw[Ks];exists _,Z,_,Z,?_
  .rw[yaf z,yaR]
   by_cases h9:d-112=0
   .rw[h9];lia
   .exact(ydp h9).mpr (yad (show d-112<2^4 by lia) (yat (by lia) (by lia)))
  have es:PySem.Str.ofString (toString (if JY sg t=true then((d-112:Nat):Int)else-1))=tx [d-112+48]:=by rw[yaf z,bj.XZ,TY (d-112) (by lia)]
  rw[es];have di:=Qh t.dropLast;have ii:=Qh [d-112+48];rw[yaN]at di;refine⟨_,_,Z,Z,by rw[di,ii];simp;lia,?_⟩;rw[QR];show _;refine rest _ _ ⟨?_,Z⟩;show V.str (tx (t.dropLast++[d-112+48]))=V.str (tx (Jt sg t));unfold Jt;rw[yaf z,hd2];show V.str (tx (t.dropLast++[d-112+48]))=V.str (tx (t.dropLast++[d-64]));rw[show d-112+48=d-64 by lia]
 .exact⟨_,Z,rest _ _ ⟨by unfold Jt;rw[yac (by rw[z];lia)],Z⟩⟩
 rintro v H3 ⟨rfl,rfl⟩;have RP:=Qh (Jt sg t);have fq:Jt sg t≠[]:=λz=>by rw[z]at ev;simp at ev;lia
 dsimp only[AY,Wb];refine qt (K:=K) AO rfl rfl (by lia) oo (λc hc H R h=>?_) (λ_ _ _ _ h=>h) (λH4 S4=>?_)
 .exists _,Z,_,_,Z,Z,_,Z;rw[YC,JG,ww];exact h
 exists _,Z;rw[zl];have CU:=kk.step S4;have Cc:=sq.same S4
 by_cases hd:NumText.AllDigits (Jt sg t)
 .rw[ly hd];have dA:PySem.intText? (tx (Jt sg t))=some ((NumText.digitsVal (Jt sg t):Nat):Int):=by
   have:=ybG (x:=tx (Jt sg t)) (by rw[JD];exact hd) (by rw[JD];exact fq) (by lia);rw[JD]at this;exact this
  refine QW ⟨_,Z,_,_,Z,Z,_,Z,?_⟩;rw[CV];refine JB (λv H'=>v=.int (Jj sg t)/\H'=H4) (λz rest=>?_) (λz rest=>?_) ?_
  .refine⟨_,Z,tx (Jt sg t),_,Z,dA,by lia,_,_,Z,Z,rest _ _ ⟨?_,Z⟩⟩;unfold Jj;rw[yaf z];show V.int (0-_)=_;rw[Int.zero_sub]
  .refine⟨_,Z,tx (Jt sg t),_,Z,dA,by lia,rest _ _ ⟨?_,Z⟩⟩;unfold Jj;rw[yac (by rw[z];lia)]
  rintro v H5 ⟨rfl,rfl⟩;refine⟨_,Z,rr,_,_,_,Z,Z,Cc,Z,bA,λq hq=>?_⟩;exact CU.2 _ b (yaf ⟨ci,hd⟩) q _ (Qs.new hq) hq Qd
 .rw[lx hd];exact Q4 (CU.1 (yac λz=>hd z.2) _ (Qs.refl _))
end
end Lw
namespace aJ
open bj aQ PySem.NumText
noncomputable def Uu:Bool->List Nat->List Nat->List Nat
 |_,[],_=>[]
 |_,_::_,[]=>[]
 |a,c::r,d::s=>if place c=true/\a=false then dg d::Uu false r s else Uu false r s
theorem jt:∀(l t:List Nat),Uu false l t=bZ l t:=by
 intro l
 induction l with
 |nil=>intro t;rfl
 |cons c r ih=>
  intro t;cases t with
  |nil=>rfl
  |cons d s=>
   rw[Uu,Wq,ih]
   by_cases h:place c=true
   .rw[yaf ⟨h,Z⟩,yaf h]
   .rw[yac (λz=>h z.1),yac h]
theorem zm:∀(l t:List Nat),l.length<=t.length->(bZ l t).length=many l:=by
 intro l
 induction l with
 |nil=>intro t _;rfl
 |cons c r ih=>
  intro t h;cases t with
  |nil=>simp at h
  |cons d s=>
   have:=ih s (by simpa using h);rw[Wq,JO];unfold place;cases hb:bC c with
   |none=>rw[yaf (show(none:Option Nat).isNone=true from Z),yaf rfl,lD,this];lia
   |some x=>rw[yac (by simp),yac (by simp),this];lia
theorem ju(l:List Nat):digitsVal (48::l)=digitsVal l:=by
 simp[digitsVal]
theorem yP(a:Bool):∀(l t:List Nat),AllDigits (Uu a l t):=by
 intro l t;have h0:∀(l t:List Nat),AllDigits (Uu false l t):=λl t=>by rw[jt];exact V2 l t
 cases a with
 |false=>exact h0 l t
 |true=>
  cases l with
  |nil=>intro y hy;cases hy
  |cons c r=>
   cases t with
   |nil=>intro y hy;cases hy
   |cons d s=>rw[Uu,yac (λz=>by cases z.2)];exact h0 r s
theorem yQ(h:a=true->∀d,t[0]? =some d->dg d=48) (hp:place c=true) (hl:r.length+1<=t.length):digitsVal (Uu a (c::r) t)=digitsVal (bZ (c::r) t)/\(Uu a (c::r) t).length+(if a=true then 1 else 0)=many (c::r):=by
 cases t with
 |nil=>simp at hl
 |cons d s=>
  have hf:=zm r s (by simpa using hl);have CG:=zm (c::r) (d::s) (by simpa using hl);cases a with
  |false=>rw[jt];exact⟨Z,by rw[CG];rfl⟩
  |true=>
   rw[Uu,yac (λz=>by cases z.2),jt,Wq,yaf hp,h rfl d rfl,ju];exists Z;rw[Wq,yaf hp,lD]at CG;rw[yaf rfl];exact CG
theorem _root_.aQ.Ed.bQ{Y:List Nat}{first:Nat}{W N ac tail:List Nat}(E:Ed Y first W N ac tail):∀c∈W++N++Qm ac,Lw.bQ c=place c:=by
 have mt:∀c,sE c->Lw.bQ c=place c:=λc h=>by
  unfold place;rw[(Xb h).1];exact yai.mpr h
 have On:∀c,ins c=true\/c=46->Lw.bQ c=place c:=λc h=>by
  have:∀c∈([44,66,48,47,46]:List Nat),Lw.bQ c=place c:=by lia
  rcases h with h|rfl
  .exact this c (by have:=yai.mp h;simp only[yag,yax,ybk]at this ⊢;lia)
  .exact this 46 (by lia)
 intro c hc;rcases yao.mp hc with h|h
 .rcases E.wh c h with h|h
  .exact mt c h
  .exact On c (.inl h)
 .unfold Qm at h
  split at h
  .cases h
  .rcases yag.mp h with rfl|h
   .exact On 46 (.inr Z)
   .refine mt c ?_;rcases E.br with z|⟨k,b,_,z,hb⟩
    .rw[z]at h;cases h
    .rw[z]at h;rw[yav h];rcases hb with rfl|⟨rfl,_⟩
     .exact FZ
     .exact E.f
end aJ
namespace Lw
open PySem PySem.Spec PyProof.Rows L2 bj aQ bY aJ AI
open Builtin Builtin.Str StrLaws
theorem T7(ac:List Nat):(if ac=[]then[]else[46])++ac=Qm ac:=by
 unfold Qm
 by_cases h:ac=[]
 .rw[yaf h,yaf h,h];rfl
 .rw[yac h,yac h];rfl
theorem T8(c:Nat):([43,45,36]:List Nat).contains c=au c:=rfl
section
variable {P:Program}{w:World}{K:Frag}{mg:Str->Option Value}{M:Heap}{f:Addr}{fd:FuncData}{tk:Nat->Tok}
theorem T9(O:Own mg)(OE:mg "enumerate"=none)(hU:Def P w K mg M 2 "_law_edit" ["_law_parts","_law_amount"] (Xc K)){ad:Value}{L:List Env}(hr:aq 2 (A.deeper (envOfC "_law_amount_of" (Qe Qw) s.heap.objs.size f ad))):
  ∃u2,aU (Xe (ao P w) P w K mg M NA "_law_amount_of" (Qe Qw) f ad A L s H E).bD ((QK Qw).drop 5) u2/\
   ∀(D:Ends)(H1:Hp)(y0 y1 y2 y5 y6 y7 cK AT re:Option V)(rr:Addr)(t Y:List Nat)(first:Nat)(W N ac tail:List Nat),
    aj K H1 rr [tv Y,tv [first],tv (W++N),tv ac,tv tail]->Ed Y first W N ac tail->Y.length+(W.length+N.length)+ac.length+tail.length<=60->t.length=(QU Y W N ac tail).length->(∀x∈t,x<128)->(au first=true->∀d,t[Y.length]? =some d->dg d=48)->
    oG H1 (KH (.aV Y first W N ac tail) t) D.rt->
    u2 D [y0,y1,y2,some (.ref rr),some (tv t),y5,y6,y7,some (tv Y),some (tv [first]),some (tv (W++N)),some (tv ac),some (tv tail),some (tv []),some (.int (Y.length:Nat)),cK,AT,re] H1:=by
 have hz:=zza
 refine⟨_,(aN.ps (Qg (X2 yaG Z (YS Z OE (Qv (QI Qo (QI Qo (pv 10) (Jm (Ql Xd (pv 11) Qc (Qn _)) Qc Qc)) (pv 11)) Qb)) (Q5 Z (Qf (Z' 15 Qt.nd) (Qf (Z' 16 Qt.nd) QD))) (Qg (Qu (i:=6) Qt.nd Z (Or.inl Z) (ae.mk (QS Z1 (pv 4) (QI JK (pv 14) (pv 15)) (λ_ _=>rfl))) Z Z)
   (Qr (Q1 (PW.pt (Jn (Ql Jo (pv 16) Qc (by with_unfolding_all rfl)) (Jd (Kz (PW.pt (Jn (Ql Ja (pv 15) Qi (Qn _)) (Jd (Ql Jo (pv 9) Qc (by with_unfolding_all rfl))))))))) (Qr (Qu (i:=13) Qt.nd Z (Or.inl Z) (QJ Qo (ae.mk (pv 13)) (Zn (Ql Jo (pv 6) Qc (by with_unfolding_all rfl)) (ae.mk (pv 6)) (ae.mk Qc))) Z Z)) QT))) (λ_=>rfl))
   (Qg (X2 yaG Z (jy (Jf (Qv (Jh Jg Z O.int ycU (Qv (pv 13) Qb)) (Qv (QI Zr Qi (Jh Jg Z O.int ycU (Qv (pv 13) Qb))) Qb)))) (Z' 17 Qt.nd) (Qr (Q1 (Ql Ja (hU.pq hr Qy (Qv (pv 3) (Qv (Jf (Qv (pv 17) (Qv (Qq QH Z O.len yaK (Qv (pv 11) Qb)) Qb))) Qb))) (pv 4) (Qn _)) (Qr (QE (JC (QF (ae.mk (pv 17)) (QF (ae.mk (Qq QH Z O.len yaK (Qv (pv 11) Qb))) QO Z) Z)))) QT)) (λ_=>rfl))
   (Qr (QE (ae.mk Zk)))))),?_⟩
 intro D H1 y0 y1 y2 y5 y6 y7 cK AT re rr t Y first W N ac tail sq Ee hsz ci lw FS kk;obtain⟨Ca,iG,FB⟩:=Ee.small;have Op:∀x∈W++N++Qm ac,x<128:=λx hx=>Wp x (Ee.sym x (by rw[Kj];exact lF _ (lE _ hx)));have G4:=Ee.bQ;have IO:=WN Ee;have sX:many (W++N++Qm ac)=ay first W N+(if au first=true then 1 else 0)+ac.length:=by rw[ZY,Ee.many,Ee.xf,FB]
 obtain⟨rb,LW⟩:=Ee.bP;have D5:place first=true:=by unfold place;rw[(Xb Ee.f).1];rfl
 have f':(W++N++Qm ac).length<=61:=by
  have mo:(Qm ac).length<=ac.length+1:=by unfold Qm;split<;>simp
  rw[lq,lq];lia
 have CJ:t.length=Y.length+((W++N++Qm ac).length+tail.length):=by
  rw[ci];unfold QU;simp only[lq];lia
 have ST:(QU Y W N ac tail).length<=61:=Ku hsz;have di:=Qh (W++N);have ii:=Qh ac;have FW:=Qh t;have iX:(W++N).length<=60:=by rw[lq];lia
 exists _,Z,_,Z,Z,_,Z;rw[show(Str.ofString "")=tx []from rfl,XH];refine JB (λv H'=>v=tv (if ac=[]then[]else[46])/\H'=H1) (λz rest=>rest _ _ ⟨?_,Z⟩) (λz rest=>rest _ _ ⟨?_,Z⟩) ?_
 .have ul:¬ ac=[]:=λq=>by rw[ly q]at z;exact absurd z (by lia)
  rw[yac ul,vV]
 .have he:ac=[]:=by
   by_cases q:ac=[]
   .exact q
   .rw[lx q]at z;exact absurd z (by lia)
  rw[yaf he]
 rintro v H2 ⟨rfl,rfl⟩;have Gw:=Qh (if ac=[]then[]else[46]);have hx5:(if ac=[]then[]else[46]:List Nat).length<=1:=by split<;>lia
 refine⟨_,_,Z,Z,by lia,?_⟩;rw[QR];have U':=Qh (W++N++(if ac=[]then[]else[46]));have CD:(W++N++(if ac=[]then[]else[46])).length=(W++N).length+(if ac=[]then[]else[46]:List Nat).length:=lq;rw[CD]at U';refine⟨_,Z,_,_,Z,Z,by lia,?_⟩;rw[QR,lP (W++N),T7];have iD:∀i,i<(W++N++Qm ac).length->∃d,t[Y.length+i]? =some d:=λi hi=>⟨_,yah (by lia)⟩;generalize ce:W++N++Qm ac=body at*;have hbx:=Qh body;refine⟨tx body,Z,Zj Op,VB (z:=tx body) (λi σ H3=>∃x6 oH oI am,σ=[y0,y1,y2,some (.ref rr),some (tv t),y5,x6,y7,some (tv Y),some (tv [first]),some (tv (W++N)),some (tv ac),some (tv tail),some (tv am),some (.int (Y.length:Nat)),oH,oI,re]/\Qs H2 H3/\am.length<=i/\am++Uu (decide (i=0)&&au first) (body.drop i) ((t.drop Y.length).drop i)=Uu (au first) body (t.drop Y.length)) ⟨y6,cK,AT,[],Z,Qs.refl _,lX _,by rfl⟩ ?_ ?_⟩
 .rintro i cc σ H3 p hx ⟨x6,oH,oI,am,rfl,S3,ev,hinv⟩ hp;have f8:body[i]? =some cc:=by simpa using hx
  have hi:=(yaj.mp f8).1;have dn:body.drop i=cc::body.drop (i+1):=by
   rw[yaM hi]
   congr 1
   exact(yaj.mp f8).2
  obtain⟨dd,oy⟩:=iD i hi;have G8:(t.drop Y.length).drop i=dd::(t.drop Y.length).drop (i+1):=by
   have h1:(t.drop Y.length)[i]? =some dd:=by rw[ybZ];exact oy
   have h2:=(yaj.mp h1);rw[yaM h2.1,h2.2]
  rw[dn,G8,Uu, <-G4 cc (lM f8)]at hinv;have S4:=S3.trans (Qs.new (o:=.tup [.int (i:Nat),.str ⟨#[cc]⟩]) hp);exists p,_,Z,aj.of Qd,Z,_,_,Z,_,_,Z,Z;generalize upd H3 p (.tup [.int (i:Nat),.str ⟨#[cc]⟩])=H4 at S4;rw[show(⟨#[cc]⟩:Str)=tx [cc]from rfl];exists _,Z,_,Z,_,Z,_,_,Z,Z,tx t,((Y.length+i:Nat):Int),dd,Z,by rw[Int.natCast_add],by lia,Zc oy;rw[show(⟨#[dd]⟩:Str)=tx [dd]from rfl];have oJ:(decide (i+1=0)&&au first)=false:=by rw[lx (by lia)];rfl
  have AQ:=Qh am;exists _,Z,_,_,Z,Z,_,Z;rw[LN,JG,show([57,90,42,43,45,36]:List Nat).contains cc=bQ cc from rfl];have K7:¬ (bQ cc=true/\(decide (i=0)&&au first)=false)->∃x6 oH oI Go,[y0,y1,y2,some (.ref rr),some (tv t),y5,some (.str (tx [dd])),y7,some (tv Y),some (tv [first]),some (tv (W++N)),some (tv ac),some (tv tail),some (tv am),some (.int (Y.length:Nat)),some (.int (i:Nat)),some (.str (tx [cc])),re]=[y0,y1,y2,some (.ref rr),some (tv t),y5,x6,y7,some (tv Y),some (tv [first]),some (tv (W++N)),some (tv ac),some (tv tail),some (tv Go),some (.int (Y.length:Nat)),oH,oI,re]/\Qs H2 H4/\Go.length<=i+1/\Go++Uu (decide (i+1=0)&&au first) (body.drop (i+1)) ((t.drop Y.length).drop (i+1))=Uu (au first) body (t.drop Y.length):=λz=>by
   rw[yac z]at hinv;exact⟨_,_,_,am,Z,S4,by lia,by rw[oJ];exact hinv⟩
  cases ai:bQ cc with
  |false=>exact QW (QW (K7 λz=>by rw[ai]at z;cases z.1))
  |true=>
   have cz:∀c:Nat,(tx [c]).length=1:=λc=>Qh [c];have app:(decide (i=0)&&au first)=false->∀e,dg dd=e->∃x6 oH oI Go,[y0,y1,y2,some (.ref rr),some (tv t),y5,some (.str (tx [dd])),y7,some (tv Y),some (tv [first]),some (tv (W++N)),some (tv ac),some (tv tail),some (.str (tx (am++[e]))),some (.int (Y.length:Nat)),some (.int (i:Nat)),some (.str (tx [cc])),re]=[y0,y1,y2,some (.ref rr),some (tv t),y5,x6,y7,some (tv Y),some (tv [first]),some (tv (W++N)),some (tv ac),some (tv tail),some (tv Go),some (.int (Y.length:Nat)),oH,oI,re]/\Qs H2 H4/\Go.length<=i+1/\Go++Uu (decide (i+1=0)&&au first) (body.drop (i+1)) ((t.drop Y.length).drop (i+1))=Uu (au first) body (t.drop Y.length):=λz e he=>by
    rw[yaf ⟨ai,z⟩,he]at hinv;exact⟨_,_,_,am++[e],Z,S4,by rw[lq,lC];lia,by rw[oJ,lP];exact hinv⟩
   refine Q4 ⟨_,Z,Z,_,Z,?_⟩
   by_cases oF:i=0
   .rw[ly (show V.int (i:Nat)=V.int 0 by rw[oF];rfl)];refine Q4 ⟨_,Z,_,_,Z,Z,_,Z,?_⟩;rw[vU,JG,T8];refine aG (λhf=>?_) (λhf=>K7 λz=>by rw[ly oF,ydP]at z;rw[z.2]at hf;cases hf)
    .have hf:au first=false:=by cases q:au first with|false=>rfl|true=>rw[q]at hf;cases hf
     have HB:(decide (i=0)&&au first)=false:=by rw[hf,ybh]
     exists _,Z,_,Z,_,_,Z,Z,_,Z;rw[YC,JG,ww]
     by_cases cF:48<=dd/\dd<=57
     .rw[ly cF];refine Q4 ⟨_,Z,_,_,Z,Z,by rw[AQ,cz];lia,?_⟩;rw[QR];exact app HB dd (yaf cF)
     .rw[lx cF,Wo];refine QW ⟨_,_,Z,Z,by rw[AQ,cz];lia,?_⟩;rw[QR];exact app HB 48 (yac cF)
   .rw[lx (show ¬ V.int (i:Nat)=V.int 0 from λz=>oF (by have:=V.int.inj z;lia))]
    .have HB:(decide (i=0)&&au first)=false:=by rw[lx oF];rfl
     exists _,Z,_,Z,_,_,Z,Z,_,Z;rw[YC,JG,ww]
     by_cases cF:48<=dd/\dd<=57
     .rw[ly cF];refine Q4 ⟨_,Z,_,_,Z,Z,by rw[AQ,cz];lia,?_⟩;rw[QR];exact app HB dd (yaf cF)
     .rw[lx cF,Wo];refine QW ⟨_,_,Z,Z,by rw[AQ,cz];lia,?_⟩;rw[QR];exact app HB 48 (yac cF)
 .rintro σ H3 ⟨x6,oH,oI,am,rfl,S3,ev,hinv⟩;have CW:(tx body).cps.size=body.length:=Qh body;rw[CW,yay (lA _),Uu,lS]at hinv;rw[CW]at ev;have hv:=yQ (a:=au first) (c:=first) (r:=rb) (t:=t.drop Y.length) (λz d hd=>FS z d (by rw[ybZ]at hd;exact hd)) D5 (by
   rw[lJ];have:body.length=rb.length+1:=by rw[LW];rfl
   lia)
  rw[<-LW, <-hinv,sX]at hv;obtain⟨CY,hlen⟩:=hv;have sY:=yP (au first) body (t.drop Y.length);rw[<-hinv]at sY;have AQ:=Qh am;have fq:am≠[]:=λz=>by rw[z]at hlen;simp at hlen;lia
  have sG:am.length<=12:=by lia
  have dA:PySem.intText? (tx am)=some ((dQ Y body t:Nat):Int):=by
   have:=ybG (x:=tx am) (by rw[JD];exact sY) (by rw[JD];exact fq) (by lia);rw[JD,CY]at this;exact this
  have RI:dQ Y body t<10^12:=by
   refine yad (X3 (V2 _ _)) (yat (by lia) ?_);exact yas (Vi _ _) IO
  have Ec:=kk.step S3;have LX:=sq.same S3;rw[Wr,ce]at Ec;unfold ow at Ec;generalize RJ:dQ Y body t=u at*;refine⟨_,Z,tx am,_,Z,dA,by lia,_,Z,tx am,_,Z,dA,by lia,_,_,Z,Z,bA,λtt ot=>⟨tt,Z,⟨_,aj.of Qd⟩,?_⟩⟩;have S6:=Qs.new (o:=.tup [.int (u:Nat),.int (0-(u:Nat))]) ot;have g6:upd H3 tt (.tup [.int (u:Nat),.int (0-(u:Nat))]) tt=some (.tup [.int (u:Nat),.int (0-(u:Nat))]):=Qd;have G9:=Ec.step S6;have LY:=LX.same S6;have e0:∀v:Int,(0:Int)-v= -v:=λv=>Int.zero_sub v;generalize upd H3 tt (.tup [.int (u:Nat),.int (0-(u:Nat))])=H6 at g6 G9 LY;clear Ec LX hinv CY hlen sY dA S3 S6;refine qA (xs:=[.int (u:Nat),.int (0-(u:Nat))]) (λi σ H7=>(∃G',σ=[y0,y1,y2,some (.ref rr),some (tv t),y5,x6,y7,some (tv Y),some (tv [first]),some (tv (W++N)),some (tv ac),some (tv tail),some (tv am),some (.int (Y.length:Nat)),oH,oI,G'])/\Qs H6 H7/\(1<=i->bO Y body tail (fit ((u:Nat):Int) ac.length (ay first W N) ac.length)≠t)/\(2<=i->bO Y body tail (fit (-((u:Nat):Int)) ac.length (ay first W N) ac.length)≠t)) ⟨⟨re,Z⟩,Qs.refl _,λz=>absurd z (by lia),λz=>absurd z (by lia)⟩ ?_ ?_ ?_
  .rintro i σ H7 hi ⟨_,S7,_⟩;exact aj.of (S7 _ _ g6)
  .rintro i x σ H7 hi ⟨⟨G',rfl⟩,S7,n1,n2⟩;obtain⟨v,rfl,Ge,hv⟩:∃v:Int,x=.int v/\v.natAbs<10^12/\(v=(u:Nat)/\i=0\/v= -(u:Nat)/\i=1):=by
    have Cd:i<2:=(yaj.mp hi).1
    match i,hi,Cd with
    |0,hi,_=>exact⟨_,(lB hi).symm,by lia,.inl ⟨Z,Z⟩⟩
    |1,hi,_=>exact⟨_,(lB hi).symm,by lia,.inr ⟨e0 _,Z⟩⟩
   refine⟨_,Z,_,Z,_,Z,tx ac,Z,by lia,bA,λpa iB=>?_⟩;have S8:=Qs.new (o:=.tup [.int v,.int ((tx ac).length:Nat)]) iB;have g8:upd H7 pa (.tup [.int v,.int ((tx ac).length:Nat)]) pa=some (.tup [.int v,.int (ac.length:Nat)]):=by rw[Qd,ii]
   refine⟨rr,pa,Y,first,W,N,ac,tail,v,ac.length,Z,(LY.same S7).same S8,aj.of g8,Ee,hsz,yaD Ge (by lia),by lia,λH9 S9=>?_⟩;rw[ce];exists _,Z,Z,_,Z;rw[XH];have AH:=(S7.trans S8).trans S9
   by_cases he:bO Y body tail (fit v ac.length (ay first W N) ac.length)=t
   .rw[ly he];refine Q4 ⟨_,Z,_,Z,tx ac,Z,by lia,bA,λqz Cu=>?_⟩;refine G9.2 v ac.length ?_ qz _ (AH.trans (Qs.new Cu)) (J6 AH Cu) (by rw[Qd,ii]);rcases hv with⟨rfl,rfl⟩|⟨rfl,rfl⟩
    .rw[yaf he];rfl
    .rw[yac (n1 (by lia)),yaf he];rfl
   .rw[lx he];refine QW ⟨⟨_,Z⟩,AH,λz=>?_,λz=>?_⟩
    .rcases hv with⟨rfl,rfl⟩|⟨rfl,rfl⟩
     .exact he
     .exact n1 (by lia)
    .rcases hv with⟨rfl,rfl⟩|⟨rfl,rfl⟩
     .exact absurd z (by lia)
     .exact he
  .rintro σ H7 ⟨⟨G',rfl⟩,S7,n1,n2⟩;exact G9.1 (by rw[yac (n1 (show 1<=2 by lia)),yac (n2 (show 2<=2 by lia))];rfl) _ S7
theorem V'(O:Own mg)(OE:mg "enumerate"=none)(hU:Def P w K mg M 2 "_law_edit" ["_law_parts","_law_amount"] (Xc K)){ad:Value}{L:List Env}(hr:aq 2 (A.deeper (envOfC "_law_amount_of" (Qe Qw) s.heap.objs.size f ad))):
  ∃u2,aU (Xe (ao P w) P w K mg M NA "_law_amount_of" (Qe Qw) f ad A L s H E).bD ((QK Qw).drop 3) u2/\
   ∀(D:Ends)(H1:Hp)(y0 y1 y2 y5 y6 y7 y8 y9 At li ms GE GM cK AT re:Option V)(rr:Addr)(t Y:List Nat)(first:Nat)(W N ac tail:List Nat),
    aj K H1 rr [tv Y,tv [first],tv (W++N),tv ac,tv tail]->Ed Y first W N ac tail->Y.length+(W.length+N.length)+ac.length+tail.length<=60->t.length=(QU Y W N ac tail).length->(∀x∈t,x<128)->(au first=true->∀d,t[Y.length]? =some d->dg d=48)->
    oG H1 (KH (.aV Y first W N ac tail) t) D.rt->
    u2 D [y0,y1,y2,some (.ref rr),some (tv t),y5,y6,y7,y8,y9,At,li,ms,GE,GM,cK,AT,re] H1:=by
 have hz:=zza
 obtain⟨u3,sB,h2⟩:=T9 (P:=P) (w:=w) (K:=K) (M:=M) (f:=f) (L:=L) (H:=H) (E:=E) O OE hU hr;refine⟨_,(aN.ps (Qg (aO.mk (Jk (pv 3) (Q5 Z (Qf (Z' 8 Qt.nd) (Qf (Z' 9 Qt.nd) (Qf (Z' 10 Qt.nd) (Qf (Z' 11 Qt.nd) (Qf (Z' 12 Qt.nd) QD))))))))
   (Qg (aO.mk (Uy (i:=13) (j:=14) Z Qt.nd Z Z (by lia) Z Z (Qv Qc (Qv (Qq QH Z O.len yaK (Qv (pv 8) Qb)) Qb)) Z))
   (aN.mk sB)))),?_⟩
 intro D H1 y0 y1 y2 y5 y6 y7 y8 y9 At li ms GE GM cK AT re rr t Y first W N ac tail sq Ee hsz ci lw FS kk;have hx:=Qh Y;exists _,Z,rr,_,Z,sq,Z,_,_,Z,_,_,Z,_,_,Z,_,_,Z,_,_,Z,Z;exists _,Z,tx Y,Z,by lia,_,_,Z;rw[hx];exact h2 D H1 y0 y1 y2 y5 y6 y7 cK AT re rr t Y first W N ac tail sq Ee hsz ci lw FS kk
def yR(K:Frag):Sp:=λvs H Q _=>∃(q:Addr)(x:Bx)(t:List Nat),vs=[.ref q]/\xl H q x t/\jr x t/\kd x≠1/\oG H (KH x t) Q
theorem WR(F:aA K "_law_amount_of" "_law_amount_of" Qw f fd)(O:Own mg)(OE:mg "enumerate"=none)(hU:Def P w K mg M 2 "_law_edit" ["_law_parts","_law_amount"] (Xc K)):
  ag P w K mg M (ao P w) 3 f fd ["_law_one"] (yR K):=by
 refine okN F Qt (λvs H Q E h=>?_) (λad A L s H vs Q E hr h=>?_)
 .obtain⟨q,x,t,rfl,_⟩:=h;rfl
 .obtain⟨q,x,t,rfl,bh,bg,hk,kk⟩:=h;obtain⟨u5,Ha,h5⟩:=V' (P:=P) (w:=w) (K:=K) (M:=M) (f:=f) (L:=L) (H:=H) (E:=E) O OE hU hr;obtain⟨u4,Hb,h4⟩:=TZ (P:=P) (w:=w) (K:=K) (M:=M) (f:=f) (L:=L) (H:=H) (E:=E) O hr Ha;obtain⟨u3,sB,h3⟩:=TX (P:=P) (w:=w) (K:=K) (M:=M) (f:=f) (L:=L) (H:=H) (E:=E) O OE hU hr Hb;refine⟨_,(aN.ps (Qg (aO.mk (Jk (pv 0) (Q5 Z (Qf (Z' 1 Qt.nd) (Qf (Z' 2 Qt.nd) (Qf (Z' 3 Qt.nd) (Qf (Z' 4 Qt.nd) QD)))))))
   (aN.mk sB))),?_⟩
  cases x with
  |num sg a b=>
   obtain⟨rr,g1,g2⟩:=bh;obtain⟨ha,hb,Pi,ci,lw⟩:=bg;exists _,Z,q,_,Z,aj.of g1,Z,_,_,Z,_,_,Z,_,_,Z,_,_,Z,Z;refine h3 _ _ _ _ _ _ _ _ _ _ _ _ _ _ _ _ _ _ 2 t 0 (by lia) (.inr (by lia)) lw (λz=>absurd z (by lia)) λ_=>?_;exact h4 _ _ _ _ _ _ _ _ _ _ _ _ _ _ _ _ _ _ 2 t sg a b (by lia) lw (λ_=>⟨rr,Z,aj.of g2,by lia,by lia,ci,kk⟩) (λz=>absurd Z z)
  |aV Y first W N ac tail=>
   obtain⟨rr,g1,g2⟩:=bh;obtain⟨Ee,hsz,ci,lw,FS⟩:=bg;exists _,Z,q,_,Z,aj.of g1,Z,_,_,Z,_,_,Z,_,_,Z,_,_,Z,Z;refine h3 _ _ _ _ _ _ _ _ _ _ _ _ _ _ _ _ _ _ 3 t 0 (by lia) (.inr (by lia)) lw (λz=>absurd z (by lia)) λ_=>?_;refine h4 _ _ _ _ _ _ _ _ _ _ _ _ _ _ _ _ _ _ 3 t false 0 0 (by lia) lw (λz=>absurd z (by lia)) λ_=>?_;exact h5 _ _ _ _ _ _ _ _ _ _ _ _ _ _ _ _ _ _ rr t Y first W N ac tail (aj.of g2) Ee hsz ci lw FS kk
  |aH n=>exact absurd rfl hk
  |txt n=>
   obtain⟨h1,h8,ci,lw⟩:=bg;exists _,Z,q,_,Z,aj.of bh,Z,_,_,Z,_,_,Z,_,_,Z,_,_,Z,Z;exact h3 _ _ _ _ _ _ _ _ _ _ _ _ _ _ _ _ _ _ 0 t n (by lia) (.inl (by lia)) lw (λ_=>kk) (λz=>absurd Z z)
end
def xm(H:Hp):Bx->V->Prop
 | .num s a b,v=>∃rr,v=.ref rr/\H rr=some (.tup [.bl s,.int (a:Nat),.int (b:Nat)])
 | .aV Y first W N ac tail,v=>∃rr,v=.ref rr/\H rr=some (.tup [tv Y,tv [first],tv (W++N),tv ac,tv tail])
 | .aH _,v=>v=.ax
 | .txt _,v=>v=.ax
theorem xm.same{v:V}(h:xm H x v)(S:Qs H H'):xm H' x v:=by
 cases x with
 |num s a b=>obtain⟨rr,e,g⟩:=h;exact⟨rr,e,S _ _ g⟩
 |aV Y first W N ac tail=>obtain⟨rr,e,g⟩:=h;exact⟨rr,e,S _ _ g⟩
 |aH n=>exact h
 |txt n=>exact h
theorem xl.parts(h:xl H q x t):∃v,H q=some (.tup [tv (sU x),.str (kindS (kd x)),v,tv t])/\xm H x v:=by
 cases x with
 |num s a b=>obtain⟨rr,g1,g2⟩:=h;exact⟨_,g1,rr,Z,g2⟩
 |aV Y first W N ac tail=>obtain⟨rr,g1,g2⟩:=h;exact⟨_,g1,rr,Z,g2⟩
 |aH n=>exact⟨_,h,Z⟩
 |txt n=>exact⟨_,h,Z⟩
theorem xl.same{t:List Nat}(h:xl H q x t)(S:Qs H H'):xl H' q x t:=by
 cases x with
 |num s a b=>obtain⟨rr,g1,g2⟩:=h;exact⟨rr,S _ _ g1,S _ _ g2⟩
 |aV Y first W N ac tail=>obtain⟨rr,g1,g2⟩:=h;exact⟨rr,S _ _ g1,S _ _ g2⟩
 |aH n=>exact S _ _ h
 |txt n=>exact S _ _ h
theorem jr.len{x:Bx}{t:List Nat}(h:jr x t):t.length<=61/\(∀c∈t,c<128)/\1<=t.length/\(kd x<=1->t.length=sz x):=by
 cases x with
 |num s a b=>obtain⟨h1,h2,h3,h4,h5⟩:=h;exact⟨by lia,h5,by lia,λz=>absurd z (by show ¬ 2<=1;lia)⟩
 |aV Y first W N ac tail=>obtain⟨h1,h2,h3,h4,h5⟩:=h;exact⟨by rw[h3];exact Ku h2,h4,by rw[h3];exact zk h1,λz=>absurd z (by show ¬ 3<=1;lia)⟩
 |aH n=>obtain⟨h1,h2,h3,h4⟩:=h;exact⟨by lia,h4,by lia,λ_=>h3⟩
 |txt n=>obtain⟨h1,h2,h3,h4⟩:=h;exact⟨by lia,h4,by lia,λ_=>h3⟩
theorem jr.at{x:Bx}{t:List Nat}(h:jr x t):xo (sU x) x/\(sU x).length<=61:=by
 cases x with
 |num s a b=>obtain⟨h1,h2,h3,h4,h5⟩:=h;exact⟨⟨(PD s a b h1 h2 h3).1,by lia,by lia⟩,Th s a b h1 h2⟩
 |aV Y first W N ac tail=>obtain⟨h1,h2,h3,h4,h5⟩:=h;exact⟨⟨h1,h2,Z⟩,Ku h2⟩
 |aH n=>obtain⟨h1,h2,h3,h4⟩:=h;have p:=LR (c:=65) (n:=n) (.inr Z) (by lia) (by lia);exact⟨⟨_,_,Z,p.1,p.2,by lia⟩,by show(replicate n 65).length<=61;rw[lN];lia⟩
 |txt n=>obtain⟨h1,h2,h3,h4⟩:=h;have p:=LR (c:=88) (n:=n) (.inl Z) (by lia) (by lia);exact⟨⟨_,_,Z,p.1,p.2,by lia⟩,by show(replicate n 88).length<=61;rw[lN];lia⟩
theorem W'(G:jr x t)(h:KH x t=some (u,o)):u.natAbs<10^13/\o<=18:=by
 cases x with
 |num s a b=>
  obtain⟨h1,h2,h3,h4,h5⟩:=G
  by_cases z:VX s a b t
  .have e:some (Jj s t,b)=some (u,o):=by rw[<-h];exact(yaf z).symm
   have hv:=X3 z.2;rw[Kv,z.1]at hv;have Xs:NumText.digitsVal (Jt s t)<10^13:=yad hv (yat (by lia) (by lia));have hu:(Jj s t).natAbs<10^13:=by unfold Jj;split<;>lia
   cases e;exact⟨hu,by lia⟩
  .have e:KH (.num s a b) t=none:=yac z;rw[e]at h;cases h
 |aV Y first W N ac tail=>
  rw[Wr]at h;obtain⟨v,hv,e⟩:=yaS.mp h;cases e;have hm:=WN G.1;have h1:dQ Y (W++N++Qm ac) t<10^12:=by
   refine yad (X3 (V2 _ _)) (yat (by lia) ?_);exact yas (Vi _ _) hm
  have hb:=G.1.small;refine⟨?_,by lia⟩;unfold ow at hv
  split at hv
  .cases hv;lia
  .split at hv
   .cases hv;lia
   .cases hv
 |aH n=>cases h
 |txt n=>
  obtain⟨h1,h2,h3,h4⟩:=G
  by_cases z:xh (sp t)
  .have e:some (((NumText.digitsVal (sp t):Nat):Int),0)=some (u,o):=by rw[<-h];exact(yaf z).symm
   have hv:=X3 z.2.1;have hl:=wD t;have Xs:NumText.digitsVal (sp t)<10^13:=yad hv (yat (by lia) (by lia));cases e;exact⟨by lia,by lia⟩
  .have e:KH (.txt n) t=none:=yac z;rw[e]at h;cases h
noncomputable def AR:Rs->List V
 | .ok t=>[.str "told",tv t]
 | .er 5=>[.str "no figures"]
 | .er 6=>[.str "no letters"]
 | .er _=>[.str "no move"]
theorem X':∀k≤3,(if false=true then !dI (V.str (kindS k)) [.str "number",.str "edited"]else dI (V.str (kindS k)) [.str "number",.str "edited"])=decide (2<=k):=by rfl'
theorem Y':∀k≤3,(if false=true then !dI (V.str (kindS k)) [.str "text",.str "letters"]else dI (V.str (kindS k)) [.str "text",.str "letters"])=decide (k<=1):=by rfl'
theorem in3:∀k≤3,(if false=true then !dI (V.str (kindS k)) [.str "text",.str "letters",.str "edited"]else dI (V.str (kindS k)) [.str "text",.str "letters",.str "edited"])=decide (k≠2):=by rfl'
theorem wQ{K:Frag}{i k:Nat}{H:Hp}(hσ:σ[i]? =some (some (.str (kindS k))))(hk:k<=3)(h:∀H',Qs H H'->R (decide (2<=k)) H'):Wb (bc (iV K false) (ZN i) (Bb (Jy (tC (.str "number")) (Jy (tC (.str "edited")) Ww)))) σ H R:=by
 refine⟨_,hσ,by show 2<=sizeLine;lia,λp hp=>⟨p,_,Z,.inr (aj.of Qd),Z,Z,_,Z,?_⟩⟩;rw[X' k hk];exact h _ (Qs.new hp)
theorem QbZ{K:Frag}{i k:Nat}{H:Hp}(hσ:σ[i]? =some (some (.str (kindS k))))(hk:k<=3)(h:∀H',Qs H H'->R (decide (k<=1)) H'):Wb (bc (iV K false) (ZN i) (Bb (Jy (tC (.str "text")) (Jy (tC (.str "letters")) Ww)))) σ H R:=by
 refine⟨_,hσ,by show 2<=sizeLine;lia,λp hp=>⟨p,_,Z,.inr (aj.of Qd),Z,Z,_,Z,?_⟩⟩;rw[Y' k hk];exact h _ (Qs.new hp)
theorem yS{K:Frag}{i k:Nat}{H:Hp}(hσ:σ[i]? =some (some (.str (kindS k))))(hk:k<=3)(h:∀H',Qs H H'->R (decide (k≠2)) H'):Wb (bc (iV K false) (ZN i) (Bb (Jy (tC (.str "text")) (Jy (tC (.str "letters")) (Jy (tC (.str "edited")) Ww))))) σ H R:=by
 refine⟨_,hσ,by show 3<=sizeLine;lia,λp hp=>⟨p,_,Z,.inr (aj.of Qd),Z,Z,_,Z,?_⟩⟩;rw[in3 k hk];exact h _ (Qs.new hp)
theorem Kk(m:Nat)(hm:m<=3)(hz:V.str z=V.str (kindS m))(hσ:σ[i]? =some (some (.str (kindS k))))(hk:k<=3)(h:R (decide (k=m)) H):Wb (bc EB (ZN i) (tC (.str z))) σ H R:=by
 exists _,hσ,Z,_,Z;rw[hz,JZ _ hk m hm];exact h
theorem Ur:∀a≤3,∀b≤3,wW a b= !(decide (b=1)&&decide (2<=a)||decide (a=1)&&decide (2<=b)):=by lia
noncomputable abbrev NM:List Str:=["_law_one","_law_two","_law_right_here","_law_line_here","_law_kind","_law_room_so","_law_content_here","_law_other_here","_law_there","_law_other_room","_law_old","_law_found","_law_bad","_law_amount","_law_figures"]
def sZ(H:Hp)(r:Rs)(R:VK):Prop:=∀p H',Qs H H'->H p=none->H' p=some (.tup (AR r))->R (.ref p) H'
theorem sZ.step{H H1:Hp}{r:Rs}{R:VK}(h:sZ H r R)(S:Qs H H1):sZ H1 r R:=λp H' S' hp g=>h p H' (S.trans S') (J6 S hp) g
section
variable {P:Program}{w:World}{K:Frag}{mg:Str->Option Value}{M:Heap}{f:Addr}{fd:FuncData}{tk:Nat->Tok}
theorem QdE{ad:Value}{L:List Env}(hr:aq 3 (A.deeper (envOfC "_law_moved" (Qe QY) s.heap.objs.size f ad)))
  (sB:aU (Xe (ao P w) P w K mg M NM "_law_moved" (Qe QY) f ad A L s H E).bD ((QK QY).drop 4) u3):
  ∃u2,aU (Xe (ao P w) P w K mg M NM "_law_moved" (Qe QY) f ad A L s H E).bD ((QK QY).drop 2) u2/\
   ∀(D:Ends)(H1:Hp)(y0 y1 y2 y3 y7 y9 At li ms GE GM:Option V)(x y:Bx)(v5:V)(t:List Nat)(b:Bool),
    xm H1 x v5->sZ H1 (bG x y b t) D.rt->
    (∀H',Qs H1 H'->wW (kd x) (kd y)=true->(∀s a bb,x=.num s a bb->kd y=0->bb=0)->u3 D [y0,y1,y2,y3,some (.str (kindS (kd x))),some v5,some (tv t),y7,some (.str (kindS (kd y))),y9,At,li,ms,GE,GM] H')->
    u2 D [y0,y1,y2,y3,some (.str (kindS (kd x))),some v5,some (tv t),y7,some (.str (kindS (kd y))),y9,At,li,ms,GE,GM] H1:=by
 have hz:=zza
 refine⟨_,(aN.ps (Qg (Q1 (PW.pt (Xn (PW.pt (Jn (Ql Ja (pv 8) Qc (Qn _)) (Jd (Ql XC (pv 4) (Jf (Qv Qc (Qv Qc Qb))) (by with_unfolding_all rfl))))) (Zq (PW.pt (Jn (Ql Ja (pv 4) Qc (Qn _)) (Jd (Ql XC (pv 8) (Jf (Qv Qc (Qv Qc Qb))) (by with_unfolding_all rfl)))))))) (Qr (QE (JC (QF (ae.mk Qc) QO Z)))) QT)
   (Qg (Q1 (PW.pt (Jn (Ql Ja (pv 4) Qc (Qn _)) (Jn (Ql Ja (pv 8) Qc (Qn _)) (Jd (Ql Wa (QS Jl (pv 5) Qi (λ_ _=>rfl)) Qi (Qn _)))))) (Qr (QE (JC (QF (ae.mk Qc) QO Z)))) QT)
   (aN.mk sB)))),?_⟩
 intro D H1 y0 y1 y2 y3 y7 y9 At li ms GE GM x y v5 t b rv k k3;have c7:=Kx x;have dB:=Kx y;have hg:=Ur _ c7 _ dB;dsimp only[JI,Wt,Wu,Ux];refine JW (λσ' H'=>σ'=[y0,y1,y2,y3,some (.str (kindS (kd x))),some v5,some (tv t),y7,some (.str (kindS (kd y))),y9,At,li,ms,GE,GM]/\Qs H1 H'/\wW (kd x) (kd y)=true) ?_ (λrest=>?_);rotate_left
 .have no:∀H',Qs H1 H'->wW (kd x) (kd y)=false->∀p,H' p=none->D.rt (.ref p) (upd H' p (.tup [.str "no move"])):=λH' S z p hp=>k p _ (S.trans (Qs.new hp)) (J6 S hp) (by rw[Qd];unfold bG;rw[yaf z];rfl);dsimp only[AY,Dq,HE];refine Kk (k:=kd y) 1 (by lia) rfl rfl dB ?_;refine aG (λz=>?_) (λz=>?_)
  .have h1:=yap z;refine wQ (k:=kd x) rfl c7 λH2 S2=>?_;refine aG (λz2=>?_) (λz2=>?_)
   .have h2:=yap z2;exact Q4 ⟨bN,no _ S2 (by rw[hg,ly h1,ly h2];rfl)⟩
   .have h2:=yau z2;refine Kk (k:=kd x) 1 (by lia) rfl rfl c7 ?_;refine aG (λz3=>?_) (λz3=>QW (rest _ _ ⟨Z,S2,by rw[hg,lx h2,z3];simp⟩));refine wQ (k:=kd y) rfl dB λH3 S3=>?_;rw[lx (show ¬ 2<=kd y by lia)];exact QW (rest _ _ ⟨Z,S2.trans S3,by rw[hg,lx h2,lx (show ¬ 2<=kd y by lia)];simp⟩)
  .have h1:=yau z;refine QW ?_;refine Kk (k:=kd x) 1 (by lia) rfl rfl c7 ?_;refine aG (λz3=>?_) (λz3=>QW (rest _ _ ⟨Z,Qs.refl _,by rw[hg,z,z3];rfl⟩));refine wQ (k:=kd y) rfl dB λH3 S3=>?_;refine aG (λz4=>?_) (λz4=>rest _ _ ⟨Z,S3,by rw[hg,z,z4];simp⟩);exact⟨bN,no _ S3 (by rw[hg,z,z3,z4];rfl)⟩
 rintro σ' H' ⟨rfl,S,dC⟩;have k':=k.step S;have rv':=rv.same S;refine Kk (k:=kd x) 2 (by lia) rfl rfl c7 ?_;refine aG (λz=>?_) (λz=>QW (k3 _ S dC (λs a bb e _=>by rw[e]at z;exact absurd Z (yau z))));refine Kk (k:=kd y) 0 (by lia) rfl rfl dB ?_;refine aG (λz2=>?_) (λz2=>QW (k3 _ S dC (λs a bb e h=>absurd h (yau z2))));have ii:=yap z;have CZ:=yap z2;cases x with
 |num sg a bb=>
  obtain⟨rr,rfl,Aa⟩:=rv';exists _,Z,rr,_,_,_,Z,Z,aj.of Aa,Z,_,_,Z,Z,_,Z
  by_cases hb:0<bb
  .rw[ly (show((bb:Nat):Int)>0 by lia)];refine Q4 ⟨bN,λp hp=>k' p _ (Qs.new hp) hp ?_⟩;rw[Qd];unfold bG;rw[yac (by rw[dC];lia),yac (by lia)];have e:cg (.num sg a bb) t=.er 7:=yaf hb;rw[e];rfl
  .rw[lx (show ¬ ((bb:Nat):Int)>0 by lia)];exact QW (k3 _ S dC (λs a b' e _=>by cases e;lia))
 |aV Y first W N ac tail=>cases ii
 |aH n=>cases ii
 |txt n=>cases ii
end
noncomputable def fE(c:Nat):Bool:= !bV c
theorem Qb0(l:List Nat):l.any fE= !l.all bV:=by
 induction l with
 |nil=>rfl
 |cons c r ih=>rw[ych,yde,ih,Bool.not_and];rfl
theorem LZ(c d:Nat):(!decide (([d]:List Nat)<[c]))=decide (c<=d):=by
 have:(([d]:List Nat)<[c])↔d<c:=by simp[List.cons_lt_cons_iff]
 rw[ydX.mpr this, <-decide_not,ydX];lia
theorem QfC:("a":Str).cps.toList=[97]:=by rfl'
theorem QfD:("z":Str).cps.toList=[122]:=by rfl'
theorem QfE:("A":Str).cps.toList=[65]:=by rfl'
theorem QfF:("Z":Str).cps.toList=[90]:=by rfl'
abbrev AS:V->V->Hp->VK->Prop:=λx y H Q=>∃i j,x=.str i/\y=.str j/\Q (.bl (!decide (j.cps.toList<i.cps.toList))) H
theorem zn(hσ:σ[1]? =some (some (tv [c])))(ea:a.cps.toList=[la])(ez:z.cps.toList=[lz])(h:R (decide (la<=c)&&decide (c<=lz)) H):Wb (jA AS AS (tC (.str a)) (ZN 1) (tC (.str z))) σ H R:=by
 exists _,hσ,_,_,Z,Z,_,Z;rw[JD,ea,LZ];cases g:decide (la<=c)with
 |false=>
  rw[g,ycr]at h;exact QW ⟨_,Z,h⟩
 |true=>
  rw[g,ydP]at h;refine Q4 ⟨_,_,Z,Z,_,Z,?_⟩;rw[JD,ez,LZ];exact h
theorem jv(hσ:σ[1]? =some (some (tv [c])))(h:R (fE c) H):HF (Dq (Wb (bc EB (ZN 1) (tC (.str " ")))) (Dq (Wb (jA AS AS (tC (.str "a")) (ZN 1) (tC (.str "z")))) (Wb (jA AS AS (tC (.str "A")) (ZN 1) (tC (.str "Z")))))) σ H R:=by
 have e1:fE c= !(c==32||(decide (97<=c)&&decide (c<=122))||(decide (65<=c)&&decide (c<=90))):=rfl;exists _,hσ,Z,_,Z;rw[sV,Jv]
 by_cases h0:c=32
 .rw[ly h0];rw[e1,yci.mpr h0]at h;exact Q4 h
 .rw[lx h0];rw[e1,beq_false_of_ne h0,ydf]at h;refine QW (zn hσ QfC QfD ?_);refine aG (λg=>?_) (λg=>zn hσ QfE QfF ?_)
  .rw[g,yeD]at h;exact h
  .rw[g,ydf]at h;exact h
section
variable {P:Program}{w:World}{K:Frag}{mg:Str->Option Value}{M:Heap}{f:Addr}{fd:FuncData}{tk:Nat->Tok}
theorem QdF(O:Own mg)(gj:Def P w K mg M 1 "_law_text_in" ["_law_content_here","_law_size","_law_right_here"] wO){ad:Value}{L:List Env}(hr:aq 3 (A.deeper (envOfC "_law_moved" (Qe QY) s.heap.objs.size f ad)))
  (sB:aU (Xe (ao P w) P w K mg M NM "_law_moved" (Qe QY) f ad A L s H E).bD ((QK QY).drop 5) u3):
  ∃u2,aU (Xe (ao P w) P w K mg M NM "_law_moved" (Qe QY) f ad A L s H E).bD ((QK QY).drop 4) u2/\
   ∀(D:Ends)(H1:Hp)(y0 y1 y3 y5 y7 y9 li ms GE GM:Option V)(x y:Bx)(t t2:List Nat)(b:Bool),
    wW (kd x) (kd y)=true->jr x t->jr y t2->sZ H1 (bG x y b t) D.rt->
    (kd x=2\/2<=kd y->∀H',Qs H1 H'->u3 D [y0,y1,some (.bl b),y3,some (.str (kindS (kd x))),y5,some (tv t),y7,some (.str (kindS (kd y))),y9,some (tv t2),li,ms,GE,GM] H')->
    u2 D [y0,y1,some (.bl b),y3,some (.str (kindS (kd x))),y5,some (tv t),y7,some (.str (kindS (kd y))),y9,some (tv t2),li,ms,GE,GM] H1:=by
 have hz:=zza
 refine⟨_,(aN.ps (Qg (Q1 (PW.pt (Jn (Ql XC (pv 4) (Jf (Qv Qc (Qv Qc (Qv Qc Qb)))) (by with_unfolding_all rfl)) (Jd (Ql XC (pv 8) (Jf (Qv Qc (Qv Qc Qb))) (by with_unfolding_all rfl))))) (Qg (Qu (i:=11) Q0.nd Z (Or.inl Z) (ae.mk (gj.pq hr Qy (Qv (pv 6) (Qv (Qq QH Z O.len yaK (Qv (pv 10) Qb)) (Qv (pv 2) Qb))))) Z Z)
   (Qg (aO.mk (Ve (NB:=[".0","_law_sign"]) (iy:=12) Z ⟨Z,by rfl',by rfl',by rfl'⟩ (KC (pv 11)) (λ_ _ _=>(Qk (i:=1) (show([".0","_law_sign"]:List Str).Nodup by rfl') Z (Or.inl Z))) (λ_ _ _=>(X1 (Kz (PW.pt (Xn (Ql Ja (pv 1) Qc (Qn _)) (Xn (jB Wi Wi Qc (pv 1) Qc) (Zq (jB Wi Wi Qc (pv 1) Qc)))))))) (λ_ _ _=>(pv 1)) Q0.nd Z (Or.inl Z) Z))
   (Qr (QE (Zn (PW.pt (Jn (Ql Ja (pv 8) Qc (Qn _)) (Jd (Ql (qP (n:=1) (qJ hr)) (pv 12) (ZR Qb) (Qn _))))) (JC (QF (ae.mk Qc) QO Z)) (JC (QF (ae.mk Qc) (QF (ae.mk (pv 11)) QO Z) Z))))))) QT)
   (aN.mk sB))),?_⟩
 intro D H1 y0 y1 y3 y5 y7 y9 li ms GE GM x y t t2 b dC G1 G2 k k3;have c7:=Kx x;have dB:=Kx y;obtain⟨l1,a1,p1,_⟩:=G1.len;obtain⟨l2,a2,p2,e2⟩:=G2.len;refine yS (k:=kd x) rfl c7 λH2 S2=>?_;refine aG (λz=>?_) (λz=>QW (k3 (.inl (by have:=yau z;lia)) _ S2));refine QbZ (k:=kd y) rfl dB λH3 S3=>?_;have TW:=S2.trans S3;refine aG (λz2=>?_) (λz2=>k3 (.inr (by have:=yau z2;lia)) _ TW);have ii:=yap z;have FP:=yap z2;have k':=k.step TW;have Hc:=Qh t2;refine⟨_,Z,_,Z,tx t2,Z,by lia,_,Z,t,t2.length,b,by rw[Hc];rfl,by lia,by lia,?_⟩;have FH:(ba t t2.length b).length=t2.length:=Tr _ _ _;have L0:=Ts a1 t2.length b;have em:bG x y b t=if kd y=1/\(ba t t2.length b).all bV=false then Rs.er 6 else Rs.ok (ba t t2.length b):=by
  have e0:cg x t=.ok t:=by
   cases x with
   |num s a b=>exact absurd rfl ii
   |aV Y first W N ac tail=>rfl
   |aH n=>rfl
   |txt n=>rfl
  unfold bG;rw[yac (by rw[dC];lia),yac (by lia),e0,e2 FP]
 rw[em]at k';generalize ba t t2.length b=fo at FH L0 k';have AQ:=Qh fo;dsimp only[JI,Wt,Wu];refine Ko (z:=tx fo) (λm vs H4=>vs=((fo.take m).filter fE).map (λc=>tv [c])/\H4=H3) (λR h=>⟨_,Z,h⟩) (Zj L0) ⟨Z,Z⟩ (λm vs H hm⟨e,_⟩=>?_) ?_ ?_ (by show(tx fo).length<sizeLine;lia)
 .rw[e,lu];exact yas (yaL _ _) (by rw[lI];lia)
 .rintro m cc vs H4 hx ⟨rfl,rfl⟩;have f8:fo[m]? =some cc:=by simpa using hx
  have ss:fo.take (m+1)=fo.take m++[cc]:=by rw[yaE,f8];rfl
  rw[show(⟨#[cc]⟩:Str)=tx [cc]from rfl,ss,ybl,lO];dsimp only[JI];refine jv (c:=cc) rfl ?_;refine aG (λg=>⟨_,Z,by rw[yaF,yaf g];rfl,Z⟩) (λg=>⟨by rw[yaF,yac (by rw[g];lia)];simp,Z⟩)
 .rintro vs H4 ⟨rfl,rfl⟩ q hq;rw[yaq (show fo.length<=(tx fo).cps.size by simp)];have S5:=Qs.new (o:=.lst ((fo.filter fE).map (λc=>tv [c]))) hq;have g5:upd H4 q (.lst ((fo.filter fE).map (λc=>tv [c]))) q=some (.lst ((fo.filter fE).map (λc=>tv [c]))):=Qd;have k5:=k'.step S5;generalize upd H4 q (.lst ((fo.filter fE).map (λc=>tv [c])))=H5 at k5 g5;refine Kk (k:=kd y) 1 (by lia) rfl rfl dB ?_;have told:∀H',Qs H5 H'->¬ (kd y=1/\fo.all bV=false)->∀p,H' p=none->D.rt (.ref p) (upd H' p (.tup [.str "told",tv fo])):=λH' S z p hp=>(k5.step S) p _ (Qs.new hp) hp (by rw[Qd,yac z];rfl);refine aG (λz=>?_) (λz=>QW ⟨_,Z,bA,told _ (Qs.refl _) (λq=>absurd q.1 (yau z))⟩);refine⟨_,Z,Aw,λp hp=>⟨q,p,_,[], !fo.all bV,Z,Z,az.of (Qs.new hp _ _ g5),az.of Qd,?_,_,Z,?_⟩⟩
  .rw[<-Qb0];cases g:fo.any fE with
   |false=>
    have e:fo.filter fE=[]:=yeb.mpr λx hx z=>(ybJ.mp g x hx) z;rw[e];exact .inl ⟨.nil,Z⟩
   |true=>
    refine .inr ⟨λz=>?_,Z⟩;obtain⟨x,hx,hb⟩:=ydW.mp g;have:x∈fo.filter fE:=ydl.mpr ⟨hx,hb⟩;rw[lu]at z;rw[yaH.mp z]at this;cases this
  .have S6:=Qs.new (o:=.lst []) hp;refine aG (λg=>?_) (λg=>⟨_,Z,bA,told _ S6 (λq=>by rw[q.2]at g;cases g)⟩);have hL:fo.all bV=false:=by cases q:fo.all bV with|false=>rfl|true=>rw[q]at g;cases g
   exact⟨bN,λp2 im=>(k5.step S6) p2 _ (Qs.new im) im (by rw[Qd,yaf ⟨yap z,hL⟩];rfl)⟩
end
theorem QdG(h:n<10^k)(h1:1<=k)(h2:k<=20):(replicate 20 48++dec n).drop ((replicate 20 48++dec n).length-k)=pad n k:=by
 have hl:=dec_lt h h1;unfold pad;rw[lq,lN,List.drop_append,lN,List.drop_replicate];rw[show 20+(dec n).length-k-20=0 by lia,show 20-(20+(dec n).length-k)=k-(dec n).length by lia];rfl
section
variable {P:Program}{w:World}{K:Frag}{mg:Str->Option Value}{M:Heap}{f:Addr}{fd:FuncData}{tk:Nat->Tok}
theorem QdH(O:Own mg)(gC:Def P w K mg M 3 "_law_amount_of" ["_law_one"] (yR K))(gj:Def P w K mg M 1 "_law_text_in" ["_law_content_here","_law_size","_law_right_here"] wO)(hZ:Def P w K mg M 1 "_law_content" ["_law_shows","_law_before","_law_behind","_law_amount"] (WQ K))(hU:Def P w K mg M 2 "_law_edit" ["_law_parts","_law_amount"] (Xc K)){ad:Value}{L:List Env}(hr:aq 3 (A.deeper (envOfC "_law_moved" (Qe QY) s.heap.objs.size f ad))):
  ∃u2,aU (Xe (ao P w) P w K mg M NM "_law_moved" (Qe QY) f ad A L s H E).bD ((QK QY).drop 5) u2/\
   ∀(D:Ends)(H1:Hp)(y1 y3 y5 y7 li ms GE GM:Option V)(q1:Addr)(x y:Bx)(v9:V)(t t2:List Nat)(b:Bool),
    wW (kd x) (kd y)=true->(∀s a bb,x=.num s a bb->kd y=0->bb=0)->kd x=2\/2<=kd y->xl H1 q1 x t->jr x t->xm H1 y v9->jr y t2->sZ H1 (bG x y b t) D.rt->
    u2 D [some (.ref q1),y1,some (.bl b),y3,some (.str (kindS (kd x))),y5,some (tv t),y7,some (.str (kindS (kd y))),some v9,some (tv t2),li,ms,GE,GM] H1:=by
 have hz:=zza
 refine⟨_,(aN.ps (Qg (Qu (i:=13) Q0.nd Z (Or.inl Z) (ae.mk (gC.pq hr Qy (Qv (pv 0) Qb))) Z Z)
   (Qg (Q1 (Xf (Ky (pv 13))) (Qr (QE (JC (QF (ae.mk Qc) QO Z)))) QT)
   (Qg (Q1 (Ql Ja (pv 8) Qc (Qn _)) (Qg (Qu (i:=14) Q0.nd Z (Or.inl Z) (ae.mk (QZ J2 (QI Qo (QI QB Qc Qi) (Jh Zm Z O.str yen (Qv (Qq ZU Z O.abs ydC (Qv (QS MM (pv 13) Qi (λ_ _=>rfl)) Qb)) Qb))) (Q2 (QI Zr Qi (Qq QH Z O.len yaK (Qv (pv 6) Qb)))) Ju)) Z Z)
   (Qr (QE (JC (QF (ae.mk Qc) (QF (ae.mk (gj.pq hr Qy (Qv (pv 14) (Qv (Qq QH Z O.len yaK (Qv (pv 10) Qb)) (Qv (pv 2) Qb))))) QO Z) Z))))) QT)
   (Qg (Q1 (Ql Ja (pv 8) Qc (Qn _)) (Qr (QE (JC (QF (ae.mk Qc) (QF (ae.mk (hZ.pq hr Qy (Qv (QS Jl (pv 9) Qi (λ_ _=>rfl)) (Qv (QS Jl (pv 9) Qi (λ_ _=>rfl)) (Qv (QS Jl (pv 9) Qi (λ_ _=>rfl)) (Qv (pv 13) Qb)))))) QO Z) Z)))) QT)
   (Qr (QE (JC (QF (ae.mk Qc) (QF (ae.mk (hU.pq hr Qy (Qv (pv 9) (Qv (pv 13) Qb)))) QO Z) Z))))))))),?_⟩
 intro D H1 y1 y3 y5 y7 li ms GE GM q1 x y v9 t t2 b dC h0 Ef bh G1 rv G2 k;have c7:=Kx x;have dB:=Kx y;obtain⟨l1,a1,p1,_⟩:=G1.len;obtain⟨l2,a2,p2,e2⟩:=G2.len;have hk1:kd x≠1:=λz=>by
  have hg:=Ur _ c7 _ dB;rcases Ef with q|q
  .lia
  .rw[dC,z,ly q]at hg;simp at hg
 have ox:kd y≠1:=λz=>by
  have hg:=Ur _ c7 _ dB;rcases Ef with q|q
  .rw[dC,z,q]at hg;simp at hg
  .lia
 have AK:bG x y b t=if 2<=kd y then(match KH x t with|none=>Rs.er 5|some (u,o)=>Rs.ok (AJ y u o))else match cg x t with
   | .er k=>Rs.er k
   | .ok m=>if kd y=1/\(ba m (sz y) b).all bV=false then Rs.er 6 else Rs.ok (ba m (sz y) b):=by
  unfold bG;exact yac (by rw[dC];lia)
 have et:kd y=0->∃sg a,x=.num sg a 0/\cg x t=match KH x t with|none=>Rs.er 5|some (u,_)=>Rs.ok (pad u.natAbs a):=λhy=>by
  have ii:kd x=2:=by lia
  cases x with
  |num sg a bb=>
   have hb:=h0 sg a bb rfl hy;subst hb;exact⟨sg,a,Z,Z⟩
  |aV Y first W N ac tail=>cases ii
  |aH n=>cases ii
  |txt n=>cases ii
 refine⟨_,Z,q1,x,t,Z,bh,G1,hk1,λe H2 S2=>?_,λu o e p H2 S2 hp g=>?_⟩
 .have k2:=k.step S2;exists _,Z,_,Z;refine Q4 ⟨bN,λp hp=>k2 p _ (Qs.new hp) hp ?_⟩;rw[Qd,AK]
  by_cases h2:2<=kd y
  .rw[yaf h2,e];rfl
  .obtain⟨sg,a,_,e3⟩:=et (by lia);rw[yac h2,e3,e];rfl
 .have k2:=k.step S2;have Eg:=rv.same S2;obtain⟨dz,Dc⟩:=W' G1 e;exists _,Z,_,Z;refine QW ?_;refine Kk (k:=kd y) 0 (by lia) rfl rfl dB ?_
  by_cases CZ:kd y=0
  .rw[ly CZ];obtain⟨sg,a,ex,e3⟩:=et CZ;have em:bG x y b t=Rs.ok (ba (pad u.natAbs a) t2.length b):=by
    rw[AK,yac (by lia),e3,e];show(if kd y=1/\(ba (pad u.natAbs a) (sz y) b).all bV=false then Rs.er 6 else Rs.ok (ba (pad u.natAbs a) (sz y) b))=_;rw[yac (λz=>ox z.1),e2 (by lia)]
   rw[em]at k2;have hG:a<6/\(0:Nat)<4/\a+0≠0/\t.length=a+0/\∀x∈t,x<128:=by rw[ex]at G1;exact G1
   have Hd:u.natAbs<10^a:=by
    rw[ex]at e
    by_cases z:VX sg a 0 t
    .have e5:some (Jj sg t,0)=some (u,o):=by rw[<-e];exact(yaf z).symm
     have hv:=X3 z.2;rw[Kv,z.1]at hv;have hu:(Jj sg t).natAbs<10^a:=by unfold Jj;split<;>simp at hv<;>lia
     cases e5;exact hu
    .have e5:KH (.num sg a 0) t=none:=yac z;rw[e5]at e;cases e
   have mo:=dec_lt Hd (by lia);have hdx:=Qh (dec u.natAbs);have iI:=Qh t;have Hc:=Qh t2;refine Q4 ⟨"0",20,Z,Z,by lia,by lia,by lia,?_⟩;rw[show(20:Int).toNat=20 from rfl,D9,Zi];have hrx:=Qh (replicate 20 48);rw[lN]at hrx;refine⟨_,Z,.inr (.inl ⟨p,_,_,_,Z,Z,aj.of g,Z,u,Z,_,Z,?_,?_⟩)⟩
   .rw[WM,yaR]
    by_cases h9:u.natAbs=0
    .rw[h9];lia
    .exact(ydp h9).mpr (yad dz (yas (by decide:10^13<=2^100) (yat (by lia) (by lia))))
   rw[WM,bj.XZ];refine⟨_,_,Z,Z,by lia,?_⟩;rw[QR];have L3:=Qh (replicate 20 48++dec u.natAbs);rw[lq,lN]at L3;refine⟨_,Z,tx t,Z,by lia,_,_,Z,Z,_,Z,_,Z,by rw[L3];lia,?_⟩;rw[show(0:Int)-((tx t).length:Nat)= -((a:Nat):Int) by rw[iI];lia,Kf _ (by lia),QdG Hd (by lia) (by lia)];have mt:(pad u.natAbs a).length=a:=XB Hd (by lia);refine⟨_,Z,_,Z,tx t2,Z,by lia,_,Z,pad u.natAbs a,t2.length,b,by rw[Hc];rfl,by lia,by lia,bA,λp2 im=>k2 p2 _ (Qs.new im) im Qd⟩
  .rw[lx CZ];refine QW ?_;refine Kk (k:=kd y) 2 (by lia) rfl rfl dB ?_;have em:bG x y b t=Rs.ok (AJ y u o):=by rw[AK,yaf (show 2<=kd y by lia),e]
   rw[em]at k2;cases y with
   |num s2 L4 b2=>
    obtain⟨rr,rfl,Aa⟩:=Eg;obtain⟨ga,gb,gab,_,_⟩:=G2;rw[ly (show kd (.num s2 L4 b2)=2 from Z)];refine Q4 ⟨_,Z,rr,_,_,_,Z,Z,aj.of Aa,Z,_,Z,rr,_,_,_,Z,Z,aj.of Aa,Z,_,Z,rr,_,_,_,Z,Z,aj.of Aa,Z,_,Z,s2,L4,b2,p,u,o,Z,aj.of g,dz,Dc,by lia,by lia,by lia,bA,λp2 im=>k2 p2 _ (Qs.new im) im Qd⟩
   |aV Y first W N ac tail=>
    obtain⟨rr,rfl,Aa⟩:=Eg;obtain⟨Ee,hsz,_⟩:=G2;rw[lx (show ¬ kd (.aV Y first W N ac tail)=2 by show ¬ 3=2;lia)];refine QW ⟨_,Z,_,Z,rr,p,Y,first,W,N,ac,tail,u,o,Z,aj.of Aa,aj.of g,Ee,hsz,dz,Dc,λH3 S3=>⟨bA,λp2 im=>(k2.step S3) p2 _ (Qs.new im) im Qd⟩⟩
   |aH n=>exact absurd rfl ox
   |txt n=>exact absurd rfl CZ
def jw(K:Frag):Sp:=λvs H Q _=>∃(q1 q2:Addr)(x y:Bx)(t t2:List Nat)(b:Bool),vs=[.ref q1,.ref q2,.bl b]/\xl H q1 x t/\jr x t/\xl H q2 y t2/\jr y t2/\sZ H (bG x y b t) Q
theorem Us(F:aA K "_law_moved" "_law_moved" QY f fd)(O:Own mg)(gC:Def P w K mg M 3 "_law_amount_of" ["_law_one"] (yR K))(gj:Def P w K mg M 1 "_law_text_in" ["_law_content_here","_law_size","_law_right_here"] wO)(hZ:Def P w K mg M 1 "_law_content" ["_law_shows","_law_before","_law_behind","_law_amount"] (WQ K))(hU:Def P w K mg M 2 "_law_edit" ["_law_parts","_law_amount"] (Xc K)):
  ag P w K mg M (ao P w) 4 f fd ["_law_one","_law_two","_law_right_here"] (jw K):=by
 refine okN F Q0 (λvs H Q E h=>?_) (λad A L s H vs Q E hr h=>?_)
 .obtain⟨q1,q2,x,y,t,t2,b,rfl,_⟩:=h;rfl
 .obtain⟨q1,q2,x,y,t,t2,b,rfl,bh,G1,Eh,G2,k⟩:=h;obtain⟨u5,Ha,h5⟩:=QdH (P:=P) (w:=w) (K:=K) (M:=M) (f:=f) (L:=L) (H:=H) (E:=E) O gC gj hZ hU hr;obtain⟨u4,Hb,h4⟩:=QdF (P:=P) (w:=w) (K:=K) (M:=M) (f:=f) (L:=L) (H:=H) (E:=E) O gj hr Ha;obtain⟨u3,sB,h3⟩:=QdE (P:=P) (w:=w) (K:=K) (M:=M) (f:=f) (L:=L) (H:=H) (E:=E) hr Hb;refine⟨_,(aN.ps (Qg (aO.mk (Jk (pv 0) (Q5 Z (Qf (Z' 3 Q0.nd) (Qf (Z' 4 Q0.nd) (Qf (Z' 5 Q0.nd) (Qf (Z' 6 Q0.nd) QD)))))))
   (Qg (aO.mk (Jk (pv 1) (Q5 Z (Qf (Z' 7 Q0.nd) (Qf (Z' 8 Q0.nd) (Qf (Z' 9 Q0.nd) (Qf (Z' 10 Q0.nd) QD)))))))
   (aN.mk sB)))),?_⟩
  obtain⟨v5,g1,rv⟩:=bh.parts;obtain⟨v9,g2,Eg⟩:=Eh.parts;exists _,Z,q1,_,Z,aj.of g1,Z,_,_,Z,_,_,Z,_,_,Z,_,_,Z,Z;exists _,Z,q2,_,Z,aj.of g2,Z,_,_,Z,_,_,Z,_,_,Z,_,_,Z,Z;refine h3 _ _ _ _ _ _ _ _ _ _ _ _ _ x y v5 t b rv k λH1 S1 dC h0=>?_;refine h4 _ _ _ _ _ _ _ _ _ _ _ _ x y t t2 b dC G1 G2 (k.step S1) λEf H2 S2=>?_;have AC:=S1.trans S2;exact h5 _ _ _ _ _ _ _ _ _ _ q1 x y v9 t t2 b dC h0 Ef (bh.same AC) G1 (Eg.same AC) G2 (k.step AC)
end
end Lw
namespace L2
open PySem PySem.Spec PyProof.Rows
inductive cj (m:Sem (List (Str × Value))) (n:Sem (Option Value)) (v:Value) (b:List (Str × Value)):Prop where
 |mk {σ τ:Type} (g1:Option Value->Sem σ) (g2:σ->Sem τ) (g3:τ->Sem (List (Str × Value))) (h1:m=Sem.bind (Sem.bind (Sem.bind n g1) g2) g3) (h2:Sem.bind (Sem.bind (g1 (some v)) g2) g3=pure b):cj m n v b
theorem cj.binds{fd:FuncData}{args:Args}{binds:List (Str × Value)}{kd:Addr}{name:Str}(B:cj (bindArgs fd args) (nsGet kd name) v binds)(hn:s.heap.Ns kd m)(hv:m name=some v):BindsTo s fd args binds:=by
 obtain⟨g1,g2,g3,h1,h2⟩:=B;refine yx (k:=λo=>(g1 o>>=g2)>>=g3) (h1.trans ?_) hn hv h2;show(nsGet kd name>>=g1>>=g2)>>=g3=nsGet kd name>>=λo=>(g1 o>>=g2)>>=g3;rw[bind_assoc,bind_assoc]
 congr 1
 funext o
 rw[bind_assoc]
section
variable {P:Program}{w:World}{K:Frag}{mg:Str->Option Value}{M h:Heap}{x:Str}{st:Stmt}{k:Nat}{sp:Sp}
theorem aY.QfG(D:aY K x st p4 (.bool b))(X:K.In h)(G:h.Ns mainGlobals mg)(ai:∀f fd,aA K x x st f fd->ag P w K mg M (ao P w) k f fd [p1,p2,p3,p4] sp)
  (hb:∀(kd:Addr)(doc pm:Value)(an:Option Addr)(ad ct:Value)(u1 u2 u3:Value),cj (bindArgs (fnOf x x (J1 st) (QK st) (Qe st) .none (.ref kd) doc pm an ad ct) ⟨[u1,u2,u3],[]⟩) (nsGet kd p4) (.bool b) [(p1,u1),(p2,u2),(p3,u3),(p4,.bool b)]):fu P w K mg M k x [p1,p2,p3,p4] (.bl b) sp:=by
 obtain⟨f,kd,oc,od,doc,pm,an,ad,ct,on,a,l,c,kp,n,d⟩:=D.ex;refine⟨f,_,.bool b,mg_of X G a,kp,λs us KX hl=>?_,Z,ai f _ ⟨⟨oc,od,.ref kd,doc,pm,an,ad,ct,on,Z,l,c⟩,kp⟩⟩;have Nk:s.heap.Ns kd (s.heap.nsMap kd):=.of_isNs (isNs_of_in KX n);have h3:us.length=3:=by simpa using hl
 match us,h3 with
 |[u1,u2,u3],_=>exact(hb kd doc pm an ad ct u1 u2 u3).binds Nk (Lx KX Nk d)
end
theorem Qb1{K:Frag}{n:Nat}(l:K.lookup N=some ⟨c,d,.dict es n,sl⟩)(h:(es.toList.all λe=>match e.key with| .str _ _=>true|_=>false)=true):nsOkIn K N=true:=by
 unfold nsOkIn;rw[l];show Array.all es _=true;rw[<-Array.all_toList];exact h
structure bM(P:Program)(w:World)(K:Frag)(mg:Str->Option Value)(M:Heap)(k:Nat)(x p1 p2 p3 p4:Str)(dv:V)(sp:Sp):Prop where
 ex:∃f fd d,mg x=some (.ref f)/\keepIn K (.ref f)=true/\(∀(s:Shared)(v1 v2 v3:Value),K.In s.heap->BindsTo s fd ⟨[],[(p1,v1),(p2,v2),(p3,v3)]⟩ [(p1,v1),(p2,v2),(p3,v3),(p4,d)])/\RelV dv d/\ag P w K mg M (ao P w) k f fd [p1,p2,p3,p4] sp
section
variable {X:Cx}{k k':Nat}{x p1 p2 p3 p4:Str}{dv:V}{sp:Sp}{E:XK}{p pos k1 k2 k3:Pos}{e1 e2 e3:Expr}{t1 t2 t3:TE}
def Ut(sp:Sp)(dv:V)(E:XK)(t1 t2 t3:TE):TE:=λσ H Q=>t1 σ H λv1 H1=>t2 σ H1 λv2 H2=>t3 σ H2 λv3 H3=>sp [v1,v2,v3,dv] H3 Q E
theorem bM.pe(D:bM X.prog X.w X.K X.mg X.M k x p1 p2 p3 p4 dv sp)(hr:aq k' X.A)(hk:k<=k')(hg:Gl X x)(hx:Passes (ao X.prog X.w) X E)(h1:PE X e1 t1)(h2:PE X e2 t2)(h3:PE X e3 t3)
  (pr:(x==("__debug__":Str))=false:=by lia):PE X (.Call (.Name x p) [] [⟨some p1,e1,k1⟩,⟨some p2,e2,k2⟩,⟨some p3,e3,k3⟩] pos) (Ut sp dv E t1 t2 t3):=by
 obtain⟨f,fd,d,g1,g2,g3,g5,g4⟩:=D.ex;intro U s σ H Q I h;refine yaZ (XV I hg g1 ?_ pr);refine callWith_KW0 (h₀:=X.M) I.ok.mod.iQ g2 rfl ?_ rfl;have hK:PK X [⟨some p1,e1,k1⟩,⟨some p2,e2,k2⟩,⟨some p3,e3,k3⟩] (Jy t1 (Jy t2 (Jy t3 Ww))):=YH h1 (YH h2 (YH h3 yY));refine av (hK pos U s σ H (λzs H2=>sp (zs++[dv]) H2 Q E) I h) λws s2⟨zs,H2,I2,rz,q2⟩=>⟨I2.bz,?_⟩;have hlz:=g4.len _ _ _ _ q2;obtain⟨v1,v2,v3,rfl⟩:∃v1 v2 v3,zs=[v1,v2,v3]:=by
  have:zs.length=3:=by simpa using hlz
  match zs,this with
  |[v1,v2,v3],_=>exact⟨v1,v2,v3,Z⟩
 obtain⟨u1,u2,u3,rfl,r1,r2,r3⟩:∃u1 u2 u3,ws=[u1,u2,u3]/\RelV v1 u1/\RelV v2 u2/\RelV v3 u3:=by
  cases rz with
  |cons a r=>
   cases r with
   |cons b r=>
    cases r with
    |cons c r=>cases r;exact⟨_,_,_,Z,a,b,c⟩
 refine ydi (ycy (g4.run X.A X.stack s2 H2 ⟨[],[(p1,u1),(p2,u2),(p3,u3)]⟩ [u1,u2,u3,d] [v1,v2,v3,dv] Q E (hr.mono hk) I2.Dw (g3 s2 u1 u2 u3 I2.bz) (.cons r1 (.cons r2 (.cons r3 (.cons g5 .nil)))) q2) λr s' hq=>?_);cases r with
 |error e=>exact hx U σ H2 s2 e s' I2 hq
 |ok fl=>
  cases fl with
  |ret u=>exact I2.after hq
  |next=>exact False.elim hq
  |brk=>exact False.elim hq
  |cont=>exact False.elim hq
end
section
variable {P:Program}{w:World}{K:Frag}{mg:Str->Option Value}{M h:Heap}{x:Str}{st:Stmt}{k:Nat}{sp:Sp}
theorem aY.QdI(D:aY K x st p4 (.bool b))(X:K.In h)(G:h.Ns mainGlobals mg)(ai:∀f fd,aA K x x st f fd->ag P w K mg M (ao P w) k f fd [p1,p2,p3,p4] sp)
  (hb:∀(kd:Addr)(doc pm:Value)(an:Option Addr)(ad ct:Value)(u1 u2 u3:Value),cj (bindArgs (fnOf x x (J1 st) (QK st) (Qe st) .none (.ref kd) doc pm an ad ct) ⟨[],[(p1,u1),(p2,u2),(p3,u3)]⟩) (nsGet kd p4) (.bool b) [(p1,u1),(p2,u2),(p3,u3),(p4,.bool b)]):bM P w K mg M k x p1 p2 p3 p4 (.bl b) sp:=by
 obtain⟨f,kd,oc,od,doc,pm,an,ad,ct,on,a,l,c,kp,n,d⟩:=D.ex;refine⟨f,_,.bool b,mg_of X G a,kp,λs u1 u2 u3 KX=>?_,Z,ai f _ ⟨⟨oc,od,.ref kd,doc,pm,an,ad,ct,on,Z,l,c⟩,kp⟩⟩;have Nk:s.heap.Ns kd (s.heap.nsMap kd):=.of_isNs (isNs_of_in KX n);exact(hb kd doc pm an ad ct u1 u2 u3).binds Nk (Lx KX Nk d)
end
end L2
namespace Lw
open PySem PySem.Spec PyProof.Rows L2 bj aQ bY aJ AI
open Builtin Builtin.Str StrLaws
noncomputable def qq:Str:=(envOfC "law" (Qe W2) 0 0 .none).qual++"<lambda>"
def He(Pa:Addr):Sp:=λvs H Q _=>∃(a:Addr)(ns:List Int),vs=[.ref a]/\ns.length<=63/\vx Pa H/\(∃o,H a=some (.bR o (.lst (ns.map V.int))))/\∀H',Q (.bl true) H'
theorem Qb3(h:H P=some (.bT #[])):V9 H P q:=⟨#[],h,trivial,λpos cv z=>by cases z⟩
theorem QdJ(h:cg x t=.er k):k=5\/k=6\/k=7:=by
 cases x with
 |num s a b=>
  have e:cg (.num s a b) t=if 0<b then Rs.er 7 else match KH (.num s a b) t with|none=>Rs.er 5|some (u,_)=>Rs.ok (pad u.natAbs a):=rfl
  rw[e]at h
  split at h
  .cases h;exact .inr (.inr Z)
  .split at h
   .cases h;exact .inl rfl
   .cases h
 |aV Y first W N ac tail=>cases h
 |aH n=>cases h
 |txt n=>cases h
theorem L5(h:bG x y b t=.er k):k=5\/k=6\/k=7:=by
 unfold bG at h
 split at h
 .cases h;exact .inr (.inr Z)
 .split at h
  .split at h
   .cases h;exact .inl rfl
   .cases h
  .split at h
   .rename_i e;cases h;exact QdJ e
   .split at h
    .cases h;exact .inr (.inl Z)
    .cases h
theorem zo{K:Frag}{H:Hp}{Q:VK}{ns:List Int}{cc:Int}{q:Str}{rs:Rs}(St:aw H a t r Pa q ns cc)(hk:∀k,rs=.er k->k=5\/k=6\/k=7) (G5:Kind K c 5) (G6:Kind K c 6) (G7:Kind K c 7)
  (fe:∀(E:XK)(H0:Hp)(Q':VK),(∀b o,H b=some o->(∀ps,o≠ .bT ps)->H0 b=some o)->(∀k,rs=.er k->∀H',Qs H0 H'->E (.ref (c k)) none H')->(∀l,rs=.ok l->∀H',Qs H0 H'->Q' (.str (tx l)) H')->te E σ H0 Q')
  (k:∀pw H',aw H' a t r Pa q ns cc->H' pw=some (.tup (AR rs))->(∀b o,H b=some o->(∀ps,o≠ .bT ps)->H' b=some o)->Q (.ref pw) H'):
  DI Pa q (λσ f c' H1 Q=>H1 c'=some (KP c' q)/\DZ K c te σ H1 Q) σ H Q:=by
 refine⟨St.tab,λfl c' H1 un code T1 keep=>⟨code,λH2 S2=>fe _ _ _ (λb o e n=>S2 _ _ (St.zL keep e n)) (λi hi H3 S3=>?_) (λl hl H3 S3 pw Dd=>?_)⟩⟩
 .have G:Kind K c i/\AR (.er i)=[.str (oA i)]:=by
   rcases hk i hi with rfl|rfl|rfl
   .exact⟨G5,Z⟩
   .exact⟨G6,Z⟩
   .exact⟨G7,Z⟩
  refine⟨i,Z,G.1,λex pw H4 hex S4 Dd=>?_⟩;have Sx:=S2.trans (S3.trans ((Qs.new hex).trans S4));have Sp:=Qs.new (o:=.tup [.str (oA i)]) Dd;exact k pw _ (((St.lam keep T1).same Sx).same Sp) (by rw[Qd,hi,G.2]) (λb o e n=>Sp _ _ (Sx _ _ (St.zL keep e n)))
 .have Sx:=S2.trans S3;have Sp:=Qs.new (o:=.tup [.str "told",.str (tx l)]) Dd;exact k pw _ (((St.lam keep T1).same Sx).same Sp) (by rw[Qd,hl];rfl) (λb o e n=>Sp _ _ (Sx _ _ (St.zL keep e n)))
theorem zp{K:Frag}{H:Hp}{Q:VK}{ns:List Int}{cc:Int}{q:Str}(i:Nat)(St:aw H a t r Pa q ns cc)(G:Kind K c i)
  (fe:∀(E:XK)(H0:Hp)(Q':VK),(∀H',Qs H0 H'->E (.ref (c i)) none H')->te E σ H0 Q')
  (k:∀pw H',aw H' a t r Pa q ns cc->H' pw=some (.tup [.str (oA i)])->Q (.ref pw) H'):
  DI Pa q (λσ f c' H1 Q=>H1 c'=some (KP c' q)/\DZ K c te σ H1 Q) σ H Q:=by
 refine⟨St.tab,λfl c' H1 un code T1 keep=>⟨code,λH2 S2=>fe _ _ _ λH3 S3=>⟨i,Z,G,λex pw H4 hex S4 Dd=>?_⟩⟩⟩;have Sx:=S2.trans (S3.trans ((Qs.new hex).trans S4));have Sp:=Qs.new (o:=.tup [.str (oA i)]) Dd;exact k pw _ (((St.lam keep T1).same Sx).same Sp) Qd
theorem wR{K:Frag}{H:Hp}{n:Nat}(r:Rs):bH K H n (AR r) (AR r):=by
 unfold AR
 split
 .exact .cons .str (.cons .str .nil)
 .exact .cons .str .nil
 .exact .cons .str .nil
 .exact .cons .str .nil
theorem xl.keep(h:xl H q x t)(k:∀b xs,H b=some (.tup xs)->H' b=some (.tup xs)):xl H' q x t:=by
 cases x with
 |num s a b=>obtain⟨rr,g1,g2⟩:=h;exact⟨rr,k _ _ g1,k _ _ g2⟩
 |aV Y first W N ac tail=>obtain⟨rr,g1,g2⟩:=h;exact⟨rr,k _ _ g1,k _ _ g2⟩
 |aH n=>exact k _ _ h
 |txt n=>exact k _ _ h
theorem XS(hE:∀cls x H,E cls x H->E' cls x H) (hQ:∀v H,Q v H->Q' v H) (h:ZM c vs H Q E):ZM c vs H Q' E':=by
 obtain⟨t,l,l2,b,e,h1,h2,h3,h4,h5⟩:=h;exists t,l,l2,b,e,h1,h2,h3,h4;rcases h5 with⟨p,k⟩|⟨p,q,k⟩|⟨x,y,B,B2,kE,kQ⟩
 .exact .inl ⟨p,λH' S=>hE _ _ _ (k H' S)⟩
 .exact .inr (.inl ⟨p,q,λH' S=>hE _ _ _ (k H' S)⟩)
 .exact .inr (.inr ⟨x,y,B,B2,λk z H' S=>hE _ _ _ (kE k z H' S),λr z H' S=>hQ _ _ (kQ r z H' S)⟩)
theorem L6:("1":Str)=tx [49]:=by rfl'
theorem e_Q:("Q":Str)=tx [81]:=by rfl'
theorem QfH:("9V":Str)=tx [57,86]:=by rfl'
theorem QdM:("012u":Str)=tx [48,49,50,117]:=by rfl'
theorem QeW:("S9(3)V9":Str)=tx [83,57,40,51,41,86,57]:=by rfl'
theorem QeX:("-ZZ9.99":Str)=tx (QU [45] [90,90] [57] [57,57] []):=by rfl'
theorem edM:Ed [45] 90 [90,90] [57] [57,57] []:=⟨⟨Z,by lia,by lia⟩,.inr ⟨by lia,Z,by lia,by lia⟩,by lia,by lia,.inr ⟨1,57,by lia,Z,.inl rfl⟩,by lia,by lia,by lia,by lia,by lia,by lia⟩
theorem pQ:Q9 [81]=none:=by rfl'
theorem p9V:Q9 [57,86]=none:=by rfl'
theorem pX:Q9 [88]=some ⟨0,false,0,0⟩:=by rfl'
theorem QfI:Q9 [83,57,40,51,41,86,57]=some ⟨2,true,3,1⟩:=by rfl'
noncomputable def L7:Rs->List Nat
 | .ok t=>t
 | .er k=>[k]
noncomputable def isOk:Rs->Bool
 | .ok _=>true
 | .er _=>false
theorem L8(h:isOk r=true):r=.ok (L7 r):=by
 cases r with
 |ok t=>rfl
 |er k=>cases h
theorem L9:isOk (bG (.num true 3 1) (.aV [45] 90 [90,90] [57] [57,57] []) false [48,49,50,117])=true:=by rfl'
theorem QdO:decide (V.str (tx (L7 (bG (.num true 3 1) (.aV [45] 90 [90,90] [57] [57,57] []) false [48,49,50,117])))=V.str "- 12.50")=true:=by rfl'
section
variable {P:Program}{w:World}{K:Frag}{mg:Str->Option Value}{M:Heap}{f fh:Addr}{fd Ei:FuncData}{tk:Nat->Tok}{c kr:Nat->Addr}{ca Pa:Addr}
theorem QdP(F:se K "law" "law" W2 f fd (.ref ca))(O:Own mg)(T:Txt K mg tk c kr)(qLa:b8 mg M ca Pa)(Fh:aA K "_law_heard" "_law_heard" JQ fh Ei)(Ej:mg "_law_heard"=some (.ref fh))(AU:Binds K Ei ["_law_deed"] [])(G1:Kind K c 1)(G5:Kind K c 5)(G6:Kind K c 6)(G7:Kind K c 7)
  (gi:Def P w K mg M 1 "_law_class" ["_law_kept"] (V5 K c)) (mY:Def P w K mg M 1 "_law_begun" [] qK) (hJ:Def P w K mg M 1 "_law_draw" ["_law_script","_law_town","_law_many"] (Z2 K))
  (ma:Def P w K mg M 4 "_law_a_box" ["_law_script","_law_town"] (wP K)) (mZ:Def P w K mg M 4 "_law_moved" ["_law_one","_law_two","_law_right_here"] (jw K))
  (pB:fu P w K mg M 10 "move" ["content","picture","other","right"] (.bl false) (ZM c)) (pJ:bL P w K mg M 10 "move" ["content","picture","other","right"] ["right"] (ZM c)) (sK:bM P w K mg M 10 "move" "content" "picture" "other" "right" (.bl false) (ZM c)):
  ag P w K mg M (ao P w) 13 f fd ["_law_script"] (He Pa):=by
 refine Oc F VN (λvs H Q E h=>?_) (λA L s H vs Q E hr h=>?_)
 .obtain⟨a,ns,rfl,_⟩:=h;rfl
 .obtain⟨a,ns,rfl,hln,hO,hsc,k⟩:=h;have De:∀(σ:L2.St)(H:Hp)(Q Q':VK)(E E':XK),(∀cls x H,E cls x H->E' cls x H)->(∀v H,Q v H->Q' v H)->jC (ZM c) oz E (Jy (bc (qw K) (ZN 4) (tC (.int 3))) (Jy (bc (qw K) (ZN 4) (tC (.int 0))) (Jy (bc (qw K) (ZN 6) (tC (.int 0))) Ww))) (Jy (ZN 5) Ww) σ H Q->jC (ZM c) oz E' (Jy (bc (qw K) (ZN 4) (tC (.int 3))) (Jy (bc (qw K) (ZN 4) (tC (.int 0))) (Jy (bc (qw K) (ZN 6) (tC (.int 0))) Ww))) (Jy (ZN 5) Ww) σ H Q':=by
   rintro σ H Q Q' E E' hE hQ ⟨v1,e1,p1,Hf,i1,x1,a1,b1,c1,d1,v2,e2,p2,Hg,i2,x2,a2,b2,c2,d2,v3,e3,p3,Hh,i3,x3,a3,b3,c3,d3,v4,e4,sp⟩;exact⟨v1,e1,p1,Hf,i1,x1,a1,b1,c1,d1,v2,e2,p2,Hg,i2,x2,a2,b2,c2,d2,v3,e3,p3,Hh,i3,x3,a3,b3,c3,d3,v4,e4,XS hE hQ sp⟩
  have Df:∀(σ:L2.St)(H:Hp)(Q Q':VK)(E E':XK),(∀cls x H,E cls x H->E' cls x H)->(∀v H,Q v H->Q' v H)->Ut (ZM c) (.bl false) E (bc (qw K) (ZN 4) (tC (.int 3))) (bc (qw K) (ZN 4) (tC (.int 0))) (bc (qw K) (ZN 6) (tC (.int 0))) σ H Q->Ut (ZM c) (.bl false) E' (bc (qw K) (ZN 4) (tC (.int 3))) (bc (qw K) (ZN 4) (tC (.int 0))) (bc (qw K) (ZN 6) (tC (.int 0))) σ H Q':=by
   rintro σ H Q Q' E E' hE hQ ⟨v1,e1,p1,Hf,i1,x1,a1,b1,c1,d1,v2,e2,p2,Hg,i2,x2,a2,b2,c2,d2,v3,e3,p3,Hh,i3,x3,a3,b3,c3,d3,sp⟩;exact⟨v1,e1,p1,Hf,i1,x1,a1,b1,c1,d1,v2,e2,p2,Hg,i2,x2,a2,b2,c2,d2,v3,e3,p3,Hh,i3,x3,a3,b3,c3,d3,XS hE hQ sp⟩
  have Dg:∀(σ:L2.St)(H:Hp)(Q Q':VK)(E E':XK),(∀cls x H,E cls x H->E' cls x H)->(∀v H,Q v H->Q' v H)->Wx (ZM c) [.bl false] E (Jy (tC (.str "1")) (Jy (tC (.str "Q")) (Jy (tC (.str "X")) Ww))) σ H Q->Wx (ZM c) [.bl false] E' (Jy (tC (.str "1")) (Jy (tC (.str "Q")) (Jy (tC (.str "X")) Ww))) σ H Q':=λσ H Q Q' E E' hE hQ sp=>XS hE hQ sp;have Dh:∀(σ:L2.St)(H:Hp)(Q Q':VK)(E E':XK),(∀cls x H,E cls x H->E' cls x H)->(∀v H,Q v H->Q' v H)->Wx (ZM c) [.bl false] E (Jy (tC (.str "1")) (Jy (tC (.str "X")) (Jy (tC (.str "9V")) Ww))) σ H Q->Wx (ZM c) [.bl false] E' (Jy (tC (.str "1")) (Jy (tC (.str "X")) (Jy (tC (.str "9V")) Ww))) σ H Q':=λσ H Q Q' E E' hE hQ sp=>XS hE hQ sp;refine⟨_,(Qg (aO.mk (QN (i:=1) VN.nd Z (Or.inl Z) (mY.NX hr (by lia) Z Qy)))
   (Qg (aO.mk (Vo yaG Z (XX Z O.range (Qa Qi Qb)) (Z' 2 VN.nd) (Qj (QN (i:=4) VN.nd Z (Or.inr Z) (ma.pq hr Qy (Qa (pv 0) (Qa (pv 1) Qb))))
   (Qj (QN (i:=6) VN.nd Z (Or.inr Z) (ma.pq hr Qy (Qa (pv 0) (Qa (pv 1) Qb))))
   (Qj (QN (i:=5) VN.nd Z (Or.inr Z) (J0 Ja (hJ.pq hr Qy (Qa (pv 0) (Qa (pv 1) (Qa Qi Qb)))) Qi (Qn _)))
   (Qj (QN (i:=3) VN.nd Z (Or.inl Z) (Vj (K0:=K) (q:=qq) Z Fh Ej AU T gi hr Z qLa Z Z Z (λ_=>rfl) Z Z Z (by rfl') Z (λ_ _ _ _=>rfl) (λ_ _ _ _ _ _ _ _ SZ=>(pJ.pe SZ (by lia) Z (Jb Vb) (Qa (QS Jl (pv 4) Qi (λ_ _=>rfl)) (Qa (QS Jl (pv 4) Qi (λ_ _=>rfl)) (Qa (QS Jl (pv 6) Qi (λ_ _=>rfl)) Qb))) (YH (pv 5) yY))) De))
   (Qj (JP (Ql (jL (n:=1) (qJ hr)) (pv 3) (mZ.pq hr Qy (Qa (pv 4) (Qa (pv 6) (Qa (pv 5) Qb)))) (Qn _)) (Qp (QG WZ)) QQ)
   (Qp (JP (PW.pt (Jn (Kz (Je (pv 5) (λ_=>rfl))) (Jd (Ql (jL (n:=1) (qJ hr)) (Vj (K0:=K) (q:=qq) Z Fh Ej AU T gi hr Z qLa Z Z Z (λ_=>rfl) Z Z Z (by rfl') Z (λ_ _ _ _=>rfl) (λ_ _ _ _ _ _ _ _ SZ=>(sK.pe SZ (by lia) Z (Jb Vb) (QS Jl (pv 4) Qi (λ_ _=>rfl)) (QS Jl (pv 4) Qi (λ_ _=>rfl)) (QS Jl (pv 6) Qi (λ_ _=>rfl)))) Df) (pv 3) (Qn _))))) (Qp (QG WZ)) QQ)))))))))
   (Qg (aO.mk (JP (Ql (jL (n:=1) (qJ hr)) (Vj (K0:=K) (q:=qq) Z Fh Ej AU T gi hr Z qLa Z Z Z (λ_=>rfl) Z Z Z (by rfl') Z (λ_ _ _ _=>rfl) (λ_ _ _ _ _ _ _ _ SZ=>(pB.pe SZ (by lia) Z (Jb Vb) (Qa Qc (Qa Qc (Qa Qc Qb))))) Dg) (Jf (Qa Qc Qb)) (Qn _)) (Qp (QG WZ)) QQ))
   (Qg (aO.mk (JP (Ql (jL (n:=1) (qJ hr)) (Vj (K0:=K) (q:=qq) Z Fh Ej AU T gi hr Z qLa Z Z Z (λ_=>rfl) Z Z Z (by rfl') Z (λ_ _ _ _=>rfl) (λ_ _ _ _ _ _ _ _ SZ=>(pB.pe SZ (by lia) Z (Jb Vb) (Qa Qc (Qa Qc (Qa Qc Qb))))) Dh) (Jf (Qa Qc Qb)) (Qn _)) (Qp (QG WZ)) QQ))
   (Qr (aO.mk (QG (J0 Ja (pB.pe hr (by lia) Z Qy (Qa Qc (Qa Qc (Qa Qc Qb)))) Qc (Qn _))))))))),?_⟩
  have hz:=zza
  refine⟨Z,λt r H1 ht dq T1 S1=>?_⟩;have L':aw H1 a t r Pa qq ns 0:=⟨let ⟨o,h⟩:=hsc;⟨o,S1 _ _ h⟩,⟨[],T1⟩,(Qb3 hO.1).same S1,hln⟩;refine⟨8,Z,by lia,by lia,XY (n:=8) (λi σ H3=>∃x2 x3 x4 x5 x6 c3,σ=[some (.ref a),some (.ref t),x2,x3,x4,x5,x6]/\aw H3 a t r Pa qq ns c3/\c3<=1000*i)
   ⟨none,none,none,none,none,0,Z,L',by lia⟩ ?_ ?_⟩
  .rintro i σ H2 hi ⟨x2,x3,x4,x5,x6,c2,rfl,Di,l4⟩;refine⟨_,Z,_,Z,a,t,r,ns,c2,Z,Di.Fv,by lia,λx tt q c3 H3 bh bg hq B3 sN A3=>?_⟩;obtain⟨oC,T3⟩:=B3.tw;have Ek:=Di.drawn A3 T3;refine⟨_,Z,_,Z,a,t,r,ns,c3,Z,Ek.Fv,by lia,λy t2 q2 c4 H4 Eh Ma EQ B4 SG A4=>?_⟩;obtain⟨CI,T4⟩:=B4.tw;have Ab:=Ek.drawn A4 T4;have Mb:=bh.keep λb xs e=>Ek.tup A4 e;refine Ab.Fv.draw (K:=K) (n:=3) rfl rfl (λR h=>h) (by lia) (by lia) (by lia) λd5 H5 Gx B5 A5=>?_;obtain⟨rs5,T5⟩:=B5.tw;have Dj:=Ab.drawn A5 T5;have Hi:=Mb.keep λb xs e=>Ab.tup A5 e;have Ac:=Eh.keep λb xs e=>Ab.tup A5 e;exists Z;generalize decide (V.int (d5:Nat)=V.int 0)=b;obtain⟨l1,Mc,p1,_⟩:=bg.len;obtain⟨B1,lb1⟩:=bg.at;obtain⟨B2,lb2⟩:=Ma.at;clear B3 B4 B5 A3 A4 A5 T3 T4 T5 bh Mb Eh L' Di Ek Ab;dsimp only[JI,Wt,Wu,Ux];refine zo (rs:=bG x y b tt) Dj (λk hk=>L5 hk) G5 G6 G7 (λE H0 Q' keep kE kQ=>?_) λpw H6 Hj gw fF=>?_
   .have Hl:=Hi.keep λbb xs e=>keep _ _ e (λ_ z=>nomatch z);have Ad:=Ac.keep λbb xs e=>keep _ _ e (λ_ z=>nomatch z);obtain⟨v5,g1,_⟩:=Hl.parts;obtain⟨v9,g2,_⟩:=Ad.parts;exact⟨_,Z,q,_,_,_,Z,Z,aj.of g1,Z,_,Z,q,_,_,_,Z,Z,aj.of g1,Z,_,Z,q2,_,_,_,Z,Z,aj.of g2,Z,_,Z,tt,sU x,sU y,b,Z,by lia,by lia,by lia,Mc,.inr (.inr ⟨x,y,B1,B2,kE,kQ⟩)⟩
   have Hm:=Hi.keep λbb xs e=>fF _ _ e (λ_ z=>nomatch z);have Ae:=Ac.keep λbb xs e=>fF _ _ e (λ_ z=>nomatch z);refine⟨_,Z,_,Z,_,Z,_,Z,q,q2,x,y,tt,t2,b,Z,Hm,bg,Ae,Ma,λpm H7 S7 GF gm=>?_⟩;refine Vc (aj.of (S7 _ _ gw)) (aj.of gm) (wR _) ⟨_,Z,QW ?_⟩;have Md:=Hj.same S7;have bh7:=Hm.same S7;have Hn:=Ae.same S7;have gw7:=S7 _ _ gw;clear Hi Ac Hm Ae Dj Hj S7 gw gm fF;exists _,Z,b,Z;cases b with
   |true=>exact QW (QW ⟨_,_,_,_,_,_,Z,Md,by lia⟩)
   |false=>
    refine Q4 ?_;refine zo (rs:=bG x y false tt) Md (λk hk=>L5 hk) G5 G6 G7 (λE H0 Q' keep kE kQ=>?_) λpw2 H8 St8 Ho Dk=>?_
    .have Hl:=bh7.keep λbb xs e=>keep _ _ e (λ_ z=>nomatch z);have Ad:=Hn.keep λbb xs e=>keep _ _ e (λ_ z=>nomatch z);obtain⟨v5,g1,_⟩:=Hl.parts;obtain⟨v9,g2,_⟩:=Ad.parts;exact⟨_,Z,q,_,_,_,Z,Z,aj.of g1,Z,_,Z,q,_,_,_,Z,Z,aj.of g1,Z,_,Z,q2,_,_,_,Z,Z,aj.of g2,Z,tt,sU x,sU y,false,Z,by lia,by lia,by lia,Mc,.inr (.inr ⟨x,y,B1,B2,kE,kQ⟩)⟩
    exists _,Z;refine Vc (aj.of Ho) (aj.of (Dk _ _ gw7 (λ_ z=>nomatch z))) (wR _) ⟨_,Z,QW ?_⟩;exact⟨_,_,_,_,_,_,Z,St8,by lia⟩
  .rintro σ H2 ⟨x2,x3,x4,x5,x6,c2,rfl,Di,l4⟩;dsimp only[JI,Wt,Wu,Ux];refine zp 1 Di G1 (λE H0 Q' h=>⟨[49],[81],[88],false,by show[V.str "1",V.str "Q",V.str "X",V.bl false]=_;rw[L6,e_Q,Ea],by lia,by lia,by lia,by lia,.inl ⟨pQ,h⟩⟩) λpw H4 Ab gw=>?_;refine⟨bN,λpz hpz=>?_⟩;have Sz:=Qs.new (o:=.tup [.str "no picture"]) hpz;refine Vc (aj.of (Sz _ _ gw)) (aj.of Qd) (.cons .str .nil) ⟨_,Z,QW ?_⟩;have Dj:=Ab.same Sz;generalize upd H4 pz (.tup [.str "no picture"])=H5 at Dj;refine zp 1 Dj G1 (λE H0 Q' h=>⟨[49],[88],[57,86],false,by show[V.str "1",V.str "X",V.str "9V",V.bl false]=_;rw[L6,QfH,Ea],by lia,by lia,by lia,by lia,.inr (.inl ⟨⟨_,pX⟩,p9V,h⟩)⟩) λpw2 H6 Hj Ho=>?_;refine⟨bN,λpz2 Hq=>?_⟩;have Sz2:=Qs.new (o:=.tup [.str "no picture"]) Hq;refine Vc (aj.of (Sz2 _ _ Ho)) (aj.of Qd) (.cons .str .nil) ⟨_,Z,QW ?_⟩;rw[QdM,QeW,QeX];refine⟨_,_,_,false,Z,by lia,by lia,by lia,by lia,.inr (.inr ⟨.num true 3 1,.aV [45] 90 [90,90] [57] [57,57] [],⟨QfI,by lia,by lia⟩,⟨edM,by lia,Z⟩,λk hk=>?_,λrr fm H9 S9=>?_⟩)⟩
   .rw[L8 L9]at hk;cases hk
   .have e:=fm.symm.trans (L8 L9);cases e;exists Z;rw[QdO];exact k _
end
end Lw
namespace L2
open PySem PySem.Spec PyProof.Rows
section
variable {P:Program}{w:World}{K:Frag}{mg:Str->Option Value}{M h:Heap}{x:Str}{st:Stmt}{k:Nat}{sp:Sp}{p1 p2 p3 p4:Str}
theorem af.d0(D:af K x st)(X:K.In h)(G:h.Ns mainGlobals mg)(ai:∀f fd,aA K x x st f fd->ag P w K mg M (ao P w) k f fd [] sp)
  (hb:∀(kV doc pm:Value)(an:Option Addr)(ad ct:Value),bindArgs (fnOf x x (J1 st) (QK st) (Qe st) .none kV doc pm an ad ct) ⟨[],[]⟩=pure []):Def P w K mg M k x [] sp:=
 D.def X G ai λkV doc pm an ad ct us hl=>match us,hl with|[],_=>hb kV doc pm an ad ct
theorem af.d1(D:af K x st)(X:K.In h)(G:h.Ns mainGlobals mg)(ai:∀f fd,aA K x x st f fd->ag P w K mg M (ao P w) k f fd [p1] sp)
  (hb:∀(kV doc pm:Value)(an:Option Addr)(ad ct:Value)(u1:Value),bindArgs (fnOf x x (J1 st) (QK st) (Qe st) .none kV doc pm an ad ct) ⟨[u1],[]⟩=pure [(p1,u1)]):Def P w K mg M k x [p1] sp:=
 D.def X G ai λkV doc pm an ad ct us hl=>match us,hl with|[u1],_=>hb kV doc pm an ad ct u1
theorem af.d2(D:af K x st)(X:K.In h)(G:h.Ns mainGlobals mg)(ai:∀f fd,aA K x x st f fd->ag P w K mg M (ao P w) k f fd [p1,p2] sp)
  (hb:∀(kV doc pm:Value)(an:Option Addr)(ad ct:Value)(u1 u2:Value),bindArgs (fnOf x x (J1 st) (QK st) (Qe st) .none kV doc pm an ad ct) ⟨[u1,u2],[]⟩=pure [(p1,u1),(p2,u2)]):Def P w K mg M k x [p1,p2] sp:=
 D.def X G ai λkV doc pm an ad ct us hl=>match us,hl with|[u1,u2],_=>hb kV doc pm an ad ct u1 u2
theorem af.d3(D:af K x st)(X:K.In h)(G:h.Ns mainGlobals mg)(ai:∀f fd,aA K x x st f fd->ag P w K mg M (ao P w) k f fd [p1,p2,p3] sp)
  (hb:∀(kV doc pm:Value)(an:Option Addr)(ad ct:Value)(u1 u2 u3:Value),bindArgs (fnOf x x (J1 st) (QK st) (Qe st) .none kV doc pm an ad ct) ⟨[u1,u2,u3],[]⟩=pure [(p1,u1),(p2,u2),(p3,u3)]):Def P w K mg M k x [p1,p2,p3] sp:=
 D.def X G ai λkV doc pm an ad ct us hl=>match us,hl with|[u1,u2,u3],_=>hb kV doc pm an ad ct u1 u2 u3
theorem af.d4(D:af K x st)(X:K.In h)(G:h.Ns mainGlobals mg)(ai:∀f fd,aA K x x st f fd->ag P w K mg M (ao P w) k f fd [p1,p2,p3,p4] sp)
  (hb:∀(kV doc pm:Value)(an:Option Addr)(ad ct:Value)(u1 u2 u3 u4:Value),bindArgs (fnOf x x (J1 st) (QK st) (Qe st) .none kV doc pm an ad ct) ⟨[u1,u2,u3,u4],[]⟩=pure [(p1,u1),(p2,u2),(p3,u3),(p4,u4)]):Def P w K mg M k x [p1,p2,p3,p4] sp:=
 D.def X G ai λkV doc pm an ad ct us hl=>match us,hl with|[u1,u2,u3,u4],_=>hb kV doc pm an ad ct u1 u2 u3 u4
end
theorem zq{K:Frag}{xs:List V}{ap:Array Value}{n:Nat}{on:Array (Option Value)}(l:K.lookup a=some ⟨.type "tuple",od,.seq ap n,on⟩)(z:ap.size<=sizeLine)(v:Vals xs ap.toList)(H:Hp):aj K H a xs:=.inr ⟨_,ap,n,l,Z,Z,z,v⟩
theorem wS{K:Frag}{h1 h2:Int}{x1 x2 y1 y2:Str}{t1 t2 u1 u2:Tok}{n:Nat}(ne:(a==sysModules)=false)(l:K.lookup a=some ⟨.type "dict",none,.dict #[⟨h1,.str x1 t1,.str y1 u1⟩,⟨h2,.str x2 t2,.str y2 u2⟩] n, #[]⟩)
  (e1:h1=oK w (.inr x1)) (e2:h2=oK w (.inr x2)) (hx:x1≠x2):aB P w K a [(Sum.inr x1,.str y1),(Sum.inr x2,.str y2)]:=by
 refine⟨ne,λh KX=>⟨[(Sum.inr x1,.str y1 u1),(Sum.inr x2,.str y2 u2)],.cons ⟨Z,_,Z⟩ (.cons ⟨Z,_,Z⟩ .nil),_,_,_,KX a _ l,⟨Z,Z,Z⟩,Z,λe he=>?_,.cons (JS P w x1 t1) rfl (.cons (JS P w x2 t2) Z .nil),?_⟩⟩
 .have he:e=⟨h1,.str x1 t1,.str y1 u1⟩\/e=⟨h2,.str x2 t2,.str y2 u2⟩:=by simpa using he
  rcases he with rfl|rfl
  .exact⟨_,JS P w x1 t1,e1⟩
  .exact⟨_,JS P w x2 t2,e2⟩
 .have hk:¬ (Sum.inr x1:Key)=Sum.inr x2:=λq=>hx (ydk q);simp[hk]
end L2
namespace Lw
open PySem PySem.Spec PyProof.Rows L2 bj aQ bY aJ AI
theorem all_mk{l:PySem.W.OpenLaw}{w:World}{K:Frag}{h:Heap}{fa fl ca R0 R1 R2 R3 R4 R5 R6 R7 R8 R9 dD C0 C1 C2 C3 C4 C5 C6 C7 C8 C9 fG fH fI fJ fK:Addr}{t0 t1 t2 t3 t4 t5 t6 t7 t8 t9:Tok}{oc kV doc pm ct:Value}{od an:Option Addr}{on:Array (Option Value)}(X:K.In h)(G:h.Ns mainGlobals mg)(oo:mg "law"=some (.ref fa))
  (pC:af K "ten_to" YU)
  (m3:af K "is_figures" X6)
  (nA:af K "number_of" KQ)
  (nP:af K "times_at" WF)
  (nY:af K "rows_of" VE)
  (nB:af K "floats_at" KU)
  (nC:af K "places_of" KY)
  (m4:af K "whole_part" X9)
  (mK:af K "broken_part" XN)
  (nZ:af K "lead_of" VF)
  (n4:af K "tail_of" VH)
  (mq:af K "number_facts" Xr)
  (mL:af K "plain_facts" XM)
  (n5:af K "body_of" VG)
  (mr:af K "edited_facts" Xu)
  (nQ:af K "facts_of" WG)
  (m5:af K "understood" Xi)
  (n6:af K "kind_of" Wk)
  (n8:af K "size_of" Wl)
  (p9:af K "room" jQ)
  (mv:af K "quotient_cut" Xq)
  (ua:af K "cut" FG)
  (pD:af K "fitted" YW)
  (m7:af K "figures_of" X7)
  (mM:af K "written_out" XJ)
  (gY:af K "understood_as" Zw)
  (nE:af K "sign_text" KZ)
  (mw:af K "hides_nought" Xx)
  (mO:af K "nought_text" XO)
  (pE:af K "spread" YX)
  (nF:af K "hidden_in" K2)
  (nG:af K "body_text" K1)
  (mx:af K "edited_parts" Xv)
  (pF:af K "edited" Vg)
  (mP:af K "read_edited" ZW)
  (m8:af K "content_of" Xl)
  (nH:af K "amount_in" XQ)
  (n9:af K "as_text" VL)
  (ub:af K "put" vR)
  (mQ:af K "amount_from" ZX)
  (my:af K "figures_from" ZE)
  (nI:af K "_law_draw" K3)
  (m9:af K "_law_begun" Kb)
  (ng:af K "_law_class" Kc)
  (mR:af K "_law_places" XR)
  (nJ:af K "_law_line" K4)
  (gQ:af K "_law_an_edited" ZQ)
  (gR:af K "_law_an_amount" ZP)
  (nK:af K "_law_edit" Jw)
  (gZ:af K "_law_a_number" Z7)
  (mz:af K "_law_content" Xz)
  (ni:af K "_law_a_box" QP)
  (gS:af K "_law_amount_of" Qw)
  (mB:af K "_law_text_in" XA)
  (nj:af K "_law_moved" QY)
  (pK:af K "_law_heard" JQ)
  (k_0:nsIn K mainGlobals "BoxError"=some (some (.ref C0)))
  (Hr:nsIn K mainGlobals "NoPicture"=some (some (.ref C1)))
  (Hs:nsIn K mainGlobals "NoRoom"=some (some (.ref C2)))
  (Ht:nsIn K mainGlobals "NoQuotient"=some (some (.ref C3)))
  (Hu:nsIn K mainGlobals "NoText"=some (some (.ref C4)))
  (Hv:nsIn K mainGlobals "NoFigures"=some (some (.ref C5)))
  (Hw:nsIn K mainGlobals "NoLetters"=some (some (.ref C6)))
  (Hx:nsIn K mainGlobals "NoMove"=some (some (.ref C7)))
  (Hy:nsIn K mainGlobals "NoPath"=some (some (.ref C8)))
  (Hz:nsIn K mainGlobals "NoAmount"=some (some (.ref C9)))
  (tX:nsIn K mainGlobals "NoGroup"=some (some (.ref fG)))
  (tY:nsIn K mainGlobals "BadSize"=some (some (.ref fH)))
  (tZ:nsIn K mainGlobals "NoBack"=some (some (.ref fI)))
  (lg:nsIn K mainGlobals "BadRow"=some (some (.ref fJ)))
  (lh:nsIn K mainGlobals "Closed"=some (some (.ref fK)))
  (gO:nsIn K mainGlobals "FIGURES"=some (some (.str "0123456789" t0)))
  (gL:nsIn K mainGlobals "INSERTED"=some (some (.str ",B0/" t2)))
  (nU:nsIn K mainGlobals "SIGNS"=some (some (.str "+-" t3)))
  (gG:nsIn K mainGlobals "FLOATING"=some (some (.str "+-$" t4)))
  (nu:nsIn K mainGlobals "PLACES"=some (some (.str "9Z*+-$" t5)))
  (gD:nsIn K mainGlobals "LAST_BELOW"=some (some (.str "pqrstuvwxy" t8)))
  (gk:nsIn K mainGlobals "LETTERS_AND_BLANK"=some (some (.str "abcdefghijklmnopqrstuvwxyzABCDEFGHIJKLMNOPQRSTUVWXYZ " t9)))
  (nt:nsIn K mainGlobals "PART"=some (some (.int 18 t1)))
  (gy:nsIn K mainGlobals "MOST_FIGURES"=some (some (.int 18 t6)))
  (gN:nsIn K mainGlobals "MOST_SIGNS"=some (some (.int 60 t7)))
  (gH:nsIn K mainGlobals "NUMBER_FORMS"=some (some (.ref R0)))
  (nM:nsIn K mainGlobals "SHOWN"=some (some (.ref R1)))
  (gF:nsIn K mainGlobals "PLAIN_KINDS"=some (some (.ref R2)))
  (mC:∀H,aj K H R0 [.str "9",.str "S9",.str "V9",.str "SV9",.str "9V9",.str "S9V9"])
  (nN:∀H,aj K H R1 [.str "+",.str "-",.str "CR",.str "DB"])
  (kd:aB l.prog w K R2 U1)
  (gW:nsIn K mainGlobals "BESIDE"=some (some (.ref R3)))
  (pd:aB l.prog w K R3 AE)
  (gX:nsIn K mainGlobals "NOT_BELOW"=some (some (.ref R4)))
  (nk:aB l.prog w K R4 Cm)
  (nV:nsIn K mainGlobals "BELOW"=some (some (.ref R5)))
  (pG:aB l.prog w K R5 Cn)
  (nW:nsIn K mainGlobals "MOVES"=some (some (.ref R6)))
  (pf:aB l.prog w K R6 (DX R7 R8 R9 dD))
  (rY:∀H,aj K H R7 [.str "number",.str "edited",.str "text"])
  (rZ:∀H,aj K H R8 [.str "number",.str "edited",.str "text"])
  (r6:∀H,aj K H R9 [.str "number",.str "edited",.str "text",.str "letters"])
  (r8:∀H,aj K H dD [.str "text",.str "letters"])
  (nX:aY K "move" jR "right" (.bool false))
  (nr:nsIn K mainGlobals "enumerate"=some none)
  (rf:nsIn K mainGlobals "zip"=some none)
  (pL:nsIn K mainGlobals "list"=some none)
  (pT:kitOne K (.type "str") (.type "str")=some true)
  (pU:kitOne K (.type "int") (.type "str")=some false)
  (nR:kitOne K (.type "NoneType") (.type "str")=some false)
  (pM:kitOne K (.type "tuple") (.type "str")=some false)
  (uc:nsIn K mainGlobals "len"=some none)
  (pN:nsIn K mainGlobals "range"=some none)
  (ud:nsIn K mainGlobals "abs"=some none)
  (ue:nsIn K mainGlobals "max"=some none)
  (uf:nsIn K mainGlobals "int"=some none)
  (ug:nsIn K mainGlobals "isinstance"=some none)
  (rg:nsIn K mainGlobals "bool"=some none)
  (uh:nsIn K mainGlobals "ValueError"=some none)
  (nS:nsIn K mainGlobals "reversed"=some none)
  (pH:nsIn K mainGlobals "divmod"=some none)
  (ui:nsIn K mainGlobals "str"=some none)
  (uj:nsIn K mainGlobals "sum"=some none)
  (rK:excIn K C1 [.type "ValueError",.type "Exception",.type "BaseException",.type "object"] "ValueError.__new__"=true)
  (uk:excIn K C2 [.type "ValueError",.type "Exception",.type "BaseException",.type "object"] "ValueError.__new__"=true)
  (rL:excIn K C5 [.type "ValueError",.type "Exception",.type "BaseException",.type "object"] "ValueError.__new__"=true)
  (rM:excIn K C6 [.type "ValueError",.type "Exception",.type "BaseException",.type "object"] "ValueError.__new__"=true)
  (rN:excIn K C7 [.type "ValueError",.type "Exception",.type "BaseException",.type "object"] "ValueError.__new__"=true)
  (um:findIn K (.ref C1) "__getattribute__"=some (some (.builtin "BaseException.__getattribute__")))
  (uo:findIn K (.ref C1) "__getattr__"=some none)
  (uq:findIn K (.ref C1) "__class__"=some (some (.builtin "object.__class__")))
  (ur:kitOne K (.ref C1) (.ref C1)=some true)
  (uu:kitOne K (.ref C1) (.ref C2)=some false)
  (uv:kitOne K (.ref C1) (.ref C3)=some false)
  (uw:kitOne K (.ref C1) (.ref C4)=some false)
  (ux:kitOne K (.ref C1) (.ref C5)=some false)
  (uy:kitOne K (.ref C1) (.ref C6)=some false)
  (uz:kitOne K (.ref C1) (.ref C7)=some false)
  (uA:kitOne K (.ref C1) (.ref C8)=some false)
  (uB:kitOne K (.ref C1) (.ref C9)=some false)
  (uC:kitOne K (.ref C1) (.ref fG)=some false)
  (rh:kitOne K (.ref C1) (.ref fH)=some false)
  (rj:kitOne K (.ref C1) (.ref fI)=some false)
  (rl:kitOne K (.ref C1) (.ref fJ)=some false)
  (rm:kitOne K (.ref C1) (.ref fK)=some false)
  (uD:kitOne K (.ref C1) (.type "ValueError")=some true)
  (uE:exmOne K (.ref C1) (.ref C0)=some true)
  (uF:findIn K (.ref C5) "__getattribute__"=some (some (.builtin "BaseException.__getattribute__")))
  (uG:findIn K (.ref C5) "__getattr__"=some none)
  (uH:findIn K (.ref C5) "__class__"=some (some (.builtin "object.__class__")))
  (uI:kitOne K (.ref C5) (.ref C1)=some false)
  (uJ:kitOne K (.ref C5) (.ref C2)=some false)
  (uK:kitOne K (.ref C5) (.ref C3)=some false)
  (uL:kitOne K (.ref C5) (.ref C4)=some false)
  (uM:kitOne K (.ref C5) (.ref C5)=some true)
  (uN:kitOne K (.ref C5) (.ref C6)=some false)
  (uO:kitOne K (.ref C5) (.ref C7)=some false)
  (uP:kitOne K (.ref C5) (.ref C8)=some false)
  (uQ:kitOne K (.ref C5) (.ref C9)=some false)
  (uR:kitOne K (.ref C5) (.ref fG)=some false)
  (rn:kitOne K (.ref C5) (.ref fH)=some false)
  (rp:kitOne K (.ref C5) (.ref fI)=some false)
  (rq:kitOne K (.ref C5) (.ref fJ)=some false)
  (rA:kitOne K (.ref C5) (.ref fK)=some false)
  (uS:kitOne K (.ref C5) (.type "ValueError")=some true)
  (uT:exmOne K (.ref C5) (.ref C0)=some true)
  (uU:findIn K (.ref C6) "__getattribute__"=some (some (.builtin "BaseException.__getattribute__")))
  (uV:findIn K (.ref C6) "__getattr__"=some none)
  (uW:findIn K (.ref C6) "__class__"=some (some (.builtin "object.__class__")))
  (uX:kitOne K (.ref C6) (.ref C1)=some false)
  (uY:kitOne K (.ref C6) (.ref C2)=some false)
  (uZ:kitOne K (.ref C6) (.ref C3)=some false)
  (u0:kitOne K (.ref C6) (.ref C4)=some false)
  (u6:kitOne K (.ref C6) (.ref C5)=some false)
  (u7:kitOne K (.ref C6) (.ref C6)=some true)
  (u9:kitOne K (.ref C6) (.ref C7)=some false)
  (tj:kitOne K (.ref C6) (.ref C8)=some false)
  (tm:kitOne K (.ref C6) (.ref C9)=some false)
  (tq:kitOne K (.ref C6) (.ref fG)=some false)
  (rB:kitOne K (.ref C6) (.ref fH)=some false)
  (rC:kitOne K (.ref C6) (.ref fI)=some false)
  (rD:kitOne K (.ref C6) (.ref fJ)=some false)
  (rE:kitOne K (.ref C6) (.ref fK)=some false)
  (tD:kitOne K (.ref C6) (.type "ValueError")=some true)
  (tE:exmOne K (.ref C6) (.ref C0)=some true)
  (tF:findIn K (.ref C7) "__getattribute__"=some (some (.builtin "BaseException.__getattribute__")))
  (tG:findIn K (.ref C7) "__getattr__"=some none)
  (tH:findIn K (.ref C7) "__class__"=some (some (.builtin "object.__class__")))
  (tI:kitOne K (.ref C7) (.ref C1)=some false)
  (tJ:kitOne K (.ref C7) (.ref C2)=some false)
  (tK:kitOne K (.ref C7) (.ref C3)=some false)
  (tL:kitOne K (.ref C7) (.ref C4)=some false)
  (tM:kitOne K (.ref C7) (.ref C5)=some false)
  (tN:kitOne K (.ref C7) (.ref C6)=some false)
  (tO:kitOne K (.ref C7) (.ref C7)=some true)
  (tP:kitOne K (.ref C7) (.ref C8)=some false)
  (tQ:kitOne K (.ref C7) (.ref C9)=some false)
  (tR:kitOne K (.ref C7) (.ref fG)=some false)
  (rF:kitOne K (.ref C7) (.ref fH)=some false)
  (rG:kitOne K (.ref C7) (.ref fI)=some false)
  (rH:kitOne K (.ref C7) (.ref fJ)=some false)
  (rJ:kitOne K (.ref C7) (.ref fK)=some false)
  (tS:kitOne K (.ref C7) (.type "ValueError")=some true)
  (tT:exmOne K (.ref C7) (.ref C0)=some true)
  (rO:nsIn K mainGlobals "law"=some (some (.ref fl)))
  (rP:K.lookup fl=some ⟨oc,od,.func (fnOf "law" "law" (J1 W2) (QK W2) (Qe W2) .none kV doc pm an (.ref ca) ct),on⟩)
  (tU:codeIn K (.ref ca) "law"=true)
  :∃fd:FuncData,(∀(s:Shared)(v:Value),BindsTo s fd ⟨[v],[]⟩ [("_law_script",v)])/\∀(M:Heap)(c P:Addr),tabIn K "law"=some (c,P)->K.In M->M.Ns mainGlobals mg->b8 mg M c P->ag l.prog w K mg M (ao l.prog w) 13 fa fd ["_law_script"] (He P):=by
 have e:=oo.symm.trans (mg_of X G rO);cases e;have O:Own mg:=⟨ybm X G uc,ybm X G pN,ybm X G ud,ybm X G ue,ybm X G uf,ybm X G ug,ybm X G rg,ybm X G uh,ybm X G nS,ybm X G pH,ybm X G ui,ybm X G uj⟩;have G1:Kind K (λi=>([C0,C1,C2,C3,C4,C5,C6,C7,C8,C9,fG,fH,fI,fJ,fK]:List Addr).getD i 0) 1:=⟨by lia,by lia,⟨rK,um,uo,uq⟩,λj hj=>match j,hj with|0,_=>ur|1,_=>uu|2,_=>uv|3,_=>uw|4,_=>ux|5,_=>uy|6,_=>uz|7,_=>uA|8,_=>uB|9,_=>uC|10,_=>rh|11,_=>rj|12,_=>rl|13,_=>rm|n+14,h=>absurd h (by lia),uD,uE⟩;have G5:Kind K (λi=>([C0,C1,C2,C3,C4,C5,C6,C7,C8,C9,fG,fH,fI,fJ,fK]:List Addr).getD i 0) 5:=⟨by lia,by lia,⟨rL,uF,uG,uH⟩,λj hj=>match j,hj with|0,_=>uI|1,_=>uJ|2,_=>uK|3,_=>uL|4,_=>uM|5,_=>uN|6,_=>uO|7,_=>uP|8,_=>uQ|9,_=>uR|10,_=>rn|11,_=>rp|12,_=>rq|13,_=>rA|n+14,h=>absurd h (by lia),uS,uT⟩;have G6:Kind K (λi=>([C0,C1,C2,C3,C4,C5,C6,C7,C8,C9,fG,fH,fI,fJ,fK]:List Addr).getD i 0) 6:=⟨by lia,by lia,⟨rM,uU,uV,uW⟩,λj hj=>match j,hj with|0,_=>uX|1,_=>uY|2,_=>uZ|3,_=>u0|4,_=>u6|5,_=>u7|6,_=>u9|7,_=>tj|8,_=>tm|9,_=>tq|10,_=>rB|11,_=>rC|12,_=>rD|13,_=>rE|n+14,h=>absurd h (by lia),tD,tE⟩;have G7:Kind K (λi=>([C0,C1,C2,C3,C4,C5,C6,C7,C8,C9,fG,fH,fI,fJ,fK]:List Addr).getD i 0) 7:=⟨by lia,by lia,⟨rN,tF,tG,tH⟩,λj hj=>match j,hj with|0,_=>tI|1,_=>tJ|2,_=>tK|3,_=>tL|4,_=>tM|5,_=>tN|6,_=>tO|7,_=>tP|8,_=>tQ|9,_=>tR|10,_=>rF|11,_=>rG|12,_=>rH|13,_=>rJ|n+14,h=>absurd h (by lia),tS,tT⟩;have T:Txt K mg (λi=>([t0,t1,t2,t3,t4,t5,t6,t7,t8,t9]:List Tok).getD i 0) (λi=>([C0,C1,C2,C3,C4,C5,C6,C7,C8,C9,fG,fH,fI,fJ,fK]:List Addr).getD i 0) (λi=>([R0,R1,R2,R3,R4,R5,R6,R7,R8,R9,dD]:List Addr).getD i 0):=⟨mg_of X G k_0,mg_of X G Hr,mg_of X G Hs,mg_of X G Ht,mg_of X G Hu,mg_of X G Hv,mg_of X G Hw,mg_of X G Hx,mg_of X G Hy,mg_of X G Hz,mg_of X G tX,mg_of X G tY,mg_of X G tZ,mg_of X G lg,mg_of X G lh,mg_of X G gO,mg_of X G nt,mg_of X G gL,mg_of X G nU,mg_of X G gG,mg_of X G nu,mg_of X G gy,mg_of X G gN,mg_of X G gD,mg_of X G gk,mg_of X G gW,mg_of X G gX,mg_of X G nV,mg_of X G nW,mg_of X G gH,mg_of X G nM,mg_of X G gF,mC,nN,⟨rK⟩,⟨uk⟩,rY,rZ,r6,r8,⟨rL⟩,⟨rM⟩,⟨rN⟩,pT,pU,nR,pM⟩;have KD:aB l.prog w K ((λi=>([R0,R1,R2,R3,R4,R5,R6,R7,R8,R9,dD]:List Addr).getD i 0) 2) U1:=kd;have KB:aB l.prog w K ((λi=>([R0,R1,R2,R3,R4,R5,R6,R7,R8,R9,dD]:List Addr).getD i 0) 3) AE:=pd;have KN:aB l.prog w K ((λi=>([R0,R1,R2,R3,R4,R5,R6,R7,R8,R9,dD]:List Addr).getD i 0) 4) Cm:=nk;have KW:aB l.prog w K ((λi=>([R0,R1,R2,R3,R4,R5,R6,R7,R8,R9,dD]:List Addr).getD i 0) 5) Cn:=pG;have KM:aB l.prog w K ((λi=>([R0,R1,R2,R3,R4,R5,R6,R7,R8,R9,dD]:List Addr).getD i 0) 6) (DX ((λi=>([R0,R1,R2,R3,R4,R5,R6,R7,R8,R9,dD]:List Addr).getD i 0) 7) ((λi=>([R0,R1,R2,R3,R4,R5,R6,R7,R8,R9,dD]:List Addr).getD i 0) 8) ((λi=>([R0,R1,R2,R3,R4,R5,R6,R7,R8,R9,dD]:List Addr).getD i 0) 9) ((λi=>([R0,R1,R2,R3,R4,R5,R6,R7,R8,R9,dD]:List Addr).getD i 0) 10)):=pf;have OE:mg "enumerate"=none:=ybm X G nr;have OZ:mg "zip"=none:=ybm X G rf;have OL:mg "list"=none:=ybm X G pL;generalize (λi=>([C0,C1,C2,C3,C4,C5,C6,C7,C8,C9,fG,fH,fI,fJ,fK]:List Addr).getD i 0)=c at G1 G5 G6 G7 T;generalize (λi=>([R0,R1,R2,R3,R4,R5,R6,R7,R8,R9,dD]:List Addr).getD i 0)=kr at T KD KB KN KW KM;generalize (λi=>([t0,t1,t2,t3,t4,t5,t6,t7,t8,t9]:List Tok).getD i 0)=tk at T;refine⟨fnOf "law" "law" (J1 W2) (QK W2) (Qe W2) .none kV doc pm an (.ref ca) ct,λs v=>.of_eq rfl,λM c' P ht kb nb qLa=>?_⟩;obtain rfl:c'=ca:=by
  have z:tabIn K "law"=some (c',P):=ht;unfold tabIn at z;simp only[rO,rP]at z
  split at z
  .split at z
   .cases z;rfl
   .cases z
  .cases z
 have gA:Def l.prog w K mg M 1 "ten_to" ["many"] (zW):=pC.d1 X G (λf fd F=>kK F O) λ_ _ _ _ _ _ _=>rfl;have gu:Def l.prog w K mg M 1 "is_figures" ["text"] (VP):=m3.d1 X G (λf fd F=>YZ F T) λ_ _ _ _ _ _ _=>rfl;have gf:Def l.prog w K mg M 2 "number_of" ["text"] (zX):=nA.d1 X G (λf fd F=>U2 F O T gA) λ_ _ _ _ _ _ _=>rfl;have nO:Def l.prog w K mg M 3 "times_at" ["text","at"] (qV):=nP.d2 X G (λf fd F=>qW F O T gu gf) λ_ _ _ _ _ _ _ _=>rfl;have mh:Def l.prog w K mg M 4 "rows_of" ["thing"] (jS K):=nY.d1 X G (λf fd F=>zZ F O T nO) λ_ _ _ _ _ _ _=>rfl;have nv:Def l.prog w K mg M 1 "floats_at" ["rows","at"] (Y1 K):=nB.d2 X G (λf fd F=>U4 F O T) λ_ _ _ _ _ _ _ _=>rfl;have mE:Def l.prog w K mg M 1 "places_of" ["rows","at","place"] (Y2 K):=nC.d3 X G (λf fd F=>U5 F O T) λ_ _ _ _ _ _ _ _ _=>rfl;have mW:Def l.prog w K mg M 2 "whole_part" ["rows","at"] (qX K):=m4.d2 X G (λf fd F=>Y3 F O T mE) λ_ _ _ _ _ _ _ _=>rfl;have mF:Def l.prog w K mg M 1 "broken_part" ["rows","at","place"] (Y4 K):=mK.d3 X G (λf fd F=>Yh F O T) λ_ _ _ _ _ _ _ _ _=>rfl;have md:Def l.prog w K mg M 2 "lead_of" ["rows"] (jT K):=nZ.d1 X G (λf fd F=>z6 F O T nv) λ_ _ _ _ _ _ _=>rfl;have mf:Def l.prog w K mg M 1 "tail_of" ["rows","at"] (jU K):=n4.d2 X G (λf fd F=>z7 F O T) λ_ _ _ _ _ _ _ _=>rfl;have mi:Def l.prog w K mg M 1 "number_facts" ["rows"] (ZB K Q8):=mq.d1 X G (λf fd F=>VS F O T) λ_ _ _ _ _ _ _=>rfl;have mG:Def l.prog w K mg M 1 "plain_facts" ["rows"] (ZB K JL):=mL.d1 X G (λf fd F=>Yi F O T KD) λ_ _ _ _ _ _ _=>rfl;have me:Def l.prog w K mg M 3 "body_of" ["rows","at"] (jV K):=n5.d2 X G (λf fd F=>xa F mW mF) λ_ _ _ _ _ _ _ _=>rfl;have mj:Def l.prog w K mg M 4 "edited_facts" ["rows"] (ZB K JE):=mr.d1 X G (λf fd F=>VT F O T md me mf) λ_ _ _ _ _ _ _=>rfl;have gP:Def l.prog w K mg M 5 "facts_of" ["rows"] (ZB K J5):=nQ.d1 X G (λf fd F=>qZ F mi mG mj) λ_ _ _ _ _ _ _=>rfl;have gv:Def l.prog w K mg M 6 "understood" ["picture"] (VU K c):=m5.d1 X G (λf fd F=>Y6 F T mh gP) λ_ _ _ _ _ _ _=>rfl;have gz:Def l.prog w K mg M 7 "kind_of" ["picture"] (qk c):=n6.d1 X G (λf fd F=>xg F gv) λ_ _ _ _ _ _ _=>rfl;have mU:Def l.prog w K mg M 7 "size_of" ["picture"] (wj):=n8.d1 X G (λf fd F=>xc F O gv) λ_ _ _ _ _ _ _=>rfl;have pZ:Def l.prog w K mg M 7 "room" ["picture"] (wg c):=p9.d1 X G (λf fd F=>P5 F T gv) λ_ _ _ _ _ _ _=>rfl;have ml:Def l.prog w K mg M 1 "quotient_cut" ["number","by"] (wd):=mv.d2 X G (λf fd F=>VY F O) λ_ _ _ _ _ _ _ _=>rfl;have r9:Def l.prog w K mg M 2 "cut" ["amount","places"] (FQ K):=ua.d2 X G (λf fd F=>P0 F O gA ml) λ_ _ _ _ _ _ _ _=>rfl;have mS:Def l.prog w K mg M 3 "fitted" ["amount","before","behind"] (yk K):=pD.d3 X G (λf fd F=>wf F O gA r9) λ_ _ _ _ _ _ _ _ _=>rfl;have gx:Def l.prog w K mg M 2 "figures_of" ["number"] (qe):=m7.d1 X G (λf fd F=>Ub F O T gA) λ_ _ _ _ _ _ _=>rfl;have mH:Def l.prog w K mg M 1 "written_out" ["rows"] (FX K):=mM.d1 X G (λf fd F=>Yj F O) λ_ _ _ _ _ _ _=>rfl;have hV:Def l.prog w K mg M 6 "understood_as" ["kind","picture"] (WK K c):=gY.d2 X G (λf fd F=>W4 F T mh gP) λ_ _ _ _ _ _ _ _=>rfl;have gI:Def l.prog w K mg M 1 "sign_text" ["symbols","is_below"] (za):=nE.d2 X G (λf fd F=>qg F T KN KW) λ_ _ _ _ _ _ _ _=>rfl;have mn:Def l.prog w K mg M 1 "hides_nought" ["body"] (jj):=mw.d1 X G (λf fd F=>V0 F T) λ_ _ _ _ _ _ _=>rfl;have mI:Def l.prog w K mg M 1 "nought_text" ["symbols"] (Uc):=mO.d1 X G (λf fd F=>Yk F O) λ_ _ _ _ _ _ _=>rfl;have pA:Def l.prog w K mg M 3 "spread" ["body","units"] (Ud):=pE.d2 X G (λf fd F=>wu F O T KB gx) λ_ _ _ _ _ _ _ _=>rfl;have ny:Def l.prog w K mg M 1 "hidden_in" ["body","signs"] (Ue):=nF.d2 X G (λf fd F=>qh F O OE T) λ_ _ _ _ _ _ _ _=>rfl;have nz:Def l.prog w K mg M 4 "body_text" ["body","units","is_below"] (jk):=nG.d3 X G (λf fd F=>qi F T pA ny gI) λ_ _ _ _ _ _ _ _ _=>rfl;have gB:Def l.prog w K mg M 4 "edited_parts" ["rows"] (Ug K):=mx.d1 X G (λf fd F=>V1 F md me mH mf) λ_ _ _ _ _ _ _=>rfl;have mT:Def l.prog w K mg M 7 "edited" ["picture","amount"] (Vh K c):=pF.d2 X G (λf fd F=>wv F O hV gB mS mn mI gI nz) λ_ _ _ _ _ _ _ _=>rfl;have mJ:Def l.prog w K mg M 8 "read_edited" ["picture","text"] (wx K c):=mP.d2 X G (λf fd F=>Yl F O OZ T KB gf hV gB mT) λ_ _ _ _ _ _ _ _=>rfl;have mX:Def l.prog w K mg M 7 "content_of" ["picture","amount"] (wz K c):=m8.d2 X G (λf fd F=>Ui F O T hV mS gx) λ_ _ _ _ _ _ _ _=>rfl;have gM:Def l.prog w K mg M 7 "amount_in" ["picture","content"] (Uj K c):=nH.d2 X G (λf fd F=>qj F O T hV gu gf) λ_ _ _ _ _ _ _ _=>rfl;have mV:Def l.prog w K mg M 1 "as_text" ["text","size","right"] (Gg):=n9.d3 X G (λf fd F=>xj F O) λ_ _ _ _ _ _ _ _ _=>rfl;have pV:Def l.prog w K mg M 8 "put" ["picture","amount"] (yy K):=ub.d2 X G (λf fd F=>RW F gz mX mT) λ_ _ _ _ _ _ _ _=>rfl;have gK:Def l.prog w K mg M 9 "amount_from" ["content","picture"] (zd c):=mQ.d2 X G (λf fd F=>Ym F O T gz gM mJ gu gf) λ_ _ _ _ _ _ _ _=>rfl;have gJ:Def l.prog w K mg M 8 "figures_from" ["content","picture"] (V3 c):=my.d2 X G (λf fd F=>V4 F O T pZ gM gx) λ_ _ _ _ _ _ _ _=>rfl;have hJ:Def l.prog w K mg M 1 "_law_draw" ["_law_script","_law_town","_law_many"] (Z2 K):=nI.d3 X G (λf fd F=>qm F O) λ_ _ _ _ _ _ _ _ _=>rfl;have mY:Def l.prog w K mg M 1 "_law_begun" [] (qK):=m9.d0 X G (λf fd F=>Um F) λ_ _ _ _ _ _=>rfl;have gi:Def l.prog w K mg M 1 "_law_class" ["_law_kept"] (V5 K c):=ng.d1 X G (λf fd F=>Uo F O T) λ_ _ _ _ _ _ _=>rfl;have gT:Def l.prog w K mg M 2 "_law_places" ["_law_script","_law_town","_law_symbol","_law_most"] (Gp K):=mR.d4 X G (λf fd F=>Yn F O hJ) λ_ _ _ _ _ _ _ _ _ _=>rfl;have gg:Def l.prog w K mg M 1 "_law_line" ["_law_parts"] (V6 K):=nJ.d1 X G (λf fd F=>qp F) λ_ _ _ _ _ _ _=>rfl;have gh:Def l.prog w K mg M 3 "_law_an_edited" ["_law_script","_law_town"] (Cz K):=gQ.d2 X G (λf fd F=>WO F O hJ gT) λ_ _ _ _ _ _ _ _=>rfl;have gc:Def l.prog w K mg M 2 "_law_an_amount" ["_law_script","_law_town","_law_figures","_law_far"] (Ws K):=gR.d4 X G (λf fd F=>WP F O hJ) λ_ _ _ _ _ _ _ _ _ _=>rfl;have hU:Def l.prog w K mg M 2 "_law_edit" ["_law_parts","_law_amount"] (Xc K):=nK.d2 X G (λf fd F=>qr F O OL OE gg) λ_ _ _ _ _ _ _ _=>rfl;have gE:Def l.prog w K mg M 2 "_law_a_number" ["_law_script","_law_town"] (zh K):=gZ.d2 X G (λf fd F=>W6 F hJ) λ_ _ _ _ _ _ _ _=>rfl;have hZ:Def l.prog w K mg M 1 "_law_content" ["_law_shows","_law_before","_law_behind","_law_amount"] (WQ K):=mz.d4 X G (λf fd F=>V7 F O) λ_ _ _ _ _ _ _ _ _ _=>rfl;have ma:Def l.prog w K mg M 4 "_law_a_box" ["_law_script","_law_town"] (wP K):=ni.d2 X G (λf fd F=>Uq F O hJ gc gE hZ gh hU gg) λ_ _ _ _ _ _ _ _=>rfl;have gC:Def l.prog w K mg M 3 "_law_amount_of" ["_law_one"] (yR K):=gS.d1 X G (λf fd F=>WR F O OE hU) λ_ _ _ _ _ _ _=>rfl;have gj:Def l.prog w K mg M 1 "_law_text_in" ["_law_content_here","_law_size","_law_right_here"] (wO):=mB.d3 X G (λf fd F=>V8 F O) λ_ _ _ _ _ _ _ _ _=>rfl;have mZ:Def l.prog w K mg M 4 "_law_moved" ["_law_one","_law_two","_law_right_here"] (jw K):=nj.d3 X G (λf fd F=>Us F O gC gj hZ hU) λ_ _ _ _ _ _ _ _ _=>rfl;have pB:fu l.prog w K mg M 10 "move" ["content","picture","other","right"] (.bl false) (ZM c):=by
  refine nX.QfG X G (λf fd F=>jm F T KM gz pV gK gJ mU mV) λ_ _ _ _ _ _ _ _ _=>?_;refine' .mk (σ:=?a) (τ:=?b) ?g1 ?g2 ?g3 ?h1 ?h2
  case h1=>exact Eq.refl _
  case h2=>exact Eq.refl _
 have pJ:bL l.prog w K mg M 10 "move" ["content","picture","other","right"] ["right"] (ZM c):=nX.RT X G (λf fd F=>jm F T KM gz pV gK gJ mU mV) λ_ _ _ _ _ _ _ _ _ _=>rfl;have sK:bM l.prog w K mg M 10 "move" "content" "picture" "other" "right" (.bl false) (ZM c):=by
  refine nX.QdI X G (λf fd F=>jm F T KM gz pV gK gJ mU mV) λ_ _ _ _ _ _ _ _ _=>?_;refine' .mk (σ:=?a2) (τ:=?b2) ?j1 ?j2 ?j3 ?i1 ?i2
  case i1=>exact Eq.refl _
  case i2=>exact Eq.refl _
 obtain⟨fh,Ei,ah,Fh⟩:=pK.ex;have AU:Binds K Ei ["_law_deed"] []:=Fh.binds (ps:=["_law_deed"]) λ_ _ _ _ _ _ us hl=>match us,hl with|[_],_=>rfl
 exact QdP (P:=l.prog) (w:=w) (M:=M) ⟨oc,od,kV,doc,pm,an,ct,on,Z,rP,tU⟩ O T qLa Fh (mg_of X G ah) AU G1 G5 G6 G7 gi mY hJ ma mZ pB pJ sK
theorem QdQ(z:ao P w [] H s (λ_ _ _=>False) e s'):False:=by
 obtain⟨_,_,_,_,_,_,_,_,_,_,_,_,_,_,h⟩:=z;exact h
theorem Qb4{K:Frag}{oc kV doc pm ct Fi:Value}{od an Fj:Option Addr}{on sf:Array (Option Value)}(a:nsIn K mainGlobals "law"=some (some (.ref fl)))
  (l:K.lookup fl=some ⟨oc,od,.func (fnOf "law" "law" (J1 W2) (QK W2) (Qe W2) .none kV doc pm an (.ref c) ct),on⟩) (lc:K.lookup c=some ⟨Fi,Fj,.fields vs,sf⟩) (hv:(vs[11]? :Option Value)=some (.ref P)):∃c P,tabIn K "law"=some (c,P):=⟨c,P,N3 a l rfl lc hv⟩
end Lw
structure PySem.W.Fast:Prop where
 (tw8121534960791375872 tw6914249637046607872 tw6806456110370364544 tw12184397401057566976 tw12236914663390138720 tw13582731537826731360 tw1328606564731901280 tw4746092532579909120 tw389962951026642592 tw10308490290095976128 tw8913435706512687872 tw9241560733898855168 tw16432666147476414304 tw4363856468091388864 tw1472157845312172033 tw2745161262144805985 tw7336161852519327905 tw13921313605328308417 tw14334344849027806497 tw5568748945186170241 tw4718440813972500929 tw1204136110096033249 tw12484019501556640289 tw8830026294500763553 tw13762037161199545313 tw13709471953502487554 tw16965327731749062754 tw5926626567218222210 tw9095294605503890658 tw8041070591765050818 tw15640713450144433634 tw3653372042122021346 tw13513290112707669730 tw6189444586806057794 tw1546925624534659075 tw6262645622774430755 tw2498144201794680931 tw9995119409899818307 tw9353215833071884867 tw1044374592898518627 tw13665642108359951971 tw16290160516593128067 tw2075646987907436195 tw9976201445069520643 tw159845636710663939 tw5870695461518998403 tw8534606136186985508 tw12287115976242059332 tw18073622842769503332 tw17263572695447796836 tw3040946157377100996 tw14978663071431313668 tw16019846427963040036 tw2808265745960149668 tw13651585669872162500 tw7391584372752894692 tw4138045079186898949 tw13881977300958853157 tw12600720356621345925 tw4702989905365485733 tw13899809196520465733 tw2656249137839716869 tw15415926375515595397 tw1117468011216115365 tw10301076873038149285 tw15554942337170785989 tw711572657176729285 tw18238795018550666981 tw9768537854546721605 tw8916375130772629317 tw16600562806337964901 tw11190460823204958342 tw4222205726223409318 tw867639813099012390 tw9578753356759777638 tw11483977210962798950 tw9032836686943509190 tw7225150065353744230 tw7971345018378770278 tw5967470660969559014 tw16762323050575774727 tw8521364900073618631 tw11520029183094672647 tw5829174611793395143 tw14181200720774729223 tw17641451410985308679 tw1933757321644925543 tw7263842164431824583 tw7287363660106694503 tw18345400360842085416 tw3127438151493901384 tw16077811552441951336 tw124784346946947240 tw6688607734272175336 tw11054494008403549544 tw5211484235623046536 tw6028009242603791944 tw10192152280384029288 tw11161307644714166952 tw289177762585844488 tw7330240666377724712 tw15319587337971999592 tw17047501614229035880 tw2115964325942693768 tw11772203647836136424 tw10447224968900637705 tw2733592188024144969 tw8602281329128347753 tw3254993539408478473 tw7628691161707886953 tw16797049417322001833 tw6973240187673417161 tw13724390509460228649 tw1105031706170978921 tw6072734458743201417 tw193232839745404585 tw15557855121939405769 tw17758531148759755753 tw12121858330202788841 tw2399772428365071370 tw14512115174581379114 tw4758334085809236042 tw15479394381613482474 tw3243500728571352842 tw9139435587066652426 tw3019247246265269130 tw15464203371328099306 tw17532661176079869067 tw2095607024910458027 tw9193509202419272907 tw946983394038183147 tw9004906262984701227 tw12781783415662105291 tw14812655237426077643 tw6702296541134628972 tw7882392748355881356 tw3904274369613527500 tw13957041481568520684 tw2505359199131013676 tw18311242164413008524 tw7990068113606307468 tw11548520652940528300 tw7078713704656492300 tw10863091854617806957 tw8841147750299947149 tw934946410573255821 tw15351620042799464621 tw13377415098924789997 tw14522759808441826701 tw7945666421672063405 tw7337050491985968749 tw10475391860970127213 tw13213650418024719277 tw11062788191867891726 tw11631052288377057294 tw8571993035835796526 tw10497227403425492046 tw17127116696496342222 tw12445251260129702094 tw9645316961457714446 tw11660049957357836558 tw9031571297839849838 tw6635155278021229038 tw6287818989388053070 tw9363533874345503310 tw6152872854471176878 tw14909556543125365518 tw9567649882683408142 tw17464403435437123374 tw17335509969171026798 tw11980550935255061390 tw1010084775569994670 tw1200776774104971279 tw2365126668220399695 tw650216430926462415 tw11522916363400029679 tw15040621912871121391 tw3192571659255576143 tw13328066697557763695 tw13016591030798025423 tw1996667426400956175 tw4732458175794356207 tw13785847017328138256 tw9420420576238444656 tw14794453307510169712 tw14878572180663056496 tw1182076802634802320 tw14016844381374651696 tw3929998690841530736 tw1444127136239020432 tw11987051437812009392 tw8239884546507155888 tw2948592808423649744 tw152692138210812496 tw13865075134893476624 tw2578192118763340592 tw13812480633441869680 tw12105255871603712113 tw12635702366824156657 tw13390402547842668017 tw8662180666367809169 tw1002827148386472657 tw1912052265890369393 tw10172563785202588529 tw7924849322427890641 tw4198560157789671474 tw11766833665522539666 tw9984129037830381810 tw11912169085099290930 tw11412355487136834002 tw11962964555127481970 tw11286643969820851858 tw17351316401539056370 tw6781202139033149202 tw3385676854104993714 tw11093387754467679154 tw10918532011012450451 tw17816300796983449779 tw10428063998047575379 tw13385089340491757971 tw4308558476816172435 tw16713848659403395571 tw18053669057404752371 tw13209324161920454291 tw17250151347263352627 tw5198988959822299027 tw5975966612811603988 tw2348512220676977940 tw4356689969679101364 tw16991422045462957588 tw15412267097656128084 tw2447977096867085140 tw11688203397352887381 tw10368560719361571989 tw9982754908166853877 tw17953388503060483349 tw7672195190101969205 tw3364904669578408245 tw3113155267398804853 tw16805899000250267157 tw1436033967311215125 tw15662280659361547893 tw12612946428775360117 tw16640983111811773141 tw11501768466895575893 tw15908214857245734773 tw16028985801012681653 tw10121458379488454581 tw8689152495657150389 tw9665562138193368021 tw10867205721265882069 tw16315652125874077782 tw6742623379754696790 tw16933932538981337494 tw9924847729700941334 tw12057830838595834678 tw12857544198845002614 tw7988416168269977623 tw10890079114528214071 tw3940336563332083799 tw5152605707503322263 tw1859223752442979735 tw7898430152975051223 tw3011750644303364663 tw13693370538521538103 tw18263542543611578967 tw6329876565590328951 tw6647261476286274359 tw9661118444877004727 tw6775118320369122231 tw5409870998932161495 tw16866773569454901207 tw13882860493646572568 tw5340086319308893208 tw17201712807680841784 tw7242188103862516984 tw4238207986329188760 tw18011783874562969016 tw2857290807061017112 tw12180367848058067672 tw2742542357500590872 tw154695335185835832 tw17293971357758294904 tw239693640526707608 tw6943807208537763865 tw1972642519883666649 tw12826689304085228825 tw8491366174539619641 tw8672029355237873017 tw9582618338089183705 tw3139382600897319513 tw2966832742354169465 tw12728561265759169241 tw2498779642808778489 tw3763923836010010393 tw14045553029043511257 tw15749675165275684825 tw5897701148001468377 tw8612506265569628282 tw14062073986351835354 tw7707279481250801978 tw9033811143889461754 tw5044352971561382522 tw11848345567349506714 tw8788073729839771386 tw17291381269189495578 tw14389080769923488602 tw14677547109063313402 tw13249637070200935451 tw17846631254523959387 tw12664044294271110459 tw10827497350578948443 tw3200521590000428379 tw5823987142643788219 tw1757892018169579323 tw3736651579345235771 tw453463598746745723 tw13796142987870004219 tw5808687951191548028 tw8702561261901020604 tw11483231073720418812 tw17126916959411338844 tw6101425934364509820 tw16617018608620978844 tw6873769766703577788 tw32496352185798428 tw5572100026008503132 tw12040169795979503484 tw17412286757807124348 tw14406728218809953309 tw10805427459123286109 tw9643028925343218013 tw4872611565584095613 tw463675933021021565 tw1161040624510268829 tw10011679620270458429 tw6157663206850718333 tw9407362784294413949 tw7272472057318843069 tw11292178497973096317 tw8231220143517742238 tw8633460934109220030 tw13059243275877914878 tw5446425697884166462 tw6434918420461513054 tw2291112954906569086 tw10721530755900568990 tw9518280482027924894 tw12226842736418244030 tw7446115982739880446 tw16654112523335387646 tw14931290878683024926 tw2963807032521325086 tw10982476851013716542 tw16339948189820764734 tw5956570701573286494 tw3413660306871913086 tw13133234037543834494 tw11088795061286644670 tw4360635017670945790 tw15363045679233995871 tw1558231139755807871 tw297630017300230431 tw12715356685779492159 tw5305090712883814719 tw3667296452627440191 tw11275950011861772863 tw11851228019360705151 tw12285018741770357503 tw16106274396919837439 tw7652619960322719487 tw15895334302532944735 tw426734673308773215 tw9027629247738084223 tw3281198912852567935 tw3087414336940517011:True)
open PySem PySem.W PyProof.Rows
theorem PySem.Challenge.cw_boxmoves_k17_moves_holds : PySem.Challenge.rw_boxmoves_k17_moves.Holds := by
 w_on;o_law;k_head;(case hw=>w_witness2)
 k_fill
 refine L2.vy (l:=PySem.Challenge.rw_boxmoves_k17_moves) (n:=63) (k:=13) (x:="_law_script") (CX:=λw=>L2.ao PySem.Challenge.rw_boxmoves_k17_moves.prog w) (sp:=λ_ P=>Lw.He P) rfl (by lia) rfl ⟨Z,by lia,by lia⟩ (λw h qYa=>km_in_of qYa) ?nL ?nT rfl ?hT ?F (λw H a P ns hl hO hS=>⟨a,ns,Z,hl,hO,hS,λ_=>rfl⟩) (λw H s e s' z=>Lw.QdQ z)
 case nL=>intro w;kernel_rfl
 case nT=>intro w;kernel_rfl
 case hT=>
  intro w;refine' Lw.Qb4 ?a ?l ?lc ?hv
  (case a=>k_is);(case l=>k_is);(case lc=>k_is);(case hv=>exact rfl)
 case F=>
  intro w mg fa h KX G Bh;refine' Lw.all_mk KX G Bh ?pC ?m3 ?nA ?nP ?nY ?nB ?nC ?m4 ?mK ?nZ ?n4 ?mq ?mL ?n5 ?mr ?nQ ?m5 ?n6 ?n8 ?p9 ?mv ?ua ?pD ?m7 ?mM ?gY ?nE ?mw ?mO ?pE ?nF ?nG ?mx ?pF ?mP ?m8 ?nH ?n9 ?ub ?mQ ?my ?nI ?m9 ?ng ?mR ?nJ ?gQ ?gR ?nK ?gZ ?mz ?ni ?gS ?mB ?nj ?pK ?k_0 ?Hr ?Hs ?Ht ?Hu ?Hv ?Hw ?Hx ?Hy ?Hz ?tX ?tY ?tZ ?lg ?lh ?gO ?gL ?nU ?gG ?nu ?gD ?gk ?nt ?gy ?gN ?gH ?nM ?gF ?mC ?nN ?kd ?gW ?pd ?gX ?nk ?nV ?pG ?nW ?pf ?rY ?rZ ?r6 ?r8 ?nX ?nr ?rf ?pL ?pT ?pU ?nR ?pM ?uc ?pN ?ud ?ue ?uf ?ug ?rg ?uh ?nS ?pH ?ui ?uj ?rK ?uk ?rL ?rM ?rN ?um ?uo ?uq ?ur ?uu ?uv ?uw ?ux ?uy ?uz ?uA ?uB ?uC ?rh ?rj ?rl ?rm ?uD ?uE ?uF ?uG ?uH ?uI ?uJ ?uK ?uL ?uM ?uN ?uO ?uP ?uQ ?uR ?rn ?rp ?rq ?rA ?uS ?uT ?uU ?uV ?uW ?uX ?uY ?uZ ?u0 ?u6 ?u7 ?u9 ?tj ?tm ?tq ?rB ?rC ?rD ?rE ?tD ?tE ?tF ?tG ?tH ?tI ?tJ ?tK ?tL ?tM ?tN ?tO ?tP ?tQ ?tR ?rF ?rG ?rH ?rJ ?tS ?tT ?rO ?rP ?tU
  (case k_0|Hr|Hs|Ht|Hu|Hv|Hw|Hx|Hy|Hz|tX|tY|tZ|lg|lh|gO|gL|nU|gG|nu|gD|gk|nt|gy|gN|gH|nM|gF|gW|gX|nV|nW|nr|rf|pL|uc|pN|ud|ue|uf|ug|rg|uh|nS|pH|ui|uj|um|uo|uq|uF|uG|uH|uU|uV|uW|tF|tG|tH|rO|rP|tU=>k_is)
  (case pf=>(refine' L2.wB ?ne ?l ?h ?nd;(case l=>k_is);(case ne=>exact rfl);(case h=>repeat (first|exact .nil|refine .cons rfl ?_));(case nd=>rfl')))
  (case pC|m3|nA|nP|nY|nB|nC|m4|mK|nZ|n4|mq|mL|n5|mr|nQ|m5|n6|n8|p9|mv|ua|pD|m7|mM|gY|nE|mw|mO|pE|nF|nG|mx|pF|mP|m8|nH|n9|ub|mQ|my|nI|m9|ng|mR|nJ|gQ|gR|nK|gZ|mz|ni|gS|mB|nj|pK=>(refine' L2.vA ?a ?l ?c ?k;(case a=>k_is);(case l=>k_is);(case c=>k_is);(case k=>k_is)))
  (case mC=>(refine' L2.zq ?l ?z ?v;(case l=>k_is);(case z=>show 6<=sizeLine;lia);(case v=>exact(.cons ⟨_,Z⟩ (.cons ⟨_,Z⟩ (.cons ⟨_,Z⟩ (.cons ⟨_,Z⟩ (.cons ⟨_,Z⟩ (.cons ⟨_,Z⟩ .nil)))))))))
  (case nN|r6=>(refine' L2.zq ?l ?z ?v;(case l=>k_is);(case z=>show 4<=sizeLine;lia);(case v=>exact(.cons ⟨_,Z⟩ (.cons ⟨_,Z⟩ (.cons ⟨_,Z⟩ (.cons ⟨_,Z⟩ .nil)))))))
  (case kd=>(refine' L2.wS ?ne ?l ?e1 ?e2 ?hx;(case l=>k_is);(case ne=>exact rfl);(case e1=>exact rfl);(case e2=>exact rfl);(case hx=>rfl')))
  (case pd|nk|pG=>(refine' L2.ku ?ne ?l ?h ?nd;(case l=>k_is);(case ne=>exact rfl);(case h=>repeat (first|exact .nil|refine .cons rfl ?_));(case nd=>rfl')))
  (case rY|rZ=>(refine' L2.zq ?l ?z ?v;(case l=>k_is);(case z=>show 3<=sizeLine;lia);(case v=>exact(.cons ⟨_,Z⟩ (.cons ⟨_,Z⟩ (.cons ⟨_,Z⟩ .nil))))))
  (case r8=>(refine' L2.zq ?l ?z ?v;(case l=>k_is);(case z=>show 2<=sizeLine;lia);(case v=>exact(.cons ⟨_,Z⟩ (.cons ⟨_,Z⟩ .nil)))))
  (case nX=>(refine' L2.wC ?a ?l ?c ?k ?n ?d;(case a=>k_is);(case l=>k_is);(case c=>k_is);(case k=>k_is);(case n=>(refine' L2.Qb1 ?nl ?nh;(case nl=>k_is);(case nh=>exact rfl)));(case d=>k_is)))
  (case pT|pU|nR|pM|ur|uu|uv|uw|ux|uy|uz|uA|uB|uC|rh|rj|rl|rm|uD|uI|uJ|uK|uL|uM|uN|uO|uP|uQ|uR|rn|rp|rq|rA|uS|uX|uY|uZ|u0|u6|u7|u9|tj|tm|tq|rB|rC|rD|rE|tD|tI|tJ|tK|tL|tM|tN|tO|tP|tQ|tR|rF|rG|rH|rJ|tS=>kit_is)
  (case rK|uk|rL|rM|rN=>k_exc)
  (case uE|uT|tE|tT=>kts_exm)
