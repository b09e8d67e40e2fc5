import PyProof.Rows.All
import Wide.All
import OpenK.AllK
import Wide.FinOn
import Lean
import PyProof.EqAt
import PyProof.EqKinds
import PyProof.TupleCall
import PyProof.NeKinds
import PyProof.WalksMore
import PyProof.Rows.SetFrom
import PyProof.FString5
import PySem.Challenge.RW_boxmoves_k17_moves
set_option Elab.async false
set_option linter.all false
set_option maxRecDepth 100000
set_option maxHeartbeats 0
theorem Z{α:Sort _}{a:α}:a=a:=rfl
theorem lq{α:Type}{a b:List α}:(a++b).length=a.length+b.length:=List.length_append
theorem lu{α β:Type}{l:List α}(f:α->β):(l.map f).length=l.length:=List.length_map f
theorem lx[Decidable p](h:¬p):decide p=false:=decide_eq_false h
theorem ly[Decidable p](h:p):decide p=true:=decide_eq_true h
theorem lA(n:Nat):n<=n:=Nat.le_refl n
theorem lB{α:Type}{a b:α}(h:some a=some b):a=b:=Option.some.inj h
theorem lC{α:Type}{a:α}:[a].length=1:=rfl
theorem lD{α:Type}{a:α}{l:List α}:(a::l).length=l.length+1:=rfl
theorem lE{α:Type}{a:α}(l:List α){m:List α}(h:a∈m):a∈l++m:=List.mem_append_right l h
theorem lF{α:Type}{a:α}{l:List α}(m:List α)(h:a∈l):a∈l++m:=List.mem_append_left m h
theorem lG{α:Type}(b:α){a:α}{l:List α}(h:a∈l):a∈b::l:=List.mem_cons_of_mem b h
theorem lH{α:Type}{a:α}{l:List α}:a∈a::l:=List.mem_cons_self
theorem lI{α:Type}{i:Nat}{l:List α}:(l.take i).length=min i l.length:=List.length_take
theorem lJ{α:Type}{i:Nat}{l:List α}:(l.drop i).length=l.length-i:=List.length_drop
theorem lK{α β:Type}{f:α->β}{l:List α}{i:Nat}:(l.map f)[i]?=Option.map f l[i]?:=List.getElem?_map
theorem lM{α:Type}{l:List α}{i:Nat}{a:α}(h:l[i]?=some a):a∈l:=List.mem_of_getElem? h
theorem lN{α:Type}{a:α}:(List.replicate n a).length=n:=List.length_replicate
theorem lO{α β:Type}{l m:List α}{f:α->β}:(l++m).map f=l.map f++m.map f:=List.map_append
theorem lP{α:Type}(a b c:List α):a++b++c=a++(b++c):=List.append_assoc a b c
theorem lQ{α:Type}{a:α}{l m:List α}:a::l++m=a::(l++m):=rfl
theorem lR{α:Type}(l:List α):[]++l=l:=rfl
theorem lS{α:Type}(l:List α):l++[]=l:=List.append_nil l
theorem lT{α β γ:Type}{g:β->γ}{f:α->β}{l:List α}:(l.map f).map g=l.map (g∘f):=List.map_map
theorem lU{α β:Type}{f:α->β}{a:α}{l:List α}:(a::l).map f=f a::l.map f:=rfl
theorem lV{α:Type}{a:Array α}:a.toList.length=a.size:=Array.length_toList
theorem lW{α:Type}{l:List α}:l.toArray.size=l.length:=List.size_toArray
theorem lX(n:Nat):0<=n:=Nat.zero_le n
theorem lY(n:Nat):¬n<n:=Nat.lt_irrefl n
theorem lZ(n:Nat):(n:Int).toNat=n:=rfl
open PySem.W (Frag CodeHd KitX Looks callWith_K callWith_K0 callWith_KW callWith_KW0 callWith_of cellsFrom_some codeIn codeRec_of envX eq_bytes excIn exmOne exm_one findIn fnOf funFrames_hide hasDictIn hideAll hideAll_get hideAll_none hideAll_size instObj isNs_of_in keepIn ki_setAt ki_setBack kia_one kitOne kitx_bool kitx_dict kitx_float kitx_int kitx_list kitx_none kitx_own kitx_str kitx_tuple kla_callFunE kla_codeExpr kla_eval kla_fn kla_makeFunction kla_makeFunctionHit kla_obj km_in_of lookIn looks_findIn mem_of_lookupK methodObj mg_none_of mg_of mroIn ne_bytes noTabs nsIn nsMap_none_of_in nsOkIn of_hideAll plainGet plainOver specialIn tabIn tabObj tab_of tail_of_in takesIn truthy_bytes)
open PySem.F (args_dict_get_3 args_list_count_2 args_list_index_2 entry_dict_get entry_list_count entry_list_index excBase_ValueError plainAttrs_dict plainAttrs_list plainAttrs_str slot_dict_get slot_list_count slot_list_index slot_list_pop slot_str_count slot_str_find slot_str_index slot_str_join slot_str_ljust slot_str_rjust slot_str_startswith slot_str_strip slot_str_zfill type_dict_get type_list_count type_list_index type_list_pop type_str_count type_str_find type_str_index type_str_join type_str_ljust type_str_rjust type_str_startswith type_str_strip type_str_zfill)
abbrev yaa:=@PySem.Heap.get?_push_of_some
abbrev yab:=@PySem.wpAny_bind
abbrev yac:=@if_neg
abbrev yad:=@Nat.lt_of_lt_of_le
abbrev yae:=@PySem.Heap.lt_size
abbrev yaf:=@if_pos
abbrev yag:=@List.mem_cons
abbrev yah:=@List.getElem?_eq_getElem
abbrev yai:=@List.contains_iff_mem
abbrev yaj:=@List.getElem?_eq_some_iff
abbrev yak:=@List.mem_singleton
abbrev yal:=@Nat.ne_of_lt
abbrev yam:=@PySem.Heap.get?_push_size
abbrev yan:=@PySem.wpAny_pure
abbrev yao:=@List.mem_append
abbrev yap:=@of_decide_eq_true
abbrev yaq:=@List.take_of_length_le
abbrev yar:=@Bool.false_ne_true
abbrev yas:=@Nat.le_trans
abbrev yat:=@Nat.pow_le_pow_right
abbrev yau:=@PySem.F.plainAttrs_str
abbrev yav:=@of_decide_eq_false
abbrev yaw:=@List.eq_of_mem_replicate
abbrev yax:=@PySem.mem_of_lookup
abbrev yay:=@List.not_mem_nil
abbrev yaz:=@List.drop_eq_nil_of_le
abbrev yaA:=@PySem.wpAny_mono
abbrev yaB:=@beq_eq_false_iff_ne
abbrev yaC:=@List.replicate_succ
abbrev yaD:=@Nat.lt_trans
abbrev yaE:=@List.take_add_one
abbrev yaF:=@List.filter_cons
abbrev yaG:=@PySem.PassesOwn.never
abbrev yaH:=@List.length_eq_zero_iff
abbrev yaI:=@congrArg
abbrev yaJ:=@PyProof.Rows.boot_isinstance
abbrev yaK:=@PySem.boot_len
abbrev yaL:=@List.length_filter_le
abbrev yaM:=@List.drop_eq_getElem_cons
abbrev yaN:=@List.length_dropLast
abbrev yaO:=@Bool.and_eq_true
abbrev yaP:=@PySem.F.slot_list_append
abbrev yaQ:=@PySem.F.type_list_append
abbrev yaR:=@Int.natAbs_natCast
abbrev yaS:=@Option.map_eq_some_iff
abbrev yaT:=@PyProof.Rows.callWith_type1
abbrev yaU:=@List.takeWhile_prefix
abbrev yaV:=@PySem.F.plainAttrs_list
abbrev yaW:=@List.mem_of_mem_head?
abbrev yaX:=@PySem.wpAny_newObj_type
abbrev yaY:=@List.mem_of_mem_drop
abbrev yaZ:=@PySem.wpAny_Call_Name_kw
abbrev yba:=@Nat.lt_of_le_of_lt
abbrev ybb:=@Nat.min_eq_left
abbrev ybc:=@Nat.lt_or_ge
abbrev ybd:=@Nat.zero_add
abbrev ybe:=@Int.emod_lt_of_pos
abbrev ybf:=@List.mem_of_mem_take
abbrev ybg:=@PySem.Heap.size_push
abbrev ybh:=@Bool.and_false
abbrev ybi:=@Nat.le_of_lt
abbrev ybj:=@List.filter_append
abbrev ybk:=@or_false
abbrev ybl:=@PySem.W.mg_none_of
abbrev ybm:=@List.lookup_cons
abbrev ybn:=@List.IsPrefix.eq_of_length_le
abbrev ybo:=@List.drop_append_of_le_length
abbrev ybp:=@List.getLast?_concat
abbrev ybq:=@List.getElem?_replicate
abbrev ybr:=@PySem.F.slot_str_join
abbrev ybs:=@PySem.F.type_str_join
abbrev ybt:=@Int.eq_ofNat_of_zero_le
abbrev ybu:=@PySem.wpAny_truthy_bool
abbrev ybv:=@List.flatten_cons
abbrev ybw:=@List.length_nil
abbrev ybx:=@Int.emod_nonneg
abbrev yby:=@List.all_eq_true
abbrev ybz:=@PyProof.Rows.assignInOrder_cons
abbrev ybA:=@Nat.ne_of_gt
abbrev ybB:=@PySem.Calls.spliced_cons
abbrev ybC:=@PySem.wpAny_setField_rec
abbrev ybD:=@PySem.wpAny_field
abbrev ybE:=@Int.mul_neg_of_neg_of_pos
abbrev ybF:=@PySem.F.slot_str_strip
abbrev ybG:=@PySem.F.type_str_strip
abbrev ybH:=@List.getElem?_set_ne
abbrev ybI:=@PySem.intText_digits
abbrev ybJ:=@List.dropLast_subset
abbrev ybK:=@PySem.wpAny_passesOwn
abbrev ybL:=@List.any_eq_false
abbrev ybM:=@if_true
abbrev ybN:=@List.find?_cons
abbrev ybO:=@Bool.not_eq_true'
abbrev ybP:=@List.takeWhile_append_dropWhile
abbrev ybQ:=@PySem.sizeLine_eq
abbrev ybR:=@Int.ne_of_gt
abbrev ybS:=@List.mem_map
abbrev ybT:=@List.filterMap_cons
abbrev ybU:=@List.takeWhile_cons
abbrev ybV:=@List.IsPrefix.length_le
abbrev ybW:=@List.dropWhile_cons
abbrev ybX:=@Nat.succ_le_succ
abbrev ybY:=@PySem.typeIs_str
abbrev ybZ:=@PySem.wpAny_seqItems
abbrev yca:=@PySem.Calls.callWith_builtin
abbrev ycb:=@List.getElem?_drop
abbrev ycc:=@Bool.eq_iff_iff
abbrev ycd:=@List.length_set
abbrev yce:=@Array.getElem?_toList
abbrev ycf:=@Nat.le_of_ble_eq_true
abbrev ycg:=@PySem.PadOk.parts
abbrev ych:=@List.mem_iff_getElem?
abbrev yci:=@PySem.Calls.spliced_nil
abbrev ycj:=@List.any_cons
abbrev yck:=@beq_iff_eq
abbrev ycl:=@PySem.wpAny_loadPart_at
abbrev ycm:=@PySem.call_gives
abbrev ycn:=@List.head?_append
abbrev yco:=@Int.fdiv_eq_ediv_of_nonneg
abbrev ycp:=@List.getElem?_append_right
abbrev ycq:=@PySem.Calls.evalArgs_plain
abbrev ycr:=@PySem.codeAny_call_builtin
abbrev ycs:=@PySem.wpAny_bindName
abbrev yct:=@Bool.false_and
abbrev ycu:=@Array.getElem?_eq_getElem
abbrev ycv:=@PySem.Draws.strAscii
abbrev ycw:=@if_false
abbrev ycx:=@PySem.post_val_or_made
abbrev ycy:=@Nat.le_add_right
abbrev ycz:=@Nat.pow_pos
abbrev ycA:=@PySem.codeAny_mono
abbrev ycB:=@Int.le_of_lt
abbrev ycC:=@PySem.wpAny_comprehension_free
abbrev ycD:=@PySem.wpAny_execs_nil
abbrev ycE:=@PySem.wpAny_holding
abbrev ycF:=@PySem.wpAny_standAt
abbrev ycG:=@List.nodup_cons
abbrev ycH:=@PySem.wpAny_callSpecial?_slot
abbrev ycI:=@List.foldl_cons
abbrev ycJ:=@Bool.false_eq_true
abbrev ycK:=@List.contains_cons
abbrev ycL:=@List.cons.inj
abbrev ycM:=@PySem.wpAny_pyIter_ascii
abbrev ycN:=@List.getElem?_set_self
abbrev ycO:=@PyProof.noPylong_small
abbrev ycP:=@PySem.Heap.get?_update_other
abbrev ycQ:=@PySem.codeAny_compStart_list
abbrev ycR:=@List.drop_of_length_le
abbrev ycS:=@PyProof.Rows.slot_tuple_getitem
abbrev ycT:=@PySem.call_meets
abbrev ycU:=@List.eraseIdxIfInBounds_toArray
abbrev ycV:=@PyProof.Rows.boot_int
abbrev ycW:=@List.drop_drop
abbrev ycX:=@List.map_nil
abbrev ycY:=@PySem.F.typeOf_object_class
abbrev ycZ:=@Nat.le_of_eq
abbrev yda:=@PySem.StrLaws.glued_eq_join
abbrev ydb:=@beq_self_eq_true
abbrev ydc:=@List.mem_of_getLast?
abbrev ydd:=@PySem.wpAny_updateSeq_pair
abbrev yde:=@Bool.and_eq_true_iff
abbrev ydf:=@Bool.or_false
abbrev ydg:=@List.all_cons
abbrev ydh:=@Bool.false_or
abbrev ydi:=@PySem.wpAny_onRaise
abbrev ydj:=@List.takeWhile_append_of_pos
abbrev ydk:=@PySem.wpAny_call
abbrev ydl:=@Int.not_lt
abbrev ydm:=@Sum.inr.inj
abbrev ydn:=@List.mem_filter
abbrev ydo:=@PySem.W.kia_one
abbrev ydp:=@List.of_mem_zip
abbrev ydq:=@PySem.wpAny_specialOf
abbrev ydr:=@Nat.log2_lt
abbrev yds:=@List.length_reverse
abbrev ydt:=@List.head?_cons
abbrev ydu:=@PySem.F.slot_zip_next
abbrev ydv:=@PySem.Calls.Name_function_global
abbrev ydw:=@Int.fmod_eq_emod_of_nonneg
abbrev ydx:=@PySem.wpAny_newFunctionEnv_cells
abbrev ydy:=@PySem.W.hideAll_none
abbrev ydz:=@List.mem_filterMap
abbrev ydA:=@PySem.wpAny_typeOf
abbrev ydB:=@Nat.mul_comm
abbrev ydC:=@Option.isSome_some
abbrev ydD:=@PySem.tupleKind_room_in1
abbrev ydE:=@PyProof.Rows.boot_abs
abbrev ydF:=@List.count_pos_iff
abbrev ydG:=@Int.mul_nonneg
abbrev ydH:=@Decidable.byContradiction
abbrev ydI:=@PySem.F.slot_str_zfill
abbrev ydJ:=@PySem.F.type_str_zfill
abbrev ydK:=@PySem.wpAny_pyIter_list
abbrev ydL:=@List.push_toArray
abbrev ydM:=@Nat.lt_succ_of_lt
abbrev ydN:=@decide_eq_true_eq
abbrev ydO:=@List.head?_dropWhile_not
abbrev ydP:=@PySem.Paired.length
abbrev ydQ:=@List.set_comm
abbrev ydR:=@Bool.true_and
abbrev ydS:=@List.sum_cons
abbrev ydT:=@PySem.wpAny_call_entry
abbrev ydU:=@PySem.wpAny_isInstance
abbrev ydV:=@Nat.lt_succ_self
abbrev ydW:=@List.drop_length
abbrev ydX:=@Nat.min_eq_right
abbrev ydY:=@List.any_eq_true
abbrev ydZ:=@decide_eq_decide
abbrev yea:=@UInt32.le_iff_toNat_le
abbrev yeb:=@List.takeWhile_sublist
abbrev yec:=@List.append_eq_nil_iff
abbrev yed:=@List.filter_eq_nil_iff
abbrev yee:=@PySem.wpAny_loadPart'
abbrev yef:=@Int.ediv_one
abbrev yeg:=@PySem.codeAny_builtin
abbrev yeh:=@List.forIn_cons
abbrev yei:=@List.getElem?_eq_none
abbrev yej:=@List.count_cons
abbrev yek:=@PySem.wpAny_ite_split
abbrev yel:=@List.eq_replicate_iff
abbrev yem:=@List.take_append_drop
abbrev yen:=@List.length_zip
abbrev yeo:=@Nat.mul_div_mul_right
abbrev yep:=@PyProof.Rows.boot_str
abbrev yeq:=@Array.mem_toList_iff
abbrev yer:=@List.dropLast_concat
abbrev yet:=@List.count_cons_self
abbrev yeu:=@List.take_zero
abbrev yev:=@Option.map_map
abbrev yew:=@PySem.sizeLine_eq
abbrev yex:=@PySem.wpAny_letGo
abbrev yey:=@Nat.mul_assoc
abbrev yez:=@Nat.add_assoc
abbrev yeA:=@List.map_drop
abbrev yeB:=@List.take_nil
abbrev yeC:=@Nat.not_lt
abbrev yeD:=@Nat.lt_min
abbrev yeE:=@Nat.add_comm
abbrev yeF:=@Bool.true_or
abbrev yeG:=@Nat.succ_pos
abbrev yeH:=@Nat.zero_mul
abbrev yeI:=@Nat.sub_self
theorem zza:1000<=PySem.sizeLine:=by decide
open List (replicate)
namespace L2
open PySem PySem.Spec PyProof.Rows
noncomputable abbrev Key:=Sum Int Str
noncomputable def j6:Key->Value->Bool
 | .inl k,v=>Value.isInt k v
 | .inr x,v=>Value.isStrOf x v
noncomputable def oB(w:World):Key->Int
 | .inl k=>hashInt k
 | .inr x=>hashStr w x
theorem JI:∀{k:Key}{v:Value},j6 k v=true->(∃i t,k=Sum.inl i/\v=Value.int i t)\/(∃x t,k=Sum.inr x/\v=Value.str x t)
 | .inl i,v,h=>by
  obtain⟨t,e⟩:=Value.isInt_shape (k:=i) (v:=v) h;exact .inl ⟨i,t,Z,e⟩
 | .inr x,v,h=>by
  obtain⟨t,e⟩:=Value.isStrOf_shape (x:=x) (v:=v) h;exact .inr ⟨x,t,Z,e⟩
theorem z5(i:Int)(t:Tok):j6 (.inl i) (.int i t)=true:=by simp[j6,Value.isInt]
theorem z6(x:Str)(t:Tok):j6 (.inr x) (.str x t)=true:=by simp[j6,Value.isStrOf]
theorem LM(a b:Int):decide ((Sum.inl a:Key)=Sum.inl b)=(a==b):=by
 by_cases e:a=b
 ·subst e;simp
 ·have h:¬ (Sum.inl a:Key)=Sum.inl b:=λq=>e (Sum.inl.inj q);rw[lx h];exact(yaB.mpr e).symm
theorem LN(a b:Str):decide ((Sum.inr a:Key)=Sum.inr b)=decide (a=b):=by
 by_cases e:a=b
 ·subst e;simp
 ·have h:¬ (Sum.inr a:Key)=Sum.inr b:=λq=>e (ydm q);rw[lx h,lx e]
theorem LO(a:Int)(b:Str):decide ((Sum.inl a:Key)=Sum.inr b)=false:=lx (λq=>nomatch q)
theorem LP(a:Str)(b:Int):decide ((Sum.inr a:Key)=Sum.inl b)=false:=lx (λq=>nomatch q)
noncomputable def Jr(prog:Program)(w:World):PySem.KeyKind prog w Key where
 is:=j6
 hash:=oB w
 inj:=λv a b ha hb=>by
  rcases JI ha with⟨i,t,rfl,rfl⟩|⟨x,t,rfl,rfl⟩
  ·rcases JI hb with⟨j,u,rfl,e⟩|⟨y,u,rfl,e⟩
   ·injection e with e1 _;rw[e1]
   ·exact nomatch e
  ·rcases JI hb with⟨j,u,rfl,e⟩|⟨y,u,rfl,e⟩
   ·exact nomatch e
   ·injection e with e1 _;rw[e1]
 byValue:=λk v h=>by
  rcases JI h with⟨i,t,rfl,rfl⟩|⟨x,t,rfl,rfl⟩<;>rfl
 pyHash:=λhv h=>by
  rcases JI hv with⟨i,t,rfl,rfl⟩|⟨x,t,rfl,rfl⟩
  ·exact wpAny_pyHash_int h
  ·exact wpAny_pyHash_str h
 eqBool:=λhu hv h=>by
  rcases JI hu with⟨i,t,rfl,rfl⟩|⟨x,t,rfl,rfl⟩
  ·rcases JI hv with⟨j,u,rfl,rfl⟩|⟨y,u,rfl,rfl⟩
   ·rw[LM]at h;exact wpAny_eqBool_int h
   ·rw[LO]at h;exact SeqAt.EqAt.int_str i t y u _ _ _ _ h
  ·rcases JI hv with⟨j,u,rfl,rfl⟩|⟨y,u,rfl,rfl⟩
   ·rw[LP]at h;exact SeqAt.EqAt.str_int x t j u _ _ _ _ h
   ·rw[LN]at h;exact wpAny_eqBool_str h
 «strs»:=λk x t v h=>by
  rcases JI h with⟨i,u,rfl,e⟩|⟨y,u,rfl,e⟩
  ·exact nomatch e
  ·injection e with e1 _;subst e1;cases v<;>rfl
theorem qe(prog:Program)(w:World)(i:Int)(t:Tok):(Jr prog w).is (.inl i) (.int i t)=true:=z5 i t
theorem JJ(prog:Program)(w:World)(x:Str)(t:Tok):(Jr prog w).is (.inr x) (.str x t)=true:=z6 x t
inductive V where
 |aw|bl (b:Bool)|int (i:Int)|str (x:Str)|cG (b:Array UInt8)|oC (b:UInt64)|ref (a:Addr)|ty (n:String)
 deriving DecidableEq
def RelV:V->Value->Prop
 | .aw,u=>u=Value.none
 | .bl b,u=>u=Value.bool b
 | .int i,u=>∃t,u=Value.int i t
 | .str x,u=>∃t,u=Value.str x t
 | .cG b,u=>∃t,u=Value.bytes b t
 | .oC b,u=>∃t,u=Value.float b t
 | .ref a,u=>u=Value.ref a
 | .ty n,u=>u=Value.type n
abbrev Vals:List V->List Value->Prop:=Paired RelV
theorem Vals.length{xs:List V}{us:List Value}(r:Vals xs us):xs.length=us.length:=ydP r
theorem Vals.get:∀{xs:List V}{us:List Value}{i:Nat}{x:V},Vals xs us->xs[i]? =some x->∃u,us[i]? =some u/\RelV x u
 |_,_,_,_,.nil,e=>by simp at e
 |_,_,0,_,.cons r _,e=>by simp at e;subst e;exact⟨_,Z,r⟩
 |_,_,i+1,x,.cons _ t,e=>by
  obtain⟨u,h1,h2⟩:=Vals.get (i:=i) (x:=x) t (by simpa using e);exact⟨u,by simpa using h1,h2⟩
theorem Vals.set(r:RelV x u):∀{xs:List V}{us:List Value}(i:Nat),Vals xs us->Vals (xs.set i x) (us.set i u)
 |_,_,_,.nil=>.nil
 |_,_,0,.cons _ t=>.cons r t
 |_,_,i+1,.cons q t=>.cons q (Vals.set r i t)
theorem Vals.append:∀{xs ys:List V}{us ws:List Value},Vals xs us->Vals ys ws->Vals (xs++ys) (us++ws)
 |_,_,_,_,.nil,s=>s
 |_,_,_,_,.cons r t,s=>.cons r (Vals.append t s)
theorem Vals.take:∀{xs:List V}{us:List Value}(n:Nat),Vals xs us->Vals (xs.take n) (us.take n)
 |_,_,0,_=>.nil
 |_,_,_+1,.nil=>.nil
 |_,_,n+1,.cons r t=>.cons r (Vals.take n t)
theorem Vals.drop:∀{xs:List V}{us:List Value}(n:Nat),Vals xs us->Vals (xs.drop n) (us.drop n)
 |_,_,0,r=>r
 |_,_,_+1,.nil=>.nil
 |_,_,n+1,.cons _ t=>Vals.drop n t
def jh:Option V->Option Value->Prop
 |some v,some u=>RelV v u
 |none,none=>True
 |_,_=>False
def KV{κ:Type}:List (κ × V)->List (κ × Value)->Prop:=Paired λ(p:κ × V)(q:κ × Value)=>p.1=q.1/\RelV p.2 q.2
noncomputable def kV:Key->V
 | .inl i=>.int i
 | .inr x=>.str x
inductive HO where
 |lst (xs:List V)
 |tup (xs:List V)
 |dK (al:List (Key × V))|dT (al:List (List Key × V))
 |set (S:Int->Bool) (n:Nat)
 |ins (C dx:Addr) (fs:List (Str × V))
 |own (x:Addr)
 |xd (fs:List (Str × V))
 |met (f x:Addr)
 |CU (lo hi:Int)
 |bO (o:Obj) (u:HO)
 |bQ (ps:Array Value)
 |ext (φ:Heap->Prop)
noncomputable abbrev Hp:=Addr->Option HO
noncomputable def upd(H:Hp)(a:Addr)(o:HO):Hp:=λb=>if b=a then some o else H b
theorem Qe:upd H a o a=some o:=by unfold upd;rw[yaf rfl]
theorem Qx(h:b≠a):upd H a o b=H b:=by unfold upd;rw[yac h]
theorem LQ{H:Hp}(h:H a=some o)(h':H b=some u)(d:o≠u):a≠b:=by
 intro e;subst e;rw[h]at h';exact d (lB h')
theorem Qz{H:Hp}(h:H a=some o)(h':H b=none):a≠b:=by
 intro e;subst e;rw[h]at h';cases h'
def Yb(h:Heap)(a:Addr)(items:Array Value):Prop:=∃o,h.get? a=some o/\o.cls=.type "tuple"/\∃n,o.data=.seq items n/\o.dict=none
theorem Yb.tup{h:Heap}{a:Addr}{items:Array Value}(p:Yb h a items):IsTup h a items:=let ⟨o,h1,h2,n,h3,_⟩:=p;⟨o,h1,h2,n,h3⟩
theorem Yb.new(h:Heap)(items:Array Value):Yb (h.push {cls:=.type "tuple",data:=.seq items}) h.objs.size items:=⟨_,yam _ rfl,Z,_,Z,Z⟩
section
variable (P:Program)(w:World)
def JU(H:Hp)(h:Heap)(a:Addr):HO->Prop
 | .lst xs=>xs.length<=sizeLine/\∃(ap:List Value)(n:Nat),Vals xs ap/\h.get? a=some {cls:=.type "list",data:=.seq ap.toArray n}
 | .tup xs=>xs.length<=sizeLine/\∃ap:List Value,Vals xs ap/\Yb h a ap.toArray
 | .dK al=>al.length<=sizeLine/\(a==sysModules)=false/\∃vs,KV al vs/\h.DictOf (Jr P w) a vs
 | .dT al=>al.length<=sizeLine/\(a==sysModules)=false/\∃xs:List (List Key × Addr × Value),
   Paired (λ(p:List Key × V)(q:List Key × Addr × Value)=>p.1=q.1/\H q.2.1=some (.tup (p.1.map kV))/\RelV p.2 q.2.2) al xs/\
   ∃o es ep,h.get? a=some o/\o.ExactDict/\o.data=.dict es ep/\es.toList=xs.map (entryOfKey (tupleKind (Jr P w)))/\(xs.map (·.1)).Nodup
 | .set S n=>h.SetOf (intKind P w) a S n
 | .ins C dx fs=>H dx=some (.own a)/\fs.length<=1000/\dx≠a/\h.get? a=some (instObj C dx)/\
   ∃mA,h.Ns1 dx mA/\(∀f,jh (fs.lookup f) (mA f))/\PySem.Within mA (fs.map (·.1))
 | .own _=>∃o,h.get? a=some o
 | .xd fs=>∃mA,h.Ns1 a mA/\∀f,jh (fs.lookup f) (mA f)
 | .CU lo hi=>∃t u v,h.get? a=some {cls:=.type "range",data:=.fields #[.int lo t,.int hi u,.int 1 v]}
 | .bO o u=>h.get? a=some o/\JU H h a u
 | .bQ ps=>h.get? a=some {cls:=.none,data:=.fields ps}
 | .met f x=>h.get? a=some (methodObj (.ref f) (.ref x))
 | .ext φ=>φ h/\(∃o,h.get? a=some o)/\∀h1 h2:Heap,φ h1->(∀o,h1.get? a=some o->h2.get? a=some o)->φ h2
def aV(H:Hp)(h:Heap):Prop:=∀a o,H a=some o->JU P w H h a o
end
section
variable {P:Program}{w:World}{H:Hp}{h h':Heap}{a:Addr}{o:HO}
theorem JU.lt(x:JU P w H h a o):a<h.objs.size:=by
 cases o with
 |lst xs=>obtain⟨_,_,_,_,e⟩:=x;exact yae e
 |tup xs=>obtain⟨_,_,_,p⟩:=x;exact p.tup.lt
 |dK al=>obtain⟨_,_,_,_,o,_,_,e,_⟩:=x;exact yae e
 |dT al=>obtain⟨_,_,_,_,o,_,_,e,_⟩:=x;exact yae e
 |set S n=>obtain⟨o,_,_,_,e,_⟩:=x;exact yae e
 |ins C dx fs=>obtain⟨_,_,_,e,_⟩:=x;exact yae e
 |own y=>obtain⟨_,e⟩:=x;exact yae e
 |xd fs=>obtain⟨_,⟨_,_,_,e,_⟩,_⟩:=x;exact yae e
 |CU lo hi=>obtain⟨_,_,_,e⟩:=x;exact yae e
 |bO ob u=>obtain⟨e,_⟩:=x;exact yae e
 |bQ ps=>exact yae (show h.get? a=some _ from x)
 |met f y=>exact yae (show h.get? a=some _ from x)
 |ext φ=>obtain⟨_,⟨_,e⟩,_⟩:=x;exact yae e
theorem Paired.D6:∀{l₁:List α}{l₂:List β},Paired F l₁ l₂->(∀a b,F a b->G a b)->Paired G l₁ l₂
 |_,_,.nil,_=>.nil
 |_,_,.cons r t,f=>.cons (f _ _ r) (Paired.D6 t f)
theorem JU.KQ(x:JU P w H h a o)(k:∀b u,(b=a\/H b=some (.own a))->h.get? b=some u->h'.get? b=some u)
  (ho:∀b,H b=some (.own a)->H' b=some (.own a)) (ht:∀b xs,H b=some (.tup xs)->H' b=some (.tup xs)):JU P w H' h' a o:=by
 induction o with
 |lst xs=>obtain⟨z,ap,n,r,e⟩:=x;exact⟨z,ap,n,r,k _ _ (.inl Z) e⟩
 |tup xs=>obtain⟨z,ap,r,ob,e,c⟩:=x;exact⟨z,ap,r,ob,k _ _ (.inl Z) e,c⟩
 |dK al=>obtain⟨z,y,vs,r,ob,es,ep,e,c⟩:=x;exact⟨z,y,vs,r,ob,es,ep,k _ _ (.inl Z) e,c⟩
 |dT al=>
  obtain⟨z,y,xs,r,ob,es,ep,e,c⟩:=x;exact⟨z,y,xs,Paired.D6 r λp q z=>⟨z.1,ht _ _ z.2.1,z.2.2⟩,ob,es,ep,k _ _ (.inl Z) e,c⟩
 |set S n=>obtain⟨ob,es,ep,t,e,c⟩:=x;exact⟨ob,es,ep,t,k _ _ (.inl Z) e,c⟩
 |ins C dx fs=>
  obtain⟨d,z,ne,e,mA,⟨od,es,ep,e2,c⟩,r⟩:=x;exact⟨ho _ d,z,ne,k _ _ (.inl Z) e,mA,⟨od,es,ep,k _ _ (.inr d) e2,c⟩,r⟩
 |own y=>obtain⟨ob,e⟩:=x;exact⟨ob,k _ _ (.inl Z) e⟩
 |xd fs=>obtain⟨mA,⟨od,es,ep,e,c⟩,r⟩:=x;exact⟨mA,⟨od,es,ep,k _ _ (.inl Z) e,c⟩,r⟩
 |CU lo hi=>obtain⟨t,u,v,e⟩:=x;exact⟨t,u,v,k _ _ (.inl Z) e⟩
 |bO ob u ih=>obtain⟨e,q⟩:=x;exact⟨k _ _ (.inl Z) e,ih q⟩
 |bQ ps=>
  have e:h.get? a=some {cls:=.none,data:=.fields ps}:=x;show h'.get? a=some {cls:=.none,data:=.fields ps};exact k a _ (.inl Z) e
 |met f y=>
  have e:h.get? a=some (methodObj (.ref f) (.ref y)):=x;show h'.get? a=some (methodObj (.ref f) (.ref y));exact k a _ (.inl Z) e
 |ext φ=>obtain⟨p,⟨o,e⟩,st⟩:=x;exact⟨st _ _ p λo q=>k _ _ (.inl Z) q,⟨o,k _ _ (.inl Z) e⟩,st⟩
theorem aV.lt(x:aV P w H h)(e:H a=some o):a<h.objs.size:=(x a o e).lt
theorem aV.fresh(x:aV P w H h)(e:h.objs.size<=a):H a=none:=by
 cases q:H a with
 |none=>rfl
 |some u=>exact absurd (yad (x.lt q) e) (lY _)
theorem aV.kept(x:aV P w H h)(k:∀b u,h.get? b=some u->h'.get? b=some u):aV P w H h':=λa o e=>
 (x a o e).KQ (λb u _ q=>k b u q) (λ_ q=>q) λ_ _ q=>q
theorem aV.laid(x:aV P w H h)(k:∀b u,h.get? b=some u->h'.get? b=some u) (hp:h.objs.size<=a) (new:JU P w (upd H a o) h' a o):aV P w (upd H a o) h':=λb u e=>by
 have hn:=x.fresh hp
 by_cases hb:b=a
 ·subst hb;rw[Qe]at e;cases e;exact new
 ·rw[Qx hb]at e;exact(x b u e).KQ (λc v _ q=>k c v q) (λc q=>by rw[Qx (Qz q hn)];exact q) λc xs q=>by rw[Qx (Qz q hn)];exact q
end
def Rd(H:Hp)(a:Addr)(u:HO):Prop:=H a=some u\/∃o,H a=some (.bO o u)
theorem Rd.ok(r:Rd H a u)(x:aV P w H h):JU P w H h a u:=by
 rcases r with r|⟨o,r⟩
 ·exact x a u r
 ·obtain⟨_,q⟩:=x a _ r;exact q
def AL:Option HO->Prop
 |some (.lst _)=>True
 |some (.dK _)=>True
 |some (.dT _)=>True
 |some (.set _ _)=>True
 |some (.ins _ _ _)=>True
 |some (.ext _)=>True
 |_=>False
section
theorem aV.write(ok:aV P w H h)(mu:AL (H x))(he:e=x\/H e=some (.own x))(k:∀b u,b≠e->h.get? b=some u->h'.get? b=some u) (sZ:∃u,h'.get? e=some u)
  (new:JU P w (upd H x o') h' x o'):aV P w (upd H x o') h':=λb u q=>by
 have AM:∀c y,H c=some (.own y)->c≠x:=λc y r z=>by subst z;rw[r]at mu;exact mu
 have D7:∀c xs,H c=some (.tup xs)->c≠x:=λc xs r z=>by subst z;rw[r]at mu;exact mu
 by_cases hb:b=x
 ·subst hb;rw[Qe]at q;cases q;exact new
 ·rw[Qx hb]at q
  by_cases sK:b=e
  ·have q':H b=some (.own x):=by
    rcases he with z|z
    ·exact absurd (sK.trans z) hb
    ·rw[sK];exact z
   rw[q]at q';cases q';obtain⟨v,hv⟩:=sZ;exact⟨v,by rw[sK];exact hv⟩
  ·refine(ok b u q).KQ (λc v hc r=>k c v ?_ r) (λc r=>by rw[Qx (AM c b r)];exact r) λc xs r=>by rw[Qx (D7 c xs r)];exact r
   rcases hc with rfl|hc
   ·exact sK
   ·rintro rfl;rcases he with z|z
    ·exact AM c b hc z
    ·rw[hc]at z;cases z;exact hb rfl
end
structure Un(fs ex:List Addr)(H H':Hp)(h h':Heap):Prop where
 keep:∀b o,h.get? b=some o->H b=none->b∉fs->b∉ex->h'.get? b=some o
 slot:∀b o,h.get? b=some o->H b=none->b∈fs->b∉ex->∃sl,h'.get? b=some {o with slots:=sl}
 free:∀b o,h.get? b=some o->H b=none->b∉ex->H' b=none
 there:∀b o,h.get? b=some o->b∉ex->∃o',h'.get? b=some o'
 bq:∀b xs,H b=some (.tup xs)->H' b=some (.tup xs)
 bc:∀b o u,H b=some (.bO o u)->H' b=some (.bO o u)
 bf:∀b ps,H b=some (.bQ ps)->∃more,H' b=some (.bQ (ps++more))
section
variable {fs ex:List Addr}{H H1:Hp}{h h':Heap}{a:Addr}{o:HO}
theorem Un.any(u:Un fs ex H H1 h h1)(q:h.get? b=some ob)(n:H b=none)(hx:b∉ex):∃sl,h1.get? b=some {ob with slots:=sl}:=by
 by_cases hb:b∈fs
 ·exact u.slot b ob q n hb hx
 ·exact⟨ob.slots,u.keep b ob q n hb hx⟩
theorem Un.kept(k:∀b u,h.get? b=some u->h'.get? b=some u):Un fs ex H H h h':=
 ⟨λb ob q _ _ _=>k b ob q,λb ob q _ _ _=>⟨ob.slots,k b ob q⟩,λ_ _ _ n _=>n,λb ob q _=>⟨ob,k b ob q⟩,λ_ _ q=>q,λ_ _ _ q=>q,λ_ ps q=>⟨#[],by rw[q];simp⟩⟩
theorem Un.refl:Un fs ex H H h h:=Un.kept λ_ _ q=>q
theorem Un.laid(k:∀b u,h.get? b=some u->h'.get? b=some u) (hp:h.objs.size<=a) (hn:H a=none):Un fs ex H (upd H a o) h h' where
 keep:=λb u q _ _ _=>k b u q
 slot:=λb u q _ _ _=>⟨u.slots,k b u q⟩
 free:=λb u q n _=>by rw[Qx (yal (yad (yae q) hp))];exact n
 there:=λb u q _=>⟨u,k b u q⟩
 bq:=λb xs q=>by rw[Qx (Qz q hn)];exact q
 bc:=λb u xs q=>by rw[Qx (Qz q hn)];exact q
 bf:=λb ps q=>⟨#[],by rw[Qx (Qz q hn),q];simp⟩
theorem Un.write(mu:AL (H x))(he:e=x\/H e=some (.own x))(k:∀b u,b≠e->h.get? b=some u->h'.get? b=some u) (sZ:∃u,h'.get? e=some u):Un fs ex H (upd H x o) h h':=by
 have hx:∀b,H b=none->b≠x:=λb n z=>by subst z;rw[n]at mu;exact mu
 have hb:∀b,H b=none->b≠e:=λb n z=>by
  subst z;rcases he with r|r
  ·exact hx b n r
  ·rw[n]at r;cases r
 have hm:∀b u,H b=some u->¬ AL (some u)->b≠x:=λb u q nm z=>by subst z;rw[q]at mu;exact nm mu
 refine⟨λb u q n _ _=>k b u (hb b n) q,λb u q n _ _=>⟨u.slots,k b u (hb b n) q⟩,λb u q n _=>by rw[Qx (hx b n)];exact n,λb u q _=>?_,
  λb xs q=>by rw[Qx (hm b _ q λz=>z)];exact q,λb u xs q=>by rw[Qx (hm b _ q λz=>z)];exact q,λb ps q=>⟨#[],by rw[Qx (hm b _ q λz=>z),q];simp⟩⟩
 by_cases sK:b=e
 ·subst sK;exact sZ
 ·exact⟨u,k b u sK q⟩
end
noncomputable def CV(h:Heap)(H:Hp):List Addr:=(List.range h.objs.size).filter λa=>(H a).isSome
noncomputable def qb(h:Heap)(H:Hp):Heap:=hideAll h (CV h H)
theorem z7(h:Heap)(H:Hp):(qb h H).objs.size=h.objs.size:=hideAll_size _ _
theorem wF(e:h.get? b=some o)(n:H b=none):(qb h H).get? b=some o:=
 hideAll_get _ e λhm=>by
  have q:(H b).isSome=true:=(ydn.mp hm).2;rw[n]at q;simp at q
theorem LS(e:(qb h H).get? b=some o):h.get? b=some o/\H b=none:=by
 have e':h.get? b=some o:=of_hideAll (CV h H) e;refine⟨e',?_⟩;cases q:H b with
 |none=>rfl
 |some x=>
  have hm:b∈CV h H:=ydn.mpr ⟨List.mem_range.mpr (yae e'),by simp[q]⟩;have z:(qb h H).get? b=none:=ydy (CV h H) hm;rw[z]at e;cases e
structure Mod(K:Frag)(mg:Str->Option Value)(M:Heap):Prop where
 iN:K.In M
 glob:M.Ns mainGlobals mg
 blt:∃mb,M.Ns builtinsNs mb/\∀x:Str,x≠"__name__"->mb x=bootBuiltins x
 nolimit:M.NoLimit
structure Cx where
 prog:Program
 w:World
 K:Frag
 mg:Str->Option Value
 M:Heap
 A:Around
 N:List Str
 s₀:Shared
 H₀:Hp
 env:Env
 L:List Env
 stack:List Env
 ex:List Addr
 fn:Str->Bool
 calm:Bool
 pn:List (Addr × Obj)
 xe:Value->Shared->Prop
noncomputable def aI(l:List Env):List Addr:=l.filterMap (·.frame)
noncomputable abbrev Cx.fs(X:Cx):List Addr:=aI X.L
def Aa(sc:Scope)(x:Str):Prop:=sc.names.lookup x=some .local\/sc.names.lookup x=some .cell\/sc.names.lookup x=some .free
def Loc(sc:Scope)(x:Str):Prop:=sc.names.lookup x=some .local\/sc.names.lookup x=some .cell
def Look(env:Env)(h:Heap)(m:Str->Option Value)(x:Str)(u:Value):Prop:=
 (env.kindOf x=some .local/\m x=some u)\/((env.kindOf x=some .cell\/env.kindOf x=some .free)/\∃c,env.cells.lookup x=some c/\h.IsCell c (some u))
structure Cx.Ok(X:Cx):Prop where
 mod:Mod X.K X.mg X.M
 kind:X.env.scope.kind=.function
 glob:X.env.globals=mainGlobals
 blt:X.env.builtins=builtinsNs
 above:X.s₀.heap.objs.size<=X.env.locals
 inj:∀x y c,X.env.cells.lookup x=some c->X.env.cells.lookup y=some c->x=y
 has:∀x,(X.env.kindOf x=some .cell\/X.env.kindOf x=some .free)->∃c,X.env.cells.lookup x=some c
 fH:∀x c,X.fn x=true->X.env.cells.lookup x=some c->X.s₀.heap.objs.size<=c
 hd:X.calm=true->X.A.handled=none
 frames:X.A.frames=some X.stack
 cg:X.stack=X.L\/(X.stack=X.env::X.L/\X.env.frame=some X.env.locals)
 Ab:∀b∈X.ex,b≠X.env.locals/\∀x c,X.env.cells.lookup x=some c->c≠b
 bs:∀b o,X.M.get? b=some o->X.s₀.heap.get? b=some o/\X.H₀ b=none
 cH:X.M.objs.size<=X.s₀.heap.objs.size
 bF:∀b o,X.M.get? b=some o->b∉X.ex
 bX:∀b∈X.ex,b∉X.fs
 qc:X.s₀.heap.FunFrames X.M X.L
 fI:∀b∈X.fs,X.H₀ b=none
structure Inv(X:Cx)(U:List (Addr × Obj))(σ:List (Option V))(H:Hp)(s:Shared):Prop where
 ok:X.Ok
 os:s.os=X.s₀.os
 bare:AllBare s.gens
 M:Un X.fs X.ex X.H₀ H X.s₀.heap s.heap
 loc:∃m,s.heap.Ns X.env.locals m/\∀(i:Nat)(x:Str)(v:V),X.N[i]? =some x->σ[i]? =some (some v)->Aa X.env.scope x->∃u,RelV v u/\Look X.env s.heap m x u
 cell:∀x c,X.env.cells.lookup x=some c->∃v,s.heap.IsCell c v
 free:H X.env.locals=none
 aB:∀x c,X.env.cells.lookup x=some c->H c=none
 pin:∀p∈X.pn++U,s.heap.get? p.1=some p.2/\H p.1=none/\p.1≠X.env.locals/\p.1∉X.fs/\∀v,p.2.data≠ .cell v
 ag:aV X.prog X.w H s.heap
 len:σ.length=X.N.length
section
variable {X:Cx}{U:List (Addr × Obj)}{σ:List (Option V)}{H:Hp}{s:Shared}{h':Heap}
theorem Cx.Ok.LU(ok:X.Ok)(e:X.M.get? b=some o):b∉X.fs:=λhb=>by
 have:=(ok.qc.mem hb).1;rw[e]at this;cases this
theorem Inv.bs(I:Inv X U σ H s):∀b o,X.M.get? b=some o->s.heap.get? b=some o/\H b=none:=λb o e=>
 ⟨I.M.keep b o (I.ok.bs b o e).1 (I.ok.bs b o e).2 (I.ok.LU e) (I.ok.bF b o e),I.M.free b o (I.ok.bs b o e).1 (I.ok.bs b o e).2 (I.ok.bF b o e)⟩
theorem Inv.bk(I:Inv X U σ H s):∀b o,X.M.get? b=some o->s.heap.get? b=some o:=λb o e=>(I.bs b o e).1
theorem Inv.mod(I:Inv X U σ H s):Mod X.K X.mg X.M:=I.ok.mod
theorem Inv.bt(I:Inv X U σ H s):X.K.In s.heap:=I.ok.mod.iN.keeps I.bk
theorem Inv.nolimit(I:Inv X U σ H s):s.heap.NoLimit:=I.ok.mod.nolimit.keeps I.bk
theorem Inv.lt(I:Inv X U σ H s):X.env.locals<s.heap.objs.size:=let ⟨_,hn,_⟩:=I.loc;hn.lt
theorem Inv.sz(I:Inv X U σ H s):X.s₀.heap.objs.size<=s.heap.objs.size:=yas I.ok.above (ybi I.lt)
theorem Inv.LV(I:Inv X U σ H s){a:Addr}(h:s.heap.objs.size<=a):a∉X.fs:=λhb=>by
 obtain⟨_,o,ho,_⟩:=I.ok.qc.mem hb;exact absurd (yad (yae ho) (yas I.sz h)) (lY _)
theorem Inv.dB(I:Inv X U σ H s):∀x c,X.env.cells.lookup x=some c->c≠X.env.locals:=λx c e z=>by
 obtain⟨v,o,ho,hd⟩:=I.cell x c e;obtain⟨m,⟨o',es,ep,fZ,oD,_⟩,_⟩:=I.loc;rw[z,fZ]at ho;cases ho;rw[oD]at hd;cases hd
theorem Inv.qc(I:Inv X U σ H s):s.heap.FunFrames X.M X.L:=by
 have all:∀(l:List Env),(∀b∈aI l,b∈X.fs)->X.s₀.heap.FunFrames X.M l->s.heap.FunFrames X.M l:=by
  intro l
  induction l with
  |nil=>intro _ _;trivial
  |cons env r ih=>
   intro hs hl;obtain⟨hk,⟨qLa,o,hf,hn,ho,hd⟩,hr⟩:=hl;have hL:qLa∈X.fs:=hs qLa (by unfold aI;rw[ybT,hf];exact lH);obtain⟨sl,e⟩:=I.M.slot qLa o ho (I.ok.fI qLa hL) hL λz=>I.ok.bX qLa z hL;exact⟨hk,⟨qLa,_,hf,hn,e,hd⟩,ih (λb hb=>hs b (by unfold aI;rw[ybT,hf];exact lG _ hb)) hr⟩
 exact all X.L (λ_ hb=>hb) I.ok.qc
theorem Inv.stack(I:Inv X U σ H s):s.heap.FunFrames X.M X.stack:=by
 rcases I.ok.cg with e|⟨e,hf⟩
 ·rw[e];exact I.qc
 ·rw[e];obtain⟨m,hn,_⟩:=I.loc;refine .cons (by rw[I.ok.kind];decide) hf hn ?_ I.qc;exact Heap.get?_none_of_le (yas I.ok.cH I.ok.above)
theorem Inv.KR(I:Inv X U σ H s):∀b∈aI X.stack,b∈X.env.locals::X.fs:=λb hb=>by
 rcases I.ok.cg with e|⟨e,hf⟩
 ·rw[e]at hb;exact lG _ hb
 ·rw[e]at hb;unfold aI at hb;rw[ybT,hf]at hb;exact hb
theorem Inv.Ku(I:Inv X U σ H s):∀b∈aI X.stack,H b=none:=λb hb=>by
 rcases yag.mp (I.KR b hb)with e|hb
 ·rw[e];exact I.free
 ·obtain⟨_,o,ho,_⟩:=I.ok.qc.mem hb;exact I.M.free b o ho (I.ok.fI b hb) λz=>I.ok.bX b z hb
theorem Inv.step{g':Array GenState}{t':Nat}{d':Drawn}{ch:List Addr}(I:Inv X U σ H s)
  (Cl:∀b∈ch,(b∈X.ex\/X.s₀.heap.objs.size<=b)/\b≠X.env.locals/\(∀x c,X.env.cells.lookup x=some c->c≠b)/\∀p∈X.pn++U,p.1≠b)
  (keep:∀b o,b≠X.env.locals->b∉X.fs->b∉ch->s.heap.get? b=some o->H b=none->h'.get? b=some o)
  (slot:∀b o,b≠X.env.locals->b∈X.fs->b∉ch->s.heap.get? b=some o->H b=none->∃sl,h'.get? b=some {o with slots:=sl}) (free:∀b o,b∉ch->s.heap.get? b=some o->H b=none->H' b=none)
  (there:∀b o,b∉ch->s.heap.get? b=some o->∃o',h'.get? b=some o')
  (bq:∀b xs,H b=some (.tup xs)->H' b=some (.tup xs)) (bc:∀b o u,H b=some (.bO o u)->H' b=some (.bO o u)) (bf:∀b ps,H b=some (.bQ ps)->∃more,H' b=some (.bQ (ps++more)))
  (ns:∀m,s.heap.Ns X.env.locals m->h'.Ns X.env.locals m) (ag:aV X.prog X.w H' h') (hg:AllBare g'):
  Inv X U σ H' {s with heap:=h',gens:=g',drawn:=d',toks:=t'}:=by
 have f':∀b o,X.s₀.heap.get? b=some o->b≠X.env.locals:=λb o e=>yal (yad (yae e) I.ok.above);have iO:∀b o,X.s₀.heap.get? b=some o->b∉X.ex->b∉ch:=λb o e hx hb=>by
  rcases(Cl b hb).1 with z|z
  ·exact hx z
  ·exact absurd (yad (yae e) z) (lY _)
 have cellK:∀x c,X.env.cells.lookup x=some c->∀v,s.heap.IsCell c v->h'.IsCell c v:=λx c e v⟨o,ho,hd⟩=>by
  have fJ:c∉ch:=λz=>(Cl c z).2.2.1 x c e rfl
  by_cases hc:c∈X.fs
  ·obtain⟨sl,q⟩:=slot c o (I.dB x c e) hc fJ ho (I.aB x c e);exact⟨_,q,hd⟩
  ·exact⟨o,keep c o (I.dB x c e) hc fJ ho (I.aB x c e),hd⟩
 refine⟨I.ok,I.os,hg,⟨λb o e n hb hx=>?_,λb o e n hb hx=>?_,λb o e n hx=>?_,λb o e hx=>?_,λb xs e=>bq b xs (I.M.bq b xs e),λb o xs e=>bc b o xs (I.M.bc b o xs e),λb ps e=>?_⟩,?_,λx c e=>?_,?_,λx c e=>?_,λp hp=>?_,ag,I.len⟩
 ·exact keep b o (f' b o e) hb (iO b o e hx) (I.M.keep b o e n hb hx) (I.M.free b o e n hx)
 ·obtain⟨sl,e1⟩:=I.M.slot b o e n hb hx;obtain⟨Ac,e2⟩:=slot b _ (f' b o e) hb (iO b o e hx) e1 (I.M.free b o e n hx);exact⟨Ac,e2⟩
 ·obtain⟨o',e1⟩:=I.M.there b o e hx;exact free b o' (iO b o e hx) e1 (I.M.free b o e n hx)
 ·obtain⟨o',e1⟩:=I.M.there b o e hx;exact there b o' (iO b o e hx) e1
 ·obtain⟨m1,e1⟩:=I.M.bf b ps e;obtain⟨m2,e2⟩:=bf b _ e1;exact⟨m1++m2,by rw[e2,Array.append_assoc]⟩
 ·obtain⟨m,hn,hl⟩:=I.loc;refine⟨m,ns m hn,λi x v e1 e2 e3=>?_⟩;obtain⟨u,r,l⟩:=hl i x v e1 e2 e3;refine⟨u,r,?_⟩;rcases l with l|⟨k,c,e,z⟩
  ·exact .inl l
  ·exact .inr ⟨k,c,e,cellK x c e _ z⟩
 ·obtain⟨v,z⟩:=I.cell x c e;exact⟨v,cellK x c e v z⟩
 ·obtain⟨m,⟨o,_,_,ho,_⟩,_⟩:=I.loc;exact free _ o (λz=>(Cl _ z).2.1 Z) ho I.free
 ·obtain⟨v,o,ho,hd⟩:=I.cell x c e;exact free c o (λz=>(Cl c z).2.2.1 x c e Z) ho (I.aB x c e)
 ·obtain⟨e,n,ne,nf,d⟩:=I.pin p hp;have fJ:p.1∉ch:=λz=>(Cl p.1 z).2.2.2 p hp rfl;exact⟨keep p.1 p.2 ne nf fJ e n,free p.1 p.2 fJ e n,ne,nf,d⟩
theorem Inv.un(I:Inv X U σ H s)(u:Un X.fs [] H H' s.heap h')(ag:aV X.prog X.w H' h'):Inv X U σ H' {s with heap:=h',toks:=t'}:=by
 obtain⟨m,⟨o,es,ep,ho,r⟩,_⟩:=id I.loc;obtain⟨sl,hL⟩:=u.any ho I.free (by simp);exact I.step (g':=s.gens) (d':=s.drawn) (ch:=[]) (λ_ z=>nomatch z) (λb o _ hb _ e n=>u.keep b o e n hb (by simp)) (λb o _ hb _ e n=>u.slot b o e n hb (by simp)) (λb o _ e n=>u.free b o e n (by simp)) (λb o _ e=>u.there b o e (by simp)) u.bq u.bc u.bf (λm' hm=>by
  obtain⟨o',D8,D9,fZ,r'⟩:=hm;rw[ho]at fZ;cases fZ;exact⟨_,D8,D9,hL,r'⟩) ag I.bare
theorem Inv.call{ch:List Addr}(I:Inv X U σ H s)(u:Un (aI X.stack) ch H H' s.heap h')(ag:aV X.prog X.w H' h')(hg:AllBare g')
  (Cl:∀b∈ch,(b∈X.ex\/X.s₀.heap.objs.size<=b)/\b≠X.env.locals/\(∀x c,X.env.cells.lookup x=some c->c≠b)/\∀p∈X.pn++U,p.1≠b):
  Inv X U σ H' {s with heap:=h',gens:=g',drawn:=d',toks:=t'}:=by
 obtain⟨m,⟨o,es,ep,ho,r⟩,_⟩:=id I.loc;obtain⟨sl,hL⟩:=u.any ho I.free λz=>(Cl _ z).2.1 rfl;exact I.step (ch:=ch) Cl (λb o hL hb hc e n=>u.keep b o e n (λz=>(yag.mp (I.KR b z)).elim hL hb) hc) (λb o _ _ hc e n=>u.any e n hc) (λb o hc e n=>u.free b o e n hc) (λb o hc e=>u.there b o e hc) u.bq u.bc u.bf (λm' hm=>by
  obtain⟨o',D8,D9,fZ,r'⟩:=hm;rw[ho]at fZ;cases fZ;exact⟨_,D8,D9,hL,r'⟩) ag hg
theorem Inv.turned{it:Addr}(I:Inv X U σ H s)(k:∀b o,b≠it->s.heap.get? b=some o->h'.get? b=some o) (hn:H it=none) (hL:it≠X.env.locals)
  (h1:it∈X.ex\/X.s₀.heap.objs.size<=it) (h2:∀x c,X.env.cells.lookup x=some c->c≠it) (h3:∀p∈X.pn++U,p.1≠it):Inv X U σ H {s with heap:=h',toks:=t'}:=by
 have iP:∀b u,H b=some u->b≠it:=λb u e z=>by rw[z,hn]at e;cases e
 refine I.step (g':=s.gens) (d':=s.drawn) (ch:=[it]) (λb hb=>?_) (λb o _ _ hc e _=>k b o (λz=>hc (by simp[z])) e) (λb o _ _ hc e _=>⟨o.slots,k b o (λz=>hc (by simp[z])) e⟩) (λ_ _ _ _ n=>n)
  (λb o hc e=>⟨o,k b o (λz=>hc (by simp[z])) e⟩) (λ_ _ e=>e) (λ_ _ _ e=>e) (λb ps e=>⟨#[],by rw[e];simp⟩) (λm hm=>?_) (λb u e=>?_) I.bare
 ·have e:b=it:=by simpa using hb
  subst e;exact⟨h1,hL,h2,h3⟩
 ·obtain⟨o,es,ep,ho,r⟩:=hm;exact⟨o,es,ep,k _ o (Ne.symm hL) ho,r⟩
 ·refine(I.ag b u e).KQ (λc v hc q=>k c v ?_ q) (λ_ q=>q) λ_ _ q=>q;rcases hc with z|z
  ·rw[z];exact iP b u e
  ·exact iP c _ z
theorem Inv.tok(I:Inv X U σ H s)(t:Nat):Inv X U σ H {s with toks:=t}:=I.un (h':=s.heap) (t':=t) Un.refl I.ag
theorem Inv.kept(I:Inv X U σ H s)(k:∀b u,s.heap.get? b=some u->h'.get? b=some u):Inv X U σ H {s with heap:=h',toks:=t'}:=I.un (Un.kept k) (I.ag.kept k)
theorem Inv.laid{a:Addr}{o:HO}{t':Nat}(I:Inv X U σ H s)(k:∀b u,s.heap.get? b=some u->h'.get? b=some u) (hp:s.heap.objs.size<=a) (new:JU X.prog X.w (upd H a o) h' a o):
  Inv X U σ (upd H a o) {s with heap:=h',toks:=t'}:=I.un (Un.laid k hp (I.ag.fresh hp)) (I.ag.laid k hp new)
theorem Inv.write(I:Inv X U σ H s)(mu:AL (H x))(he:e=x\/H e=some (.own x))(k:∀b u,b≠e->s.heap.get? b=some u->h'.get? b=some u) (sZ:∃u,h'.get? e=some u)
  (new:JU X.prog X.w (upd H x o) h' x o):Inv X U σ (upd H x o) {s with heap:=h',toks:=t'}:=I.un (Un.write mu he k sZ) (I.ag.write mu he k sZ new)
theorem Inv.weak(I:Inv X U σ H s)(hl:σ'.length=σ.length)(w:∀(i:Nat) v,σ'[i]? =some (some v)->σ[i]? =some (some v)):Inv X U σ' H s:=
 ⟨I.ok,I.os,I.bare,I.M,let ⟨m,hn,LW⟩:=I.loc;⟨m,hn,λi x v e1 e2 e3=>LW i x v e1 (w i v e2) e3⟩,I.cell,I.free,I.aB,I.pin,I.ag,hl.trans I.len⟩
theorem Inv.XG(I:Inv X U σ H s)(h:∀p∈iQ,s.heap.get? p.1=some p.2/\H p.1=none/\p.1≠X.env.locals/\p.1∉X.fs/\∀v,p.2.data≠ .cell v):Inv X iQ σ H s:=
 ⟨I.ok,I.os,I.bare,I.M,I.loc,I.cell,I.free,I.aB,λp hp=>(yao.mp hp).elim (λz=>I.pin p (lF _ z)) (h p),I.ag,I.len⟩
theorem Ys{N:List Str}(hN:N.Nodup){i j:Nat}{x:Str}(a:N[i]? =some x)(b:N[j]? =some x):i=j:=by
 obtain⟨h1,e1⟩:=yaj.mp a;obtain⟨h2,e2⟩:=yaj.mp b;exact(List.getElem_inj hN).mp (e1.trans e2.symm)
theorem W9(I:Inv X U σ H s)(hN:X.N.Nodup)(hi:X.N[i]? =some x)(hx:Loc X.env.scope x)(r:RelV v u)
  (h:∀s',Inv X U (σ.set i (some v)) H s'->(∃a,Heap.SameBut a s.heap s'.heap/\(a=X.env.locals\/X.env.cells.lookup x=some a))->Q () s') (hf:X.fn x=true\/X.env.scope.names.lookup x=some .local:=by first|exact .inl rfl|exact .inr rfl|assumption):wpAny qMa A (storeName X.env x u) Q E s:=by
 obtain⟨m,hn,hl⟩:=id I.loc;have D':(X.env.scope.kind==.class||(X.env.scope.kind==.module&&X.env.locals !=X.env.globals))=false:=by rw[I.ok.kind];rfl
 have Hq:i<σ.length:=by rw[I.len];exact(yaj.mp hi).1
 have dB:=I.dB;have tracked:∀{a:Addr}{h':Heap},(∃o,s.heap.get? a=some o/\H a=none)->Heap.SameBut a s.heap h'->aV X.prog X.w H h':=λ{a h'} ha hs b ob e=>by
  obtain⟨_,_,cI⟩:=ha;refine(I.ag b ob e).KQ (λc w' hc q=>(hs.2 c ?_).trans q) (λ_ q=>q) λ_ _ q=>q;rintro rfl;rcases hc with rfl|hc
  ·rw[cI]at e;cases e
  ·rw[cI]at hc;cases hc
 rcases hx with hk|hk
 ·refine wpAny_storeName_local hk hn (λh' Ea hs=>?_) D';obtain⟨oL,_,_,Hr,_⟩:=id hn;refine h _ ⟨I.ok,I.os,I.bare,⟨λb o e n hb hx=>?_,λb o e n hb hx=>?_,I.M.free,λb o e hx=>?_,I.M.bq,I.M.bc,I.M.bf⟩,⟨_,Ea,λj y v' e1 e2 e3=>?_⟩,λy c e=>?_,I.free,I.aB,λp hp=>?_,tracked ⟨oL,Hr,I.free⟩ hs,by simpa using I.len⟩ ⟨_,hs,.inl rfl⟩
  ·exact(hs.2 b (yal (yad (yae e) I.ok.above))).trans (I.M.keep b o e n hb hx)
  ·obtain⟨sl,e1⟩:=I.M.slot b o e n hb hx;exact⟨sl,(hs.2 b (yal (yad (yae e) I.ok.above))).trans e1⟩
  ·obtain⟨o',e1⟩:=I.M.there b o e hx;exact⟨o',(hs.2 b (yal (yad (yae e) I.ok.above))).trans e1⟩
  ·by_cases hj:j=i
   ·subst hj;rw[hi]at e1;cases e1;rw[ycN Hq]at e2;cases e2;exact⟨u,r,.inl ⟨hk,by simp⟩⟩
   ·rw[ybH (Ne.symm hj)]at e2;obtain⟨u',r',q⟩:=hl j y v' e1 e2 e3;refine⟨u',r',?_⟩;rcases q with⟨k,e⟩|⟨k,c,e,z⟩
    ·refine .inl ⟨k,?_⟩;have:y≠x:=λe=>hj (Ys hN e1 (e▸hi));simp[this,e]
    ·exact .inr ⟨k,c,e,z.sameBut hs (dB y c e)⟩
  ·obtain⟨w',z⟩:=I.cell y c e;exact⟨w',z.sameBut hs (dB y c e)⟩
  ·obtain⟨e,n,ne,nf,d⟩:=I.pin p hp;exact⟨(hs.2 p.1 ne).trans e,n,ne,nf,d⟩
 ·have ia:X.fn x=true:=by
   rcases hf with z|z
   ·exact z
   ·rw[z]at hk;cases hk
  obtain⟨c,hc⟩:=I.ok.has x (.inl hk);obtain⟨w',z⟩:=I.cell x c hc;refine wpAny_storeName_cell I.ok.kind hk hc z (λh' cJ hs=>?_);obtain⟨oc,Hs,Eb⟩:=id z;refine h {s with heap:=h'} ⟨I.ok,I.os,I.bare,⟨λb o e n hb hx=>?_,λb o e n hb hx=>?_,I.M.free,λb o e hx=>?_,I.M.bq,I.M.bc,I.M.bf⟩,⟨m,hn.sameBut hs (Ne.symm (dB x c hc)),λj y v' e1 e2 e3=>?_⟩,λy c' e=>?_,I.free,I.aB,λp hp=>?_,tracked ⟨oc,Hs,I.aB x c hc⟩ hs,by simpa using I.len⟩ ⟨c,hs,.inr hc⟩
  ·exact(hs.2 b (yal (yad (yae e) (I.ok.fH x c ia hc)))).trans (I.M.keep b o e n hb hx)
  ·obtain⟨sl,e1⟩:=I.M.slot b o e n hb hx;exact⟨sl,(hs.2 b (yal (yad (yae e) (I.ok.fH x c ia hc)))).trans e1⟩
  ·obtain⟨o',e1⟩:=I.M.there b o e hx;exact⟨o',(hs.2 b (yal (yad (yae e) (I.ok.fH x c ia hc)))).trans e1⟩
  ·by_cases hj:j=i
   ·subst hj;rw[hi]at e1;cases e1;rw[ycN Hq]at e2;cases e2;exact⟨u,r,.inr ⟨.inl hk,c,hc,cJ⟩⟩
   ·rw[ybH (Ne.symm hj)]at e2;obtain⟨u',r',q⟩:=hl j y v' e1 e2 e3;refine⟨u',r',?_⟩;rcases q with q|⟨k,c',e,z'⟩
    ·exact .inl q
    ·refine .inr ⟨k,c',e,z'.sameBut hs ?_⟩;rintro rfl;exact hj (Ys hN e1 (I.ok.inj _ _ _ e hc▸hi))
  ·by_cases dC:c'=c
   ·subst dC;exact⟨_,cJ⟩
   ·obtain⟨w2,z2⟩:=I.cell y c' e;exact⟨w2,z2.sameBut hs dC⟩
  ·obtain⟨e,n,ne,nf,d⟩:=I.pin p hp;refine⟨(hs.2 p.1 ?_).trans e,n,ne,nf,d⟩;intro q;rw[q,Hs]at e;have q':oc=p.2:=lB e;exact d w' (by rw[←q'];exact Eb)
theorem ZF(I:Inv X U σ H s)(hN:X.N.Nodup)(hi:X.N[i]? =some x)(hx:Loc X.env.scope x)(r:RelV v u)
  (h:∀s',Inv X U (σ.set i (some v)) H s'->Q () s') (hf:X.fn x=true\/X.env.scope.names.lookup x=some .local:=by first|exact .inl rfl|exact .inr rfl|assumption):wpAny qMa A (storeName X.env x u) Q E s:=
 W9 I hN hi hx r (λs' I' _=>h s' I') hf
theorem Inv.z8{ch:List Addr}(I:Inv X U σ H s)(ho:s'.os=s.os)(u:Un (aI X.stack) ch H H' s.heap s'.heap)(ag:aV X.prog X.w H' s'.heap)(hg:AllBare s'.gens)
  (Cl:∀b∈ch,(b∈X.ex\/X.s₀.heap.objs.size<=b)/\b≠X.env.locals/\(∀x c,X.env.cells.lookup x=some c->c≠b)/\∀p∈X.pn++U,p.1≠b):Inv X U σ H' s':=by
 obtain⟨h',g',d',t',o'⟩:=s';have e:o'=s.os:=ho;subst e;exact I.call (g':=g') (t':=t') (d':=d') u ag hg Cl
end
noncomputable abbrev XK:=Value->Option Addr->Hp->Prop
noncomputable abbrev St:=List (Option V)
noncomputable abbrev VK:=V->Hp->Prop
noncomputable abbrev TE:=St->Hp->VK->Prop
noncomputable abbrev TT:=St->Hp->(Bool->Hp->Prop)->Prop
noncomputable abbrev TA:=St->Hp->(List V->Hp->Prop)->Prop
structure Ends where
 nx:St->Hp->Prop
 rt:VK
 bk:St->Hp->Prop:=λ_ _=>False
 ct:St->Hp->Prop:=λ_ _=>False
noncomputable abbrev TS:=Ends->St->Hp->Prop
def EP(X:Cx)(U:List (Addr × Obj))(σ:St)(Q:VK)(u:Value)(s':Shared):Prop:=∃v H',Inv X U σ H' s'/\RelV v u/\Q v H'
def TP(X:Cx)(U:List (Addr × Obj))(σ:St)(Q:Bool->Hp->Prop)(b:Bool)(s':Shared):Prop:=∃H',Inv X U σ H' s'/\Q b H'
def AP(X:Cx)(U:List (Addr × Obj))(σ:St)(Q:List V->Hp->Prop)(us:List Value)(s':Shared):Prop:=∃vs H',Inv X U σ H' s'/\Vals vs us/\Q vs H'
def SP(X:Cx)(U:List (Addr × Obj))(D:Ends)(f:Flow)(s':Shared):Prop:=
 match f with
 | .next=>∃σ' H',Inv X U σ' H' s'/\D.nx σ' H'
 | .brk=>∃σ' H',Inv X U σ' H' s'/\D.bk σ' H'
 | .cont=>∃σ' H',Inv X U σ' H' s'/\D.ct σ' H'
 | .ret u=>∃v σ' H',Inv X U σ' H' s'/\RelV v u/\D.rt v H'
def PE(X:Cx)(e:Expr)(t:TE):Prop:=
 ∀(U:List (Addr × Obj))(s:Shared)(σ:St)(H:Hp)(Q:VK),Inv X U σ H s->t σ H Q->wpAny (model X.prog X.w) X.A (eval e X.env) (EP X U σ Q) X.xe s
def PT(X:Cx)(e:Expr)(t:TT):Prop:=
 ∀(U:List (Addr × Obj))(s:Shared)(σ:St)(H:Hp)(Q:Bool->Hp->Prop),Inv X U σ H s->t σ H Q->wpAny (model X.prog X.w) X.A (isTrue e X.env (eval e X.env)) (TP X U σ Q) X.xe s
def PW(X:Cx)(e:Expr)(t:TT):Prop:=
 ∀(whole:Sem Value)(U:List (Addr × Obj))(s:Shared)(σ:St)(H:Hp)(Q:Bool->Hp->Prop),Inv X U σ H s->t σ H Q->wpAny (model X.prog X.w) X.A (isTrue e X.env whole) (TP X U σ Q) X.xe s
theorem PW.pt(h:PW X e t):PT X e t:=h _
def PA(X:Cx)(es:List Expr)(t:TA):Prop:=
 ∀(pos:Pos)(U:List (Addr × Obj))(s:Shared)(σ:St)(H:Hp)(Q:List V->Hp->Prop),Inv X U σ H s->t σ H Q->wpAny (model X.prog X.w) X.A (spliced (backTo pos (starEach es X.env))) (AP X U σ Q) X.xe s
def PS(X:Cx)(st:Stmt)(t:TS):Prop:=
 ∀(U:List (Addr × Obj))(s:Shared)(σ:St)(H:Hp)(D:Ends),Inv X U σ H s->t D σ H->wpAny (model X.prog X.w) X.A (exec st X.env) (SP X U D) X.xe s
def aQ(X:Cx)(st:List Stmt)(t:TS):Prop:=
 ∀(U:List (Addr × Obj))(s:Shared)(σ:St)(H:Hp)(D:Ends),Inv X U σ H s->t D σ H->wpAny (model X.prog X.w) X.A (execs st X.env) (SP X U D) X.xe s
theorem au{α:Type}{t:Sem α}{Q Q':α->Shared->Prop}{qMa:Model}{A:Around}{s:Shared}(h:wpAny qMa A t Q E s)(hQ:∀a s,Q a s->Q' a s):wpAny qMa A t Q' E s:=yaA h hQ λ_ _ x=>x
section
variable {X:Cx}
def ZB(i:Nat):TE:=λσ H Q=>∃v,σ[i]? =some (some v)/\Q v H
def tC(v:V):TE:=λ_ H Q=>Q v H
theorem yz{pos:Pos}(hN:X.N[i]? =some x)(hv:Aa X.env.scope x)(hd:(x==("__debug__":Str))=false:=by decide)(GM:(x==("__classdict__":Str))=false:=by decide):PE X (.Name x pos) (ZB i):=by
 intro U s σ H Q I h;obtain⟨v,e,h⟩:=h;obtain⟨m,hn,hl⟩:=I.loc;obtain⟨u,r,l⟩:=hl i x v hN e hv;have fin:EP X U σ Q u s:=⟨v,H,I,r,h⟩;rcases l with⟨hk,hm⟩|⟨hk,c,hc,GT⟩
 ·exact wpAny_Name (wpAny_loadName_local I.ok.kind hk hn hm fin) hd
 ·rcases hk with hk|hk
  ·exact wpAny_Name (wpAny_loadName_cell I.ok.kind hk hc GT fin) hd
  ·exact wpAny_Name (wpAny_loadName_free I.ok.kind hk hc GT fin GM) hd
theorem Qj{i j pos}:PE X (.Constant (.int i) j pos) (tC (.int i)):=λ_ _ _ H _ I h=>wpAny_Constant_int ⟨.int i,H,I.tok _,⟨_,Z⟩,h⟩
theorem WN{b j pos}:PE X (.Constant (.bool b) j pos) (tC (.bl b)):=λ_ _ _ H _ I h=>Constant_bool ⟨.bl b,H,I,Z,h⟩
theorem Za{j pos}:PE X (.Constant .none j pos) (tC .aw):=λ_ _ _ H _ I h=>Constant_none ⟨.aw,H,I,Z,h⟩
theorem Qd{x j pos}:PE X (.Constant (.str x) j pos) (tC (.str x)):=λ_ _ _ H _ I h=>Calls.Constant_str ⟨.str x,H,I.tok _,⟨_,Z⟩,h⟩
def Gl(X:Cx)(x:Str):Prop:=X.env.kindOf x=some .globalImplicit
theorem XH{U:List (Addr × Obj)}{σ:St}{x:Str}{pos:Pos}(I:Inv X U σ H s)(hg:Gl X x)(hm:X.mg x=some u)(h:Q u s)
  (hd:(x==("__debug__":Str))=false:=by decide):wpAny (model X.prog X.w) X.A (eval (.Name x pos) X.env) Q E s:=
 ydv I.ok.kind hg (Calls.loadGlobal_global (by rw[I.ok.glob];exact I.mod.glob.keeps I.bk) hm h) hd
theorem WF{E:Value->Shared->Prop}{U:List (Addr × Obj)}{s:Shared}{σ:St}{H:Hp}{x:Str}{u:Value}{pos:Pos}(I:Inv X U σ H s)(hg:Gl X x)(hm:X.mg x=none)(hv:bootBuiltins x=some u)(h:Q u s)
  (hn:x≠"__name__":=by decide) (hd:(x==("__debug__":Str))=false:=by decide):wpAny (model X.prog X.w) X.A (eval (.Name x pos) X.env) Q E s:=by
 obtain⟨mb,h1,h2⟩:=I.mod.blt;exact ydv I.ok.kind hg (Calls.loadGlobal_builtin (by rw[I.ok.glob];exact I.mod.glob.keeps I.bk) hm (by rw[I.ok.blt];exact h1.keeps I.bk) ((h2 x hn).trans hv) h) hd
theorem QD{pos:Pos}(hg:Gl X x)(hm:X.mg x=some u)(r:RelV v u)(hd:(x==("__debug__":Str))=false:=by decide):PE X (.Name x pos) (tC v):=
 λ_ _ _ H _ I h=>XH I hg hm ⟨v,H,I,r,h⟩ hd
theorem xa{pos:Pos}(hg:Gl X x)(hm:X.mg x=none)(hv:bootBuiltins x=some u)(r:RelV v u)(hn:x≠"__name__":=by decide)(hd:(x==("__debug__":Str))=false:=by decide):PE X (.Name x pos) (tC v):=
 λ_ _ _ H _ I h=>WF I hg hm hv ⟨v,H,I,r,h⟩ hn hd
variable {pos:Pos}
def PC(X:Cx)(op:CmpOp)(a b:Expr)(t:TE):Prop:=
 ∀(U:List (Addr × Obj))(s:Shared)(σ:St)(H:Hp)(Q:VK),Inv X U σ H s->t σ H Q->
  wpAny (model X.prog X.w) X.A (eval a X.env) (λv s₁=>wpAny (model X.prog X.w) X.A (eval b X.env) (λu s₂=>wpAny (model X.prog X.w) X.A (compareOp op v u) (EP X U σ Q) X.xe s₂) X.xe s₁) X.xe s
theorem wG(b:Expr){op:CmpOp}(h:op≠ .In)(h2:op≠ .NotIn):behindInMarks op b=false:=by
 have e1:(op==CmpOp.In)=false:=by cases op<;>first|rfl|exact absurd rfl h
 have e2:(op==CmpOp.NotIn)=false:=by cases op<;>first|rfl|exact absurd rfl h2
 cases b<;>simp[behindInMarks,e1,e2]
def LX(ta:TE):TE:=λσ H Q=>ta σ H λx H1=>Q (.bl (decide (x=.aw))) H1
theorem RelV.wH(r:RelV x v):(v==Value.none)=decide (x=.aw):=by
 cases x with
 |aw=>cases r;rfl
 |bl _=>cases r;rfl
 |int _=>obtain⟨t,rfl⟩:=r;rfl
 |str _=>obtain⟨t,rfl⟩:=r;rfl
 |cG _=>obtain⟨t,rfl⟩:=r;rfl
 |oC _=>obtain⟨t,rfl⟩:=r;rfl
 |ref _=>cases r;rfl
 |ty _=>cases r;rfl
theorem Km{j pos'}(ha:PE X a ta):PC X .Is a (.Constant .none j pos') (LX ta):=by
 intro U s σ H Q I h;refine au (ha U s σ H _ I h) λv s1⟨x,H1,I1,r1,q1⟩=>?_;exact Constant_none (is_none_gen ⟨.bl _,H1,I1,by rw[r1.wH];rfl,q1⟩)
def tB(t:TE):TT:=λσ H Q=>t σ H λx H1=>∃c,x=.bl c/\Q c H1
theorem Z0{op:CmpOp}(h:PC X op a b t)(h1:behindInMarks op b=false:=by first|exact wG _ (by decide) (by decide)|rfl):PT X (.Compare a [op] [b] pos) (tB t):=by
 intro U s σ H Q I hw;refine wpAny_isTrue_Compare1 (au (h U s σ H _ I hw) λv s1 h1=>au h1 λu s2 h2=>au h2 λc s3⟨x,H1,I1,r1,q1⟩=>?_) h1;obtain⟨d,rfl,q⟩:=q1;cases r1;exact ybu ⟨H1,I1,q⟩
theorem WG(h:PE X e t)(he:∀whole,isTrue e X.env whole=(do let v←whole;standAt e.pos;holding [v] (truthy v)):=by intro _;rfl):PT X e (tB t):=by
 intro U s σ H Q I hw;refine isTrue_plain (au (h U s σ H _ I hw) λv s1⟨x,H1,I1,r1,q1⟩=>?_) (he _);obtain⟨d,rfl,q⟩:=q1;cases r1;exact ybu ⟨H1,I1,q⟩
variable {rest:List Expr}
def Ht(t u:TT):TT:=λσ H Q=>t σ H λc H1=>if c=true then u σ H1 Q else Q false H1
def CY(t u:TT):TT:=λσ H Q=>t σ H λc H1=>if c=true then Q true H1 else u σ H1 Q
def Hu(t:TT):TT:=λσ H Q=>t σ H λc H1=>Q (!c) H1
theorem Q6(ha:PT X a tA):PW X (.BoolOp .And [a] pos) tA:=by
 intro wh U s σ H Q I h;refine isTrue_and (au (ha U s σ H Q I h) λc s1 e=>?_);cases c with
 |true=>exact isTrue_and_nil e
 |false=>exact e
theorem Zf(ha:PT X a tA):PW X (.BoolOp .Or [a] pos) tA:=by
 intro wh U s σ H Q I h;refine isTrue_or (au (ha U s σ H Q I h) λc s1 e=>?_);cases c with
 |false=>exact isTrue_or_nil e
 |true=>exact e
theorem Je(ha:PT X a tA)(hb:PW X (.BoolOp .And (b::rest) pos) CW):PW X (.BoolOp .And (a::b::rest) pos) (Ht tA CW):=by
 intro wh U s σ H Q I h;refine isTrue_and (au (ha U s σ H _ I h) λc s1⟨H1,I1,q1⟩=>?_);cases c with
 |true=>exact hb wh U s1 σ H1 Q I1 q1
 |false=>exact⟨H1,I1,q1⟩
theorem Xa(ha:PT X a tA)(hb:PW X (.BoolOp .Or (b::rest) pos) CW):PW X (.BoolOp .Or (a::b::rest) pos) (CY tA CW):=by
 intro wh U s σ H Q I h;refine isTrue_or (au (ha U s σ H _ I h) λc s1⟨H1,I1,q1⟩=>?_);cases c with
 |true=>exact⟨H1,I1,q1⟩
 |false=>exact hb wh U s1 σ H1 Q I1 q1
theorem Kn(ha:PT X a tA):PT X (.UnaryOp .Not a pos) (Hu tA):=by
 intro U s σ H Q I h;exact isTrue_not (ha U s σ H (λc H1=>Q (!c) H1) I h)
def wI(ta tb:TE):TE:=λσ H Q=>ta σ H λx H1=>∃c,x=.bl c/\if c=true then tb σ H1 Q else Q (.bl false) H1
theorem Uf{op}(h:PE X a t):PE X (.BoolOp op [a] pos) t:=λU s σ H Q I hw=>BoolOp_one (h U s σ H Q I hw)
theorem Ug(ha:PE X a ta)(hb:PE X (.BoolOp .And (b::rest) pos) tb):PE X (.BoolOp .And (a::b::rest) pos) (wI ta tb):=by
 intro U s σ H Q I h;refine BoolOp_and (au (ha U s σ H _ I h) λv s1⟨x,H1,I1,r1,q1⟩=>?_);obtain⟨c,rfl,q1⟩:=q1;cases r1;refine ybu ?_;cases c with
 |true=>exact hb U s1 σ H1 Q I1 q1
 |false=>exact⟨.bl false,H1,I1,Z,q1⟩
def Ec(t:TT)(ta tb:TE):TE:=λσ H Q=>t σ H λc H1=>if c=true then ta σ H1 Q else tb σ H1 Q
theorem QC(hc:PT X c tA)(ha:PE X a ta)(hb:PE X b tb):PE X (.IfExp c a b pos) (Ec tA ta tb):=by
 intro U s σ H Q I h;refine wpAny_IfExp (au (hc U s σ H _ I h) λd s1⟨H1,I1,q1⟩=>?_);cases d with
 |true=>exact ha U s1 σ H1 Q I1 q1
 |false=>exact hb U s1 σ H1 Q I1 q1
end
def ay(K:Frag)(H:Hp)(a:Addr)(xs:List V):Prop:=
 Rd H a (.lst xs)\/
  ∃(o:Obj)(ap:Array Value)(n:Nat),K.lookup a=some o/\o.cls=.type "list"/\o.dict=none/\o.data=.seq ap n/\ap.size<=sizeLine/\Vals xs ap.toList
def ai(K:Frag)(H:Hp)(a:Addr)(xs:List V):Prop:=
 Rd H a (.tup xs)\/
  ∃(o:Obj)(ap:Array Value)(n:Nat),K.lookup a=some o/\o.cls=.type "tuple"/\o.data=.seq ap n/\ap.size<=sizeLine/\Vals xs ap.toList
noncomputable def LY:Value->Option V
 | .none=>some .aw
 | .bool b=>some (.bl b)
 | .int i _=>some (.int i)
 | .str x _=>some (.str x)
 | .bytes b _=>some (.cG b)
 | .float b _=>some (.oC b)
 | .ref a=>some (.ref a)
 | .type n=>some (.ty n)
 |_=>none
theorem RelV.abs(r:RelV x u):LY u=some x:=by
 cases x with
 |aw=>cases r;rfl
 |bl _=>cases r;rfl
 |int _=>obtain⟨t,rfl⟩:=r;rfl
 |str _=>obtain⟨t,rfl⟩:=r;rfl
 |cG _=>obtain⟨t,rfl⟩:=r;rfl
 |oC _=>obtain⟨t,rfl⟩:=r;rfl
 |ref _=>cases r;rfl
 |ty _=>cases r;rfl
theorem RelV.inj(r:RelV x u)(q:RelV y u):x=y:=lB (r.abs.symm.trans q.abs)
theorem Vals.inj:∀{xs ys:List V}{us:List Value},Vals xs us->Vals ys us->xs=ys
 |_,_,_,.nil,.nil=>rfl
 |_,_,_,.cons r t,.cons r' t'=>by rw[r.inj r',Vals.inj t t']
section
variable {X:Cx}{U:List (Addr × Obj)}{σ:St}{H:Hp}{s:Shared}{a:Addr}{xs ys:List V}
theorem ay.of{K:Frag}(h:H a=some (.lst xs)):ay K H a xs:=.inl (.inl h)
theorem ai.of{K:Frag}(h:H a=some (.tup xs)):ai K H a xs:=.inl (.inl h)
theorem Inv.list(I:Inv X U σ H s)(h:ay X.K H a xs):∃ap:List Value,Vals xs ap/\PlainL s.heap a ap.toArray/\xs.length<=sizeLine:=by
 rcases h with h|⟨o,ap,n,hk,hc,hd,hs,hz,r⟩
 ·obtain⟨z,ap,n,r,e⟩:=h.ok I.ag;exact⟨ap,r,⟨_,n,e,Z,Z,Z⟩,z⟩
 ·refine⟨ap.toList,r,⟨o,n,I.bt a o hk,hc,hd,by simpa using hs⟩,?_⟩;have e:=r.length;simp only[lV]at e;lia
theorem Inv.tuple(I:Inv X U σ H s)(h:ai X.K H a xs):∃ap:List Value,Vals xs ap/\IsTup s.heap a ap.toArray/\xs.length<=sizeLine:=by
 rcases h with h|⟨o,ap,n,hk,hc,hs,hz,r⟩
 ·obtain⟨z,ap,r,p⟩:=h.ok I.ag;exact⟨ap,r,p.tup,z⟩
 ·refine⟨ap.toList,r,⟨o,I.bt a o hk,hc,n,by simpa using hs⟩,?_⟩;have e:=r.length;simp only[lV]at e;lia
theorem Inv.wJ(I:Inv X U σ H s)(h:ay X.K H a xs)(h':ay X.K H a ys):xs=ys:=by
 obtain⟨ap,r,⟨o,n,e,_,_,d⟩,_⟩:=I.list h;obtain⟨its',r',⟨o',n',e',_,_,d'⟩,_⟩:=I.list h';rw[e]at e';cases e';rw[d]at d';injection d' with d1 _;have:ap=its':=by simpa using yaI Array.toList d1
 subst this;exact r.inj r'
theorem Inv.xb(I:Inv X U σ H s)(h:ai X.K H a xs)(h':ai X.K H a ys):xs=ys:=by
 obtain⟨ap,r,⟨o,e,_,n,d⟩,_⟩:=I.tuple h;obtain⟨its',r',⟨o',e',_,n',d'⟩,_⟩:=I.tuple h';rw[e]at e';cases e';rw[d]at d';injection d' with d1 _;have:ap=its':=by simpa using yaI Array.toList d1
 subst this;exact r.inj r'
end
noncomputable abbrev Cx.wB(X:Cx)(E:Value->Shared->Prop):Cx:={X with xe:=E}
noncomputable abbrev Cx.bA(X:Cx):Cx:=X.wB λ_ _=>False
theorem Cx.Ok.wB{X:Cx}(ok:X.Ok)(E:Value->Shared->Prop):(X.wB E).Ok:=
 ⟨ok.mod,ok.kind,ok.glob,ok.blt,ok.above,ok.inj,ok.has,ok.fH,ok.hd,ok.frames,ok.cg,ok.Ab,ok.bs,ok.cH,ok.bF,ok.bX,ok.qc,ok.fI⟩
theorem Cx.Ok.WH{X:Cx}(ok:(X.wB E).Ok):X.Ok:=
 ⟨ok.mod,ok.kind,ok.glob,ok.blt,ok.above,ok.inj,ok.has,ok.fH,ok.hd,ok.frames,ok.cg,ok.Ab,ok.bs,ok.cH,ok.bF,ok.bX,ok.qc,ok.fI⟩
section
variable {X:Cx}{U:List (Addr × Obj)}{σ:St}{H:Hp}{s:Shared}{E:Value->Shared->Prop}
theorem Inv.wB(I:Inv X U σ H s)(E:Value->Shared->Prop):Inv (X.wB E) U σ H s:=⟨I.ok.wB E,I.os,I.bare,I.M,I.loc,I.cell,I.free,I.aB,I.pin,I.ag,I.len⟩
theorem Inv.WH(I:Inv (X.wB E) U σ H s):Inv X U σ H s:=⟨I.ok.WH,I.os,I.bare,I.M,I.loc,I.cell,I.free,I.aB,I.pin,I.ag,I.len⟩
theorem SP.WH(h:SP (X.wB E) U D f s'):SP X U D f s':=by
 cases f with
 |next=>obtain⟨σ',H',I,q⟩:=h;exact⟨σ',H',I.WH,q⟩
 |brk=>obtain⟨σ',H',I,q⟩:=h;exact⟨σ',H',I.WH,q⟩
 |cont=>obtain⟨σ',H',I,q⟩:=h;exact⟨σ',H',I.WH,q⟩
 |ret u=>obtain⟨v,σ',H',I,r,q⟩:=h;exact⟨v,σ',H',I.WH,r,q⟩
theorem aQ.bA{st:List Stmt}(h:aQ X.bA st t):aQ X st t:=λU s σ H D I hw=>
 yaA (h U s σ H D (I.wB _) hw) (λ_ _ q=>q.WH) λ_ _ z=>False.elim z
end
section
variable {st:Stmt}{rest:List Stmt}{pos:Pos}
def qf:TS:=λD σ H=>D.nx σ H
def Wg(t u:TS):TS:=λD σ H=>t {D with nx:=u D} σ H
theorem Qs:aQ X [] qf:=λ_ _ σ H _ I h=>ycD ⟨σ,H,I,h⟩
theorem Qb(h1:PS X st t)(h2:aQ X rest u):aQ X (st::rest) (Wg t u):=by
 intro U s σ H D I h;refine wpAny_execs_cons (au (h1 U s σ H {D with nx:=u D} I h) λf s1 q=>?_);cases f with
 |next=>
  obtain⟨σ',H',I',q⟩:=q;exact h2 U s1 σ' H' D I' q
 |ret v=>exact q
 |brk=>exact q
 |cont=>exact q
theorem Qg(h1:PS X st t):aQ X [st] t:=by
 intro U s σ H D I h;refine wpAny_execs_cons (au (h1 U s σ H D I h) λf s1 q=>?_);cases f with
 |next=>exact ycD q
 |ret v=>exact q
 |brk=>exact q
 |cont=>exact q
theorem Inv.quiet{U:List (Addr × Obj)}{σ:St}(I:Inv X U σ H s):interactive X.env=false:=by simp[interactive,I.ok.kind]
def LZ(te:TE):TS:=λD σ H=>te σ H λ_ H1=>D.nx σ H1
theorem XI(he:PE X e te)(hs:swapsWith e none pos.line X.env=pure false:=by rfl):PS X (.Expr e pos) (LZ te):=by
 intro U s σ H D I h;exact wpAny_Expr_any (au (he U s σ H _ I h) λv s1⟨x,H1,I1,r1,q1⟩=>⟨σ,H1,I1,q1⟩) I.quiet hs
def CZ(te:TE):TS:=λD σ H=>te σ H D.rt
theorem Qr(he:PE X e te):PS X (.Return (some e) pos) (CZ te):=by
 intro U s σ H D I h;exact wpAny_Return_some (au (he U s σ H _ I h) λv s1⟨x,H1,I1,r1,q1⟩=>⟨x,σ,H1,I1,r1,q1⟩)
def Dc(c:TT)(t u:TS):TS:=λD σ H=>c σ H λb H1=>if b=true then t D σ H1 else u D σ H1
theorem QL(hc:PT X c tc)(ha:aQ X a t)(hb:aQ X b u):PS X (.If c a b pos) (Dc tc t u):=by
 intro U s σ H D I h;refine wpAny_If (au (hc U s σ H _ I h) λd s1⟨H1,I1,q1⟩=>?_);cases d with
 |true=>exact ha U s1 σ H1 D I1 q1
 |false=>exact hb U s1 σ H1 D I1 q1
end
noncomputable abbrev TG:=V->St->Hp->(St->Hp->Prop)->Prop
noncomputable abbrev iR:=List V->St->Hp->(St->Hp->Prop)->Prop
def PG(X:Cx)(target:Expr)(t:TG):Prop:=
 ∀(U:List (Addr × Obj))(s:Shared)(σ:St)(H:Hp)(v:V)(u:Value)(Q:St->Hp->Prop),Inv X U σ H s->RelV v u->t v σ H Q->
  wpAny (model X.prog X.w) X.A (assign target X.env u) (λ_ s'=>∃σ' H',Inv X U σ' H' s'/\Q σ' H') X.xe s
def AN(X:Cx)(ts:List Expr)(t:iR):Prop:=
 ∀(U:List (Addr × Obj))(s:Shared)(σ:St)(H:Hp)(vs:List V)(us:List Value)(Q:St->Hp->Prop),Inv X U σ H s->Vals vs us->t vs σ H Q->
  wpAny (model X.prog X.w) X.A (assignInOrder ((assignEach ts X.env).map (·.2)) us) (λ_ s'=>∃σ' H',Inv X U σ' H' s'/\Q σ' H') X.xe s
noncomputable abbrev Ef:=V->V->V->Hp->(Hp->Prop)->Prop
def Hv(X:Cx)(t:Ef):Prop:=
 ∀(U:List (Addr × Obj))(s:Shared)(σ:St)(H:Hp)(o i v:V)(ov iv u:Value)(Q:Hp->Prop),Inv X U σ H s->RelV o ov->RelV i iv->RelV v u->t o i v H Q->
  wpAny (model X.prog X.w) X.A (setItem ov iv u) (λ_ s'=>∃H',Inv X U σ H' s'/\Q H') X.xe s
noncomputable abbrev Dd:=V->V->Hp->VK->Prop
def Eg(X:Cx)(op:Operator)(t:Dd):Prop:=
 ∀(U:List (Addr × Obj))(s:Shared)(σ:St)(H:Hp)(x y:V)(v u:Value)(Q:VK),Inv X U σ H s->RelV x v->RelV y u->t x y H Q->
  wpAny (model X.prog X.w) X.A (inplaceOp op v u) (EP X U σ Q) X.xe s
section
variable {X:Cx}{pos:Pos}
def Jz(i:Nat):TG:=λv σ H Q=>Q (σ.set i (some v)) H
theorem Qk(hN:X.N.Nodup)(hi:X.N[i]? =some x)(hx:Loc X.env.scope x)(hf:X.fn x=true\/X.env.scope.names.lookup x=some .local:=by first|exact .inl rfl|exact .inr rfl|assumption):PG X (.Name x pos) (Jz i):=by
 intro U s σ H v u Q I r h;exact wpAny_assign_Name (ZF I hN hi hx r (λs' I'=>⟨_,H,I',h⟩) hf)
theorem Y'(i:Nat)(hN:X.N.Nodup)(hi:X.N[i]? =some x:=by rfl)(hx:Loc X.env.scope x:=by exact .inl rfl)(hf:X.fn x=true\/X.env.scope.names.lookup x=some .local:=by first|exact .inl rfl|exact .inr rfl|assumption):PG X (.Name x pos) (Jz i):=Qk hN hi hx hf
def AO:iR:=λvs σ H Q=>vs=[]/\Q σ H
def Yt(t:TG)(u:iR):iR:=λvs σ H Q=>∃v r,vs=v::r/\t v σ H λσ' H'=>u r σ' H' Q
theorem QE:AN X [] AO:=by
 intro U s σ H vs us Q I r h;obtain⟨e,h⟩:=h;subst e;cases r;exact assignInOrder_nil ⟨σ,H,I,h⟩
theorem Qh(h1:PG X e t)(h2:AN X es u)
  (hs:(assignEach (e::es) X.env).map (·.2)=assign e X.env::(assignEach es X.env).map (·.2):=by rfl):AN X (e::es) (Yt t u):=by
 intro U s σ H vs us Q I r h;obtain⟨v,vr,e1,h⟩:=h;subst e1;cases r with
 |cons r rr=>
  rw[hs];refine ybz (au (h1 U s σ H _ _ _ I r h) λ_ s1⟨σ1,H1,I1,q1⟩=>?_);exact h2 U s1 σ1 H1 _ _ Q I1 rr q1
def Ad(K:Frag)(n:Nat)(t:iR):TG:=λv σ H Q=>∃a xs,v=.ref a/\ai K H a xs/\xs.length=n/\t xs σ H Q
theorem QY{k:Nat}(hc:X.calm=true)(h:AN X es t)
  (hn:(assignEach es X.env).length=n:=by rfl) (ge:(assignEach es X.env).findIdx? (·.1)=none:=by rfl):PG X (.Tuple es k pos) (Ad X.K n t):=by
 intro U s σ H v u Q I r hw;obtain⟨a,xs,e1,hq,hl,hw⟩:=hw;subst e1;cases r;obtain⟨ap,rv,ht,hz⟩:=I.tuple hq;refine assign_Tuple_tuple (I.ok.hd hc) ht (by simp[hn, ←hl,rv.length]) ge λh' hx=>?_;have I1:Inv X U σ H {s with heap:=h'}:=I.kept (t':=s.toks) λb o e=>hx b o (yal (yae e)) e;exact h U _ σ H xs _ Q I1 (by simpa using rv) hw
def L0(to ti:TE)(t:Ef):TG:=λv σ H Q=>to σ H λo H1=>ti σ H1 λi H2=>t o i v H2 λH3=>Q σ H3
theorem yA{to ti:TE}(ho:PE X o to)(hi:PE X i ti)(hs:Hv X t)
  (ha:∀v,assign (.Subscript o i pos) X.env v=(do
   let ov←holding [v] (eval o X.env)
   let iv←holding [v,ov] (eval i X.env)
   standAt pos
   holding [v,ov,iv] (setItem ov iv v)
   release [v,ov,iv] []):=by intro _;rfl):PG X (.Subscript o i pos) (L0 to ti t):=by
 intro U s σ H v u Q I r h;rw[ha];refine yab (ycE (au (ho U s σ H _ I h) λov s1⟨x,H1,I1,r1,q1⟩=>?_));refine yab (ycE (au (hi U s1 σ H1 _ I1 q1) λiv s2⟨y,H2,I2,r2,q2⟩=>?_));refine yab (ycF (yab (ycE (au (hs U s2 σ H2 x y v ov iv u _ I2 r1 r2 r q2) λ_ s3⟨H3,I3,q3⟩=>?_))));exact wpAny_release ⟨σ,H3,I3,q3⟩
def Wi(te:TE)(g:TG):TS:=λD σ H=>te σ H λx H1=>g x σ H1 D.nx
theorem Jc(he:PE X e te)(hg:PG X tg g)(hs:swapsWithSole [tg] e pos.line X.env=pure false:=by rfl)(hw:swappedStores [tg] e X.env=pure none:=by rfl)
  (h1:(assignEach [tg] X.env).map (·.2)=[assign tg X.env]:=by rfl):PS X (.Assign [tg] e pos) (Wi te g):=by
 intro U s σ H D I h;refine wpAny_Assign_stores (au (he U s σ H _ I h) λv s1⟨x,H1,I1,r1,q1⟩=>?_) hs hw;rw[h1];exact au (hg U s1 σ H1 x v _ I1 r1 q1) λ_ s2 q=>q
theorem Qn{pos':Pos}(hN:X.N.Nodup)(hi:X.N[i]? =some x)(hx:Loc X.env.scope x)(he:PE X e te)(hs:swapsWith e (some (.Name x pos')) pos.line X.env=pure false:=by rfl)(hf:X.fn x=true\/X.env.scope.names.lookup x=some .local:=by first|exact .inl rfl|exact .inr rfl|assumption):
  PS X (.Assign [.Name x pos'] e pos) (Wi te (Jz i)):=by
 intro U s σ H D I h;refine wpAny_Assign_Name (au (he U s σ H _ I h) λv s1⟨y,H1,I1,r1,q1⟩=>?_) hs;exact ZF I1 hN hi hx r1 (λs2 I2=>⟨_,H1,I2,q1⟩) hf
theorem Z'(i:Nat){pos':Pos}(hN:X.N.Nodup)(he:PE X e te)(hi:X.N[i]? =some x:=by rfl)(hx:Loc X.env.scope x:=by exact .inl rfl)(hs:swapsWith e (some (.Name x pos')) pos.line X.env=pure false:=by rfl)(hf:X.fn x=true\/X.env.scope.names.lookup x=some .local:=by first|exact .inl rfl|exact .inr rfl|assumption):PS X (.Assign [.Name x pos'] e pos) (Wi te (Jz i)):=Qn hN hi hx he hs hf
def L3(i j:Nat)(ta:TA):TS:=λD σ H=>ta σ H λvs H1=>∃v w,vs=[v,w]/\D.nx ((σ.set i (some v)).set j (some w)) H1
theorem Uh{px py pt:Pos}{kt k2 oE}(hc:X.calm=true)(hN:X.N.Nodup)(hi:X.N[i]? =some x)(hj:X.N[j]? =some y)(Eh:i≠j)
  (hx:X.env.scope.names.lookup x=some .local) (hy:X.env.scope.names.lookup y=some .local) (ha:PA X [a,b] ta)
  (hw:swappedStores [.Tuple [.Name x px,.Name y py] kt pt] (.Tuple [a,b] k2 oE) X.env=pure (some [x,y]))
  (hs:swapsWithSole [.Tuple [.Name x px,.Name y py] kt pt] (.Tuple [a,b] k2 oE) pos.line X.env=pure false:=by rfl):
  PS X (.Assign [.Tuple [.Name x px,.Name y py] kt pt] (.Tuple [a,b] k2 oE) pos) (L3 i j ta):=by
 intro U s σ H D I h;rw[exec_Assign_arm];refine yab (ycF ?_);rw[hs];refine yab (yan ?_);rw[yac (by decide)];refine yab (Tuple_ (au (ha _ U s σ H _ I h) λus s1⟨vs,H1,I1,r1,q1⟩=>?_));obtain⟨v,w,e1,q1⟩:=q1;subst e1;obtain⟨u1,u2,rfl,rv,IO⟩:∃u1 u2,us=[u1,u2]/\RelV v u1/\RelV w u2:=by
  cases r1 with
  |cons p q=>
   cases q with
   |cons p' q'=>
    cases q';exact⟨_,_,Z,p,p'⟩
 refine yaX ?_ (by show 2<=sizeLine;decide);have I2:Inv X U σ H1 {s1 with heap:=s1.heap.push {cls:=.type "tuple",data:=.seq [u1,u2].toArray}}:=I1.kept (t':=s1.toks) λb o e=>yaa _ e;rw[hw];refine yab (yan ?_);show wpAny (model X.prog X.w) X.A (do rule "assign.swapped-stores";let items←unpackItems (.ref s1.heap.objs.size) 2 none;assignInOrder [λv=>bindName X.env y v,λv=>bindName X.env x v] items.reverse;pure Flow.next) _ _ _;refine yab (wpAny_rule (yab (unpackItems_tuple (items:= #[u1,u2]) (I.ok.hd hc) (IsTup.new s1.heap _) λh' f8=>?_)));have I3:=I2.kept (h':=h') (t':=s1.toks) λb o e=>f8 b o (yal (yae e)) e;show wpAny _ _ (assignInOrder [λv=>bindName X.env y v,λv=>bindName X.env x v] [u2,u1]>>=λ_=>pure Flow.next) _ _ _;refine yab (ybz (ycs (ZF I3 hN hj (.inl hy) IO (λs2 I4=>?_) (.inr hy))));refine ybz (ycs (ZF I4 hN hi (.inl hx) rv (λs3 I5=>assignInOrder_nil (yan ?_)) (.inr hx)));rw[ydQ _ _ (Ne.symm Eh)]at I5;exact⟨_,H1,I5,q1⟩
def L4(i:Nat)(te:TE)(ti:Dd):TS:=λD σ H=>∃x,σ[i]? =some (some x)/\te σ H λy H1=>ti x y H1 λz H2=>D.nx (σ.set i (some z)) H2
theorem Va{op:Operator}{pos':Pos}(hN:X.N.Nodup)(hi:X.N[i]? =some x)(hx:Loc X.env.scope x)(he:PE X e te)(ho:Eg X op ti)(hf:X.fn x=true\/X.env.scope.names.lookup x=some .local:=by first|exact .inl rfl|exact .inr rfl|assumption):
  PS X (.AugAssign (.Name x pos') op e pos) (L4 i te ti):=by
 intro U s σ H D I h;obtain⟨v,e1,h⟩:=h;obtain⟨m,hn,hl⟩:=I.loc;have De:Aa X.env.scope x:=by rcases hx with k|k;exact .inl k;exact .inr (.inl k)
 obtain⟨u,r,l⟩:=hl i x v hi e1 De;refine wpAny_AugAssign_Name ?_;have go:wpAny (model X.prog X.w) X.A (eval e X.env) (λw s₂=>wpAny (model X.prog X.w) X.A (inplaceOp op u w) (λr s₃=>wpAny (model X.prog X.w) X.A (storeName X.env x r) (λ_=>SP X U D .next) X.xe s₃) X.xe s₂) X.xe s:=by
  refine au (he U s σ H _ I h) λw s1⟨y,H1,I1,r1,q1⟩=>?_;refine au (ho U s1 σ H1 v y u w _ I1 r r1 q1) λz s2⟨zv,H2,I2,r2,q2⟩=>?_;exact ZF I2 hN hi hx r2 (λs3 I3=>⟨_,H2,I3,q2⟩) hf
 rcases l with⟨hk,hm⟩|⟨hk,c,hc,GT⟩
 ·exact wpAny_loadName_local I.ok.kind hk hn hm go
 ·rcases hk with hk|hk
  ·exact wpAny_loadName_cell I.ok.kind hk hc GT go
  ·rcases hx with k|k
   ·have:X.env.scope.names.lookup x=some .free:=hk;rw[k]at this;cases this
   ·have:X.env.scope.names.lookup x=some .free:=hk;rw[k]at this;cases this
def L5(f:Int->Int->Int):Dd:=λx y H Q=>∃i j,x=.int i/\y=.int j/\Q (.int (f i j)) H
theorem Yc:Eg X .Add (L5 λi j=>i+j):=by
 intro U s σ H x y v u Q I r1 r2 h;obtain⟨i,j,e1,e2,q⟩:=h;subst e1;subst e2;obtain⟨t,rfl⟩:=r1;obtain⟨t',rfl⟩:=r2;exact iadd_int ⟨.int _,H,I.tok _,⟨_,Z⟩,q⟩
def L6(c:TT)(tb:TS):TS:=λD σ H=>∃W:Nat->St->Hp->Prop,(∃m,W m σ H)/\∀m σ H,W m σ H->
 c σ H λb H1=>if b=true then ∃N:St->Hp->Prop,(∀σ' H',N σ' H'->∃m',m'<m/\W m' σ' H')/\tb {D with nx:=N,ct:=N,bk:=D.nx} σ H1 else D.nx σ H1
theorem WU{body:List Stmt}(hp:PassesOwn (model X.prog X.w) X.A X.env X.xe)(hc:PT X c tc)(hb:aQ X body tb):PS X (.While c body [] pos) (L6 tc tb):=by
 intro U s σ H D I h;obtain⟨W,⟨m0,w0⟩,turn⟩:=h;refine wpAny_While (codeAny_whileLoop (λn s'=>∃σ' H',Inv X U σ' H' s'/\W n σ' H') ?_ m0 ⟨σ,H,I,w0⟩);rintro n s1 ⟨σ1,H1,I1,w1⟩;refine ybK hp (au (hc U s1 σ1 H1 _ I1 (turn n σ1 H1 w1)) λb s2⟨H2,I2,q2⟩=>?_);cases b with
 |true=>
  obtain⟨N,hN,q2⟩:=q2;rw[yaf rfl];refine ybK hp (au (hb U s2 σ1 H2 _ I2 q2) λf s3 q3=>?_);cases f with
  |next=>
   obtain⟨σ3,H3,I3,n3⟩:=q3;obtain⟨m',hm,w3⟩:=hN σ3 H3 n3;exact⟨m',hm,σ3,H3,I3,w3⟩
  |cont=>
   obtain⟨σ3,H3,I3,n3⟩:=q3;obtain⟨m',hm,w3⟩:=hN σ3 H3 n3;exact⟨m',hm,σ3,H3,I3,w3⟩
  |brk=>exact q3
  |ret v=>exact q3
 |false=>
  rw[yac yar];exact ycD ⟨σ1,H2,I2,q2⟩
end
structure It where
 go:Nat->Hp->Prop
 cK:Nat->Hp->V->Hp->Prop
 stop:Nat->Hp->Prop
def xc(X:Cx)(U:List (Addr × Obj))(H:Hp)(b:Addr):Prop:=
 H b=none/\b≠X.env.locals/\b∉X.fs/\(b∈X.ex\/X.s₀.heap.objs.size<=b)/\(∀x c,X.env.cells.lookup x=some c->c≠b)/\∀p∈X.pn++U,p.1≠b
theorem Inv.wC{X:Cx}{U:List (Addr × Obj)}{σ:St}{b:Addr}(I:Inv X U σ H s)(hb:s.heap.objs.size<=b)(hn:H' b=none):xc X U H' b:=by
 refine⟨hn,ybA (yad I.lt hb),I.LV hb,.inr (yas I.sz hb),λx c e z=>?_,λp hp z=>?_⟩
 ·obtain⟨v,q⟩:=I.cell x c e;exact absurd (yad q.lt (by rw[z];exact hb)) (lY _)
 ·exact absurd (yad (yae (I.pin p hp).1) (by rw[z];exact hb)) (lY _)
structure Turn(P:Program)(w:World)(K:Frag)(tg:Expr)(J:It)(fp:List Addr)(it:Addr)(tn:Nat->Heap->Prop):Prop where
 mem:it∈fp
 obj:∀i h,tn i h->∀b∈fp,∃o,h.get? b=some o/\∀v,o.data≠ .cell v
 keep:∀i h h',tn i h->(∀b∈fp,∀o,h.get? b=some o->h'.get? b=some o)->tn i h'
 item:∀(X:Cx),X.prog=P->X.w=w->X.K=K->X.calm=true->∀(i:Nat)(U:List (Addr × Obj))(s:Shared)(σ:St)(H:Hp)(E:Value->Shared->Prop),Inv X U σ H s->(∀b∈fp,xc X U H b)->tn i s.heap->J.go i H->
  wpAny (model P w) X.A (pyNext (.ref it)) (λr s1=>∃u,r=some u/\
   wpAny (model P w) X.A (letOwnedTupleGo tg (.ref it) u) (λ_ s2=>∃x H',Inv X U σ H' s2/\RelV x u/\J.cK i H x H'/\tn (i+1) s2.heap/\∀b∈fp,H' b=none) E s1) E s
 done:∀(X:Cx),X.prog=P->X.w=w->X.K=K->X.calm=true->∀(i:Nat)(U:List (Addr × Obj))(s:Shared)(σ:St)(H:Hp)(E:Value->Shared->Prop),Inv X U σ H s->(∀b∈fp,xc X U H b)->tn i s.heap->J.stop i H->
  wpAny (model P w) X.A (pyNext (.ref it)) (λr s1=>r=none/\Inv X U σ H s1) E s
 self:∀(A:Around)(i:Nat)(s:Shared)(Q:Value->Shared->Prop)(E:Value->Shared->Prop),tn i s.heap->Q (.ref it) s->wpAny (model P w) A (pyIter (.ref it)) Q E s
noncomputable abbrev TI:=St->Hp->(It->Hp->Prop)->Prop
def Hw(X:Cx)(U:List (Addr × Obj))(σ:St)(tg:Expr)(R:It->Hp->Prop)(AQ:Value)(s2:Shared):Prop:=
 ∃(it:Addr)(fp:List Addr)(tn:Nat->Heap->Prop)(J:It)(H':Hp),AQ=.ref it/\Inv X U σ H' s2/\Turn X.prog X.w X.K tg J fp it tn/\tn 0 s2.heap/\(∀b∈fp,xc X U H' b)/\R J H'
def PI(X:Cx)(tg iter:Expr)(wi:TI):Prop:=
 ∀(U:List (Addr × Obj))(s:Shared)(σ:St)(H:Hp)(R:It->Hp->Prop),Inv X U σ H s->wi σ H R->
  wpAny (model X.prog X.w) X.A (eval iter X.env) (λv s1=>wpAny (model X.prog X.w) X.A (pyIter v) (Hw X U σ tg R) X.xe s1) X.xe s
theorem xf{it:Addr}(ho:s.heap.get? it=some o)(hc:o.cls=.type n)(hd:o.data=.fields vs)
  (hn:["enumerate","zip","dict_itemiterator","dict_reverseitemiterator","odict_iterator","itertools.zip_longest","itertools.pairwise"].contains n=false) (hQ:Q () s):wpAny qMa A (letOwnedTupleGo tg (.ref it) u) Q E s:=by
 unfold letOwnedTupleGo;cases tg<;>first
  |exact yan hQ
  |(cases u<;>first
    |exact yan hQ
    |(refine yab (wpAny_load ho ?_)
      rw[hc,hd];show wpAny qMa A (if(["enumerate","zip","dict_itemiterator","dict_reverseitemiterator","odict_iterator","itertools.zip_longest","itertools.pairwise"].contains n&&vs[0]? ==some (rawInt _))=true then _ else _) Q E s;rw[yac (by intro h;rw[hn,yct]at h;cases h)];exact yan hQ))
noncomputable def dO(K:Frag)(a:Addr):It:=
 ⟨λi H=>∃xs x,ay K H a xs/\xs[i]? =some x,λi H x H'=>H'=H/\∀xs,ay K H a xs->xs[i]? =some x,λi H=>∃xs,ay K H a xs/\xs.length<=i⟩
noncomputable def dP(K:Frag)(a:Addr):It:=
 ⟨λi H=>∃xs x,ai K H a xs/\xs[i]? =some x,λi H x H'=>H'=H/\∀xs,ai K H a xs->xs[i]? =some x,λi H=>∃xs,ai K H a xs/\xs.length<=i⟩
noncomputable def Ae(lo:Int)(n:Nat):It:=⟨λi _=>i<n,λi H x H'=>H'=H/\x=.int (lo+i),λi _=>n<=i⟩
theorem xg{P:Program}{w:World}{K:Frag}{tg:Expr}(a it:Addr):Turn P w K tg (dO K a) [it] it (λi h=>h.IsListIter it a i) where
 mem:=by simp
 obj:=λi h st b hb=>by
  have e:b=it:=by simpa using hb
  subst e;obtain⟨o,e,c,d⟩:=st;exact⟨o,e,λv z=>by rw[d]at z;cases z⟩
 keep:=λi h h' st k=>st.at λo e=>k it (by simp) o e
 item:=by
  intro X hP hw hK hc i U s σ H E I hf st hg;subst hP hw hK;obtain⟨xs,x,hq,hx⟩:=hg;obtain⟨ap,rv,p,hz⟩:=I.list hq;obtain⟨u,hu,ru⟩:=rv.get hx;obtain⟨f0,f1,f2,f3,f4,f5⟩:=hf it (by simp);refine wpAny_pyNext_list_item st p.isList (x:=u) (by simpa using hu) λh' Tk sb=>?_;have I1:Inv X U σ H {s with heap:=h'}:=I.turned (t':=s.toks) (λb o hb e=>(sb.2 b hb).trans e) f0 f1 f3 f4 f5;obtain⟨o,e,c,d⟩:=id Tk;exact⟨u,Z,xf (s:={s with heap:=h'}) e c d (by decide) ⟨x,H,I1,ru,⟨Z,λys hy=>by rw[I.wJ hy hq];exact hx⟩,Tk,λb hb=>(hf b hb).1⟩⟩
 done:=by
  intro X hP hw hK hc i U s σ H E I hf st hg;subst hP hw hK;obtain⟨xs,hq,hx⟩:=hg;obtain⟨ap,rv,p,hz⟩:=I.list hq;obtain⟨f0,f1,f2,f3,f4,f5⟩:=hf it (by simp);have hl:=rv.length;exact wpAny_pyNext_list_end (I.ok.hd hc) st p.isList (by simp;lia) λh' eb=>⟨Z,I.turned (t':=s.toks) (λb o hb e=>eb b o hb e) f0 f1 f3 f4 f5⟩
 self:=λ_ _ _ _ _ st h=>wpAny_pyIter_listiter st h
theorem j7{P:Program}{w:World}{K:Frag}{tg:Expr}(a it:Addr):Turn P w K tg (dP K a) [it] it (λi h=>h.IsTupleIter it a i) where
 mem:=by simp
 obj:=λi h st b hb=>by
  have e:b=it:=by simpa using hb
  subst e;obtain⟨o,e,c,d⟩:=st;exact⟨o,e,λv z=>by rw[d]at z;cases z⟩
 keep:=λi h h' st k=>st.at λo e=>k it (by simp) o e
 item:=by
  intro X hP hw hK hc i U s σ H E I hf st hg;subst hP hw hK;obtain⟨xs,x,hq,hx⟩:=hg;obtain⟨ap,rv,p,hz⟩:=I.tuple hq;obtain⟨u,hu,ru⟩:=rv.get hx;obtain⟨f0,f1,f2,f3,f4,f5⟩:=hf it (by simp);refine wpAny_pyNext_tuple_item st (show s.heap.IsTuple a ap.toArray from p) (x:=u) (by simpa using hu) λh' Tk sb=>?_;have I1:Inv X U σ H {s with heap:=h'}:=I.turned (t':=s.toks) (λb o hb e=>(sb.2 b hb).trans e) f0 f1 f3 f4 f5;obtain⟨o,e,c,d⟩:=id Tk;exact⟨u,Z,xf (s:={s with heap:=h'}) e c d (by decide) ⟨x,H,I1,ru,⟨Z,λys hy=>by rw[I.xb hy hq];exact hx⟩,Tk,λb hb=>(hf b hb).1⟩⟩
 done:=by
  intro X hP hw hK hc i U s σ H E I hf st hg;subst hP hw hK;obtain⟨xs,hq,hx⟩:=hg;obtain⟨ap,rv,p,hz⟩:=I.tuple hq;obtain⟨f0,f1,f2,f3,f4,f5⟩:=hf it (by simp);have hl:=rv.length;exact wpAny_pyNext_tuple_end (I.ok.hd hc) st (show s.heap.IsTuple a ap.toArray from p) (by simp;lia) λh' eb=>⟨Z,I.turned (t':=s.toks) (λb o hb e=>eb b o hb e) f0 f1 f3 f4 f5⟩
 self:=λ_ _ _ _ _ st h=>wpAny_pyIter_tupleiter st h
theorem j8{P:Program}{w:World}{K:Frag}{tg:Expr}(it:Addr)(lo:Int)(n:Nat):Turn P w K tg (Ae lo n) [it] it (λi h=>IsRangeIter h it (lo+(i:Nat)*1) ((n:Int)-(i:Nat)) 1) where
 mem:=by simp
 obj:=λi h st b hb=>by
  have e:b=it:=by simpa using hb
  subst e;exact⟨_,st,λv z=>by
   have z':Data.fields _=Data.cell v:=z;cases z'⟩
 keep:=λi h h' st k=>k it (by simp) _ st
 item:=by
  intro X hP hw hK hc i U s σ H E I hf st hg;subst hP hw hK;obtain⟨f0,f1,f2,f3,f4,f5⟩:=hf it (by simp);have W:=Walks.range (prog:=X.prog) (w:=X.w) (I.ok.hd hc) it lo 1 n;refine W.item i s _ _ hg st λv h' tk hv Tk kk=>?_;obtain⟨t,rfl⟩:=hv;have I1:Inv X U σ H {s with heap:=h',toks:=tk}:=I.turned (λb o hb e=>kk b o (by simpa using hb) e) f0 f1 f3 f4 f5;refine⟨_,Z,xf (s:={s with heap:=h',toks:=tk}) (n:="range_iterator") Tk rfl rfl (by decide) ⟨.int (lo+i),H,I1,⟨t,?_⟩,⟨Z,Z⟩,Tk,λb hb=>(hf b hb).1⟩⟩;rw[Int.mul_one]
 done:=by
  intro X hP hw hK hc i U s σ H E I hf st hg;subst hP hw hK;obtain⟨f0,f1,f2,f3,f4,f5⟩:=hf it (by simp);exact wpAny_pyNext_range_end (I.ok.hd hc) st (by have:n<=i:=hg;lia) λh' eb=>⟨Z,I.turned (t':=s.toks) (λb o hb e=>eb b o hb e) f0 f1 f3 f4 f5⟩
 self:=λ_ _ _ _ _ st h=>wpAny_pyIter_rangeiter st h
section
def wK(K:Frag)(tl:TE):TI:=λσ H R=>tl σ H λx H1=>∃a,x=.ref a/\(∃xs,ay K H1 a xs)/\R (dO K a) H1
def Hx(K:Frag)(tl:TE):TI:=λσ H R=>tl σ H λx H1=>∃a,x=.ref a/\(∃xs,ai K H1 a xs)/\R (dP K a) H1
theorem Kv(hl:PE X l tl):PI X tg l (wK X.K tl):=by
 intro U s σ H R I h;refine au (hl U s σ H _ I h) λv s1⟨x,H1,I1,r1,q1⟩=>?_;obtain⟨a,e,⟨xs,hq⟩,q⟩:=q1;subst e;cases r1;obtain⟨ap,rv,p,hz⟩:=I1.list hq;refine ydK p.isList ?_;refine⟨s1.heap.objs.size,[s1.heap.objs.size],_,_,H1,Z,I1.kept (t':=s1.toks) λb o e=>yaa _ e,xg a _,⟨_,yam _ rfl,Z,Z⟩,λb hb=>?_,q⟩;have e:b=s1.heap.objs.size:=by simpa using hb
 subst e;exact I1.wC (lA _) (I1.ag.fresh (lA _))
theorem ji(hl:PE X l tl):PI X tg l (Hx X.K tl):=by
 intro U s σ H R I h;refine au (hl U s σ H _ I h) λv s1⟨x,H1,I1,r1,q1⟩=>?_;obtain⟨a,e,⟨xs,hq⟩,q⟩:=q1;subst e;cases r1;obtain⟨ap,rv,p,hz⟩:=I1.tuple hq;refine wpAny_pyIter_tuple (show s1.heap.IsTuple a ap.toArray from p) ?_;refine⟨s1.heap.objs.size,[s1.heap.objs.size],_,_,H1,Z,I1.kept (t':=s1.toks) λb o e=>yaa _ e,j7 a _,⟨_,yam _ rfl,Z,Z⟩,λb hb=>?_,q⟩;have e:b=s1.heap.objs.size:=by simpa using hb
 subst e;exact I1.wC (lA _) (I1.ag.fresh (lA _))
theorem wL{U:List (Addr × Obj)}{σ:St}{lo hi:Int}{tk:Nat}(I:Inv X U σ H s)(h1: -(2^62)<=lo)(h2:lo<2^62)(h3: -(2^62)<=hi)(h4:hi<2^62)
  (q:R (Ae lo (hi-lo).toNat) H):wpAny (model X.prog X.w) X.A (pyIter (.ref s.heap.objs.size)) (Hw X U σ tg R) E {s with heap:=s.heap.push {cls:=.type "range",data:=.fields #[.int lo t,.int hi u,.int 1 v]},toks:=tk}:=by
 refine wpAny_pyIter_range (IsRange.new ..) (small_one h1 h2 h3 h4) ?_;have I1:Inv X U σ H {s with heap:=s.heap.push {cls:=.type "range",data:=.fields #[.int lo t,.int hi u,.int 1 v]},toks:=tk}:=I.kept λb o e=>yaa _ e;refine⟨(s.heap.push {cls:=.type "range",data:=.fields #[.int lo t,.int hi u,.int 1 v]}).objs.size,[(s.heap.push {cls:=.type "range",data:=.fields #[.int lo t,.int hi u,.int 1 v]}).objs.size],_,_,H,Z,
  I1.kept (t':=tk) λb o e=>yaa _ e,j8 _ lo (hi-lo).toNat,?_,λb hb=>?_,q⟩
 ·have e1:lo+((0:Nat):Int)*1=lo:=by simp
  have e2:(((hi-lo).toNat:Nat):Int)-((0:Nat):Int)=Builtin.Range.rangeSize lo hi 1:=by rw[rangeSize_one];split<;>lia
  show IsRangeIter _ _ (lo+((0:Nat):Int)*1) ((((hi-lo).toNat:Nat):Int)-((0:Nat):Int)) 1;rw[e1,e2];exact yam _ rfl
 ·have e:b=(s.heap.push {cls:=.type "range",data:=.fields #[.int lo t,.int hi u,.int 1 v]}).objs.size:=by simpa using hb
  subst e;exact I1.wC (lA _) (I1.ag.fresh (lA _))
def L7(ta:TA):TI:=λσ H R=>ta σ H λvs H1=>∃j:Int,vs=[.int j]/\ -(2^62)<=j/\j<2^62/\R (Ae 0 j.toNat) H1
theorem XJ{p pos:Pos}(hg:Gl X "range")(hm:X.mg "range"=none)(ha:PA X [a] ta)(hs:starEach [a] X.env=[(false,eval a X.env)]:=by rfl):PI X tg (.Call (.Name "range" p) [a] [] pos) (L7 ta):=by
 intro U s σ H R I h;refine Call_ (WF I hg hm boot_range (yaT (au (ha pos U s σ H _ I h) λus s1⟨vs,H1,I1,r1,q1⟩=>?_) hs Z));obtain⟨j,e,q1,q2,q⟩:=q1;subst e;cases r1 with
 |cons r rr=>
  cases rr;obtain⟨t,rfl⟩:=r;exact call_range_1 (wL I1 (by lia) (by lia) q1 q2 (by simpa using q))
def L8(wi:TI)(g:TG)(tb:TS):TS:=λD σ H=>wi σ H λJ H1=>∃W:Nat->Nat->St->Hp->Prop,(∃m,W 0 m σ H1)/\∀i m σ H,W i m σ H->
 (J.stop i H/\D.nx σ H)\/(J.go i H/\∃N:St->Hp->Prop,(∀σ' H',N σ' H'->∃m',m'<m/\W (i+1) m' σ' H')/\∀x H',J.cK i H x H'->g x σ H' λσ2 H2=>tb {D with nx:=N,ct:=N,bk:=D.nx} σ2 H2)
noncomputable def Vb(fp:List Addr)(h:Heap):List (Addr × Obj):=fp.filterMap λb=>(h.get? b).map λo=>(b,o)
theorem Zb(hb:b∈fp)(e:h.get? b=some o):(b,o)∈Vb fp h:=ydz.mpr ⟨b,hb,by rw[e];rfl⟩
theorem xh(hp:p∈Vb fp h):p.1∈fp/\h.get? p.1=some p.2:=by
 obtain⟨b,hb,e⟩:=ydz.mp hp;cases q:h.get? b with
 |none=>rw[q]at e;cases e
 |some o=>
  rw[q]at e;have e':(b,o)=p:=lB e;subst e';exact⟨hb,q⟩
theorem Inv.pinned{U:List (Addr × Obj)}{σ:St}{fp:List Addr}(I:Inv X U σ H s)(hf:∀b∈fp,xc X U H b) (ho:∀b∈fp,∃o,s.heap.get? b=some o/\∀v,o.data≠ .cell v):Inv X (U++Vb fp s.heap) σ H s:=
 I.XG λp hp=>(yao.mp hp).elim (λz=>I.pin p (lE _ z)) λz=>by
  obtain⟨hb,e⟩:=xh z;obtain⟨f0,f1,f2,_⟩:=hf p.1 hb;obtain⟨o,e',d⟩:=ho p.1 hb;rw[e]at e';cases e';exact⟨e,f0,f1,f2,d⟩
theorem Inv.ZG{U pl:List (Addr × Obj)}{σ:St}(I:Inv X (U++pl) σ H s):Inv X U σ H s:=I.XG λp hp=>I.pin p (lE _ (lF _ hp))
theorem Z1{iter:Expr}{body:List Stmt}{pos:Pos}(hp:PassesOwn (model X.prog X.w) X.A X.env X.xe)(hc:X.calm=true)(hi:PI X tg iter wi)(hg:PG X tg g)(hb:aQ X body tb)
  (hs:∀x,foldedSetIterable iter X.env x=pure x:=by intro _;rfl):PS X (.For tg iter body [] pos) (L8 wi g tb):=by
 intro U s σ H D I h;refine wpAny_For (au (hi U s σ H _ I h) λv s1 h1=>au h1 λAQ s2 h2=>?_) hs;obtain⟨it,fp,tn,J,H2,e,I2,T,fK,f2,W,⟨m0,w0⟩,turn⟩:=h2;subst e;have on:∀{H':Hp},(∀b∈fp,H' b=none)->∀b∈fp,xc X U H' b:=λhn b hb=>⟨hn b hb,(f2 b hb).2⟩;refine codeAny_forLoop_any (λn s'=>∃i σ' H',Inv X U σ' H' s'/\tn i s'.heap/\(∀b∈fp,H' b=none)/\W i n σ' H') ?_ m0 ⟨0,σ,H2,I2,fK,λb hb=>(f2 b hb).1,w0⟩;rintro n s3 ⟨i,σ3,H3,I3,dQ,Hy,w3⟩;rcases turn i n σ3 H3 w3 with⟨stop,qn⟩|⟨go,N,hN,step⟩
 ·refine ybK hp (au (T.done X Z Z Z hc i U s3 σ3 H3 X.xe I3 (on Hy) dQ stop) λr s4⟨hr,I4⟩=>?_);subst hr;exact ycD ⟨σ3,H3,I4,qn⟩
 ·refine ybK hp (au (T.item X Z Z Z hc i U s3 σ3 H3 X.xe I3 (on Hy) dQ go) λr s4⟨u,hr,h4⟩=>?_);subst hr;refine ybK hp (au h4 λ_ s5⟨x,H5,I5,r5,y5,dD,fL⟩=>?_);have L9:=I5.pinned (on fL) (T.obj _ _ dD);refine ybK hp (au (hg _ s5 σ3 H5 x u _ L9 r5 (step x H5 y5)) λ_ s6⟨σ6,H6,I6,q6⟩=>?_);refine ybK hp (au (hb _ s6 σ6 H6 _ I6 q6) λf s7 q7=>?_);have again:∀{σ7:St}{H7:Hp},Inv X (U++Vb fp s5.heap) σ7 H7 s7->N σ7 H7->∃m,m<n/\∃i σ' H',Inv X U σ' H' s7/\tn i s7.heap/\(∀b∈fp,H' b=none)/\W i m σ' H':=λ{σ7 H7} I7 n7=>by
   obtain⟨m',hm,w7⟩:=hN σ7 H7 n7;refine⟨m',hm,i+1,σ7,H7,I7.ZG,T.keep _ _ _ dD λb hb o e=>(I7.pin (b,o) (lE _ (lE _ (Zb hb e)))).1,λb hb=>?_,w7⟩;obtain⟨o,e,d⟩:=T.obj _ _ dD b hb;exact(I7.pin (b,o) (lE _ (lE _ (Zb hb e)))).2.1
  cases f with
  |next=>obtain⟨σ7,H7,I7,n7⟩:=q7;exact again I7 n7
  |cont=>obtain⟨σ7,H7,I7,n7⟩:=q7;exact again I7 n7
  |brk=>obtain⟨σ7,H7,I7,q7⟩:=q7;exact⟨σ7,H7,I7.ZG,q7⟩
  |ret v=>obtain⟨x7,σ7,H7,I7,r7,q7⟩:=q7;exact⟨x7,σ7,H7,I7.ZG,r7,q7⟩
end
theorem wM{K:Frag}{a:Addr}{xs:List V}{g:TG}{tb:TS}{D:Ends}{σ:St}{H:Hp}(Pv:Nat->St->Hp->Prop)(h0:Pv 0 σ H)(hl:∀i σ H,i<=xs.length->Pv i σ H->ay K H a xs)
  (hs:∀i x σ H,xs[i]? =some x->Pv i σ H->g x σ H λσ2 H2=>tb {D with nx:=Pv (i+1),ct:=Pv (i+1),bk:=D.nx} σ2 H2) (hd:∀σ H,Pv xs.length σ H->D.nx σ H):
  ∃W:Nat->Nat->St->Hp->Prop,(∃m,W 0 m σ H)/\∀i m σ H,W i m σ H->
   ((dO K a).stop i H/\D.nx σ H)\/((dO K a).go i H/\∃N:St->Hp->Prop,(∀σ' H',N σ' H'->∃m',m'<m/\W (i+1) m' σ' H')/\∀x H',(dO K a).cK i H x H'->g x σ H' λσ2 H2=>tb {D with nx:=N,ct:=N,bk:=D.nx} σ2 H2):=by
 refine⟨λi m σ H=>m=xs.length-i/\i<=xs.length/\Pv i σ H,⟨xs.length,by simp,lX _,h0⟩,?_⟩;rintro i m σ H ⟨rfl,hi,p⟩;have q:=hl i σ H hi p
 by_cases bn:i<xs.length
 ·refine .inr ⟨⟨xs,xs[i],q,by simp[bn]⟩,Pv (i+1),λσ' H' p'=>⟨xs.length-(i+1),by lia,Z,bn,p'⟩,λx H' y=>?_⟩;obtain⟨e,y⟩:=y;subst e;exact hs i x σ _ (y xs q) p
 ·have e:i=xs.length:=by lia
  subst e;exact .inl ⟨⟨xs,q,lA _⟩,hd σ H p⟩
theorem qg{K:Frag}{a:Addr}{xs:List V}{g:TG}{tb:TS}{D:Ends}{σ:St}{H:Hp}(Pv:Nat->St->Hp->Prop)(h0:Pv 0 σ H)(hl:∀i σ H,i<=xs.length->Pv i σ H->ai K H a xs)
  (hs:∀i x σ H,xs[i]? =some x->Pv i σ H->g x σ H λσ2 H2=>tb {D with nx:=Pv (i+1),ct:=Pv (i+1),bk:=D.nx} σ2 H2) (hd:∀σ H,Pv xs.length σ H->D.nx σ H):
  ∃W:Nat->Nat->St->Hp->Prop,(∃m,W 0 m σ H)/\∀i m σ H,W i m σ H->
   ((dP K a).stop i H/\D.nx σ H)\/((dP K a).go i H/\∃N:St->Hp->Prop,(∀σ' H',N σ' H'->∃m',m'<m/\W (i+1) m' σ' H')/\∀x H',(dP K a).cK i H x H'->g x σ H' λσ2 H2=>tb {D with nx:=N,ct:=N,bk:=D.nx} σ2 H2):=by
 refine⟨λi m σ H=>m=xs.length-i/\i<=xs.length/\Pv i σ H,⟨xs.length,by simp,lX _,h0⟩,?_⟩;rintro i m σ H ⟨rfl,hi,p⟩;have q:=hl i σ H hi p
 by_cases bn:i<xs.length
 ·refine .inr ⟨⟨xs,xs[i],q,by simp[bn]⟩,Pv (i+1),λσ' H' p'=>⟨xs.length-(i+1),by lia,Z,bn,p'⟩,λx H' y=>?_⟩;obtain⟨e,y⟩:=y;subst e;exact hs i x σ _ (y xs q) p
 ·have e:i=xs.length:=by lia
  subst e;exact .inl ⟨⟨xs,q,lA _⟩,hd σ H p⟩
theorem XL{lo:Int}{n:Nat}{g:TG}{tb:TS}{D:Ends}{σ:St}{H:Hp}(Pv:Nat->St->Hp->Prop)(h0:Pv 0 σ H)
  (hs:∀i σ H,i<n->Pv i σ H->g (.int (lo+i)) σ H λσ2 H2=>tb {D with nx:=Pv (i+1),ct:=Pv (i+1),bk:=D.nx} σ2 H2) (hd:∀σ H,Pv n σ H->D.nx σ H):
  ∃W:Nat->Nat->St->Hp->Prop,(∃m,W 0 m σ H)/\∀i m σ H,W i m σ H->
   ((Ae lo n).stop i H/\D.nx σ H)\/((Ae lo n).go i H/\∃N:St->Hp->Prop,(∀σ' H',N σ' H'->∃m',m'<m/\W (i+1) m' σ' H')/\∀x H',(Ae lo n).cK i H x H'->g x σ H' λσ2 H2=>tb {D with nx:=N,ct:=N,bk:=D.nx} σ2 H2):=by
 refine⟨λi m σ H=>m=n-i/\i<=n/\Pv i σ H,⟨n,by simp,lX _,h0⟩,?_⟩;rintro i m σ H ⟨rfl,hi,p⟩
 by_cases bn:i<n
 ·refine .inr ⟨bn,Pv (i+1),λσ' H' p'=>⟨n-(i+1),by lia,Z,bn,p'⟩,λx H' y=>?_⟩;obtain⟨e,y⟩:=y;subst e y;exact hs i σ _ bn p
 ·have e:i=n:=by lia
  subst e;exact .inl ⟨lA _,hd σ H p⟩
noncomputable abbrev R2:=V->V->Hp->VK->Prop
def aS(X:Cx)(f:Value->Value->Sem Value)(r:R2):Prop:=
 ∀(U:List (Addr × Obj))(s:Shared)(σ:St)(H:Hp)(x y:V)(v u:Value)(Q:VK),Inv X U σ H s->RelV x v->RelV y u->r x y H Q->
  wpAny (model X.prog X.w) X.A (f v u) (EP X U σ Q) X.xe s
def Ei(X:Cx)(f:Value->Sem Value)(r:V->Hp->VK->Prop):Prop:=
 ∀(U:List (Addr × Obj))(s:Shared)(σ:St)(H:Hp)(x:V)(v:Value)(Q:VK),Inv X U σ H s->RelV x v->r x H Q->
  wpAny (model X.prog X.w) X.A (f v) (EP X U σ Q) X.xe s
def Wj(X:Cx)(f:Value)(r:List V->Hp->VK->Prop):Prop:=
 ∀(U:List (Addr × Obj))(s:Shared)(σ:St)(H:Hp)(xs:List V)(us:List Value)(Q:VK),Inv X U σ H s->Vals xs us->r xs H Q->
  wpAny (model X.prog X.w) X.A (call f us) (EP X U σ Q) X.xe s
def L'(X:Cx)(r:V->Hp->(Bool->Hp->Prop)->Prop):Prop:=
 ∀(U:List (Addr × Obj))(s:Shared)(σ:St)(H:Hp)(x:V)(v:Value)(Q:Bool->Hp->Prop),Inv X U σ H s->RelV x v->r x H Q->
  wpAny (model X.prog X.w) X.A (truthy v) (TP X U σ Q) X.xe s
def ba(r:R2)(ta tb:TE):TE:=λσ H Q=>ta σ H λx H1=>tb σ H1 λy H2=>r x y H2 Q
def Ma(r:V->Hp->VK->Prop)(ta:TE):TE:=λσ H Q=>ta σ H λx H1=>r x H1 Q
def rI(C:Int->Int->Prop)(g:Int->Int->V):R2:=λx y H Q=>∃i j,x=.int i/\y=.int j/\C i j/\Q (g i j) H
def oF(g:Int->Int->V):R2:=λx y H Q=>∃i j,x=.int i/\y=.int j/\Q (g i j) H
def rU(g:Int->V):V->Hp->VK->Prop:=λx H Q=>∃i,x=.int i/\Q (g i) H
section
variable {pos:Pos}
theorem Ej(ha:PE X a ta)(hb:PE X b tb){U:List (Addr × Obj)}{s:Shared}{σ:St}{H:Hp}{R:V->V->Hp->Prop}(I:Inv X U σ H s)
  (h:ta σ H λx H1=>tb σ H1 λy H2=>R x y H2) {Q:Value->Shared->Prop} {f:Value->Value->Sem Value}
  (hf:∀v u s2 x y H2,Inv X U σ H2 s2->RelV x v->RelV y u->R x y H2->wpAny (model X.prog X.w) X.A (f v u) Q X.xe s2):
  wpAny (model X.prog X.w) X.A (eval a X.env) (λv s₁=>wpAny (model X.prog X.w) X.A (eval b X.env) (λu s₂=>wpAny (model X.prog X.w) X.A (f v u) Q X.xe s₂) X.xe s₁) X.xe s:=by
 refine au (ha U s σ H _ I h) λv s1⟨x,H1,I1,r1,q1⟩=>?_;refine au (hb U s1 σ H1 _ I1 q1) λu s2⟨y,H2,I2,r2,q2⟩=>?_;exact hf v u s2 x y H2 I2 r1 r2 q2
theorem Qt{op:Operator}(ho:aS X (binaryOp op) r)(ha:PE X a ta)(hb:PE X b tb):PE X (.BinOp a op b pos) (ba r ta tb):=by
 intro U s σ H Q I h;exact wpAny_BinOp (Ej ha hb I h λv u s2 x y H2 I2 rx ry q=>ho U s2 σ H2 x y v u Q I2 rx ry q)
theorem Kw{op:UnaryOp}(ho:Ei X (unaryOp op) r)(ha:PE X a ta):PE X (.UnaryOp op a pos) (Ma r ta):=by
 intro U s σ H Q I h;exact UnaryOp_ (au (ha U s σ H _ I h) λv s1⟨x,H1,I1,r1,q1⟩=>ho U s1 σ H1 x v Q I1 r1 q1)
theorem Af{g:Int->Int->Int}
  (rule:∀(i j:Int)(t u:Tok)(s:Shared)(Q:Value->Shared->Prop)(E:Value->Shared->Prop),C i j->Q (.int (g i j) s.toks) {s with toks:=s.toks+1}->wpAny (model X.prog X.w) X.A (f (.int i t) (.int j u)) Q E s):
  aS X f (rI C λi j=>.int (g i j)):=by
 intro U s σ H x y v u Q I rx ry h;obtain⟨i,j,rfl,rfl,hc,q⟩:=h;obtain⟨t,rfl⟩:=rx;obtain⟨t',rfl⟩:=ry;exact rule i j t t' s _ _ hc ⟨.int (g i j),H,I.tok _,⟨_,Z⟩,q⟩
theorem Hz{g:Int->Int->Int}
  (rule:∀(i j:Int)(t u:Tok)(s:Shared)(Q:Value->Shared->Prop)(E:Value->Shared->Prop),Q (.int (g i j) s.toks) {s with toks:=s.toks+1}->wpAny (model X.prog X.w) X.A (f (.int i t) (.int j u)) Q E s):
  aS X f (oF λi j=>.int (g i j)):=by
 intro U s σ H x y v u Q I rx ry h;obtain⟨i,j,rfl,rfl,q⟩:=h;obtain⟨t,rfl⟩:=rx;obtain⟨t',rfl⟩:=ry;exact rule i j t t' s _ _ ⟨.int (g i j),H,I.tok _,⟨_,Z⟩,q⟩
theorem Ek{g:Int->Int->Bool}
  (rule:∀(i j:Int)(t u:Tok)(s:Shared)(Q:Value->Shared->Prop)(E:Value->Shared->Prop),Q (.bool (g i j)) s->wpAny (model X.prog X.w) X.A (f (.int i t) (.int j u)) Q E s):
  aS X f (oF λi j=>.bl (g i j)):=by
 intro U s σ H x y v u Q I rx ry h;obtain⟨i,j,rfl,rfl,q⟩:=h;obtain⟨t,rfl⟩:=rx;obtain⟨t',rfl⟩:=ry;exact rule i j t t' s _ _ ⟨.bl (g i j),H,I,Z,q⟩
def HA(i j:Int):Prop:=0<j/\j<1073741824
def Mb(i j:Int):Prop:=0<=j/\j<=1000000/\i.natAbs<2^64
def El(i j:Int):Prop:=(-(2^64)<i/\i<2^64)\/(-(2^64)<j/\j<2^64)
theorem El.ok(h:El i j):IntMulOk i j:=by
 rcases h with⟨h1,h2⟩|⟨h1,h2⟩
 ·exact .of_left (intBits_le_64 h1 h2)
 ·exact .of_right (intBits_le_64 h1 h2)
theorem JA:aS X (binaryOp .Add) (oF λi j=>.int (i+j)):=Hz λ_ _ _ _ _ _ _ q=>add_int q
theorem Zg:aS X (binaryOp .Sub) (oF λi j=>.int (i-j)):=Hz λ_ _ _ _ _ _ _ q=>sub_int q
theorem jj:aS X (binaryOp .Mult) (rI El λi j=>.int (i*j)):=Af λ_ _ _ _ _ _ _ hc q=>mul_int q hc.ok
theorem qh:aS X (binaryOp .FloorDiv) (rI HA λi j=>.int (i/j)):=Af λi j _ _ _ _ _ hc q=>by
 have h1:(0:Int)<j:=hc.1;have h2:j<1073741824:=hc.2;exact floordiv_int (by lia) (by rw[yco i (by lia)];exact q) (.inl (ycO (by lia)))
theorem Vc:aS X (binaryOp .Mod) (rI (λ_ j=>0<j) λi j=>.int (i % j)):=Af λi j _ _ _ _ _ hc q=>by
 have h1:(0:Int)<j:=hc;exact mod_int' (by lia) (by rw[ydw i (by lia)];exact q)
theorem yB:aS X (binaryOp .Pow) (rI Mb λi j=>.int (i^j.toNat)):=Af λ_ _ _ _ _ _ _ hc q=>pow_int_small hc.1 hc.2.1 hc.2.2 q
theorem Mc{g:Int->Int}
  (rule:∀(i:Int)(t:Tok)(s:Shared)(Q:Value->Shared->Prop)(E:Value->Shared->Prop),Q (.int (g i) s.toks) {s with toks:=s.toks+1}->wpAny (model X.prog X.w) X.A (f (.int i t)) Q E s):
  Ei X f (rU λi=>.int (g i)):=by
 intro U s σ H x v Q I rx h;obtain⟨i,rfl,q⟩:=h;obtain⟨t,rfl⟩:=rx;exact rule i t s _ _ ⟨.int (g i),H,I.tok _,⟨_,Z⟩,q⟩
theorem ZN:Ei X (unaryOp .USub) (rU λi=>.int (-i)):=Mc λ_ _ _ _ _ q=>neg_int q
end
noncomputable def HC:V->V->Bool
 | .aw,.aw=>true| .aw,.int _=>true| .int _,.aw=>true| .aw,.bl _=>true| .bl _,.aw=>true| .aw,.str _=>true| .str _,.aw=>true
 | .int _,.int _=>true| .bl _,.bl _=>true| .str _,.str _=>true| .cG _,.cG _=>true
 | .int _,.str _=>true| .str _,.int _=>true| .bl _,.str _=>true| .str _,.bl _=>true
 |_,_=>false
def Em:R2:=λx y H Q=>HC x y=true/\Q (.bl (decide (x=y))) H
def Md:R2:=λx y H Q=>HC x y=true/\Q (.bl (!decide (x=y))) H
theorem xi:decide (V.int i=V.int j)=(i==j):=by
 rw[ycc];simp
theorem yC:decide (V.bl i=V.bl j)=(i==j):=by
 rw[ycc];simp
theorem XM:decide (V.str i=V.str j)=(i==j):=by
 rw[ycc];simp
theorem xj:decide (V.cG i=V.cG j)=(i.toList==j.toList):=by
 rw[ycc];cases i;cases j;simp
section
variable {pos:Pos}
theorem Jo{U:List (Addr × Obj)}{σ:St}{k k':Bool}(I:Inv X U σ H s)(q:Q (.bl k) H)(e:k=k'):EP X U σ Q (.bool k') s:=by
 subst e;exact⟨.bl k,H,I,Z,q⟩
theorem Q3:aS X (compareOp .Eq) Em:=by
 intro U s σ H x y v u Q I rx ry h;obtain⟨hs,q⟩:=h;cases x with
 |aw=>
  cases rx;cases y with
  |aw=>cases ry;exact PySem.EqNone.eq_none_none (Jo I q (by simp))
  |bl j=>cases ry;exact PySem.EqNone.eq_none_bool (Jo I q (by simp))
  |int j=>obtain⟨t',rfl⟩:=ry;exact PySem.EqNone.eq_none_int (Jo I q (by simp))
  |str j=>obtain⟨t',rfl⟩:=ry;exact PySem.EqNone.eq_none_str (Jo I q (by simp))
  |_=>exact absurd (show false=true from hs) yar
 |bl i=>
  cases rx;cases y with
  |aw=>cases ry;exact PySem.EqNone.eq_bool_none (Jo I q (by simp))
  |bl j=>cases ry;exact eq_bool (Jo I q yC)
  |str j=>obtain⟨t',rfl⟩:=ry;exact PySem.EqMixed.eq_bool_str (Jo I q (by simp))
  |_=>exact absurd (show false=true from hs) yar
 |int i=>
  obtain⟨t,rfl⟩:=rx;cases y with
  |aw=>cases ry;exact PySem.EqNone.eq_int_none (Jo I q (by simp))
  |int j=>obtain⟨t',rfl⟩:=ry;exact eq_int (Jo I q xi)
  |str j=>obtain⟨t',rfl⟩:=ry;exact PySem.EqMixed.eq_int_str (Jo I q (by simp))
  |_=>exact absurd (show false=true from hs) yar
 |str i=>
  obtain⟨t,rfl⟩:=rx;cases y with
  |aw=>cases ry;exact PySem.EqNone.eq_str_none (Jo I q (by simp))
  |bl j=>cases ry;exact PySem.EqMixed.eq_str_bool (Jo I q (by simp))
  |int j=>obtain⟨t',rfl⟩:=ry;exact PySem.EqMixed.eq_str_int (Jo I q (by simp))
  |str j=>obtain⟨t',rfl⟩:=ry;exact eq_str (Jo I q XM)
  |_=>exact absurd (show false=true from hs) yar
 |cG i=>
  obtain⟨t,rfl⟩:=rx;cases y with
  |cG j=>obtain⟨t',rfl⟩:=ry;exact eq_bytes (Jo I q xj)
  |_=>exact absurd (show false=true from hs) yar
 |_=>cases y<;>exact absurd (show false=true from hs) yar
theorem ZZ:aS X (compareOp .NotEq) Md:=by
 intro U s σ H x y v u Q I rx ry h;obtain⟨hs,q⟩:=h;cases x with
 |aw=>
  cases rx;cases y with
  |aw=>cases ry;exact PySem.EqNone.ne_none_none (Jo I q (by simp))
  |bl j=>cases ry;exact PySem.EqNone.ne_none_bool (Jo I q (by simp))
  |int j=>obtain⟨t',rfl⟩:=ry;exact PySem.EqNone.ne_none_int (Jo I q (by simp))
  |str j=>obtain⟨t',rfl⟩:=ry;exact PySem.EqNone.ne_none_str (Jo I q (by simp))
  |_=>exact absurd (show false=true from hs) yar
 |bl i=>
  cases rx;cases y with
  |aw=>cases ry;exact PySem.EqNone.ne_bool_none (Jo I q (by simp))
  |bl j=>cases ry;exact ne_bool (Jo I q (yaI not yC))
  |str j=>obtain⟨t',rfl⟩:=ry;exact PySem.EqMixed.ne_bool_str (Jo I q (by simp))
  |_=>exact absurd (show false=true from hs) yar
 |int i=>
  obtain⟨t,rfl⟩:=rx;cases y with
  |aw=>cases ry;exact PySem.EqNone.ne_int_none (Jo I q (by simp))
  |int j=>obtain⟨t',rfl⟩:=ry;exact ne_int (Jo I q (yaI not xi))
  |str j=>obtain⟨t',rfl⟩:=ry;exact PySem.EqMixed.ne_int_str (Jo I q (by simp))
  |_=>exact absurd (show false=true from hs) yar
 |str i=>
  obtain⟨t,rfl⟩:=rx;cases y with
  |aw=>cases ry;exact PySem.EqNone.ne_str_none (Jo I q (by simp))
  |bl j=>cases ry;exact PySem.EqMixed.ne_str_bool (Jo I q (by simp))
  |int j=>obtain⟨t',rfl⟩:=ry;exact PySem.EqMixed.ne_str_int (Jo I q (by simp))
  |str j=>obtain⟨t',rfl⟩:=ry;exact ne_str (Jo I q (yaI not XM))
  |_=>exact absurd (show false=true from hs) yar
 |cG i=>
  obtain⟨t,rfl⟩:=rx;cases y with
  |cG j=>obtain⟨t',rfl⟩:=ry;exact ne_bytes (Jo I q (yaI not xj))
  |_=>exact absurd (show false=true from hs) yar
 |_=>cases y<;>exact absurd (show false=true from hs) yar
theorem KS:aS X (compareOp .Lt) (oF λi j=>.bl (decide (i<j))):=Ek λ_ _ _ _ _ _ _ q=>lt_int q
theorem KU:aS X (compareOp .Gt) (oF λi j=>.bl (decide (j<i))):=Ek λ_ _ _ _ _ _ _ q=>gt_int q
theorem j9:aS X (compareOp .GtE) (oF λi j=>.bl (decide (j<=i))):=Ek λ_ _ _ _ _ _ _ q=>ge_int q
theorem Jf:aS X (compareOp .In) (λx y H Q=>∃i j,x=.str i/\y=.str j/\Q (.bl (!(Builtin.Str.occurrences j i 0 j.length 1).isEmpty)) H):=by
 intro U s σ H x y v u Q I rx ry h;obtain⟨i,j,rfl,rfl,q⟩:=h;obtain⟨t,rfl⟩:=rx;obtain⟨t',rfl⟩:=ry;exact in_str (Jo I q Z)
theorem Jg:aS X (compareOp .NotIn) (λx y H Q=>∃i j,x=.str i/\y=.str j/\Q (.bl (!(!(Builtin.Str.occurrences j i 0 j.length 1).isEmpty))) H):=by
 intro U s σ H x y v u Q I rx ry h;obtain⟨i,j,rfl,rfl,q⟩:=h;obtain⟨t,rfl⟩:=rx;obtain⟨t',rfl⟩:=ry;exact notIn_str (Jo I q Z)
theorem Qo(b:Expr){op:CmpOp}(h:op≠ .In:=by decide)(h2:op≠ .NotIn:=by decide):behindInMarks op b=false:=by
 have e1:(op==CmpOp.In)=false:=by cases op<;>first|rfl|exact absurd rfl h
 have e2:(op==CmpOp.NotIn)=false:=by cases op<;>first|rfl|exact absurd rfl h2
 cases b<;>simp[behindInMarks,e1,e2]
theorem JR{op:CmpOp}(ho:aS X (compareOp op) r)(ha:PE X a ta)(hb:PE X b tb)(hm:behindInMarks op b=false):PE X (.Compare a [op] [b] pos) (ba r ta tb):=by
 intro U s σ H Q I h;exact wpAny_Compare1 (Ej ha hb I h λv u s2 x y H2 I2 rx ry q=>ho U s2 σ H2 x y v u Q I2 rx ry q) hm
def KY(t:TE):TT:=λσ H Q=>t σ H λx H'=>∃k,x=.bl k/\Q k H'
theorem Ql{op:CmpOp}(ho:aS X (compareOp op) r)(ha:PE X a ta)(hb:PE X b tb)(hm:behindInMarks op b=false):PT X (.Compare a [op] [b] pos) (KY (ba r ta tb)):=by
 intro U s σ H Q I h;refine wpAny_isTrue_Compare1 (au (ha U s σ H _ I h) λv s1⟨x,H1,I1,r1,q1⟩=>au (hb U s1 σ H1 _ I1 q1) λu s2⟨y,H2,I2,r2,q2⟩=>
  au (ho U s2 σ H2 x y v u _ I2 r1 r2 q2) λc s3⟨z,H3,I3,r3,k,e,q3⟩=>?_) hm
 subst e;cases r3;exact ybu ⟨H3,I3,q3⟩
def jk(r r':R2)(ta tb tc:TE):TE:=λσ H Q=>ta σ H λx H1=>tb σ H1 λy H2=>r x y H2 λz H3=>∃k,z=.bl k/\
 (if k=true then tc σ H3 λw' H4=>r' y w' H4 Q else Q (.bl false) H3)
theorem jl{op En:CmpOp}(ho:aS X (compareOp op) r)(fZ:aS X (compareOp En) r')(ha:PE X a ta)(hb:PE X b tb)(hc:PE X c tc)
  (hm:lastMarks [op,En] [b,c]=false:=by with_unfolding_all rfl):PT X (.Compare a [op,En] [b,c] pos) (KY (jk r r' ta tb tc)):=by
 intro U s σ H Q I h;refine isTrue_chain (au (ha U s σ H _ I h) λv s1⟨x,H1,I1,r1,q1⟩=>test_link (au (hb U s1 σ H1 _ I1 q1) λu s2⟨y,H2,I2,r2,q2⟩=>
  au (ho U s2 σ H2 x y v u _ I2 r1 r2 q2) λd s3⟨z,H3,I3,r3,k,e,q3⟩=>?_)) hm
 subst e;cases r3;refine ybu ?_;cases k with
 |false=>
  obtain⟨k',e',q'⟩:=q3;cases e';exact ite_ff ⟨H3,I3,q'⟩
 |true=>
  refine ite_tt (test_last (au (hc U s3 σ H3 _ I3 q3) λw' s4⟨z',H4,I4,r4,q4⟩=>au (fZ U s4 σ H4 y z' u w' _ I4 r2 r4 q4) λd' s5⟨z2,H5,I5,r5,k2,e2,q5⟩=>?_));subst e2;cases r5;exact ybu ⟨H5,I5,q5⟩
def Df(K:Frag)(x:V)(H:Hp)(k:Bool):Prop:=
 match x with
 | .aw=>k=false
 | .bl b=>k=b
 | .int i=>k=(i !=0)
 | .str y=>y.length<=sizeLine/\k=((y.length:Int) !=0)
 | .cG y=>y.size<=sizeLine/\k=((y.size:Int) !=0)
 | .ref p=>(∃xs,ay K H p xs/\k= !xs.isEmpty)\/(∃xs,ai K H p xs/\k= !xs.isEmpty)\/∃al,H p=some (.dK al)/\k= !al.isEmpty
 |_=>False
theorem za{al:List (κ × V)}(r:KV al vs):(!vs.isEmpty)= !al.isEmpty:=by
 cases r<;>rfl
theorem Yd{xs:List V}{ap:List Value}(r:Vals xs ap):(!ap.toArray.isEmpty)= !xs.isEmpty:=by
 cases r<;>simp
theorem KZ:(sizeLine:Nat)<2^63:=by rw[yew];decide
theorem Me:L' X (λx H Q=>∃k,Df X.K x H k/\Q k H):=by
 intro U s σ H x v Q I rx h;obtain⟨k,e,q⟩:=h;have hl:=KZ;have hs:sizeLine=16777216:=yew;cases x with
 |aw=>
  cases rx;have e':k=false:=e;subst e';exact truthy_none ⟨H,I,q⟩
 |bl b=>
  cases rx;have e':k=b:=e;subst e';exact ybu ⟨H,I,q⟩
 |int i=>
  obtain⟨t,rfl⟩:=rx;have e':k=(i !=0):=e;subst e';exact PySem.P.truthy_int ⟨H,I,q⟩
 |str y=>
  obtain⟨t,rfl⟩:=rx;obtain⟨hy,e'⟩:y.length<=sizeLine/\k=((y.length:Int) !=0):=e;subst e';exact PySem.P.truthy_str (by lia) ⟨H,I.tok _,q⟩
 |cG y=>
  obtain⟨t,rfl⟩:=rx;obtain⟨hy,e'⟩:y.size<=sizeLine/\k=((y.size:Int) !=0):=e;subst e';exact truthy_bytes (by lia) ⟨H,I.tok _,q⟩
 |ref p=>
  cases rx;have e':(∃xs,ay X.K H p xs/\k= !xs.isEmpty)\/(∃xs,ai X.K H p xs/\k= !xs.isEmpty)\/∃al,H p=some (.dK al)/\k= !al.isEmpty:=e;rcases e' with⟨xs,hx,e'⟩|⟨xs,hx,e'⟩|⟨al,hx,e'⟩
  ·subst e';obtain⟨ap,r,pl,hz⟩:=I.list hx;have hlen:=r.length;exact wpAny_truthy_list pl.isList (by simp only[lW];lia) ⟨H,I.tok _,by rw[Yd r];exact q⟩
  ·subst e';obtain⟨ap,r,pl,hz⟩:=I.tuple hx;have hlen:=r.length;exact truthy_tuple pl (by simp only[lW];lia) ⟨H,I.tok _,by rw[Yd r];exact q⟩
  ·subst e';obtain⟨hz,hS,vs,r,m⟩:al.length<=sizeLine/\(p==sysModules)=false/\∃vs,KV al vs/\s.heap.DictOf (Jr X.prog X.w) p vs:=I.ag p _ hx;have hlen:al.length=vs.length:=ydP r;exact wpAny_truthy_dict hS m (by lia) ⟨H,I.tok _,by rw[za r];exact q⟩
 |_=>exact(show False from e).elim
theorem Q7(ha:PE X a ta)(he:∀whole,isTrue a X.env whole=(do let v←whole;standAt a.pos;holding [v] (truthy v))):
  PT X a (λσ H Q=>ta σ H λx H'=>∃k,Df X.K x H' k/\Q k H'):=by
 intro U s σ H Q I h;exact isTrue_plain (au (ha U s σ H _ I h) λv s1⟨x,H1,I1,r1,q1⟩=>Me U s1 σ H1 x v Q I1 r1 q1) (he _)
theorem Qp:aS X (binaryOp .Add) (λx y H Q=>∃i j,x=.str i/\y=.str j/\i.length+j.length<=sizeLine/\Q (.str (i++j)) H):=by
 intro U s σ H x y v u Q I rx ry h;obtain⟨i,j,rfl,rfl,hz,q⟩:=h;obtain⟨t,rfl⟩:=rx;obtain⟨t',rfl⟩:=ry;exact add_str (λt' tk=>⟨.str (i++j),H,I.tok _,⟨_,Z⟩,q⟩) hz
theorem vals1{us:List Value}(r:Vals [x] us):∃u,us=[u]/\RelV x u:=by
 cases r with
 |cons r1 r2=>cases r2;exact⟨_,Z,r1⟩
theorem vals2{us:List Value}(r:Vals [x,y] us):∃u w',us=[u,w']/\RelV x u/\RelV y w':=by
 cases r with
 |cons r1 r2=>
  cases r2 with
  |cons r3 r4=>cases r4;exact⟨_,_,Z,r1,r3⟩
theorem ZH:Wj X (.builtin "abs") (λxs H Q=>∃i,xs=[.int i]/\Q (.int (if i<0 then-i else i)) H):=by
 intro U s σ H xs us Q I r h;obtain⟨i,rfl,q⟩:=h;obtain⟨u,rfl,t,rfl⟩:=vals1 r;exact call_abs_int λu tk=>⟨.int (if i<0 then-i else i),H,I.tok _,⟨_,Z⟩,q⟩
theorem Ui(hc:X.calm=true):Wj X (.builtin "max") (λxs H Q=>∃i j,xs=[.int i,.int j]/\Q (.int (if j>i then j else i)) H):=by
 intro U s σ H xs us Q I r h;obtain⟨i,j,rfl,q⟩:=h;obtain⟨u,w',rfl,⟨t,rfl⟩,⟨t',rfl⟩⟩:=vals2 r;refine max_two_ints (I.ok.hd hc) λh' tk k=>⟨_,H,I.kept k,?_,q⟩
 by_cases hj:j>i
 ·rw[yaf hj,yaf hj];exact⟨_,Z⟩
 ·rw[yac hj,yac hj];exact⟨_,Z⟩
theorem Zc:Wj X (.type "str") (λxs H Q=>∃i,xs=[.int i]/\i.natAbs.log2<1920/\Q (.str (toString i)) H):=by
 intro U s σ H xs us Q I r h;obtain⟨i,rfl,hz,q⟩:=h;obtain⟨u,rfl,t,rfl⟩:=vals1 r;exact PySem.P.str_of_int hz ⟨.str _,H,I.tok _,⟨_,Z⟩,q⟩
theorem qi:Wj X (.builtin "divmod") (λxs H Q=>∃i j,xs=[.int i,.int j]/\HA i j/\∀p,H p=none->Q (.ref p) (upd H p (.tup [.int (i/j),.int (i % j)]))):=by
 intro U s σ H xs us Q I r h;obtain⟨i,j,rfl,⟨h1,h2⟩,q⟩:=h;obtain⟨u,w',rfl,⟨t,rfl⟩,⟨t',rfl⟩⟩:=vals2 r;refine divmod_int (by lia) ?_ (.inl (ycO (by lia)));rw[yco i (by lia),ydw i (by lia)];have hn:H s.heap.objs.size=none:=I.ag.fresh (lA _);refine⟨.ref s.heap.objs.size,_,?_,Z,q _ hn⟩;refine I.laid (λb o e=>yaa _ e) (lA _) ⟨by simp only[lD,ybw];rw[yew];decide,[.int (i/j) s.toks,.int (i % j) (s.toks+1)],.cons ⟨_,Z⟩ (.cons ⟨_,Z⟩ .nil),?_⟩;exact⟨_,yam s.heap rfl,Z,0,Z,Z⟩
end
structure oG(h:Heap)(x dx C:Addr)(mA:Str->Option Value):Prop where
 obj:h.get? x=some (instObj C dx)
 ns:h.Ns1 dx mA
 ne:dx≠x
theorem xk{h:Heap}(n:h.Ns1 dx mA):∃od,h.get? dx=some od/\∀name,lookIn name od=some (mA name):=by
 obtain⟨o,es,ep,ho,hd,hk,_,hm⟩:=n;refine⟨o,ho,λname=>?_⟩;have e:=hm name;unfold nsFind findBy at e;rw[←Array.find?_toList]at e;unfold lookIn;rw[hd];dsimp only
 split
 ·rename_i y q;rw[q]at e;exact yaI some e
 ·rename_i q;rw[q]at e;have a:es.toList.any (·.refKey)=false:=by
   rw[ybL];intro y hy;obtain⟨z,t,Eo⟩:=hk y (yeq.mp hy);simp[DictEntry.refKey,Eo]
  have a':¬ es.toList.any (·.refKey)=true:=by rw[a];exact yar
  rw[yac a'];exact yaI some e
theorem oG.look(I:oG h x dx C mA):∃od,PySem.W.InstAt h x (instObj C dx) C (some od)/\∀name,lookIn name od=some (mA name):=
 let ⟨od,ho,hl⟩:=xk I.ns
 ⟨od,⟨I.obj,Z,Z,ho⟩,hl⟩
theorem jh.some_of(r:jh (some v) o):∃u,o=some u/\RelV v u:=by
 cases o with
 |none=>exact(show False from r).elim
 |some u=>exact⟨u,Z,r⟩
section
variable {fs:List (Str × V)}
theorem Mf(ag:aV P w H h)(e:H a=some (.ins C dx fs)):∃mA,oG h a dx C mA/\(∀f,jh (fs.lookup f) (mA f))/\PySem.Within mA (fs.map (·.1))/\fs.length<=1000/\H dx=some (.own a):=by
 obtain⟨d,z,ne,ob,mA,n,r,q⟩:=(show JU P w H h a (.ins C dx fs)from ag a _ e);exact⟨mA,⟨ob,n,ne⟩,r,q,z,d⟩
end
structure Ep(K:Frag)(C:Addr):Prop where
 pg:plainGet K C Str.empty=true
 hd:hasDictIn K C=true
 po:plainOver K C=true
 sa:findIn K (.ref C) "__setattr__"=some (some (.builtin "object.__setattr__"))
theorem Ep.get{K:Frag}(c:Ep K C)(f:Str):plainGet K C f=true:=c.pg
section
variable {X:Cx}{U:List (Addr × Obj)}{σ:St}{H:Hp}{s:Shared}{A:Around}{E:Value->Shared->Prop}{Q:Value->Shared->Prop}{c:Value}{b:Bool}
inductive bj (K:Frag) (H:Hp):V->Value->Prop where
 |aw:bj K H .aw (.type "NoneType")
 |bl (x:Bool):bj K H (.bl x) (.type "bool")
 |int (i:Int):bj K H (.int i) (.type "int")
 |str (x:Str):bj K H (.str x) (.type "str")
 |oC (x:UInt64):bj K H (.oC x) (.type "float")
 |lst {a:Addr} {xs:List V} (e:H a=some (.lst xs)):bj K H (.ref a) (.type "list")
 |bO {a:Addr} {o:Obj} {xs:List V} (e:H a=some (.bO o (.lst xs))):bj K H (.ref a) (.type "list")
 |tup {a:Addr} {xs:List V} (e:H a=some (.tup xs)):bj K H (.ref a) (.type "tuple")
 |dK {a:Addr} {al:List (Key × V)} (e:H a=some (.dK al)):bj K H (.ref a) (.type "dict")
 |dT {a:Addr} {al:List (List Key × V)} (e:H a=some (.dT al)):bj K H (.ref a) (.type "dict")
 |ins {a C dx:Addr} {fs:List (Str × V)} (e:H a=some (.ins C dx fs)) (cl:Ep K C) (ha:findIn K (.ref C) "__class__"=some (some (.builtin "object.__class__")))
   (hn:specialIn K (.builtin "object.__class__") "__get__"=some (some (.builtin "getset_descriptor.__get__"))) (re:takesIn K (.builtin "object.__class__")=some true)
   (hm:mroIn K C (.type "object")=some true):bj K H (.ref a) (.ref C)
theorem xl(I:Inv X U σ H s)(rx:RelV x u)(ty:bj X.K H x t)(e:kitOne X.K t c=some b)(h:∀tk,Q (.bool b) {s with toks:=tk}):
  wpAny (model X.prog X.w) A (call (.builtin "isinstance") [u,c]) Q E s:=by
 cases ty with
 |aw=>cases(show u=Value.none from rx);exact ydo kitx_none I.bt True.intro e (λz=>nomatch z) h
 |bl y=>cases(show u=Value.bool y from rx);exact ydo kitx_bool I.bt True.intro e (λz=>nomatch z) h
 |int i=>obtain⟨t,q⟩:=(show ∃t,u=Value.int i t from rx);cases q;exact ydo kitx_int I.bt True.intro e (λz=>nomatch z) h
 |str y=>obtain⟨t,q⟩:=(show ∃t,u=Value.str y t from rx);cases q;exact ydo kitx_str I.bt True.intro e (λz=>nomatch z) h
 |oC y=>obtain⟨t,q⟩:=(show ∃t,u=Value.float y t from rx);cases q;exact ydo kitx_float I.bt True.intro e (λz=>nomatch z) h
 |@lst a xs ea=>
  cases(show u=Value.ref a from rx);obtain⟨_,_,n,_,h1⟩:=(show JU X.prog X.w H s.heap a (.lst xs)from I.ag a _ ea);exact ydo kitx_list I.bt ⟨_,h1,Z⟩ e (λz=>nomatch z) h
 |@bO a ob xs ea=>
  cases(show u=Value.ref a from rx);obtain⟨_,_,_,n,_,h1⟩:=(show JU X.prog X.w H s.heap a (.bO ob (.lst xs))from I.ag a _ ea);exact ydo kitx_list I.bt ⟨_,h1,Z⟩ e (λz=>nomatch z) h
 |@tup a xs ea=>
  cases(show u=Value.ref a from rx);obtain⟨_,_,_,p⟩:=(show JU X.prog X.w H s.heap a (.tup xs)from I.ag a _ ea);obtain⟨o,h1,h2,_⟩:=p;exact ydo kitx_tuple I.bt ⟨o,h1,h2⟩ e (λz=>nomatch z) h
 |@dK a al ea=>
  cases(show u=Value.ref a from rx);obtain⟨_,_,vs,_,p⟩:=(show JU X.prog X.w H s.heap a (.dK al)from I.ag a _ ea);obtain⟨o,es,ep,h1,h2,_⟩:=p;exact ydo kitx_dict I.bt ⟨o,h1,h2.1⟩ e (λz=>nomatch z) h
 |@dT a al ea=>
  cases(show u=Value.ref a from rx);obtain⟨_,_,xs,_,o,es,ep,h1,h2,_⟩:=(show JU X.prog X.w H s.heap a (.dT al)from I.ag a _ ea);exact ydo kitx_dict I.bt ⟨o,h1,h2.1⟩ e (λz=>nomatch z) h
 |@ins a C dx fs ea cl ha hn re hm=>
  cases(show u=Value.ref a from rx);obtain⟨mA,O,_⟩:=Mf I.ag ea;obtain⟨od,J,_⟩:=O.look;exact ydo (kitx_own (cl.get _) cl.hd ha hn re hm) I.bt J e (λz=>nomatch z) h
end
structure ao(k:Nat)(A:Around):Prop where
 hd:A.handled=none
 dp:A.depth+3*k+5<recursionLimit
 un:A.units+16*k+200<cLine
theorem ao.mono(r:ao k A)(h:j<=k):ao j A:=⟨r.hd,by have:=r.dp;lia,by have:=r.un;lia⟩
theorem ao.deeper(r:ao (k+1) A)(env:Env):ao k (A.deeper env):=
 ⟨r.hd,by have:=r.dp;show A.depth+1+3*k+5<_;lia,by have:=r.un;show A.units+3+16*k+200<_;lia⟩
theorem ao.depth(r:ao k A):A.depth<recursionLimit:=by have:=r.dp;lia
theorem ao.units(r:ao k A):A.units+64<cLine:=by have:=r.un;lia
def WI:TA:=λ_ H Q=>Q [] H
def Jp(ta:TE)(tr:TA):TA:=λσ H Q=>ta σ H λx H1=>tr σ H1 λxs H2=>Q (x::xs) H2
section
variable {pos:Pos}
theorem Qc:PA X [] WI:=λ_ _ _ _ H Q I h=>yci ⟨[],H,I,.nil,h⟩
theorem Qa(ha:PE X e te)(hr:PA X es t)(hs:starEach (e::es) X.env=(false,eval e X.env)::starEach es X.env:=by rfl):PA X (e::es) (Jp te t):=by
 intro pos U s σ H Q I h;rw[hs];show wpAny _ _ (spliced ((false,eval e X.env)::backTo pos (starEach es X.env))) _ _ s;refine ybB (au (ha U s σ H _ I h) λu s1⟨x,H1,I1,r1,q1⟩=>?_);exact au (hr pos U s1 σ H1 _ I1 q1) λus s2⟨xs,H2,I2,r2,q2⟩=>⟨x::xs,H2,I2,.cons r1 r2,q2⟩
def Dg(t:TA):TE:=λσ H Q=>t σ H λxs H1=>xs.length<=sizeLine/\∀p,H1 p=none->Q (.ref p) (upd H1 p (.tup xs))
def Er(t:TA):TE:=λσ H Q=>t σ H λxs H1=>xs.length<=sizeLine/\∀p,H1 p=none->Q (.ref p) (upd H1 p (.lst xs))
theorem QG{x1}(h:PA X es t):PE X (.Tuple es x1 pos) (Dg t):=by
 intro U s σ H Q I hq;refine wpAny_Tuple_spliced (au (h pos U s σ H _ I hq) λus s1⟨xs,H1,I1,r,z,q⟩=>⟨by rw[←r.length];exact z,?_⟩);have hf:H1 s1.heap.objs.size=none:=I1.ag.fresh (lA _);refine⟨.ref s1.heap.objs.size,upd H1 s1.heap.objs.size (.tup xs),I1.laid (t':=s1.toks) (λb u e=>yaa _ e) (lA _) ?_,Z,q _ hf⟩;exact⟨z,us,r,⟨_,yam _ rfl,Z,_,Z,Z⟩⟩
theorem JG(h:PA X es t):PE X (.List es pos) (Er t):=by
 intro U s σ H Q I hq;refine wpAny_List_spliced (au (h pos U s σ H _ I hq) λus s1⟨xs,H1,I1,r,z,q⟩=>⟨by rw[←r.length];exact z,?_⟩);have hf:H1 s1.heap.objs.size=none:=I1.ag.fresh (lA _);refine⟨.ref s1.heap.objs.size,upd H1 s1.heap.objs.size (.lst xs),I1.laid (t':=s1.toks) (λb u e=>yaa _ e) (lA _) ?_,Z,q _ hf⟩;exact⟨z,us,0,r,yam _ rfl⟩
end
noncomputable abbrev Sp:=List V->Hp->VK->XK->Prop
noncomputable abbrev dE:=List Env->Hp->Shared->XK->Value->Shared->Prop
structure dR(P:Program)(w:World)(K:Frag)(mg:Str->Option Value)(M:Heap)(A:Around)(L:List Env)(s:Shared)(H:Hp):Prop where
 frames:A.frames=some L
 mod:Mod K mg M
 bs:∀b o,M.get? b=some o->s.heap.get? b=some o/\H b=none
 cH:M.objs.size<=s.heap.objs.size
 qc:s.heap.FunFrames M L
 fI:∀b∈aI L,H b=none
 ag:aV P w H s.heap
 bare:AllBare s.gens
def CE(L:List Env)(P:Program)(w:World)(H:Hp)(s:Shared)(Q:VK)(u:Value)(s':Shared):Prop:=
 ∃v H',s'.os=s.os/\AllBare s'.gens/\Un (aI L) [] H H' s.heap s'.heap/\aV P w H' s'.heap/\RelV v u/\Q v H'
def CR(CX:dE)(L:List Env)(P:Program)(w:World)(H:Hp)(s:Shared)(Q:VK)(E:XK)(r:Result)(s':Shared):Prop:=
 match r with
 | .ok (.ret u)=>CE L P w H s Q u s'
 | .ok _=>False
 | .error e=>CX L H s E e s'
structure af(P:Program)(w:World)(K:Frag)(mg:Str->Option Value)(M:Heap)(CX:dE)(k:Nat)(f:Addr)(fd:FuncData)(ps:List Str)(sp:Sp):Prop where
 len:∀vs H Q E,sp vs H Q E->vs.length=ps.length
 run:∀(A:Around)(L:List Env)(s:Shared)(H:Hp)(args:Args)(us:List Value)(vs:List V)(Q:VK)(E:XK),ao k A->dR P w K mg M A L s H->BindsTo s fd args (ps.zip us)->Vals vs us->sp vs H Q E->
  codeAny (model P w) A (.call (.ref f) args) (CR CX L P w H s Q E) s
section
variable {X:Cx}{U:List (Addr × Obj)}{σ:St}{H:Hp}{s s':Shared}
theorem Inv.Dh(I:Inv X U σ H s):dR X.prog X.w X.K X.mg X.M X.A X.stack s H:=
 ⟨I.ok.frames,I.ok.mod,I.bs,yas I.ok.cH I.sz,I.stack,I.Ku,I.ag,I.bare⟩
theorem Inv.after(I:Inv X U σ H s)(h:CE X.stack X.prog X.w H s Q u s'):EP X U σ Q u s':=by
 obtain⟨v,H',os,bare,un,ag,r,q⟩:=h;obtain⟨hh,g,d,t,oH⟩:=s';obtain rfl:oH=s.os:=os;exact⟨v,H',I.call (h':=hh) (g':=g) (d':=d) (t':=t) (ch:=[]) un ag bare (λb z=>absurd z (by simp)),r,q⟩
end
def Wk(sp:Sp)(fM:List V)(E:XK)(t:TA):TE:=λσ H Q=>t σ H λvs H1=>sp (vs++fM) H1 Q E
def Binds(K:Frag)(fd:FuncData)(ps:List Str)(ds:List Value):Prop:=
 ∀(s:Shared)(us:List Value),K.In s.heap->(us++ds).length=ps.length->BindsTo s fd ⟨us,[]⟩ (ps.zip (us++ds))
theorem Binds.all{K:Frag}{fd:FuncData}{ps:List Str}(h:∀us:List Value,us.length=ps.length->bindArgs fd ⟨us,[]⟩=pure (ps.zip us)):Binds K fd ps []:=λs us _ hl=>by
 rw[lS]at hl ⊢;exact .of_eq (h us hl)
def Passes(CX:dE)(X:Cx)(E:XK):Prop:=∀(U:List (Addr × Obj))(σ:St)(H:Hp)(s:Shared)(e:Value)(s':Shared),Inv X U σ H s->CX X.stack H s E e s'->X.xe e s'
section
variable {X:Cx}{CX:dE}{k:Nat}{f:Addr}{fd:FuncData}{ps:List Str}{sp:Sp}{fM:List V}{ds:List Value}{E:XK}{x:Str}{p pos apos:Pos}{e:Expr}{es:List Expr}{t:TA}
theorem yD{U:List (Addr × Obj)}{σ:St}{us:List Value}{vs:List V}(F:af X.prog X.w X.K X.mg X.M CX k f fd ps sp)(hr:ao k X.A)(hb:Binds X.K fd ps ds)(hd:Vals fM ds)(hx:Passes CX X E)
  (I:Inv X U σ H s) (r:Vals vs us) (h:sp (vs++fM) H Q E):wpAny (model X.prog X.w) X.A (call (.ref f) us) (EP X U σ Q) X.xe s:=by
 have r2:Vals (vs++fM) (us++ds):=r.append hd;have hl:(us++ds).length=ps.length:=by rw[←r2.length];exact F.len _ _ _ _ h
 refine ydk (ycA (F.run X.A X.stack s H ⟨us,[]⟩ (us++ds) (vs++fM) Q E hr I.Dh (hb s us I.bt hl) r2 h) λr s' hq=>?_);cases r with
 |error e=>exact hx U σ H s e s' I hq
 |ok fl=>
  cases fl with
  |ret u=>exact I.after hq
  |next=>exact False.elim hq
  |brk=>exact False.elim hq
  |cont=>exact False.elim hq
theorem xm(F:af X.prog X.w X.K X.mg X.M CX k f fd ps sp)(hr:ao k X.A)(hg:Gl X x)(hm:X.mg x=some (.ref f))(hk:keepIn X.K (.ref f)=true)(hb:Binds X.K fd ps ds)(hd:Vals fM ds)(hx:Passes CX X E)
  (ha:PA X (e::es) t) (pi:(x==("__debug__":Str))=false:=by decide) (he:starEach (e::es) X.env=(false,eval e X.env)::starEach es X.env:=by rfl) (mo:(backTo pos (starEach es X.env)).any (·.1)=false:=by rfl):
  PE X (.Call (.Name x p) (e::es) [] pos) (Wk sp fM E t):=by
 intro U s σ H Q I h;refine yaZ (XH I hg hm ?_ pi);refine callWith_K (h₀:=X.M) I.ok.mod.iN hk (au (ha pos U s σ H _ I h) λus s1⟨vs,H1,I1,r,q⟩=>⟨I1.bt,?_⟩) he mo;exact yD F hr hb hd hx I1 r q
theorem wN(F:af X.prog X.w X.K X.mg X.M CX k f fd ps sp)(hr:ao k X.A)(hg:Gl X x)(hm:X.mg x=some (.ref f))(hk:keepIn X.K (.ref f)=true)(hb:Binds X.K fd ps ds)(hd:Vals fM ds)(hx:Passes CX X E)
  (pi:(x==("__debug__":Str))=false:=by decide):PE X (.Call (.Name x p) [] [] pos) (Wk sp fM E WI):=by
 intro U s σ H Q I h;refine yaZ (XH I hg hm ?_ pi);exact callWith_K0 I.bt hk (yD (us:=[]) F hr hb hd hx I .nil h)
end
def PK(X:Cx)(Tl:List Keyword)(t:TA):Prop:=
 ∀(pos:Pos)(U:List (Addr × Obj))(s:Shared)(σ:St)(H:Hp)(Q:List V->Hp->Prop),Inv X U σ H s->t σ H Q->wpAny (model X.prog X.w) X.A (evalAll ((backToKw pos (keywordEach Tl X.env)).map (·.2))) (AP X U σ Q) X.xe s
section
variable {X:Cx}{CX:dE}{k:Nat}{f:Addr}{fd:FuncData}{ps ks:List Str}{sp:Sp}{E:XK}{x:Str}{p pos apos:Pos}{e:Expr}{es:List Expr}{Tl:List Keyword}{t tk:TA}{nm:Option Str}
theorem yE:PK X [] WI:=λ_ _ _ _ H Q I h=>wpAny_evalAll_nil ⟨[],H,I,.nil,h⟩
theorem Yu(ha:PE X e te)(hr:PK X Tl t):PK X (⟨nm,e,Es⟩::Tl) (Jp te t):=by
 intro pos U s σ H Q I h;show wpAny _ _ (evalAll ((do let v←eval e X.env;standAt pos;pure v)::(backToKw pos (keywordEach Tl X.env)).map (·.2))) _ _ s;refine wpAny_evalAll_cons (yab (au (ha U s σ H _ I h) λu s1⟨x,H1,I1,r1,q1⟩=>yab (ycF (yan ?_))));exact au (hr pos U s1 σ H1 _ I1 q1) λus s2⟨xs,H2,I2,r2,q2⟩=>⟨x::xs,H2,I2,.cons r1 r2,q2⟩
structure cj(K:Frag)(fd:FuncData)(ps ks:List Str)(g:List Value->List Value->List Value)(gV:List V->List V->List V):Prop where
 to:∀(s:Shared)(us ws:List Value),K.In s.heap->(g us ws).length=ps.length->BindsTo s fd ⟨us,ks.zip ws⟩ (ps.zip (g us ws))
 rel:∀{vs:List V}{us:List Value}{zs:List V}{ws:List Value},Vals vs us->Vals zs ws->Vals (gV vs zs) (g us ws)
def jm(sp:Sp)(gV:List V->List V->List V)(E:XK)(t tk:TA):TE:=λσ H Q=>t σ H λvs H1=>tk σ H1 λzs H2=>sp (gV vs zs) H2 Q E
variable {g:List Value->List Value->List Value}{gV:List V->List V->List V}
theorem Mg{U:List (Addr × Obj)}{σ:St}{us ws:List Value}{vs zs:List V}(F:af X.prog X.w X.K X.mg X.M CX k f fd ps sp)(hr:ao k X.A)(hb:cj X.K fd ps ks g gV)(hx:Passes CX X E)
  (I:Inv X U σ H s) (r:Vals vs us) (rz:Vals zs ws) (h:sp (gV vs zs) H Q E):wpAny (model X.prog X.w) X.A (call (.ref f) us (ks.zip ws)) (EP X U σ Q) X.xe s:=by
 have r2:=hb.rel r rz;have hl:(g us ws).length=ps.length:=by rw[←r2.length];exact F.len _ _ _ _ h
 refine ydk (ycA (F.run X.A X.stack s H ⟨us,ks.zip ws⟩ (g us ws) (gV vs zs) Q E hr I.Dh (hb.to s us ws I.bt hl) r2 h) λr s' hq=>?_);cases r with
 |error e=>exact hx U σ H s e s' I hq
 |ok fl=>
  cases fl with
  |ret u=>exact I.after hq
  |next=>exact False.elim hq
  |brk=>exact False.elim hq
  |cont=>exact False.elim hq
theorem wO(F:af X.prog X.w X.K X.mg X.M CX k f fd ps sp)(hr:ao k X.A)(hg:Gl X x)(hm:X.mg x=some (.ref f))(hk:keepIn X.K (.ref f)=true)(hb:cj X.K fd ps ks g gV)(hx:Passes CX X E)
  (ha:PA X (e::es) t) (Et:PK X Tl tk) (ol:(backToKw pos (keywordEach Tl X.env)).all (·.1.isSome)=true:=by rfl) (Eu:(backToKw pos (keywordEach Tl X.env)).filterMap (·.1)=ks:=by rfl)
  (pi:(x==("__debug__":Str))=false:=by decide) (he:starEach (e::es) X.env=(false,eval e X.env)::starEach es X.env:=by rfl)
  (mo:((backTo pos (starEach (e::es) X.env)).any (·.1)||(backToKw pos (keywordEach Tl X.env)).any (·.1.isNone))=false:=by rfl):
  PE X (.Call (.Name x p) (e::es) Tl pos) (jm sp gV E t tk):=by
 intro U s σ H Q I h;refine yaZ (XH I hg hm ?_ pi);refine callWith_KW (h₀:=X.M) I.ok.mod.iN hk ol (au (ha pos U s σ H _ I h) λus s1⟨vs,H1,I1,r,q⟩=>?_) mo he;refine au (Et pos U s1 σ H1 _ I1 q) λws s2⟨zs,H2,I2,rz,q2⟩=>⟨I2.bt,?_⟩;rw[Eu];exact Mg F hr hb hx I2 r rz q2
end
structure aa(N P:List Str)(sc:Scope):Prop where
 kind:sc.kind=.function
 co:sc.isCoroutine=false
 gen:sc.isGenerator=false
 nd:N.Nodup
 pre:N.take P.length=P
 par:∀x∈P,sc.names.lookup x=some .local\/sc.names.lookup x=some .cell
 aT:∀y∈sc.names,y.2≠ .free
theorem Uj{kindOf:Str->Option NameKind}:∀{binds:List (Str × Value)}{m:Str->Option Value},(∀v,(x,v)∉binds)->bindL kindOf binds m x=m x
 |[],_,_=>rfl
 |(n,v)::r,m,h=>by
  unfold bindL;rw[Uj λw hw=>h w (lG _ hw)]
  split
  ·have:x≠n:=by rintro rfl;exact h v lH
   simp[this]
  ·rfl
theorem Uk{kindOf:Str->Option NameKind}:∀{binds:List (Str × Value)}{m:Str->Option Value},(∀v,(x,v)∉binds)->bindC kindOf binds m x=m x
 |[],_,_=>rfl
 |(n,v)::r,m,h=>by
  unfold bindC;rw[Uk λw hw=>h w (lG _ hw)]
  split
  ·rfl
  ·have:x≠n:=by rintro rfl;exact h v lH
   simp[this]
theorem Ul{kindOf:Str->Option NameKind}:∀{P:List Str}{vs:List Value}{i:Nat}{m:Str->Option Value},P.Nodup->P[i]? =some x->vs[i]? =some v->kindOf x=some .local->
  bindL kindOf (P.zip vs) m x=some v
 |[],_,_,_,_,h,_,_=>by simp at h
 |_::_,[],_,_,_,_,h,_=>by simp at h
 |p::P,w::vs,0,m,nd,h1,h2,hk=>by
  simp at h1 h2;subst h1;subst h2;show bindL kindOf ((p,w)::P.zip vs) m p=_;unfold bindL;rw[Uj λv hv=>(ycG.mp nd).1 (ydp hv).1,yaf hk];simp
 |p::P,w::vs,i+1,m,nd,h1,h2,hk=>by
  show bindL kindOf ((p,w)::P.zip vs) m x=_;unfold bindL;exact Ul (i:=i) (ycG.mp nd).2 (by simpa using h1) (by simpa using h2) hk
theorem Um{kindOf:Str->Option NameKind}:∀{P:List Str}{vs:List Value}{i:Nat}{m:Str->Option Value},P.Nodup->P[i]? =some x->vs[i]? =some v->kindOf x≠some .local->
  bindC kindOf (P.zip vs) m x=some v
 |[],_,_,_,_,h,_,_=>by simp at h
 |_::_,[],_,_,_,_,h,_=>by simp at h
 |p::P,w::vs,0,m,nd,h1,h2,hk=>by
  simp at h1 h2;subst h1;subst h2;show bindC kindOf ((p,w)::P.zip vs) m p=_;unfold bindC;rw[Uk λv hv=>(ycG.mp nd).1 (ydp hv).1,yac hk];simp
 |p::P,w::vs,i+1,m,nd,h1,h2,hk=>by
  show bindC kindOf ((p,w)::P.zip vs) m x=_;unfold bindC;exact Um (i:=i) (ycG.mp nd).2 (by simpa using h1) (by simpa using h2) hk
noncomputable def start(N:List Str)(vs:List V):St:=vs.map some++replicate (N.length-vs.length) none
noncomputable def Z2(CX:dE)(P:Program)(w:World)(K:Frag)(mg:Str->Option Value)(M:Heap)(N:List Str)(qual:Str)(scope:Scope)(f:Addr)(cd:Value)(A:Around)(L:List Env)(s:Shared)(H:Hp)(E:XK):Cx where
 prog:=P
 w:=w
 K:=K
 mg:=mg
 M:=M
 A:=A.deeper (envOfC qual scope s.heap.objs.size f cd)
 N:=N
 s₀:=s
 H₀:=H
 env:=envOfC qual scope s.heap.objs.size f cd
 L:=L
 stack:=envOfC qual scope s.heap.objs.size f cd::L
 ex:=[]
 calm:=true
 fn:=λ_=>true
 pn:=[]
 xe:=λe s'=>wpAny (model P w) (A.deeper (envOfC qual scope s.heap.objs.size f cd)) (leaving (envOfC qual scope s.heap.objs.size f cd) e) (λ_ dS=>CX L H s E e dS) (λe' dS=>CX L H s E e' dS) s'
theorem WV{sc:Scope}(h:sc.names.lookup x=some .cell):∃c,(cellsFrom n sc.names []).lookup x=some c:=by
 have q:=cellsFrom_some sc.names n [] (.inl h);exact Option.isSome_iff_exists.mp q
theorem Uo{CX:dE}{K:Frag}{M:Heap}{N ps:List Str}{qual:Str}{scope:Scope}{cd:Value}{L:List Env}{s s1:Shared}{H:Hp}{E:XK}{us:List Value}{vs:List V}
  (S:aa N ps scope) (hd:A.handled=none) (e0:dR P w K mg M A L s H) (hl:vs.length=ps.length) (r:Vals vs us)
  (x:InCallC s s.heap.objs.size (bindL (envOfC qual scope s.heap.objs.size f cd).kindOf (ps.zip us) λ_=>none) (cellsFrom (s.heap.objs.size+1) scope.names []) (bindC (envOfC qual scope s.heap.objs.size f cd).kindOf (ps.zip us) λ_=>none) s1):
  Inv (Z2 CX P w K mg M N qual scope f cd A L s H E) [] (start N vs) H s1:=by
 have mo:ps.length<=N.length:=by have:=yaI List.length S.pre;rw[lI]at this;lia
 obtain⟨h1,tk,rfl,hk⟩:=x.done;have AR:∀b:Addr,b∉(Z2 CX P w K mg M N qual scope f cd A L s H E).ex:=λb z=>absurd (show b∈([]:List Addr)from z) (by simp);refine⟨⟨e0.mod,S.kind,Z,Z,lA _,λy z c h1 h2=>?_,λy hy=>?_,λy c _ h=>?_,λ_=>hd,Around.frames_deeper e0.frames,.inr ⟨Z,Z⟩,λb z=>absurd z (AR b),e0.bs,e0.cH,λb _ _=>AR b,λb z=>absurd z (AR b),e0.qc,e0.fI⟩,
  Z,e0.bare,Un.kept hk,⟨_,x.toInCall.ns,λi y v h1 h2 h3=>?_⟩,λy c h=>⟨_,x.cell y c h⟩,e0.ag.fresh (lA _),λy c h=>?_,λp hp=>absurd (show p∈([]:List (Addr × Obj))from hp) (by simp),e0.ag.kept hk,?_⟩
 ·exact name_of_addr x.apart (yax h1) (yax h2)
 ·have hy:scope.names.lookup y=some .cell\/scope.names.lookup y=some .free:=hy;rcases hy with hy|hy
  ·exact WV hy
  ·exact absurd rfl (S.aT _ (yax hy))
 ·exact ybi (x.above y c (yax h))
 ·have hi:i<vs.length:=by
   unfold start at h2
   by_cases hi:i<vs.length
   ·exact hi
   ·rw[ycp (by simpa using hi)]at h2;rw[ybq]at h2
    split at h2<;>cases h2
  have ha:vs[i]? =some v:=by
   unfold start at h2;rw[List.getElem?_append_left (by simpa using hi),lK]at h2;cases e:vs[i]? with
   |none=>rw[e]at h2;cases h2
   |some a=>rw[e]at h2;cases h2;rfl
  obtain⟨u,hu,rv⟩:=r.get ha;have hp:ps[i]? =some y:=by
   rw[←S.pre,List.getElem?_take_of_lt (by lia)];exact h1
  have HD:ps.Nodup:=by rw[←S.pre];exact S.nd.sublist (List.take_sublist _ _)
  refine⟨u,rv,?_⟩;rcases S.par y (lM hp)with k|k
  ·exact .inl ⟨k,Ul HD hp hu k⟩
  ·obtain⟨c,e⟩:=WV (n:=s.heap.objs.size+1) k;refine .inr ⟨.inl k,c,e,?_⟩;have q:=x.cell y c e;rw[Um HD hp hu (by show scope.names.lookup y≠_;rw[k];decide)]at q;exact q
 ·exact e0.ag.fresh (ybi (x.above y c (yax h)))
 ·unfold start;show _=N.length;rw[lq,lu,lN];lia
theorem HE{CX:dE}{K:Frag}{M:Heap}{k:Nat}{name qual:Str}{params:Arguments}{body:List Stmt}{scope:Scope}{dV kV doc pm ad ct oc:Value}{an od:Option Addr}
  {mt:Array (Option Value)} {N ps:List Str} {sp:Sp} (lk:K.lookup f=some ⟨oc,od,.func (fnOf name qual params body scope dV kV doc pm an ad ct),mt⟩) (GM:codeIn K ad qual=true) (S:aa N ps scope)
  (len:∀vs H Q E,sp vs H Q E->vs.length=ps.length)
  (bv:∀(A:Around)(L:List Env)(s:Shared)(H:Hp)(vs:List V)(Q:VK)(E:XK),ao k (A.deeper (envOfC qual scope s.heap.objs.size f ad))->sp vs H Q E->
   ∃t,aQ (Z2 CX P w K mg M N qual scope f ad A L s H E) body t/\t {nx:=λ_ H'=>Q .aw H',rt:=Q} (start N vs) H):
  af P w K mg M CX (k+1) f (fnOf name qual params body scope dV kV doc pm an ad ct) ps sp:=by
 refine⟨len,λA L s H args us vs Q E hr e0 hb r Tm=>?_⟩;have hl:=len _ _ _ _ Tm;have KX:K.In s.heap:=e0.mod.iN.keeps λb o e=>(e0.bs b o e).1;have lim:s.heap.NoLimit:=e0.mod.nolimit.keeps λb o e=>(e0.bs b o e).1;have dU:∀y∈ps.zip us,scope.names.lookup y.1=some .local\/(scope.names.lookup y.1=some .cell/\((cellsFrom (s.heap.objs.size+1) scope.names []).lookup y.1).isSome=true):=λ⟨n,v⟩ hy=>by
  rcases S.par n (ydp hy).1 with q|q
  ·exact .inl q
  ·exact .inr ⟨q,cellsFrom_some _ _ _ (.inl q)⟩
 refine codeAny_call_function hr.depth (KX _ _ lk) rfl S.co S.gen rfl (codeRec_of KX GM) (hb _ _ _ _ ?_);refine ydx S.kind dU λenv he s1 x=>?_;subst he;refine⟨lim.keeps x.toInCall.keep,codeAny_func ?_⟩;obtain⟨t,ht,hq⟩:=bv A L s H vs Q E (hr.deeper _) Tm;have I:Inv (Z2 CX P w K mg M N qual scope f ad A L s H E) [] (start N vs) H s1:=Uo S hr.hd e0 hl r x;refine yaA (ht [] s1 (start N vs) H _ I hq) (λfl s' hs=>?_) λe s' hs=>hs;have fin:∀{σ':St}{H':Hp}{v:V}{u:Value},Inv (Z2 CX P w K mg M N qual scope f ad A L s H E) [] σ' H' s'->RelV v u->Q v H'->CE L P w H s Q u s':=
  λ{σ' H' v u} J rv q=>⟨v,H',J.os,J.bare,J.M,J.ag,rv,q⟩
 cases fl with
 |ret u=>
  obtain⟨v,σ',H',J,rv,q⟩:=hs;exact fin J rv q
 |next=>
  obtain⟨σ',H',J,q⟩:=hs;exact fin (v:=V.aw) (u:=Value.none) J rfl q
 |brk=>
  obtain⟨_,_,_,q⟩:=hs;exact False.elim q
 |cont=>
  obtain⟨_,_,_,q⟩:=hs;exact False.elim q
section
variable {X:Cx}{x:Str}{p pos:Pos}{e:Expr}{es:List Expr}{t:TA}{id T:String}{r:List V->Hp->VK->Prop}
def oI(r:List V->Hp->VK->Prop)(t:TA):TE:=λσ H Q=>t σ H λvs H1=>r vs H1 Q
theorem Qq(hc:Wj X (.builtin id) r)(hg:Gl X x)(hm:X.mg x=none)(hv:bootBuiltins x=some (.builtin id))(ha:PA X (e::es) t)(hn:x≠"__name__":=by decide)(pi:(x==("__debug__":Str))=false:=by decide)
  (he:starEach (e::es) X.env=(false,eval e X.env)::starEach es X.env:=by rfl) (mo:(backTo pos (starEach es X.env)).any (·.1)=false:=by rfl):PE X (.Call (.Name x p) (e::es) [] pos) (oI r t):=by
 intro U s σ H Q I h;refine yaZ (WF I hg hm hv ?_ hn pi);exact PyProof.Rows.callWith_builtin1 (au (ha pos U s σ H _ I h) λus s1⟨vs,H1,I1,r1,q1⟩=>hc U s1 σ H1 vs us Q I1 r1 q1) he mo
theorem Q9(hc:Wj X (.type T) r)(hg:Gl X x)(hm:X.mg x=none)(hv:bootBuiltins x=some (.type T))(ha:PA X (e::es) t)(hn:x≠"__name__":=by decide)(pi:(x==("__debug__":Str))=false:=by decide)
  (he:starEach (e::es) X.env=(false,eval e X.env)::starEach es X.env:=by rfl) (mo:(backTo pos (starEach es X.env)).any (·.1)=false:=by rfl):PE X (.Call (.Name x p) (e::es) [] pos) (oI r t):=by
 intro U s σ H Q I h;refine yaZ (WF I hg hm hv ?_ hn pi);exact yaT (au (ha pos U s σ H _ I h) λus s1⟨vs,H1,I1,r1,q1⟩=>hc U s1 σ H1 vs us Q I1 r1 q1) he mo
end
end L2
namespace HT
open PySem PyProof.Rows
section
open PySem.SeqAt
open PySem.AutoSeq1 (wpAny_loadPart')
open PySem.MeetsSeq PySem.MeetsSeq2 PySem.MeetsSeq3
end
section
variable {prog:Program}
noncomputable def aH(n d:Nat):Option Int->Nat
 |none=>d
 |some v=>if v<0 then(v+(n:Int)).toNat else min v.toNat n
theorem jn(n d:Nat):aH n d none=d:=rfl
theorem Yv(n d k:Nat):aH n d (some (k:Int))=min k n:=by
 show(if(k:Int)<0 then((k:Int)+(n:Int)).toNat else min (k:Int).toNat n)=min k n;rw[yac (by lia),lZ]
theorem Mh(n d:Nat)(hd:d<=n)(o:Option Int):aH n d o<=n:=by
 cases o with
 |none=>exact hd
 |some v=>
  show(if v<0 then(v+(n:Int)).toNat else min v.toNat n)<=n
  by_cases hv:v<0
  ·rw[yaf hv];lia
  ·rw[yac hv];exact Nat.min_le_right _ _
theorem xn(v:Int)(n d:Nat):(if v<0 then max (v+(n:Int)) 0 else min v (n:Int))=((aH n d (some v):Nat):Int):=by
 show(if v<0 then max (v+(n:Int)) 0 else min v (n:Int))=(((if v<0 then(v+(n:Int)).toNat else min v.toNat n):Nat):Int)
 by_cases hv:v<0
 ·simp only[yaf hv];lia
 ·simp only[yac hv];lia
theorem zc(lo hi:Option Int)(n:Nat):Builtin.Slice.sliceAdjust lo hi 1 (n:Int)=(((aH n 0 lo:Nat):Int),((aH n n hi:Nat):Int)):=by
 have h1:¬ ((1:Int)<0):=by lia
 unfold Builtin.Slice.sliceAdjust;simp only[h1,ycw];refine Prod.ext ?_ ?_
 ·cases lo with
  |none=>rfl
  |some v=>exact xn v n 0
 ·cases hi with
  |none=>rfl
  |some v=>exact xn v n n
theorem zd(i j:Nat):Builtin.Slice.slicePlaces (i:Int) (j:Int) 1=j-i:=by
 unfold Builtin.Slice.slicePlaces;have h1:(1:Int)>0:=by lia
 simp only[h1,ybM,yef]
 split<;>lia
theorem Ye(p:IsPart v o)(h:Q o s):wpAny (model prog w) A (Builtin.Slice.slicePartIndex v) Q E s:=by
 cases p with
 |none=>exact slicePart_none h
 |int i t=>exact slicePart_int h
theorem WO{lo hi:Option Int}{n:Nat}(hs:s.heap.IsSliceOf sl vl vu .none)(pl:IsPart vl lo)(pu:IsPart vu hi)
  (h:Q (((aH n 0 lo:Nat):Int),1,aH n n hi-aH n 0 lo) s):wpAny (model prog w) A (Builtin.Slice.sliceApplied (.ref sl) (pure (n:Int))) Q E s:=by
 obtain⟨os,AS,oJ,Di⟩:=id hs;unfold Builtin.Slice.sliceApplied Builtin.Slice.sliceFields;refine yab (yab (ybD AS Di (x:=vl) Z (yab (ybD AS Di (x:=vu) Z (yab (ybD AS Di (x:=.none) Z (yan ?_)))))));refine yab (slicePart_none ?_);show wpAny _ _ (if((1:Int)==0)=true then _ else _) _ _ s;rw[yac (by decide)];refine yab (Ye pl (yab (Ye pu (yab (yan ?_)))));show wpAny _ _ (match Builtin.Slice.sliceAdjust lo hi 1 (n:Int)with|(lo,hi)=>pure (lo,(1:Int),Builtin.Slice.slicePlaces lo hi 1)) _ _ s;rw[zc lo hi n];show wpAny _ _ (pure (((aH n 0 lo:Nat):Int),(1:Int),Builtin.Slice.slicePlaces ((aH n 0 lo:Nat):Int) ((aH n n hi:Nat):Int) 1)) _ _ s;rw[zd];exact yan h
theorem wP(xs:Array Value)(i k:Nat):((List.range k).filterMap λ(m:Nat)=>xs[((i:Int)+(m:Int)*1).toNat]?).toArray=((xs.toList.drop i).take k).toArray:=by
 have e:(λ(m:Nat)=>xs[((i:Int)+(m:Int)*1).toNat]?)=λm=>xs[i+m]? :=by
  funext m
  have:((i:Int)+(m:Int)*1).toNat=i+m:=by lia
  rw[this]
 rw[e];have:=pick_run xs i k;rw[List.filterMap_map]at this;have e2:((λx=>xs[x]?)∘λx=>i+x)=λm=>xs[i+m]? :=rfl;rw[e2]at this;rw[this]
theorem Wl{items:Array Value}{lo hi:Option Int}(ht:IsTup s.heap t items)(hs:s.heap.IsSliceOf sl vl vu .none)(pl:IsPart vl lo)(pu:IsPart vu hi)
  (hw:¬ (aH items.size 0 lo=0/\aH items.size items.size hi=items.size))
  (h:Q (.ref s.heap.objs.size) {s with heap:=s.heap.push {cls:=.type "tuple",data:=.seq ((items.toList.drop (aH items.size 0 lo)).take (aH items.size items.size hi-aH items.size 0 lo)).toArray}})
  (hsz:items.size<=sizeLine):wpAny (model prog w) A (getItem (.ref t) (.ref sl)) Q E s:=by
 have cM:sizeOk (.seq ((items.toList.drop (aH items.size 0 lo)).take (aH items.size items.size hi-aH items.size 0 lo)).toArray):=by
  show((items.toList.drop (aH items.size 0 lo)).take (aH items.size items.size hi-aH items.size 0 lo)).toArray.size<=sizeLine;rw[lW,lI,lJ,lV];lia
 have hj:aH items.size items.size hi<=items.size:=Mh _ _ (lA _) hi;obtain⟨os,AS,oJ,Di⟩:=id hs;have Mi:s.TypeIs (.ref sl) "slice":=⟨os,AS,oJ⟩;unfold getItem
 try with_reducible refine ycE ?_
 first|refine yab (yan ?_)|skip
 refine yab (wpAny_sequenceKey ht.typeIs (by decide) ?_);refine yab (ycH (name:=Str.ofString "__getitem__") ht.typeIs ycS
  (ydT ycS ht.typeIs entry_tuple_getitem ?_ (args_tuple_getitem _ _)))
 show wpAny _ _ (Builtin.Tuple.tupleItemsOf (.ref t)>>=_) _ _ s;refine yab (tupleItemsOf_ ht ?_);refine yab (ydA Mi ?_);rw[yaf (by decide)];refine yab (WO hs pl pu ?_);have cZ:¬ ((((aH items.size 0 lo:Nat):Int)==0&&(1:Int)==1&&(aH items.size items.size hi-aH items.size 0 lo)==items.size)=true):=by
  intro q;rw[yaO,yaO]at q;have q1:((aH items.size 0 lo:Nat):Int)=0:=eq_of_beq q.1.1;have q2:aH items.size items.size hi-aH items.size 0 lo=items.size:=eq_of_beq q.2;exact hw ⟨by lia,by lia⟩
 show wpAny _ _ (if(((aH items.size 0 lo:Nat):Int)==0&&(1:Int)==1&&(aH items.size items.size hi-aH items.size 0 lo)==items.size)=true then _ else _) _ _ s;rw[yac cZ,wP]
 first
  |exact yab (m:=Builtin.Tuple.tupleExact _) (yaX (yan ⟨_,rfl,yan h⟩) cM)
  |exact yab (m:=Builtin.Tuple.tupleExact _) (yaX (yab (yan (yan ⟨_,rfl,yan h⟩))) cM)
  |exact yab (yab (m:=Builtin.Tuple.tupleExact _) (yaX (yan (yan ⟨_,rfl,yan h⟩)) cM))
  |exact yab (yab (m:=Builtin.Tuple.tupleExact _) (yaX (yan ⟨_,rfl,yan h⟩) cM))
end
end HT
namespace L2
open PySem PySem.Spec PyProof.Rows
noncomputable abbrev TO:=St->Hp->(Option Int->Hp->Prop)->Prop
def PO(X:Cx)(e:Option Expr)(t:TO):Prop:=
 ∀(U:List (Addr × Obj))(s:Shared)(σ:St)(H:Hp)(Q:Option Int->Hp->Prop),Inv X U σ H s->t σ H Q->
  wpAny (model X.prog X.w) X.A (evalPart e X.env) (λu s'=>∃o H',Inv X U σ H' s'/\IsPart u o/\Q o H') X.xe s
def qj:TO:=λ_ H Q=>Q none H
def Ew(t:TE):TO:=λσ H Q=>t σ H λx H1=>∃i,x=.int i/\Q (some i) H1
section
variable {lo:Option Expr}{pos:Pos}
theorem Jl:PO X none qj:=by
 intro U s σ H Q I h;rw[evalPart_none];exact yan ⟨none,H,I,.none,h⟩
theorem QV(h:PE X e te):PO X (some e) (Ew te):=by
 intro U s σ H Q I hw;rw[evalPart_some];refine au (h U s σ H _ I hw) λu s1⟨x,H1,I1,r1,q1⟩=>?_;obtain⟨i,rfl,q⟩:=q1;obtain⟨t,rfl⟩:=r1;exact⟨some i,H1,I1,.int i t,q⟩
def Dj(X:Cx)(r:V->Option Int->Option Int->Hp->VK->Prop):Prop:=
 ∀(U:List (Addr × Obj))(s:Shared)(σ:St)(H:Hp)(x:V)(v vl vu:Value)(lo hi:Option Int)(sl:Addr)(Q:VK),Inv X U σ H s->RelV x v->s.heap.IsSliceOf sl vl vu .none->IsPart vl lo->IsPart vu hi->r x lo hi H Q->
  ∃T id,typeLookup (.type T) "__getitem__"=pure (some (.builtin id))/\s.TypeIs v T/\wpAny (model X.prog X.w) X.A (getItem v (.ref sl)) (EP X U σ Q) X.xe s
def Ex(r:V->Option Int->Option Int->Hp->VK->Prop)(te:TE)(tl th:TO):TE:=λσ H Q=>te σ H λx H1=>tl σ H1 λl H2=>th σ H2 λu H3=>r x l u H3 Q
theorem QT(hr:Dj X r)(he:PE X e te)(hl:PO X lo tl)(hu:PO X hi th):PE X (.Subscript e (.Slice lo hi none p2) pos) (Ex r te tl th):=by
 intro U s σ H Q I h;refine Subscript_ (au (he U s σ H _ I h) λv s1⟨x,H1,I1,r1,q1⟩=>?_);refine wpAny_Slice (au (hl U s1 σ H1 _ I1 q1) λvl s2⟨l,H2,I2,pl,q2⟩=>au (hu U s2 σ H2 _ I2 q2) λvu s3⟨u,H3,I3,pu,q3⟩=>?_);rw[evalPart_none];refine yan ?_;have I4:Inv X U σ H3 {s3 with heap:=s3.heap.push {cls:=.type "slice",data:=.fields #[vl,vu,.none]}}:=I3.kept (t':=s3.toks) λb ob q=>yaa _ q;obtain⟨T,id,hT,ht,hg⟩:=hr U {s3 with heap:=s3.heap.push {cls:=.type "slice",data:=.fields #[vl,vu,.none]}} σ H3 x v vl vu l u s3.heap.objs.size Q I4 r1 (Heap.IsSliceOf.new ..) pl pu q3;show wpAny (model X.prog X.w) X.A (subscriptTail e (.Slice lo hi none p2) v (.ref s3.heap.objs.size)) (EP X U σ Q) X.xe {s3 with heap:=s3.heap.push {cls:=.type "slice",data:=.fields #[vl,vu,.none]}};exact tail_any (ops:=[.ref s3.heap.objs.size,v]) ht hT hg (by with_unfolding_all rfl)
noncomputable def zY(xs:List V)(lo hi:Option Int):List V:=(xs.drop (HT.aH xs.length 0 lo)).take (HT.aH xs.length xs.length hi-HT.aH xs.length 0 lo)
theorem Vd(xs:List V)(lo hi:Option Int):(zY xs lo hi).length<=xs.length:=by
 unfold zY;rw[lI,lJ];lia
def Mj(K:Frag):V->Option Int->Option Int->Hp->VK->Prop:=λx lo hi H Q=>∃a xs,x=.ref a/\ai K H a xs/\
 ¬ (HT.aH xs.length 0 lo=0/\HT.aH xs.length xs.length hi=xs.length)/\∀p,H p=none->Q (.ref p) (upd H p (.tup (zY xs lo hi)))
theorem Mk:Dj X (Mj X.K):=by
 intro U s σ H x v vl vu lo hi sl Q I rx hs pl pu h;obtain⟨a,xs,rfl,hx,hw,q⟩:=h;cases rx;obtain⟨ap,r,ht,hz⟩:=I.tuple hx;have hlen:ap.toArray.size=xs.length:=by rw[lW];exact r.length.symm
 refine⟨"tuple",_,PyProof.Rows.slot_tuple_getitem.lookup,ht.typeIs,?_⟩;refine HT.Wl ht hs pl pu (by rw[hlen];exact hw) ?_ (by rw[hlen];exact hz);rw[hlen];refine⟨.ref s.heap.objs.size,_,I.laid (t':=s.toks) (o:=.tup (zY xs lo hi)) (λb ob q=>yaa _ q) (lA _) ?_,Z,q _ (I.ag.fresh (lA _))⟩;exact⟨yas (Vd xs lo hi) hz,_,(r.drop (HT.aH xs.length 0 lo)).take (HT.aH xs.length xs.length hi-HT.aH xs.length 0 lo),Yb.new _ _⟩
end
noncomputable def fN(n:Nat)(i:Int):Option Nat:=if 0<=i then(if i<n then some i.toNat else none)else if-(n:Int)<=i then some (i+n).toNat else none
noncomputable def cf{α:Type}(xs:List α)(i:Int):Option α:=(fN xs.length i).bind λj=>xs[j]?
theorem xo(h:fN n i=some j):seqIndex? i n=some j/\j<n/\ -(n:Int)<=i/\i<n:=by
 unfold fN at h
 by_cases h0:0<=i
 ·rw[yaf h0]at h
  by_cases h1:i<n
  ·rw[yaf h1]at h;have e:i.toNat=j:=lB h;exact⟨by rw[seqIndex_of h0 h1,e],by lia,by lia,h1⟩
  ·rw[yac h1]at h;cases h
 ·rw[yac h0]at h
  by_cases h1: -(n:Int)<=i
  ·rw[yaf h1]at h;have e:(i+n).toNat=j:=lB h;exact⟨by rw[seqIndex_neg (by lia) h1,e],by lia,h1,by lia⟩
  ·rw[yac h1]at h;cases h
theorem qk{xs:List α}(h:cf xs i=some v):∃j,seqIndex? i xs.length=some j/\xs[j]? =some v/\j<xs.length/\ -(xs.length:Int)<=i/\i<xs.length:=by
 unfold cf at h;cases e:fN xs.length i with
 |none=>rw[e]at h;cases h
 |some j=>
  rw[e]at h;obtain⟨h1,h2,h3,h4⟩:=xo e;exact⟨j,h1,h,h2,h3,h4⟩
theorem J2{α:Type}{xs:List α}{j:Nat}{v:α}(h:xs[j]? =some v):cf xs (j:Int)=some v:=by
 have hj:j<xs.length:=(yaj.mp h).1;have e:fN xs.length (j:Int)=some j:=by
  unfold fN;rw[yaf (by lia),yaf (by lia)];simp
 unfold cf;rw[e];exact h
theorem X8(xs:List α)(v:α):cf (xs++[v]) (-1)=some v:=by
 have hl:(xs++[v]).length=xs.length+1:=by simp
 have e:fN (xs++[v]).length (-1)=some xs.length:=by
  unfold fN;rw[hl,yac (by decide),yaf (by lia)]
  congr 1
  lia
 unfold cf;rw[e];show(xs++[v])[xs.length]? =some v;simp
def Ml(b:Expr):Prop:=∀o i,subscripted b false o i=operate [o,i] (getItem o i)
def ib(X:Cx)(r:R2):Prop:=
 ∀(value slice:Expr)(U:List (Addr × Obj))(s:Shared)(σ:St)(H:Hp)(x y:V)(v u:Value)(Q:VK),Inv X U σ H s->RelV x v->RelV y u->r x y H Q->
  subscripted slice false v u=operate [v,u] (getItem v u)->wpAny (model X.prog X.w) X.A (subscriptTail value slice v u) (EP X U σ Q) X.xe s
def cN(X:Cx)(id:String)(r:V->List V->Hp->VK->Prop):Prop:=
 ∀(U:List (Addr × Obj))(s:Shared)(σ:St)(H:Hp)(x:V)(xs:List V)(v:Value)(us:List Value)(Q:VK),Inv X U σ H s->RelV x v->Vals xs us->r x xs H Q->
  wpAny (model X.prog X.w) X.A (call (.builtin id) (v::us)) (EP X U σ Q) X.xe s
section
variable {pos:Pos}
theorem ib.or(h:ib X r)(h':ib X r'):ib X (λx y H Q=>r x y H Q\/r' x y H Q):=by
 intro value slice U s σ H x y v u Q I rx ry q hs;rcases q with q|q
 ·exact h value slice U s σ H x y v u Q I rx ry q hs
 ·exact h' value slice U s σ H x y v u Q I rx ry q hs
theorem QN(hr:ib X r)(ha:PE X a ta)(hb:PE X b tb)(hs:Ml b):PE X (.Subscript a b pos) (ba r ta tb):=by
 intro U s σ H Q I h;exact Subscript_ (Ej ha hb I h λv u s2 x y H2 I2 rx ry q=>hr a b U s2 σ H2 x y v u Q I2 rx ry q (hs _ _))
def Ag(K:Frag):R2:=λx y H Q=>∃p xs i v,x=.ref p/\y=.int i/\ay K H p xs/\cf xs i=some v/\Q v H
def qd(K:Frag):R2:=λx y H Q=>∃p xs i v,x=.ref p/\y=.int i/\ai K H p xs/\cf xs i=some v/\Q v H
def HF:R2:=λx y H Q=>∃z i c,x=.str z/\y=.int i/\z.length<=sizeLine/\cf z.cps.toList i=some c/\Q (.str ⟨#[c]⟩) H
theorem Q5:ib X (Ag X.K):=by
 intro value slice U s σ H x y v u Q I rx ry h hs;obtain⟨p,xs,i,z,rfl,rfl,hq,he,q⟩:=h;cases rx;obtain⟨t,rfl⟩:=ry;obtain⟨ap,r,pl,hz⟩:=I.list hq;obtain⟨j,h1,h2,h3,h4,h5⟩:=qk he;obtain⟨w,ew,IO⟩:=r.get h2;have hl:=r.length;have hn:=KZ;have fin:EP X U σ Q w s:=⟨z,H,I,IO,q⟩
 by_cases h0:0<=i
 ·have hj:i.toNat=j:=by
   rw[seqIndex_of h0 h5]at h1;exact lB h1
  exact item_listR pl.isList h0 (by lia) (by rw[hj];simpa using ew) fin hs
 ·have hj:(i+(ap.toArray.size:Int)).toNat=j:=by
   rw[seqIndex_neg (by lia) h4]at h1;rw[lW, ←hl];exact lB h1
  exact subscriptTail_builtinR (x:=w) pl.isList.typeIs slot_list_getitem.lookup
   (wpAny_getItem_list_neg (Q:=λr s'=>r=w/\EP X U σ Q r s') pl.isList (by lia) (by rw[lW]<;>lia) (by lia) (by rw[hj];simpa using ew) ⟨Z,fin⟩) hs
theorem Jd:ib X (qd X.K):=by
 intro value slice U s σ H x y v u Q I rx ry h hs;obtain⟨p,xs,i,z,rfl,rfl,hq,he,q⟩:=h;cases rx;obtain⟨t,rfl⟩:=ry;obtain⟨ap,r,pl,hz⟩:=I.tuple hq;obtain⟨j,h1,h2,h3,h4,h5⟩:=qk he;obtain⟨w,ew,IO⟩:=r.get h2;have hl:=r.length;have hn:=KZ;have fin:EP X U σ Q w s:=⟨z,H,I,IO,q⟩;exact subscriptTail_builtinR (x:=w) pl.typeIs slot_tuple_getitem.lookup
  (getItem_tuple (j:=j) (Q:=λr s'=>r=w/\EP X U σ Q r s') pl (by lia) (by lia) (by rw[lW, ←hl];exact h1) (by simpa using ew) ⟨Z,fin⟩) hs
theorem ZO:ib X HF:=by
 intro value slice U s σ H x y v u Q I rx ry h hs;obtain⟨z,i,c,rfl,rfl,hz,he,q⟩:=h;obtain⟨t,rfl⟩:=rx;obtain⟨t',rfl⟩:=ry;obtain⟨j,h1,h2,h3,h4,h5⟩:=qk he;have hl:z.cps.toList.length=z.length:=by simp[Str.length]
 rw[hl]at h1 h4 h5;have hn:=KZ;exact tail_any (ybY s z t) slot_str_getitem.lookup (getItem_str (c:=c) (by
  have e1:decide (i< -(2^63:Int))=false:=lx (by lia);have e2:decide (i≥2^63)=false:=lx (by lia);rw[e1,e2,ydf]) (by rw[h1];simpa using h2) ⟨.str ⟨#[c]⟩,H,I.tok _,⟨_,Z⟩,q⟩) hs
def Mm(K:Frag):R2:=λx y H Q=>Ag K x y H Q\/qd K x y H Q\/HF x y H Q
theorem Mn:ib X (Mm X.K):=Q5.or (Jd.or ZO)
theorem ze(ap:List Value)(n j:Nat)(u:Value):Obj.mapSeq (·.setIfInBounds j u) {cls:=.type "list",data:=.seq ap.toArray n}={cls:=.type "list",data:=.seq (ap.set j u).toArray n}:=by
 simp[Obj.mapSeq]
theorem Inv.lst{U:List (Addr × Obj)}{σ:St}{H:Hp}{s:Shared}{p:Addr}{xs:List V}(I:Inv X U σ H s)(h:H p=some (.lst xs)):
  ∃(ap:List Value)(n:Nat),Vals xs ap/\s.heap.get? p=some {cls:=.type "list",data:=.seq ap.toArray n}/\xs.length<=sizeLine:=by
 obtain⟨z,ap,n,r,e⟩:=I.ag p _ h;exact⟨ap,n,r,e,z⟩
theorem Inv.Mo{U:List (Addr × Obj)}{σ:St}{xs ys:List V}{ap its':List Value}{n n':Nat}(I:Inv X U σ H s)(h:H p=some (.lst xs))
  (ho:s.heap.get? p=some {cls:=.type "list",data:=.seq ap.toArray n}) (hf:f {cls:=.type "list",data:=.seq ap.toArray n}={cls:=.type "list",data:=.seq its'.toArray n'}) (r:Vals ys its') (hz:ys.length<=sizeLine) (t:Nat):
  Inv X U σ (upd H p (.lst ys)) {s with heap:=s.heap.update p f,toks:=t}:=by
 have e:(s.heap.update p f).get? p=some {cls:=.type "list",data:=.seq its'.toArray n'}:=by
  rw[Heap.get?_update_self f ho (by rw[hf]<;>rfl),hf]
 refine I.write (x:=p) (e:=p) (by rw[h];trivial) (.inl Z) (λb u hb q=>(ycP _ _ (Ne.symm hb)).trans q) ⟨_,e⟩ ?_;exact⟨hz,its',n',r,e⟩
def Mp:V->V->V->Hp->(Hp->Prop)->Prop:=λo i v H Q=>∃p xs k j,o=.ref p/\i=.int k/\H p=some (.lst xs)/\fN xs.length k=some j/\Q (upd H p (.lst (xs.set j v)))
theorem set_list:Hv X Mp:=by
 intro U s σ H o i v ov iv u Q I ro ri rv h;obtain⟨p,xs,k,j,rfl,rfl,hp,hj,q⟩:=h;cases ro;obtain⟨t,rfl⟩:=ri;obtain⟨ap,n,r,ho,hz⟩:=I.lst hp;obtain⟨h1,h2,h3,h4⟩:=xo hj;have hl:=r.length;have hn:=KZ;have I':Inv X U σ (upd H p (.lst (xs.set j v))) {s with heap:=s.heap.update p (Obj.mapSeq (·.setIfInBounds j u))}:=
  I.Mo hp ho (ze ap n j u) (r.set rv j) (by rw[ycd];exact hz) s.toks
 by_cases h0:0<=k
 ·have hk:k.toNat=j:=by
   rw[seqIndex_of h0 h4]at h1;exact lB h1
  exact ki_setAt ho h0 (by lia) (by rw[lW, ←hl];exact h4) (by rw[hk];exact⟨_,I',q⟩)
 ·have hk:(k+(ap.toArray.size:Int)).toNat=j:=by
   rw[seqIndex_neg (by lia) h3]at h1;rw[lW, ←hl];exact lB h1
  exact ki_setBack ho (by lia) (by rw[lW, ←hl];exact h3) (by lia) (by rw[hk];exact⟨_,I',q⟩)
theorem Up(lo hi:Option Int)(n:Nat):(sliceBounds lo hi none n).1=((HT.aH n 0 lo:Nat):Int)/\(sliceBounds lo hi none n).2.1=((HT.aH n n hi:Nat):Int)/\(sliceBounds lo hi none n).2.2=1:=by
 refine⟨?_,?_,Z⟩
 ·cases lo with
  |none=>simp[sliceBounds,HT.aH]
  |some i=>
   simp only[sliceBounds,HT.aH,Option.getD_none,show(1:Int)>0 by decide,ybM]
   by_cases h:i<0
   ·simp only[h,ybM]<;>lia
   ·simp only[h,ycw]<;>lia
 ·cases hi with
  |none=>simp[sliceBounds,HT.aH]
  |some i=>
   simp only[sliceBounds,HT.aH,Option.getD_none,show(1:Int)>0 by decide,ybM]
   by_cases h:i<0
   ·simp only[h,ybM]<;>lia
   ·simp only[h,ycw]<;>lia
theorem Yw(ap:List Value)(lo hi:Option Int):slicePick ap.toArray lo hi none=((ap.drop (HT.aH ap.length 0 lo)).take (HT.aH ap.length ap.length hi-HT.aH ap.length 0 lo)).toArray:=by
 obtain⟨h1,h2,h3⟩:=Up lo hi ap.toArray.size;unfold slicePick;rw[h1,h2,h3];simp only[sliceRange_one,pick_run,lW]<;>rfl
def Ey(K:Frag):V->Option Int->Option Int->Hp->VK->Prop:=λx lo hi H Q=>∃a xs,x=.ref a/\ay K H a xs/\∀p,H p=none->Q (.ref p) (upd H p (.lst (zY xs lo hi)))
theorem Yx:Dj X (Ey X.K):=by
 intro U s σ H x v vl vu lo hi sl Q I rx hs pl pu h;obtain⟨a,xs,rfl,hx,q⟩:=h;cases rx;obtain⟨ap,r,ht,hz⟩:=I.list hx;have hlen:=r.length;refine⟨"list",_,slot_list_getitem.lookup,ht.isList.typeIs,?_⟩;refine wpAny_getItem_list_slice ht.isList hs pl pu .none (by simp) ?_ (by rw[lW]<;>lia);rw[Yw, ←hlen];refine⟨.ref s.heap.objs.size,_,I.laid (t':=s.toks) (o:=.lst (zY xs lo hi)) (λb ob q=>yaa _ q) (lA _) ?_,Z,q _ (I.ag.fresh (lA _))⟩;exact⟨yas (Vd xs lo hi) hz,_,0,(r.drop (HT.aH xs.length 0 lo)).take (HT.aH xs.length xs.length hi-HT.aH xs.length 0 lo),yam _ rfl⟩
noncomputable def XF:V->Bool
 | .aw=>true
 | .bl _=>true
 | .int _=>true
 | .str _=>true
 |_=>false
noncomputable def bU:V->V->Bool
 | .aw,.aw=>true
 | .bl a,.bl b=>a==b
 | .bl a,.int b=>(if a then 1 else 0)==b
 | .int a,.bl b=>a==(if b then 1 else 0)
 | .int a,.int b=>a==b
 | .str a,.str b=>a==b
 |_,_=>false
theorem yF(ry:RelV y u)(rx:RelV x v)(fy:XF y=true)(fx:XF x=true):SeqAt.EqAt A s u v (bU y x):=by
 cases y with
 |aw=>
  cases ry;cases x with
  |aw=>cases rx;exact SeqAt.EqAt.same _
  |bl b=>cases rx;exact SeqAt.EqAt.none_bool b
  |int b=>obtain⟨t,rfl⟩:=rx;exact SeqAt.EqAt.none_int b t
  |str b=>obtain⟨t,rfl⟩:=rx;exact SeqAt.EqAt.none_str b t
  |_=>exact absurd (show false=true from fx) yar
 |bl a=>
  cases ry;cases x with
  |aw=>cases rx;exact SeqAt.EqAt.bool_none a
  |bl b=>cases rx;exact SeqAt.EqAt.bool_bool a b
  |int b=>obtain⟨t,rfl⟩:=rx;exact SeqAt.EqAt.bool_int a b t
  |str b=>obtain⟨t,rfl⟩:=rx;exact SeqAt.EqAt.bool_str a b t
  |_=>exact absurd (show false=true from fx) yar
 |int a=>
  obtain⟨t',rfl⟩:=ry;cases x with
  |aw=>cases rx;exact SeqAt.EqAt.int_none a t'
  |bl b=>cases rx;exact SeqAt.EqAt.int_bool a t' b
  |int b=>obtain⟨t,rfl⟩:=rx;exact SeqAt.EqAt.int_int a t' b t
  |str b=>obtain⟨t,rfl⟩:=rx;exact SeqAt.EqAt.int_str a t' b t
  |_=>exact absurd (show false=true from fx) yar
 |str a=>
  obtain⟨t',rfl⟩:=ry;cases x with
  |aw=>cases rx;exact SeqAt.EqAt.str_none a t'
  |bl b=>cases rx;exact SeqAt.EqAt.str_bool a t' b
  |int b=>obtain⟨t,rfl⟩:=rx;exact SeqAt.EqAt.str_int a t' b t
  |str b=>obtain⟨t,rfl⟩:=rx;exact SeqAt.EqAt.str_str a t' b t
  |_=>exact absurd (show false=true from fx) yar
 |_=>exact absurd (show false=true from fy) yar
noncomputable def bR(x:V)(u:Value):Bool:=match u with
 | .none=>bU .aw x
 | .bool b=>bU (.bl b) x
 | .int i _=>bU (.int i) x
 | .str z _=>bU (.str z) x
 |_=>false
theorem jo(r:RelV y u)(f:XF y=true):bR x u=bU y x:=by
 cases y with
 |aw=>cases r;rfl
 |bl b=>cases r;rfl
 |int i=>obtain⟨t,rfl⟩:=r;rfl
 |str z=>obtain⟨t,rfl⟩:=r;rfl
 |_=>exact absurd (show false=true from f) yar
theorem Ve:∀{xs:List V}{us:List Value},Vals xs us->xs.all XF=true->us.any (bR x)=xs.any λy=>bU y x
 |_,_,.nil,_=>rfl
 |y::xs,u::us,.cons r t,f=>by
  rw[ydg,yaO]at f;rw[ycj,ycj,jo r f.1,Ve t f.2]
theorem Xq(rx:RelV x v)(fx:XF x=true):∀{xs:List V}{us:List Value},Vals xs us->xs.all XF=true->∀u∈us,SeqAt.EqAt A s u v (bR x u)
 |_,_,.nil,_=>λu hu=>by cases hu
 |y::xs,u::us,.cons r t,f=>λu' hu=>by
  rw[ydg,yaO]at f;rcases yag.mp hu with rfl|hu
  ·rw[jo r f.1];exact yF r rx f.1 fx
  ·exact Xq rx fx t f.2 u' hu
noncomputable def dF(x:V)(xs:List V):Bool:=xs.any λy=>bU y x
def iS(K:Frag)(neg:Bool):R2:=λx y H Q=>∃p xs,y=.ref p/\(ay K H p xs\/ai K H p xs)/\XF x=true/\xs.all XF=true/\Q (.bl (if neg then !dF x xs else dF x xs)) H
theorem Xo:aS X (compareOp .In) (iS X.K false):=by
 intro U s σ H x y v u Q I rx ry h;obtain⟨p,xs,rfl,hq,fx,fs,q⟩:=h;cases ry;rcases hq with hq|hq
 ·obtain⟨ap,r,pl,hz⟩:=I.list hq;refine SeqAt.in_listAt (bR x) pl.isList (λw hw=>Xq rx fx r fs w (by simpa using hw)) ⟨.bl _,H,I,Z,?_⟩;rw[show ap.toArray.any (bR x)=ap.any (bR x) by simp,Ve r fs];exact q
 ·obtain⟨ap,r,pl,hz⟩:=I.tuple hq;refine SeqAt.in_tupleAt (bR x) pl (λw hw=>Xq rx fx r fs w (by simpa using hw)) ⟨.bl _,H,I,Z,?_⟩;rw[show ap.toArray.any (bR x)=ap.any (bR x) by simp,Ve r fs];exact q
theorem Z3:aS X (compareOp .NotIn) (iS X.K true):=by
 intro U s σ H x y v u Q I rx ry h;obtain⟨p,xs,rfl,hq,fx,fs,q⟩:=h;cases ry;rcases hq with hq|hq
 ·obtain⟨ap,r,pl,hz⟩:=I.list hq;refine SeqAt.notIn_listAt (bR x) pl.isList (λw hw=>Xq rx fx r fs w (by simpa using hw)) ⟨.bl _,H,I,Z,?_⟩;rw[show ap.toArray.any (bR x)=ap.any (bR x) by simp,Ve r fs];exact q
 ·obtain⟨ap,r,pl,hz⟩:=I.tuple hq;refine SeqAt.notIn_tupleAt (bR x) pl (λw hw=>Xq rx fx r fs w (by simpa using hw)) ⟨.bl _,H,I,Z,?_⟩;rw[show ap.toArray.any (bR x)=ap.any (bR x) by simp,Ve r fs];exact q
theorem QR:Wj X (.builtin "len") (λxs H Q=>∃p ys,xs=[.ref p]/\(ay X.K H p ys\/ai X.K H p ys)/\Q (.int ys.length) H):=by
 intro U s σ H xs us Q I r h;obtain⟨p,ys,rfl,hq,q⟩:=h;obtain⟨u,rfl,rx⟩:=vals1 r;cases rx;have hn:=KZ;rcases hq with hq|hq
 ·obtain⟨ap,r',pl,hz⟩:=I.list hq;have hlen:=r'.length;exact Calls.call_len_list pl.isList (by simp only[lW]<;>lia) ⟨.int ys.length,H,I.tok _,⟨s.toks+1,by rw[lW,hlen]⟩,q⟩
 ·obtain⟨ap,r',pl,hz⟩:=I.tuple hq;have hlen:=r'.length;exact len_tuple pl (by simp only[lW]<;>lia) ⟨.int ys.length,H,I.tok _,⟨s.toks+1,by rw[lW,hlen]⟩,q⟩
theorem QF:Wj X (.builtin "len") (λxs H Q=>∃z,xs=[.str z]/\z.length<=sizeLine/\Q (.int z.length) H):=by
 intro U s σ H xs us Q I r h;obtain⟨z,rfl,hz,q⟩:=h;obtain⟨u,rfl,t,rfl⟩:=vals1 r;have hn:=KZ;exact len_str (by lia) ⟨.int z.length,H,I.tok _,⟨_,Z⟩,q⟩
def Dk(K:Frag)(T:String)(x:V)(H:Hp):Prop:=match x with
 | .str _=>T="str"
 | .int _=>T="int"
 | .ref p=>(T="list"/\∃xs,ay K H p xs)\/(T="tuple"/\∃o,K.lookup p=some o/\o.cls=.type "tuple"/\o.dict=none)\/
   (T="dict"/\((∃al,H p=some (.dK al))\/∃al,H p=some (.dT al)))\/(T="set"/\∃S n,H p=some (.set S n))\/(T="tuple"/\∃xs,H p=some (.tup xs))
 |_=>False
theorem yG{U:List (Addr × Obj)}{σ:St}{T:String}{x:V}(I:Inv X U σ H s)(r:RelV x v)(ty:Dk X.K T x H):
  s.TypeIs v T/\∀a,v=.ref a->∃ob,s.heap.get? a=some ob/\ob.dict=none:=by
 cases x with
 |str z=>
  obtain⟨t,rfl⟩:=r;cases(show T="str" from ty);exact⟨ybY s z t,λ_ e=>nomatch e⟩
 |int i=>
  obtain⟨t,rfl⟩:=r;cases(show T="int" from ty);exact⟨typeIs_int s i t,λ_ e=>nomatch e⟩
 |ref p=>
  cases r;rcases ty with⟨rfl,xs,hq⟩|⟨rfl,o,hk,hc,hd⟩|⟨rfl,hk⟩|⟨rfl,S,n,hk⟩|⟨rfl,xs,hk⟩
  ·obtain⟨ap,_,pl,_⟩:=I.list hq;refine⟨pl.isList.typeIs,λa e=>?_⟩;cases e;obtain⟨o,n,e,c,hd,_⟩:=pl;exact⟨o,e,hd⟩
  ·refine⟨⟨o,I.bt p o hk,hc⟩,λa e=>?_⟩;cases e;exact⟨o,I.bt _ o hk,hd⟩
  ·have z:∃o,s.heap.get? p=some o/\o.ExactDict:=by
    rcases hk with⟨al,hk⟩|⟨al,hk⟩
    ·obtain⟨_,_,_,_,o,_,_,e,ex,_⟩:=I.ag p _ hk;exact⟨o,e,ex⟩
    ·obtain⟨_,_,_,_,o,_,_,e,ex,_⟩:=I.ag p _ hk;exact⟨o,e,ex⟩
   obtain⟨o,e,ex⟩:=z;refine⟨⟨o,e,ex.1⟩,λa e2=>?_⟩;cases e2;exact⟨o,e,ex.2.1⟩
  ·obtain⟨o,_,_,_,e,ex,_⟩:=I.ag p _ hk;refine⟨⟨o,e,ex.1⟩,λa e2=>?_⟩;cases e2;exact⟨o,e,ex.2.1⟩
  ·obtain⟨_,ap,_,o,h1,h2,n,h3,h4⟩:=(show JU X.prog X.w H s.heap p (.tup xs)from I.ag p _ hk);exact⟨⟨o,h1,h2⟩,λa e=>by cases e;exact⟨o,h1,h4⟩⟩
 |_=>exact False.elim ty
def Mq(K:Frag)(T:String)(r:V->List V->Hp->VK->Prop)(to:TE):TE:=λσ H Q=>to σ H λx H1=>Dk K T x H1/\r x [] H1 Q
def Mr(K:Frag)(T:String)(r:V->List V->Hp->VK->Prop)(to:TE)(t:TA):TE:=λσ H Q=>to σ H λx H1=>Dk K T x H1/\t σ H1 λxs H2=>r x xs H2 Q
variable {to:TE}{name:Str}{apos ci:Pos}{id:String}
theorem Ms(pa:PlainAttrs T)(slot:Slot T name id)(Ez:typeOf (.builtin id)=pure (.type "method_descriptor"))(hm:cN X id r)(ho:PE X o to)
  (Os:attributeBase o name X.env (eval o X.env)=eval o X.env:=by rfl) (tz:(apos.endLine==ci.line)=true:=by rfl):PE X (.Call (.Attribute o name apos) [] [] ci) (Mq X.K T r to):=by
 intro U s σ H Q I h;refine wpAny_Call_method0_late Os tz (au (ho U s σ H _ I h) λv s1⟨x,H1,I1,r1,ty,q1⟩=>?_);obtain⟨h1,h2⟩:=yG I1 r1 ty;exact⟨T,id,pa,slot,Ez,h1,h2,yca rfl (PySem.evalArgs_none (hm U s1 σ H1 x [] v [] Q I1 r1 .nil q1))⟩
theorem JF(pa:PlainAttrs T)(slot:Slot T name id)(Ez:typeOf (.builtin id)=pure (.type "method_descriptor"))(hm:cN X id r)(ho:PE X o to)(ha:PA X (e::es) t)
  (Os:attributeBase o name X.env (eval o X.env)=eval o X.env:=by rfl)
  (EA:((backTo ci (starEach (e::es) X.env)).all (λx=> !x.1)&&(backToKw ci (keywordEach [] X.env)).all (λx=>x.1.isSome)
   &&decide ((e::es).length+([]:List Keyword).length+(if([]:List Keyword).isEmpty then 0 else 1)<30))=true:=by rfl)
  (tz:(apos.endLine==ci.line)=true:=by rfl) (hs:starEach (e::es) X.env=(false,eval e X.env)::starEach es X.env:=by rfl) (oK:(backTo ci (starEach es X.env)).any (·.1)=false:=by rfl):
  PE X (.Call (.Attribute o name apos) (e::es) [] ci) (Mr X.K T r to t):=by
 intro U s σ H Q I h;refine wpAny_Call_method_late Os EA tz rfl (au (ho U s σ H _ I h) λv s1⟨x,H1,I1,r1,ty,q1⟩=>?_);obtain⟨h1,h2⟩:=yG I1 r1 ty;refine⟨T,id,pa,slot,Ez,h1,h2,?_⟩;have hA:=ha ci U s1 σ H1 _ I1 q1;rw[hs]at hA ⊢;refine yca (by show(false||(backTo ci (starEach es X.env)).any (·.1))=false;rw[oK]<;>rfl) (ycq ?_);exact au hA λus s2⟨vs,H2,I2,r2,q2⟩=>hm U s2 σ H2 x vs v us Q I2 r1 r2 q2
end
def EB(X:Cx)(id:String)(r:V->List V->Hp->VK->Prop):Prop:=
 ∀(U:List (Addr × Obj))(s:Shared)(σ:St)(H:Hp)(x:V)(xs:List V)(v:Value)(us:List Value)(Q:VK),Inv X U σ H s->RelV x v->Vals xs us->r x xs H Q->
  wpAny (model X.prog X.w) X.A (call (.builtin id) (v::us)) (EP X U σ Q) X.xe s
theorem Vals.one:∀{x:V}{us:List Value},Vals [x] us->∃u,us=[u]/\RelV x u
 |_,_,.cons r .nil=>⟨_,Z,r⟩
theorem Vals.zero:∀{us:List Value},Vals [] us->us=[]
 |_,.nil=>rfl
theorem Vals.dropLast{xs:List V}{us:List Value}(h:Vals xs us):Vals xs.dropLast us.dropLast:=by
 induction h with
 |nil=>exact .nil
 |cons r t ih=>
  cases t with
  |nil=>exact .nil
  |cons q t'=>exact .cons r ih
theorem Vals.eraseIdx:∀{xs:List V}{us:List Value}(i:Nat),Vals xs us->Vals (xs.eraseIdx i) (us.eraseIdx i)
 |_,_,_,.nil=>.nil
 |_,_,0,.cons _ t=>t
 |_,_,i+1,.cons r t=>.cons r (Vals.eraseIdx i t)
theorem Vals.rep{xs:List V}{us:List Value}(h:Vals xs us):∀k:Nat,Vals (replicate k xs).flatten (replicate k us).flatten
 |0=>.nil
 |k+1=>by
  rw[yaC,yaC,ybv,ybv];exact Vals.append h (Vals.rep h k)
theorem zg{α:Type}(l:List α):l.eraseIdx (l.length-1)=l.dropLast:=by
 induction l with
 |nil=>rfl
 |cons a r ih=>
  cases r with
  |nil=>rfl
  |cons b r=>
   have e:(a::b::r).length-1=((b::r).length-1)+1:=by
    have h1:(a::b::r).length=r.length+2:=rfl;have h2:(b::r).length=r.length+1:=rfl;lia
   rw[e,List.eraseIdx_cons_succ,ih]
   all_goals rfl
theorem Uq{α:Type}:∀(l:List α)(i:Nat),(l.eraseIdx i).length<=l.length
 |[],_=>lA _
 |_::_,0=>Nat.le_succ _
 |_::r,i+1=>ybX (Uq r i)
theorem foldl_rep(ap:List Value):∀(k:Nat)(acc:List Value),
  List.foldl (λx1 x2=>x1++x2) acc.toArray (replicate k ap.toArray)=(acc++(replicate k ap).flatten).toArray
 |0,acc=>by simp
 |k+1,acc=>by
  have e:acc.toArray++ap.toArray=(acc++ap).toArray:=by simp
  have e2:(acc++ap)++(replicate k ap).flatten=acc++(replicate (k+1) ap).flatten:=by
   rw[yaC,ybv,lP]
  rw[←e2, ←foldl_rep ap k (acc++ap), ←e,yaC,ycI]
section
variable {X:Cx}{U:List (Addr × Obj)}{σ:St}{H:Hp}{s:Shared}{l:Addr}{xs ys zs:List V}
theorem Inv.EC{ap its':List Value}(I:Inv X U σ H s)(hH:H l=some (.lst xs))
  (e:s.heap.get? l=some {cls:=.type "list",data:=.seq ap.toArray n}) (hf:f ap.toArray=its'.toArray) (hv:Vals ys its') (hz:ys.length<=sizeLine):
  Inv X U σ (upd H l (.lst ys)) {s with heap:=s.heap.update l (Obj.mapSeq f),toks:=t'}:=by
 have q:=PySem.IsL.update e f;rw[hf]at q;refine I.write (x:=l) (e:=l) (by rw[hH];exact trivial) (.inl Z) (λb' u hb hu=>(ycP s.heap (Obj.mapSeq f) (Ne.symm hb)).trans hu) ⟨_,q⟩ ?_;exact⟨hz,its',_,hv,q⟩
theorem Inv.HG{ap:List Value}(I:Inv X U σ H s)(hv:Vals ys ap)(hz:ys.length<=sizeLine):
  Inv X U σ (upd H s.heap.objs.size (.lst ys)) {s with heap:=s.heap.push {cls:=.type "list",data:=.seq ap.toArray},toks:=t'}:=
 I.laid (λ_ _ q=>yaa _ q) (lA _) ⟨hz,ap,0,hv,yam _ rfl⟩
theorem Inv.fresh(I:Inv X U σ H s):H s.heap.objs.size=none:=I.ag.fresh (lA _)
theorem Inv.wQ(I:Inv X U σ H s)(hH:H l=some (.lst xs)):xs.length<=sizeLine/\∃(ap:List Value)(n:Nat),Vals xs ap/\xs.length=ap.length/\s.heap.get? l=some {cls:=.type "list",data:=.seq ap.toArray n}:=by
 obtain⟨z,ap,n,r,e⟩:=I.ag l _ hH;exact⟨z,ap,n,r,r.length,e⟩
theorem wR(h:n<=sizeLine):Builtin.List.listTooLong n=false:=by
 unfold Builtin.List.listTooLong;exact lx (by lia)
end
section
def Mt:V->List V->Hp->VK->Prop:=λx vs H Q=>∃l xs y,x=.ref l/\vs=[y]/\H l=some (.lst xs)/\xs.length<sizeLine/\Q .aw (upd H l (.lst (xs++[y])))
theorem Zv:EB X "list.append" Mt:=by
 intro U s σ H x vs v us Q I rx rv h;obtain⟨l,xs,y,rfl,rfl,hH,hz,q⟩:=h;cases rx;obtain⟨u,rfl,ru⟩:=rv.one;obtain⟨z,ap,n,r,hl,e⟩:=I.wQ hH;refine ycT F.slot_list_append ⟨_,e,Z⟩ F.entry_list_append (F.args_list_append_2 _ _) (PySem.list_append l ap.toArray n u (by rw[lW];lia)) ⟨e,?_⟩;refine⟨.aw,_,I.EC (its':=ap++[u]) hH e (by simp) (r.append (.cons ru .nil)) ?_,Z,q⟩;rw[lq,lC];lia
def Mu:V->List V->Hp->VK->Prop:=λx vs H Q=>∃l xs y,x=.ref l/\vs=[]/\H l=some (.lst xs)/\xs[xs.length-1]? =some y/\Q y (upd H l (.lst xs.dropLast))
theorem Mv:EB X "list.pop" Mu:=by
 intro U s σ H x vs v us Q I rx rv h;obtain⟨l,xs,y,rfl,rfl,hH,hy,q⟩:=h;cases rx;have Mw:=rv.zero;subst Mw;obtain⟨z,ap,n,r,hl,e⟩:=I.wQ hH;obtain⟨u,hu,ru⟩:=r.get hy;have Mx:ap.toArray[ap.toArray.size-1]? =some u:=by
  show ap.toArray[ap.length-1]? =some u;rw[←yce, ←hl];exact hu
 refine ycT F.slot_list_pop ⟨_,e,Z⟩ F.entry_list_pop (F.args_list_pop_1 _) (MeetsSeq.list_pop_last l ap.toArray n u Mx (by rw[lW];lia)) ⟨e,?_⟩;refine⟨y,_,I.EC (its':=ap.dropLast) hH e ?_ r.dropLast ?_,ru,q⟩
 ·show ap.toArray.eraseIdxIfInBounds (ap.toArray.size-1)=ap.dropLast.toArray;rw[lW,ycU,zg]
 ·rw[yaN];lia
def My:V->List V->Hp->VK->Prop:=λx vs H Q=>∃l xs i k y,x=.ref l/\vs=[.int i]/\H l=some (.lst xs)/\ -(2^63)<=i/\i<2^63/\seqIndex? i xs.length=some k/\xs[k]? =some y/\Q y (upd H l (.lst (xs.eraseIdx k)))
theorem wS:EB X "list.pop" My:=by
 intro U s σ H x vs v us Q I rx rv h;obtain⟨l,xs,i,k,y,rfl,rfl,hH,h1,h2,hk,hy,q⟩:=h;cases rx;obtain⟨u,rfl,ru⟩:=rv.one;obtain⟨t,rfl⟩:=ru;obtain⟨z,ap,n,r,hl,e⟩:=I.wQ hH;obtain⟨w,hw,IO⟩:=r.get hy;refine ycT F.slot_list_pop ⟨_,e,Z⟩ F.entry_list_pop (F.args_list_pop_2 _ _)
  (MeetsSeq.list_pop_at l ap.toArray n i t k w (fitsIndex_both h1 h2) (by rw[lW, ←hl];exact hk) (by rw[←yce];exact hw) (by rw[lW];lia)) ⟨e,?_⟩
 refine⟨y,_,I.EC (its':=ap.eraseIdx k) hH e ?_ (r.eraseIdx k) ?_,IO,q⟩
 ·show ap.toArray.eraseIdxIfInBounds k=(ap.eraseIdx k).toArray;rw[ycU]
 ·have:=Uq xs k;lia
def Mz:R2:=λx y H Q=>∃l b xs zs,x=.ref l/\y=.ref b/\H l=some (.lst xs)/\H b=some (.lst zs)/\xs.length+zs.length<=sizeLine/\∀p,H p=none->Q (.ref p) (upd H p (.lst (xs++zs)))
theorem Vf:aS X (binaryOp .Add) Mz:=by
 intro U s σ H x y v u Q I rx ry h;obtain⟨l,b,xs,zs,rfl,rfl,hH,hB,hz,q⟩:=h;cases rx;cases ry;obtain⟨z,ap,n,r,hl,e⟩:=I.wQ hH;obtain⟨z2,Da,n2,r2,oM,e2⟩:=I.wQ hB;refine PySem.P.add_list e e2 ?_ (by rw[lW,lW];lia);have ea:ap.toArray++Da.toArray=(ap++Da).toArray:=by simp
 rw[ea];exact⟨.ref _,_,I.HG (t':=s.toks) (r.append r2) (by rw[lq];lia),Z,q _ I.fresh⟩
def MA:R2:=λx y H Q=>∃l k xs,x=.ref l/\y=.int k/\H l=some (.lst xs)/\ -(2^63)<=k/\k<2^63/\xs.length*k.toNat<=sizeLine/\
 ∀p,H p=none->Q (.ref p) (upd H p (.lst (replicate k.toNat xs).flatten))
theorem len_rep{α:Type}(xs:List α)(k:Nat):(replicate k xs).flatten.length=k*xs.length:=by
 induction k with
 |zero=>simp
 |succ k ih=>rw[yaC,ybv,lq,ih,Nat.succ_mul,yeE]
theorem MB:aS X (binaryOp .Mult) MA:=by
 intro U s σ H x y v u Q I rx ry h;obtain⟨l,k,xs,rfl,rfl,hH,h1,h2,hz,q⟩:=h;cases rx;obtain⟨t,rfl⟩:=ry;obtain⟨z,ap,n,r,hl,e⟩:=I.wQ hH;have hlen:ap.toArray.size*k.toNat<=sizeLine:=by rw[lW, ←hl];exact hz
 have ED:¬ ap.toArray.size*k.toNat>(2^63-1)/8:=by
  have:(sizeLine:Nat)<=(2^63-1)/8:=by decide
  lia
 have oN:¬ (!Builtin.List.listFitsIndex k)=true:=by
  rw[fitsIndex_both h1 h2];exact yar
 have AU:¬ Builtin.List.listTooLong (ap.toArray.size*k.toNat)=true:=by
  rw[wR hlen];exact yar
 have EE:List.foldl (λx1 x2=>x1++x2) #[] (replicate (if ap.toArray.isEmpty=true then 0 else k.toNat) ap.toArray)=(replicate k.toNat ap).flatten.toArray:=by
  have f0:∀m:Nat,List.foldl (λx1 x2=>x1++x2) #[] (replicate m ap.toArray)=(replicate m ap).flatten.toArray:=λm=>by
   have:=foldl_rep ap m [];rw[lR]at this;exact this
  rw[f0];cases ap with
  |nil=>simp
  |cons a r'=>rw[yac (by simp)]
 refine wpAny_binaryOp_repeat_ref (T:="list") (U:="int") (by decide) ⟨_,e,Z⟩ (λs'=>typeIs_int s' k t) noFill_list_mul F.fills_int_mul F.slot_int_rmul repeat_list F.slot_int_index.lookup
  (ycT F.slot_int_rmul (typeIs_int s k t) F.entry_int_rmul (F.args_int_rmul_2 _ _) (int___rmul___int_list k t l ap.toArray n)
   ⟨e,Z,⟨_,e,Z⟩,ycT F.slot_list_mul ⟨_,e,Z⟩ F.entry_list_mul (F.args_list_mul_2 _ _) (AutoListH.list___mul___list_int_3 l ap.toArray n k t oN ED AU) ⟨e,?_⟩⟩)
 rw[EE];exact⟨.ref _,_,I.HG (t':=s.toks) (r.rep k.toNat) (by rw[len_rep,ydB];exact hz),Z,q _ I.fresh⟩
end
section
variable {κ:Type}[DecidableEq κ]
noncomputable def Wm(al:List (κ × V))(k:κ):Option V:=(al.find? λkv=>decide (kv.1=k)).map (·.2)
noncomputable def putK(al:List (κ × V))(k:κ)(v:V):List (κ × V):=
 if(al.any λkv=>decide (kv.1=k))=true then al.map (λkv=>if kv.1=k then(kv.1,v)else kv)else al++[(k,v)]
theorem K1{r:List (κ × V)}(e:p.1=k):Wm (p::r) k=some p.2:=by simp[Wm,ybN,e]
theorem WW{r:List (κ × V)}(e:¬ p.1=k):Wm (p::r) k=Wm r k:=by simp[Wm,ybN,e]
theorem jp(k:κ):∀al:List (κ × V),(al.any λkv=>decide (kv.1=k))=(Wm al k).isSome
 |[]=>rfl
 |p::r=>by
  rw[ycj]
  by_cases e:p.1=k
  ·simp only[K1 e,ly e,yeF,ydC]
  ·rw[WW e,lx e,ydh];exact jp k r
theorem Kx(al:List (κ × V))(k:κ)(v:V):(putK al k v).length<=al.length+1:=by
 unfold putK
 split
 ·rw[lu];lia
 ·rw[lq,lD,ybw];lia
theorem jh.Vg(r:jh o u):o.isSome=u.isSome:=by
 cases o with
 |none=>cases u with
  |none=>rfl
  |some _=>exact(show False from r).elim
 |some _=>cases u with
  |none=>exact(show False from r).elim
  |some _=>rfl
theorem jh.getD(r:jh o u)(rd:RelV d d'):RelV (o.getD d) (u.getD d'):=by
 cases o with
 |none=>cases u with
  |none=>exact rd
  |some _=>exact(show False from r).elim
 |some _=>cases u with
  |none=>exact(show False from r).elim
  |some _=>exact r
theorem KV.val{al:List (κ × V)}(r:KV al vs)(k:κ):jh (Wm al k) (valueAt vs k):=by
 unfold KV at r
 induction r with
 |nil=>exact True.intro
 |@cons p q ps qs h t ih=>
  obtain⟨h1,h2⟩:=h
  by_cases e:p.1=k
  ·have e':q.1=k:=h1.symm.trans e;have b:valueAt (q::qs) k=some q.2:=by simp[valueAt,ybN,e']
   rw[K1 e,b];exact h2
  ·have e':¬ q.1=k:=λz=>e (h1.trans z);have b:valueAt (q::qs) k=valueAt qs k:=by simp[valueAt,ybN,e']
   rw[WW e,b];exact ih
theorem KV.any{al:List (κ × V)}(r:KV al vs)(k:κ):(al.any λkv=>decide (kv.1=k))=vs.any λkv=>decide (kv.1=k):=by
 unfold KV at r
 induction r with
 |nil=>rfl
 |cons h t ih=>rw[ycj,ycj,ih,h.1]
theorem KV.EF{al:List (κ × V)}(r:KV al vs)(k:κ)(ry:RelV y u):
  KV (al.map λkv=>if kv.1=k then(kv.1,y)else kv) (vs.map λkv=>if kv.1=k then(kv.1,u)else kv):=by
 unfold KV at r ⊢
 induction r with
 |nil=>exact .nil
 |@cons p q ps qs h t ih=>
  rw[lU,lU];refine .cons ?_ ih;obtain⟨h1,h2⟩:=h
  by_cases e:p.1=k
  ·rw[yaf e,yaf (h1.symm.trans e)];exact⟨h1,ry⟩
  ·rw[yac e,yac (λz=>e (h1.trans z))];exact⟨h1,h2⟩
theorem KV.put{al:List (κ × V)}(r:KV al vs)(k:κ)(ry:RelV y u):KV (putK al k y) (stored vs k u):=by
 unfold putK stored;rw[r.any k]
 by_cases e:(vs.any λkv=>decide (kv.1=k))=true
 ·rw[yaf e,yaf e];exact r.EF k ry
 ·rw[yac e,yac e];exact Paired.snoc r ⟨Z,ry⟩
theorem KV.length{al:List (κ × V)}(r:KV al vs):al.length=vs.length:=ydP r
end
theorem Ur(r:RelV (kV k) u):(Jr P w).is k u=true:=by
 cases k with
 |inl i=>obtain⟨t,e⟩:=(show ∃t,u=Value.int i t from r);subst e;exact qe P w i t
 |inr x=>obtain⟨t,e⟩:=(show ∃t,u=Value.str x t from r);subst e;exact JJ P w x t
theorem Us:∀{ks:List Key}{us:List Value},Vals (ks.map kV) us->ItemsAre (Jr P w) ks us
 |[],_,r=>by rw[ycX]at r;cases r;exact .nil
 |k::ks,_,r=>by
  rw[lU]at r;cases r with
  |cons h t=>exact .cons (Ur h) (Us t)
abbrev KT(H:Hp):List (List Key × V)->List (List Key × Addr × Value)->Prop:=Paired λp q=>p.1=q.1/\H q.2.1=some (.tup (p.1.map kV))/\RelV p.2 q.2.2
theorem KT.val{al:List (List Key × V)}{xs:List (List Key × Addr × Value)}(r:KT H al xs)(k:List Key):jh (Wm al k) ((atKey xs k).map (·.2)):=by
 induction r with
 |nil=>exact True.intro
 |@cons p q ps qs h t ih=>
  obtain⟨h1,_,h2⟩:=h
  by_cases e:p.1=k
  ·have e':q.1=k:=h1.symm.trans e;have b:atKey (q::qs) k=some q.2:=by simp[atKey,ybN,e']
   rw[K1 e,b];exact h2
  ·have e':¬ q.1=k:=λz=>e (h1.trans z);have b:atKey (q::qs) k=atKey qs k:=by simp[atKey,ybN,e']
   rw[WW e,b];exact ih
theorem KT.EF{al:List (List Key × V)}{xs:List (List Key × Addr × Value)}(r:KT H al xs)(k:List Key)(ry:RelV y u):
  KT H (al.map λkv=>if kv.1=k then(kv.1,y)else kv) (xs.map (putAt k u)):=by
 induction r with
 |nil=>exact .nil
 |@cons p q ps qs h t ih=>
  rw[lU,lU];refine .cons ?_ ih;obtain⟨h1,h2,h3⟩:=h;unfold putAt
  by_cases e:p.1=k
  ·rw[yaf e,yaf (h1.symm.trans e)];exact⟨h1,h2,ry⟩
  ·rw[yac e,yac (λz=>e (h1.trans z))];exact⟨h1,h2,h3⟩
theorem KT.put{al:List (List Key × V)}{xs:List (List Key × Addr × Value)}(r:KT H al xs)(k:List Key)(hb:H b=some (.tup (k.map kV)))(ry:RelV y u):
  KT H (putK al k y) (storedH xs k b u):=by
 have e:(al.any λkv=>decide (kv.1=k))=(atKey xs k).isSome:=by
  rw[jp,(r.val k).Vg,Option.isSome_map]
 unfold putK storedH;rw[e]
 by_cases q:(atKey xs k).isSome=true
 ·rw[yaf q,yaf q];exact r.EF k ry
 ·rw[yac q,yac q];exact Paired.snoc r ⟨Z,hb,ry⟩
theorem KT.keeps{al:List (List Key × V)}{xs:List (List Key × Addr × Value)}(r:KT H al xs)(ht:∀b ys,H b=some (.tup ys)->H' b=some (.tup ys)):KT H' al xs:=
 Paired.D6 r λ_ _ z=>⟨z.1,ht _ _ z.2.1,z.2.2⟩
section
theorem HH(ok:aV P w H h)(e:Rd H a u):JU P w H h a u:=e.ok ok
theorem xp{al:List (Key × V)}(ok:aV P w H h)(e:Rd H a (.dK al)):al.length<=sizeLine/\(a==sysModules)=false/\∃vs,KV al vs/\h.DictOf (Jr P w) a vs:=
 show JU P w H h a (.dK al)from HH ok e
theorem HI{al:List (Key × V)}(ok:aV P w H h)(e:H a=some (.dK al)):al.length<=sizeLine/\(a==sysModules)=false/\∃vs,KV al vs/\h.DictOf (Jr P w) a vs:=xp ok (.inl e)
theorem jq(ok:aV P w H h)(e:H a=some (.tup (ks.map kV))):(tupleKind (Jr P w)).is h ks a:=by
 obtain⟨_,ap,r,o,h1,h2,n,h3,_⟩:=(show JU P w H h a (.tup (ks.map kV))from ok a _ e);exact⟨o,ap.toArray,n,h1,h2,h3,by simpa using Us r⟩
theorem xq{al:List (List Key × V)}(ok:aV P w H h)(e:Rd H a (.dT al)):al.length<=sizeLine/\(a==sysModules)=false/\
  ∃xs,KT H al xs/\h.DictOfH (tupleKind (Jr P w)) a xs:=by
 obtain⟨z,y,xs,r,o,es,ep,h1,h2,h3,h4,h5⟩:=(show JU P w H h a (.dT al)from HH ok e);refine⟨z,y,xs,r,o,es,ep,h1,h2,h3,h4,λx hx=>?_,h5⟩;have all:∀{l:List (List Key × V)}{m:List (List Key × Addr × Value)},KT H l m->∀x∈m,(tupleKind (Jr P w)).is h x.1 x.2.1:=by
  intro l m q
  induction q with
  |nil=>intro x hx;exact nomatch hx
  |@cons p q ps qs hq t ih=>
   intro x hx;rcases yag.mp hx with e|hx
   ·subst e;exact jq ok (by rw[←hq.1];exact hq.2.1)
   ·exact ih x hx
 exact all r x hx
theorem MC{al:List (List Key × V)}(ok:aV P w H h)(e:H a=some (.dT al)):al.length<=sizeLine/\(a==sysModules)=false/\
  ∃xs,KT H al xs/\h.DictOfH (tupleKind (Jr P w)) a xs:=xq ok (.inl e)
end
def zh(H:Hp)(a:Addr)(y:V)(r:Option V):Prop:=
 (∃al k,Rd H a (.dK al)/\y=kV k/\r=Wm al k)\/∃al k b,Rd H a (.dT al)/\y=.ref b/\H b=some (.tup (k.map kV))/\r=Wm al k
def yH(H:Hp)(a:Addr)(y v:V)(H':Hp):Prop:=
 (∃al k,H a=some (.dK al)/\y=kV k/\al.length<sizeLine/\H'=upd H a (.dK (putK al k v)))\/
 ∃al k b,H a=some (.dT al)/\y=.ref b/\H b=some (.tup (k.map kV))/\al.length<sizeLine/\H'=upd H a (.dT (putK al k v))
theorem zh.k{H:Hp}{a:Addr}{al:List (Key × V)}{k:Key}(e:H a=some (.dK al)):zh H a (kV k) (Wm al k):=.inl ⟨al,k,.inl e,Z,Z⟩
theorem yH.k{H:Hp}{al:List (Key × V)}{k:Key}{v:V}(e:H a=some (.dK al))(hl:al.length<sizeLine):yH H a (kV k) v (upd H a (.dK (putK al k v))):=.inl ⟨al,k,e,Z,hl,Z⟩
section
variable {X:Cx}{U:List (Addr × Obj)}{σ:St}{H:Hp}{s:Shared}{a:Addr}{y v:V}{u r:Value}{A:Around}{E:Value->Shared->Prop}
theorem Inv.big(I:Inv X U σ H s):sysModules<s.heap.objs.size:=by
 have h:mainGlobals<s.heap.objs.size:=(I.mod.glob.keeps I.bk).lt;exact yaD (by decide) h
theorem xr(hu:A.units+1<cLine)(I:Inv X U σ H s)(g:zh H a y (some v))(ry:RelV y u)(h:∀w' s',Inv X U σ H s'->RelV v w'->Q w' s'):
  wpAny (model X.prog X.w) A (getItem (.ref a) u) Q E s:=by
 rcases g with⟨al,k,e,ey,l⟩|⟨al,k,b,e,ey,eb,l⟩
 ·subst ey;obtain⟨z,hd,vs,rel,dd⟩:=xp I.ag e;obtain⟨w',hw,IO⟩:=jh.some_of (v:=v) (o:=valueAt vs k) (by rw[l];exact rel.val k);exact wpAny_getItem_of (Ur ry) dd.mapOf hw (h w' _ (I.tok _) IO)
 ·subst ey;cases(show u=Value.ref b from ry);obtain⟨z,hd,xs,rel,dd⟩:=xq I.ag e;obtain⟨w',hw,IO⟩:=jh.some_of (v:=v) (o:=(atKey xs k).map (·.2)) (by rw[l];exact rel.val k);obtain⟨p,hp,ii⟩:=yaS.mp hw;refine wpAny_getItem_heap (ydD hu) (jq I.ag eb) dd hp ?_;rw[ii];exact h w' _ (I.tok _) IO
theorem ql(I:Inv X U σ H s)(mu:AL (H a))(hs:Heap.SameBut a s.heap h')(he:∃q,h'.get? a=some q) (new:JU X.prog X.w (upd H a ob) h' a ob):
  Inv X U σ (upd H a ob) {s with heap:=h',toks:=t'}:=
 I.write (x:=a) (e:=a) mu (.inl Z) (λb q hb z=>(hs.2 b hb).trans z) he new
theorem yI{al:List (Key × V)}(z:al.length<=sizeLine)(hd:(a==sysModules)=false)(rel:KV al vs)(dd:h'.DictOf (Jr P w) a vs):
  JU P w H' h' a (.dK al):=⟨z,hd,vs,rel,dd⟩
theorem xt(hu:A.units+1<cLine)(I:Inv X U σ H s)(g:yH H a y v H')(ry:RelV y u)(rv:RelV v r)(h:∀s',Inv X U σ H' s'->Q () s'):
  wpAny (model X.prog X.w) A (setItem (.ref a) u r) Q E s:=by
 rcases g with⟨al,k,e,ey,l,eH⟩|⟨al,k,b,e,ey,eb,l,eH⟩
 ·subst ey eH;obtain⟨z,hd,vs,rel,dd⟩:=HI I.ag e;have hz:vs.length<=sizeLine:=by rw[←rel.length];exact z
  have hl:(putK al k v).length<=sizeLine:=by have:=Kx al k v;lia
  refine wpAny_setItem_pairs (hsz:=hz) (Ur ry) dd λh' oO hs=>h _ ?_;have he:∃q,h'.get? a=some q:=let ⟨q,_,_,hq,_⟩:=oO;⟨q,hq⟩;exact ql I (by rw[e];exact True.intro) hs he (yI hl hd (rel.put k rv) oO)
 ·subst ey eH;cases(show u=Value.ref b from ry);obtain⟨z,hd,xs,rel,dd⟩:=MC I.ag e;have hz:xs.length<=sizeLine:=by rw[←ydP rel];exact z
  have hl:(putK al k v).length<=sizeLine:=by have:=Kx al k v;lia
  refine wpAny_setItem_heap (hsz:=hz) (ydD hu) (jq I.ag eb) dd λh' oO hs=>h _ ?_;obtain⟨q,es,ep,hq,h2,h3,h4,_,h5⟩:=oO;refine ql I (by rw[e];exact True.intro) hs ⟨q,hq⟩ ⟨hl,hd,_,(rel.put k eb rv).keeps λc ys ec=>?_,q,es,ep,hq,h2,h3,h4,h5⟩;rw[Qx (LQ ec e (λz=>nomatch z))];exact ec
end
def EG(i:Expr):Prop:=∀ov iv,subscripted i false ov iv=operate [ov,iv] (getItem ov iv)
theorem xu{prog:Program}{env:Env}{value slice:Expr}{pos:Pos}{T id:String}
  (hl:typeLookup (.type T) "__getitem__"=pure (some (.builtin id))) (hs:EG slice)
  (h:wpAny (model prog w) A (eval value env) (λo s₁=>wpAny (model prog w) A (eval slice env) (λi s₂=>s₂.TypeIs o T/\wpAny (model prog w) A (getItem o i) Q E s₂) E s₁) E s):
  wpAny (model prog w) A (eval (.Subscript value slice pos) env) Q E s:=by
 refine Subscript_ (yaA h (λo s₁ h₁=>yaA h₁ (λi s₂ h₂=>?_) λ_ _ x=>x) λ_ _ x=>x);obtain⟨hT,h₂⟩:=h₂;unfold subscriptTail;refine yab ?_;rw[getitemInPython_of_ne hT.not_modules];refine yab (ydq hT hl ?_);have fin:wpAny (model prog w) A (subscripted slice false o i) (λr s₃=>wpAny (model prog w) A (letTemporaryGo value o r>>=λ_=>pure r) Q E s₃) E s₂:=by
  rw[hs o i];exact wpAny_operating (yaA h₂ (λr s₃ h₃=>yab (wpAny_letTemporaryGo (yan h₃))) λ_ _ x=>x)
 first
  |exact yan (yab fin)
  |exact yab (yan (yab fin))
  |exact yab fin
theorem qm{X:Cx}{U:List (Addr × Obj)}{σ:St}{y:V}(I:Inv X U σ H s)(g:zh H a y o):s.TypeIs (.ref a) "dict":=by
 rcases g with⟨al,k,e,_,_⟩|⟨al,k,b,e,_,_,_⟩
 ·obtain⟨_,_,vs,_,dd⟩:=xp I.ag e;exact dd.typeIs
 ·obtain⟨_,_,xs,_,dd⟩:=xq I.ag e;exact dd.typeIs
def MD(td ty:TE):TE:=λσ H Q=>td σ H λx H1=>ty σ H1 λy H2=>∃a v,x=.ref a/\zh H2 a y (some v)/\Q v H2
def ME(td ty tv:TE):TS:=λD σ H=>tv σ H λv H1=>td σ H1 λx H2=>ty σ H2 λy H3=>∃a H4,x=.ref a/\yH H3 a y v H4/\D.nx σ H4
section
variable {value:Expr}{pos pos':Pos}{ty tv:TE}
theorem XN(hu:X.A.units+1<cLine)(ho:PE X o td)(hi:PE X i ty)(hs:EG i):PE X (.Subscript o i pos) (MD td ty):=by
 intro U s σ H Q I h;refine xu PySem.F.slot_dict_getitem.lookup hs (au (ho U s σ H _ I h) λu s1⟨x,H1,I1,rx,q1⟩=>au (hi U s1 σ H1 _ I1 q1) λiv s2⟨y,H2,I2,ry,a,v,ex,g,q2⟩=>?_);subst ex;obtain rfl:u=Value.ref a:=rx;exact⟨qm I2 g,xr hu I2 g ry λw' s3 I3 IO=>⟨v,H2,I3,IO,q2⟩⟩
theorem xv(hu:X.A.units+1<cLine)(ho:PE X o td)(hi:PE X i ty)(hv:PE X value tv)(hs:swapsWith value (some (.Subscript o i pos')) pos.line X.env=pure false):
  PS X (.Assign [.Subscript o i pos'] value pos) (ME td ty tv):=by
 intro U s σ H D I h;refine wpAny_Assign_Subscript (au (hv U s σ H _ I h) λr s1⟨v,H1,I1,rv,q1⟩=>au (ho U s1 σ H1 _ I1 q1) λu s2⟨x,H2,I2,rx,q2⟩=>au (hi U s2 σ H2 _ I2 q2) λiv s3⟨y,H3,I3,ry,a,H4,ex,g,q3⟩=>?_) hs;subst ex;obtain rfl:u=Value.ref a:=rx;exact xt hu I3 g ry rv λs4 I4=>⟨σ,H4,I4,q3⟩
end
theorem jr(h:Heap)(hb:sysModules<h.objs.size):JU P w H (h.push {cls:=.type "dict",data:=.dict #[]}) h.objs.size (.dK []):=
 ⟨lX _,yaB.mpr (Ne.symm (yal hb)),[],.nil,Heap.DictOf.new h⟩
def yJ:TE:=λ_ H Q=>∀p,H p=none->Q (.ref p) (upd H p (.dK []))
section
variable {pos:Pos}
theorem wT:PE X (.Dict [] [] pos) yJ:=λU s σ H Q I h=>
 wpAny_Dict_empty ⟨.ref s.heap.objs.size,_,I.laid (a:=s.heap.objs.size) (o:=.dK []) (t':=s.toks) (λ_ _ q=>yaa _ q) (lA _) (jr s.heap I.big),Z,h _ (I.ag.fresh (lA _))⟩
end
def js:List (TE × TE)->St->Hp->(List (V × V)->Hp->Prop)->Prop
 |[],_,H,Q=>Q [] H
 |(tk,tv)::r,σ,H,Q=>tk σ H λx H1=>tv σ H1 λy H2=>js r σ H2 λps H3=>Q ((x,y)::ps) H3
abbrev VV:List (V × V)->List (Value × Value)->Prop:=Paired λp q=>RelV p.1 q.1/\RelV p.2 q.2
def Dl(X:Cx)(pos:Pos)(keys:List (Option Expr))(values:List Expr)(ic:List (TE × TE)):Prop:=
 ∀(U:List (Addr × Obj))(s:Shared)(σ:St)(H:Hp)(Q:List (V × V)->Hp->Prop),Inv X U σ H s->js ic σ H Q->
  wpAny (model X.prog X.w) X.A (evalPairs (pairTrees keys values X.env pos)) (λvs s'=>∃ps H',Inv X U σ H' s'/\VV ps vs/\Q ps H') X.xe s
theorem xw{pos:Pos}:Dl X pos [] [] []:=λU s σ H Q I h=>pairTrees_nil_walk ⟨[],H,I,.nil,h⟩
theorem X9{pos:Pos}{tk tv:TE}(hk:PE X k tk)(hv:PE X v tv)(hr:Dl X pos ks vs ic):
  Dl X pos (some k::ks) (v::vs) ((tk,tv)::ic):=λU s σ H Q I h=>
 pairTrees_cons_walk (au (hk U s σ H _ I h) λu s1⟨x,H1,I1,rx,q1⟩=>au (hv U s1 σ H1 _ I1 q1) λw2 s2⟨y,H2,I2,ry,q2⟩=>
  au (hr U s2 σ H2 _ I2 q2) λws s3⟨ps,H3,I3,rel,q3⟩=>⟨(x,y)::ps,H3,I3,.cons ⟨rx,ry⟩ rel,q3⟩)
noncomputable def WJ(al more:List (Key × V)):List (Key × V):=more.foldl (λacc kv=>putK acc kv.1 kv.2) al
theorem KV.merge:∀{more:List (Key × V)}{rs:List (Key × Value)}{al:List (Key × V)}{vs:List (Key × Value)},KV more rs->KV al vs->KV (WJ al more) (merged vs rs):=by
 intro more rs al vs r;unfold KV at r
 induction r generalizing al vs with
 |nil=>intro q;exact q
 |@cons p q ps qs h t ih=>
  intro r0;have e:KV (putK al p.1 p.2) (stored vs q.1 q.2):=by
   have:=r0.put p.1 h.2;rw[←h.1];exact this
  exact ih e
theorem K2:∀(more al:List (Key × V)),(WJ al more).length<=al.length+more.length
 |[],al=>by show al.length<=al.length+0;lia
 |p::r,al=>by
  have h1:=K2 r (putK al p.1 p.2);have h2:=Kx al p.1 p.2;show(WJ (putK al p.1 p.2) r).length<=_;rw[lD];lia
theorem Yf:∀{al:List (Key × V)}{ws:List (Value × Value)},VV (al.map λkv=>(kV kv.1,kv.2)) ws->∃rs,Carries (Jr P w) ws rs/\KV al rs
 |[],_,r=>by rw[ycX]at r;cases r;exact⟨[],True.intro,.nil⟩
 |p::al,_,r=>by
  rw[lU]at r;cases r with
  |@cons a b as bs h t=>
   obtain⟨rs,c,q⟩:=Yf (P:=P) (w:=w) t;obtain⟨b1,b2⟩:=b;exact⟨(p.1,b2)::rs,⟨Ur h.1,Z,c⟩,.cons ⟨Z,h.2⟩ q⟩
def EH(ic:List (TE × TE)):TE:=λσ H Q=>∀p,H p=none->js ic σ (upd H p (.dK [])) λps H2=>H2 p=some (.dK [])/\∃al:List (Key × V),ps=al.map (λkv=>(kV kv.1,kv.2))/\al.length<=15/\Q (.ref p) (upd H2 p (.dK (WJ [] al)))
theorem xx{pos:Pos}{keys:List (Option Expr)}{values:List Expr}(h:Dl X pos keys values ic)(ol:keys.all (·.isSome)=true)(hl:keys.length=values.length)(h0:keys≠[])
  (MG:keys.length<=15):PE X (.Dict keys values pos) (EH ic):=by
 intro U s σ H Q I q;have hn:=I.ag.fresh (lA s.heap.objs.size);have I1:=I.laid (a:=s.heap.objs.size) (o:=.dK []) (h':=s.heap.push {cls:=.type "dict",data:=.dict #[]}) (t':=s.toks) (λ_ _ q=>yaa _ q) (lA _) (jr s.heap I.big);refine wpAny_Dict_walk (knd:=Jr X.prog X.w) ol hl h0 MG (au (h U _ σ _ _ I1 (q _ hn)) λws s2⟨ps,H2,I2,rel,e,al,ep,lk,q2⟩=>?_);subst ep;obtain⟨rs,c,rk⟩:=Yf (P:=X.prog) (w:=X.w) rel;obtain⟨z,hd,vs0,r0,dd⟩:=HI I2.ag e;cases r0;refine⟨rs,c,dd,λh' oO hs=>⟨.ref s.heap.objs.size,_,?_,Z,q2⟩⟩;have hz:(WJ [] al).length<=sizeLine:=by
  have h1:=K2 al [];rw[ybw]at h1;rw[yew];lia
 have he:∃q,h'.get? s.heap.objs.size=some q:=let ⟨q,_,_,hq,_⟩:=oO;⟨q,hq⟩;exact ql I2 (by rw[e];exact True.intro) hs he (yI hz hd (rk.merge .nil) oO)
structure M2(X:Cx)(o:Expr)(m:Str)(apos:Pos)(e f:Expr)(ci:Pos):Prop where
 M:attributeBase o m X.env (eval o X.env)=eval o X.env
 MH:((backTo ci (starEach [e,f] X.env)).all (λx=> !x.1)&&(backToKw ci (keywordEach [] X.env)).all (λx=>x.1.isSome)
  &&decide (([e,f]:List Expr).length+([]:List Keyword).length+(if([]:List Keyword).isEmpty then 0 else 1)<30))=true
 line:(apos.endLine==ci.line)=true
 trees:backTo ci (starEach [e,f] X.env)=[(false,eval e X.env),(false,eval f X.env)]
def HJ(H:Hp)(a:Addr):Prop:=(∃al,Rd H a (.dK al))\/∃al,Rd H a (.dT al)
theorem MI{X:Cx}{U:List (Addr × Obj)}{σ:St}(I:Inv X U σ H s)(d:HJ H a):
  s.TypeIs (.ref a) "dict"/\(∀b,Value.ref a=.ref b->∃ob,s.heap.get? b=some ob/\ob.dict=none)/\(a==sysModules)=false:=by
 rcases d with⟨al,e⟩|⟨al,e⟩
 ·obtain⟨_,hd,vs,_,dd⟩:=xp I.ag e;refine⟨dd.typeIs,λb q=>?_,hd⟩;cases q;obtain⟨ob,_,_,h1,h2,_⟩:=dd;exact⟨ob,h1,h2.2.1⟩
 ·obtain⟨_,hd,xs,_,dd⟩:=xq I.ag e;refine⟨dd.typeIs,λb q=>?_,hd⟩;cases q;obtain⟨ob,_,_,h1,h2,_⟩:=dd;exact⟨ob,h1,h2.2.1⟩
section
variable {X:Cx}{U:List (Addr × Obj)}{σ:St}{H:Hp}{s:Shared}{a:Addr}{y d:V}{u r:Value}{o:Option V}{A:Around}{E:Value->Shared->Prop}
theorem MJ(hu:A.units+1<cLine)(I:Inv X U σ H s)(g:zh H a y o)(ry:RelV y u)(rd:RelV d r)(h:∀w' s',Inv X U σ H s'->RelV (o.getD d) w'->Q w' s'):
  wpAny (model X.prog X.w) A (call (.builtin "dict.get") [.ref a,u,r]) Q E s:=by
 rcases g with⟨al,k,e,ey,l⟩|⟨al,k,b,e,ey,eb,l⟩
 ·subst ey;obtain⟨z,hd,vs,rel,dd⟩:=xp I.ag e;refine call_meetsIn slot_dict_get dd.typeIs entry_dict_get (args_dict_get_3 _ _ _) (meets_dict_get_default (Jr X.prog X.w) a (Ur ry) hd r) ⟨_,dd.mapOf,h _ _ (I.tok _) ?_⟩;rw[l];exact(rel.val k).getD rd
 ·subst ey;cases(show u=Value.ref b from ry);obtain⟨z,hd,xs,rel,dd⟩:=xq I.ag e;refine call_meetsIn slot_dict_get dd.typeIs entry_dict_get (args_dict_get_3 _ _ _) (meetsH_dict_get_default (tupleKind (Jr X.prog X.w)) a b hd r) ⟨ydD hu,k,xs,jq I.ag eb,dd,h _ _ (I.tok _) ?_⟩;rw[l];exact(rel.val k).getD rd
end
def MK(td ty tx:TE):TE:=λσ H Q=>td σ H λx H1=>∃a,x=.ref a/\HJ H1 a/\ty σ H1 λy H2=>tx σ H2 λz H3=>∃o,zh H3 a y o/\Q (o.getD z) H3
section
variable {apos ci:Pos}{ty tx:TE}
theorem wU(hu:X.A.units+1<cLine)(ho:PE X o td)(he:PE X e ty)(hf:PE X f tx)(m:M2 X o "get" apos e f ci):PE X (.Call (.Attribute o "get" apos) [e,f] [] ci) (MK td ty tx):=by
 intro U s σ H Q I h;refine wpAny_Call_method m.M m.MH m.line plainAttrs_dict slot_dict_get type_dict_get (au (ho U s σ H _ I h) λu s1⟨x,H1,I1,rx,a,ex,d,q1⟩=>?_);subst ex;obtain rfl:u=Value.ref a:=rx;obtain⟨t1,t2,_⟩:=MI I1 d;refine⟨t1,t2,?_⟩;rw[m.trees];refine yca rfl (ycq (ybB (au (he U s1 σ H1 _ I1 q1) λiv s2⟨y,H2,I2,ry,q2⟩=>
  ybB (au (hf U s2 σ H2 _ I2 q2) λfv s3⟨z,H3,I3,rz,ov,g,q3⟩=>yci ?_))))
 exact MJ hu I3 g ry rz λw' s4 I4 IO=>⟨_,H3,I4,IO,q3⟩
end
end L2
namespace HK
open PySem PySem.W PySem.Calls PyProof.Rows
theorem Vh:∀(ns:List Int)(vs:List Value),WellAll P h vs (ns.map WData.int)->IntsAre vs ns:=by
 intro ns
 induction ns with
 |nil=>
  intro vs w;rw[ycX]at w;cases w;exact .nil
 |cons n ns ih=>
  intro vs w;rw[lU]at w;cases w with
  |cons a b=>
   cases a;exact .cons _ _ (ih _ b)
theorem xy{l:OpenLaw}{n:Nat}(hn:l.most=some n){P:Params}{h:Heap}{args:List WData}{vals:List Value}
  (c7:l.row.toRowW.claim.pre args=true) (iT:WellAll P h vals args):
  ∃a vs ns,vals=[Value.ref a]/\args=[WData.list (ns.map WData.int)]/\h.get? a=some {cls:=.type "list",data:=.seq vs.toArray}/\IntsAre vs ns/\ns.length<=n:=by
 have ML:WShape.hasAll [] args [.list .int]=true:=(pre_splitW c7).1;have hc:l.pre.holds [] {args:=args}=true:=(pre_splitW c7).2;obtain⟨d,r,rfl,h1,h2⟩:=hasAllW_cons ML;obtain rfl:=hasAllW_nil h2;obtain⟨xs,rfl,h3⟩:=hasW_list h1;obtain⟨ns,rfl⟩:=items_int h3;have hlen:ns.length<=n:=by
  unfold OpenLaw.pre at hc;have h4:(WTm.not (.lt (.lit (.int (n:Int))) (.len (.arg 0)))).holds [] {args:=[.list (ns.map .int)]}=true:=by
   have h4:=(holds_andW hc).1;rw[hn]at h4;exact h4
  have h5:=condW_of h4 (w_not (w_lt w_lit (w_len_list (w_arg Z))));rw[lu]at h5;refine Nat.le_of_not_lt λq=>?_;have q':(n:Int)<((ns.length:Nat):Int):=by lia
  first
   |(rw[ly q']at h5;exact absurd h5 (by decide))
   |(simp at h5;lia)
 cases iT with
 |cons w1 w2=>
  cases w2;cases w1 with
  |list ho ol=>exact⟨_,_,ns,Z,Z,ho,Vh ns _ ol,hlen⟩
theorem xz(l:OpenLaw)(args:List WData):l.row.toRowW.claim.post args (.bool true) args=true:=
 postW_of (r:=l.row.toRowW) (X:=(true==true))
  (show WShape.has [] (.bool true) .bool=true by first|rfl|decide|simp[WShape.has,WShape.arms,WShape.armsAll])
  (show(WTm.eq .res (.lit (.bool true))).value [] {args:=args,res:=some (.bool true),after:=args}=some (.bool (true==true))from w_eq_bool (w_res Z) w_lit) rfl
theorem qo{l:OpenLaw}{n:Nat}{loose:List Str}{d:DefRec}
  (hn:l.most=some n) (EI:d.params.defaults=[])
  (call:∀(w:World)(s₀ s₁:Shared)(mg mb:Str->Option Value)(fa:Addr)(o:Obj)(pm cd doc:Value)(a:Addr)(vs:List Value)(ns:List Int),
   Ground q loose [] XP w s₀ mg mb s₁.heap->YP w s₁.heap->
   s₁.heap.get? fa=some o->o.data=.func (docDef d.name d.params d.body d.scope pm cd doc)->s₁.heap.CodeRec cd d.name->mg d.name=some (.ref fa)->
   s₁.heap.get? a=some {cls:=.type "list",data:=.seq vs.toArray}->IntsAre vs ns->ns.length<=n->s₁.gens= #[]->
   codeAny (model l.prog w) callerA (.call (.ref fa) ⟨[.ref a],[]⟩) (λr s'=>r=.ok (.ret (.bool true))/\OldK s₁.heap s'.heap/\s'.os=s₁.os/\AllBare s'.gens) s₁):
  WalkO q loose XP YP l.row.toRowW d [] (λf vs=>PySem.call f vs):=by
 intro w s₀ s₁ mg mb G qYa fa o pm cd doc dV kV ho hd GM hD AV hg args vals as c7 MM Dm iT Db;obtain rfl:dV=.none:=Dflts.none hD EI;obtain rfl:kV=.none:=Dflts.noKw hD;obtain⟨a,vs,ns,rfl,rfl,oP,hints,hlen⟩:=xy hn c7 iT;refine enter_call (ycA (call w s₀ s₁ mg mb fa o pm cd doc a vs ns G qYa ho (fd_plain hd) GM AV oP hints hlen hg) λr s' hq=>?_);obtain⟨rfl,h2,h3,h4⟩:=hq;exact⟨.inl ⟨.bool true,.bool true,[],Z,λ_=>rfl,.bool true,xz l _,λ_=>⟨List.Pairwise.nil,λ_ hm=>(nomatch hm)⟩⟩,h2,h3,h4⟩
end HK
namespace L2
open PySem PySem.Spec PyProof.Rows
theorem Ut:∀{vs:List Value}{ns:List Int},IntsAre vs ns->Vals (ns.map V.int) vs
 |_,_,.nil=>.nil
 |_,_,.cons n t h=>.cons ⟨t,Z⟩ (Ut h)
noncomputable def JS(s:Stmt):Arguments:=match s with
 | .FunctionDef _ a _ _ _ _ _ _ _ _=>a
 |_=>{posonlyargs:=[],args:=[],vararg:=none,kwonlyargs:=[],kw_defaults:=[],kwarg:=none,defaults:=[]}
noncomputable def QI(s:Stmt):List Stmt:=match s with
 | .FunctionDef _ _ b _ _ _ _ _ _ _=>b
 |_=>[]
noncomputable def Qf(s:Stmt):Scope:=match s with
 | .FunctionDef _ _ _ _ _ _ sc _ _ _=>sc
 |_=>{kind:=.function,names:=[],isGenerator:=false,isCoroutine:=false}
abbrev E0:XK:=λ_ _ _=>False
structure az(K:Frag)(x qual:Str)(st:Stmt)(f:Addr)(fd:FuncData):Prop where
 ex:∃(oc:Value)(od:Option Addr)(kV doc pm:Value)(an:Option Addr)(ad ct:Value)(mt:Array (Option Value)),
  fd=fnOf x qual (JS st) (QI st) (Qf st) .none kV doc pm an ad ct/\K.lookup f=some ⟨oc,od,.func fd,mt⟩/\codeIn K ad qual=true
 kp:keepIn K (.ref f)=true
section
variable {K:Frag}
theorem az.binds{x qual:Str}{st:Stmt}{fd:FuncData}(F:az K x qual st f fd)
  (h:∀(kV doc pm:Value)(an:Option Addr)(ad ct:Value)(us:List Value),us.length=ps.length->bindArgs (fnOf x qual (JS st) (QI st) (Qf st) .none kV doc pm an ad ct) ⟨us,[]⟩=pure (ps.zip us)):Binds K fd ps []:=by
 obtain⟨oc,od,kV,doc,pm,an,ad,ct,mt,rfl,lk,GM⟩:=F.ex;exact .all (h kV doc pm an ad ct)
end
theorem xA(hr:ao k A):A.units+1<cLine:=yba (Nat.add_le_add_left (by decide:1<=64) _) hr.units
section
variable {X:Cx}
theorem pv(i:Nat){pos:Pos}(hN:X.N[i]? =some x:=by rfl)(hv:Aa X.env.scope x:=by first|exact Or.inl rfl|exact Or.inr (Or.inl rfl)|exact Or.inr (Or.inr rfl))(hd:(x==("__debug__":Str))=false:=by decide)
  (GM:(x==("__classdict__":Str))=false:=by decide):PE X (.Name x pos) (ZB i):=yz hN hv hd GM
end
theorem QQ{A B:Prop}(h:B):if false=true then A else B:=by
 rw[yac yar];exact h
theorem QX{A B:Prop}(h:A):if true=true then A else B:=by
 rw[yaf rfl];exact h
def Qu(H H':Hp):Prop:=∀b o,H b=some o->H' b=some o
theorem Qu.refl(H:Hp):Qu H H:=λ_ _ h=>h
theorem Qu.trans{H H1 H2:Hp}(a:Qu H H1)(b:Qu H1 H2):Qu H H2:=λc o h=>b c o (a c o h)
theorem JU.ex(x:JU P w H h a o):∃ob,h.get? a=some ob:=by
 cases o with
 |lst xs=>obtain⟨_,_,_,_,e⟩:=x;exact⟨_,e⟩
 |tup xs=>obtain⟨_,_,_,ob,e,_⟩:=x;exact⟨_,e⟩
 |dK al=>obtain⟨_,_,_,_,o,_,_,e,_⟩:=x;exact⟨_,e⟩
 |dT al=>obtain⟨_,_,_,_,o,_,_,e,_⟩:=x;exact⟨_,e⟩
 |set S n=>obtain⟨o,_,_,_,e,_⟩:=x;exact⟨_,e⟩
 |ins C dx fs=>obtain⟨_,_,_,e,_⟩:=x;exact⟨_,e⟩
 |own y=>exact x
 |xd fs=>obtain⟨_,⟨_,_,_,e,_⟩,_⟩:=x;exact⟨_,e⟩
 |CU lo hi=>obtain⟨_,_,_,e⟩:=x;exact⟨_,e⟩
 |bO ob u=>obtain⟨e,_⟩:=x;exact⟨_,e⟩
 |bQ ps=>exact⟨_,(show h.get? a=some _ from x)⟩
 |met f y=>exact⟨_,(show h.get? a=some _ from x)⟩
 |ext φ=>obtain⟨_,e,_⟩:=x;exact e
def EJ(h:Heap)(e T:Addr)(cls:Value):Prop:=
 ∃oe vs oT ts a0,h.get? e=some oe/\oe.cls=cls/\oe.data=.fields vs/\vs[0]? =some a0/\vs[1]? =some (.ref T)/\T≠e/\h.get? T=some oT/\oT.data=.fields ts/\ts[3]? =some .none
def ak(P:Program)(w:World):dE:=λL H s E e s'=>
 ∃a T cls H',e=.ref a/\EJ s'.heap a T cls/\s.heap.get? a=none/\s.heap.get? T=none/\H' a=none/\H' T=none/\s'.os=s.os/\AllBare s'.gens/\
  Un (aI L) [] H H' s.heap s'.heap/\aV P w H' s'.heap/\E cls none H'
theorem Qy:Passes (ak P w) X E0:=by
 rintro _ _ _ _ _ _ _ ⟨_,_,_,_,_,_,_,_,_,_,_,_,_,_,h⟩;exact h.elim
section
variable {X:Cx}{U:List (Addr × Obj)}{σ:St}{H:Hp}{s:Shared}
theorem Uu{cls a0:Value}(I:Inv X U σ H s)(hex:X.ex=[])(Pi:X.stack=X.env::X.L)
  (EK:∀y∈ys,H y=none/\X.s₀.heap.get? y=none) (ha:H a=none) (MN:X.s₀.heap.get? a=none)
  (fl:Heap.FlyingW (hideAll s.heap (aI X.stack++ys)) X.L a cls a0 Ah) (up:∀b∈aI X.stack,∀o,s.heap.get? b=some o->(∀vs,o.data≠ .fields vs)->∃sl,Ah.get? b=some {o with slots:=sl}) (hE:E cls none H):
  ak X.prog X.w X.L X.H₀ X.s₀ E (.ref a) {s with heap:=Ah}:=by
 obtain⟨f1,f2,f3,oe,vs,T,oT,ts,t1,⟨t2,t3⟩,t4,t5,t6,t7,t8,t9,oQ⟩:=fl;have TW:∀b:Addr,b∉X.ex:=λb hb=>by rw[hex]at hb;cases hb
 have oR:∀b o,s.heap.get? b=some o->b∉aI X.stack->b∉ys->Ah.get? b=some o:=λb o e n1 n2=>
  f1 b o (hideAll_get _ e λhm=>(yao.mp hm).elim n1 n2)
 have fr:∀b∈aI X.stack,∃o,s.heap.get? b=some o/\∀vs,o.data≠ .fields vs:=λb hb=>(I.stack.mem hb).2;have old:∀b o,X.s₀.heap.get? b=some o->b∉ys:=λb o e hb=>by rw[(EK b hb).2]at e;cases e
 have EL:∀b,b∈aI X.stack->b∈X.env.locals::X.fs:=I.KR;have f':∀b o,X.s₀.heap.get? b=some o->b≠X.env.locals:=λb o e=>yal (yad (yae e) I.ok.above);have HL:∀o,s.heap.get? T=some o->T∉ys->False:=λo e n2=>by
  by_cases hf:T∈aI X.stack
  ·obtain⟨o2,e2,d2⟩:=fr T hf;obtain⟨sl,e3⟩:=up T hf o2 e2 d2;rw[t8]at e3;cases e3;exact d2 _ t9
  ·have:=hideAll_get (aI X.stack++ys) e λhm=>(yao.mp hm).elim hf n2;rw[t6]at this;cases this
 refine⟨a,T,cls,H,Z,⟨oe,vs,oT,ts,a0,t1,t2,t4,t3,t5,t7,t8,t9,oQ⟩,MN,?_,ha,?_,I.os,I.bare,⟨λb o e n hb hx=>?_,λb o e n hb hx=>?_,λb o e n hx=>I.M.free b o e n (TW b),λb o e hx=>?_,I.M.bq,I.M.bc,I.M.bf⟩,λb o e=>?_,hE⟩
 ·cases q:X.s₀.heap.get? T with
  |none=>rfl
  |some o=>
   obtain⟨o',e'⟩:=I.M.there T o q (TW T);exact(HL o' e' (old T o q)).elim
 ·cases q:H T with
  |none=>rfl
  |some u=>
   obtain⟨ob,e⟩:=(I.ag T u q).ex;exact(HL ob e λhm=>by rw[(EK T hm).1]at q;cases q).elim
 ·refine oR b o (I.M.keep b o e n hb (TW b)) (λhm=>?_) (old b o e);rcases yag.mp (EL b hm)with z|z
  ·exact f' b o e z
  ·exact hb z
 ·obtain⟨sl,e1⟩:=I.M.slot b o e n hb (TW b);have hm:b∈aI X.stack:=by rw[Pi];unfold aI;rw[ybT];split<;>first|exact hb|exact lG _ hb
  obtain⟨o2,e2,d2⟩:=fr b hm;rw[e1]at e2;cases e2;obtain⟨Ac,e3⟩:=up b hm _ e1 d2;exact⟨Ac,e3⟩
 ·obtain⟨o',e1⟩:=I.M.there b o e (TW b)
  by_cases hm:b∈aI X.stack
  ·obtain⟨o2,e2,d2⟩:=fr b hm;obtain⟨Ac,e3⟩:=up b hm _ e2 d2;exact⟨_,e3⟩
  ·exact⟨o',oR b o' e1 hm (old b o e)⟩
 ·refine(I.ag b o e).KQ (λc u hc q=>oR c u q (λhm=>?_) λhm=>?_) (λ_ q=>q) λ_ _ q=>q
  ·have z:=I.Ku c hm;rcases hc with rfl|hc
   ·rw[e]at z;cases z
   ·rw[hc]at z;cases z
  ·have z:=(EK c hm).1;rcases hc with rfl|hc
   ·rw[e]at z;cases z
   ·rw[hc]at z;cases z
theorem Ky(I:Inv X U σ H s)(ys:List Addr):s.heap.FunFrames (hideAll s.heap (aI X.stack++ys)) X.stack:=
 funFrames_hide I.stack λenv he a hf=>lF _ (ydz.mpr ⟨env,he,hf⟩)
end
def HM(X:Cx)(E:XK):Prop:=∀(U:List (Addr × Obj))(σ:St)(H:Hp)(s:Shared)(h':Heap)(a:Addr)(cls:Value)(args:List Value),
 Inv X U σ H s->Heap.MadeExcOf s.heap h' a cls args->E cls none H->X.xe (.ref a) {s with heap:=h'}
structure ie(X:Cx)(E:XK):Prop where
 ex:X.ex=[]
 cg:X.stack=X.env::X.L
 fr:X.env.frame=some X.env.locals
 xe:∀e s',wpAny (model X.prog X.w) X.A (leaving X.env e) (λ_ dS=>ak X.prog X.w X.L X.H₀ X.s₀ E e dS) (λe' dS=>ak X.prog X.w X.L X.H₀ X.s₀ E e' dS) s'->X.xe e s'
theorem Zn{K:Frag}{M:Heap}{N:List Str}{qual:Str}{scope:Scope}{cd:Value}{L:List Env}{H:Hp}{E:XK}:
  ie (Z2 (ak P w) P w K mg M N qual scope f cd A L s H E) E:=⟨Z,Z,Z,λ_ _ h=>h⟩
section
theorem J5(F:ie X E):HM X E:=by
 intro U σ H1 s1 h' a cls args I hx hE;have TW:∀b:Addr,b∉X.ex:=λb hb=>by rw[F.ex]at hb;cases hb
 refine F.xe _ _ ?_;have ff:s1.heap.FunFrames (hideAll s1.heap (aI X.stack++[])) (X.env::X.L):=by
  have z:=Ky I [];rw[F.cg]at z ⊢;exact z
 refine wpAny_leaves_madeW (s:={s1 with heap:=h'}) (h:=s1.heap) (base:=hideAll s1.heap (aI X.stack++[])) (by rw[←F.cg];exact I.ok.frames) F.fr
  (λb o q=>of_hideAll _ q) ff hx λAh t fl _ _ up=>?_
 refine Uu (s:=s1) (ys:=[]) I F.ex F.cg (λy hy=>nomatch hy) ?_ ?_ fl (λb _ o e d=>?_) hE
 ·cases q:H1 a with
  |none=>rfl
  |some u=>
   obtain⟨ob,e⟩:=(I.ag a u q).ex;have:=hx.new;rw[e]at this;cases this
 ·cases q:X.s₀.heap.get? a with
  |none=>rfl
  |some o=>
   obtain⟨o',e'⟩:=I.M.there a o q (TW a);have:=hx.new;rw[e']at this;cases this
 ·exact up b o (hx.keeps b o e) d
theorem Q4(F:ie X E):Passes (ak X.prog X.w) X E:=by
 intro U σ H1 s1 e s' I h;obtain⟨a,T,cls,H',rfl,⟨oe,vs,oT,ts,a0,t1,t2,t3,t4,t5,t6,t7,t8,t9⟩,n1,n2,ha,hT,os,bare,un,ag,hE⟩:=h;have TW:∀b:Addr,b∉X.ex:=λb hb=>by rw[F.ex]at hb;cases hb
 have I':Inv X U σ H' s':=I.z8 os un ag bare λb hb=>nomatch hb;have old:∀b,s1.heap.get? b=none->X.s₀.heap.get? b=none:=λb hb=>by
  cases q:X.s₀.heap.get? b with
  |none=>rfl
  |some o=>
   obtain⟨o',e'⟩:=I.M.there b o q (TW b);rw[hb]at e';cases e'
 refine F.xe _ _ ?_;have ff:s'.heap.FunFrames (hideAll s'.heap (aI X.stack++[a,T])) (X.env::X.L):=by
  have z:=Ky I' [a,T];rw[F.cg]at z ⊢;exact z
 refine wpAny_leaves_onW (base:=hideAll s'.heap (aI X.stack++[a,T])) (cls:=cls) (a0:=a0) (by rw[←F.cg];exact I.ok.frames) F.fr
  ⟨λb o q=>of_hideAll _ q,ydy _ (lE _ (by simp)),ff,oe,vs,T,oT,ts,t1,⟨t2,t4⟩,t3,t5,ydy _ (lE _ (by simp)),t6,t7,t8,t9⟩
  λAh fl up=>?_
 refine Uu I' F.ex F.cg (λy hy=>?_) ha (old a n1) fl (λb _ o e d=>up b o e d) hE;rcases yag.mp hy with rfl|hy
 ·exact⟨ha,old _ n1⟩
 ·obtain rfl:=yak.mp hy;exact⟨hT,old _ n2⟩
end
section
structure iU(K:Frag)(C:Addr):Prop where
 ex:excIn K C [.type "ValueError",.type "Exception",.type "BaseException",.type "object"] "ValueError.__new__"=true
def MO(C:Addr)(E:XK)(t:TA):TS:=λ_ σ H=>t σ H λvs H1=>vs.length<=sizeLine/\E (.ref C) none H1
theorem Zs{np ci pos:Pos}{rest:List Expr}(T:HM X E)(hc:X.calm=true)(hg:Gl X x)(hm:X.mg x=some (.ref C))(hC:iU X.K C)(ha:PA X (e₀::rest) t)
  (he:starEach (e₀::rest) X.env=(false,eval e₀ X.env)::starEach rest X.env:=by rfl) (mo:(backTo ci (starEach rest X.env)).any (·.1)=false:=by rfl) (pi:(x==("__debug__":Str))=false:=by decide):
  PS X (.Raise (some (.Call (.Name x np) (e₀::rest) [] ci)) none pos) (MO C E t):=by
 intro U s σ H D I h;have q:=hC.ex;have O:∃bm N nm q bs hdct sn sub ab col dd k0 k1 k2 k3 k5 mN,X.M.get? C=some (excClassObj nm q C N bs bm hdct sn sub ab col dd k0 k1 k2 k3 k5 "ValueError.__new__")/\X.M.Ns N mN/\mN "__init__"=none/\
   OwnTail X.M [.type "ValueError",.type "Exception",.type "BaseException",.type "object"] bm:=by
  have KX:=I.mod.iN;unfold excIn at q
  split at q
  ·rename_i dd cd sl ho
   split at q
   ·rename_i C' bm k0 k1 k2 k3 n k5 hm hs;simp only[yaO,yck,ybO]at q;obtain⟨⟨⟨⟨⟨rfl,rfl⟩,dW⟩,ht⟩,ag⟩,Dp⟩:=q;obtain⟨nm,bs,mro,ns,qn,hd,sn,sub,ab,col,del⟩:=cd;dsimp only at hm dW ag Dp;subst hm dW;have dc:sl= #[k0,k1,k2,k3,some (.builtin "ValueError.__new__"),k5]:=by
     obtain⟨l⟩:=sl;simp only at hs;rw[hs]
    subst dc;exact⟨bm,ns,nm,qn,bs,hd,sn,sub,ab,col,dd,k0,k1,k2,k3,k5,_,KX _ _ ho,.of_isNs (isNs_of_in KX ag),nsMap_none_of_in KX ag Dp,tail_of_in KX ht⟩
   ·cases q
  ·cases q
 obtain⟨tl,Nn,nm,qq,bs,hdct,sn,sub,ab,col,dd,k0,k1,k2,k3,k5,mN,h1,h2,h3,h4⟩:=O;refine wpAny_Raise_call_subT (C:=C) (nm:=nm) (q:=qq) (N:=Nn) (bs:=bs) (bm:=tl) (hdct:=hdct) (sn:=sn) (sub:=sub) (ab:=ab) (col:=col) (dd:=dd) (k0:=k0) (k1:=k1) (k2:=k2) (k3:=k3) (k5:=k5)
  excBase_ValueError (mN:=mN) (h4.hasType excBase_ValueError.hasBase) (I.ok.hd hc) (by rw[he];show(false||(backTo ci (starEach rest X.env)).any (·.1))=false;rw[mo];rfl) h3 ?_
 refine XH I hg hm ⟨Z,?_⟩ (hd:=pi);have w1:=ha ci U s σ H _ I h;rw[he]at w1 ⊢;refine ycq (yaA w1 (λus s2 q2=>?_) λ_ _ y=>y);obtain⟨vs,H',I2,rv,hl,hE⟩:=q2;refine⟨Z,?_,I2.bk _ _ h1,h2.keeps I2.bk,h4.keeps I2.bk,λh' e hm=>T U σ H' s2 h' e (.ref C) _ I2 hm hE⟩;show us.length<=sizeLine;rw[←rv.length];exact hl
end
section
variable {X:Cx}{U:List (Addr × Obj)}{σ:St}{H:Hp}{s:Shared}{h':Heap}
theorem Inv.MP{ch:List Addr}(I:Inv X U σ H s)
  (Cl:∀b∈ch,X.s₀.heap.get? b=none/\b≠X.env.locals/\(∀x c,X.env.cells.lookup x=some c->c≠b)/\∀p∈X.pn++U,p.1≠b)
  (keep:∀b o,b≠X.env.locals->b∉X.fs->b∉ch->s.heap.get? b=some o->H b=none->h'.get? b=some o)
  (slot:∀b o,b≠X.env.locals->b∈X.fs->b∉ch->s.heap.get? b=some o->H b=none->∃sl,h'.get? b=some {o with slots:=sl})
  (there:∀b o,b∉ch->s.heap.get? b=some o->∃o',h'.get? b=some o')
  (ns:∀m,s.heap.Ns X.env.locals m->h'.Ns X.env.locals m) (ag:aV X.prog X.w H h'):
  Inv X U σ H {s with heap:=h',toks:=t'}:=by
 have f':∀b o,X.s₀.heap.get? b=some o->b≠X.env.locals:=λb o e=>yal (yad (yae e) I.ok.above);have iO:∀b o,X.s₀.heap.get? b=some o->b∉ch:=λb o e hb=>by
  have z:=(Cl b hb).1;rw[e]at z;cases z
 have cellK:∀x c,X.env.cells.lookup x=some c->∀v,s.heap.IsCell c v->h'.IsCell c v:=λx c e v⟨o,ho,hd⟩=>by
  have fJ:c∉ch:=λz=>(Cl c z).2.2.1 x c e rfl
  by_cases hc:c∈X.fs
  ·obtain⟨sl,q⟩:=slot c o (I.dB x c e) hc fJ ho (I.aB x c e);exact⟨_,q,hd⟩
  ·exact⟨o,keep c o (I.dB x c e) hc fJ ho (I.aB x c e),hd⟩
 refine⟨I.ok,I.os,I.bare,⟨λb o e n hb hx=>?_,λb o e n hb hx=>?_,I.M.free,λb o e hx=>?_,I.M.bq,I.M.bc,I.M.bf⟩,?_,λx c e=>?_,I.free,I.aB,λp hp=>?_,ag,I.len⟩
 ·exact keep b o (f' b o e) hb (iO b o e) (I.M.keep b o e n hb hx) (I.M.free b o e n hx)
 ·obtain⟨sl,e1⟩:=I.M.slot b o e n hb hx;obtain⟨Ac,e2⟩:=slot b _ (f' b o e) hb (iO b o e) e1 (I.M.free b o e n hx);exact⟨Ac,e2⟩
 ·obtain⟨o',e1⟩:=I.M.there b o e hx;exact there b o' (iO b o e) e1
 ·obtain⟨m,hn,hl⟩:=I.loc;refine⟨m,ns m hn,λi x v e1 e2 e3=>?_⟩;obtain⟨u,r,l⟩:=hl i x v e1 e2 e3;refine⟨u,r,?_⟩;rcases l with l|⟨k,c,e,z⟩
  ·exact .inl l
  ·exact .inr ⟨k,c,e,cellK x c e _ z⟩
 ·obtain⟨v,z⟩:=I.cell x c e;exact⟨v,cellK x c e v z⟩
 ·obtain⟨e,n,ne,nf,d⟩:=I.pin p hp;have fJ:p.1∉ch:=λz=>(Cl p.1 z).2.2.2 p hp rfl;exact⟨keep p.1 p.2 ne nf fJ e n,n,ne,nf,d⟩
noncomputable def xB(a:Addr)(cls:Value):HO:=.ext λh=>∃o vs,h.get? a=some o/\o.cls=cls/\o.data=.fields vs
theorem MQ{cls:Value}(e:h.get? a=some o)(hc:o.cls=cls)(hd:o.data=.fields vs):JU P w H h a (xB a cls):=
 ⟨⟨o,vs,e,hc,hd⟩,⟨o,e⟩,λ_ _⟨o,vs,e,r⟩ k=>⟨o,vs,k o e,r⟩⟩
theorem Inv.wV(I:Inv X U σ H s)(hn:H a=none)(h0:X.s₀.heap.get? a=none)(hL:a≠X.env.locals)(hc:∀x c,X.env.cells.lookup x=some c->c≠a) (hp:∀p∈X.pn++U,p.1≠a)
  (new:JU X.prog X.w (upd H a o) s.heap a o):Inv X U σ (upd H a o) s:=by
 refine⟨I.ok,I.os,I.bare,⟨I.M.keep,I.M.slot,λb u e n hx=>?_,I.M.there,λb xs e=>?_,λb u xs e=>?_,λb ps e=>?_⟩,I.loc,I.cell,?_,λx c e=>?_,λp q=>?_,λb u e=>?_,I.len⟩
 ·rw[Qx λz=>by rw[z,h0]at e;cases e];exact I.M.free b u e n hx
 ·have q:=I.M.bq b xs e;rw[Qx (Qz q hn)];exact q
 ·have q:=I.M.bc b u xs e;rw[Qx (Qz q hn)];exact q
 ·obtain⟨m,q⟩:=I.M.bf b ps e;exact⟨m,by rw[Qx (Qz q hn)];exact q⟩
 ·rw[Qx hL.symm];exact I.free
 ·rw[Qx (hc x c e)];exact I.aB x c e
 ·obtain⟨e,n,r⟩:=I.pin p q;exact⟨e,by rw[Qx (hp p q)];exact n,r⟩
 ·by_cases hb:b=a
  ·subst hb;rw[Qe]at e;cases e;exact new
  ·rw[Qx hb]at e;exact(I.ag b u e).KQ (λc v _ q=>q) (λc q=>by rw[Qx (Qz q hn)];exact q) λc xs q=>by rw[Qx (Qz q hn)];exact q
end
noncomputable abbrev Cx.alt(X:Cx)(pn:List (Addr × Obj))(xe:Value->Shared->Prop):Cx:={X with pn:=pn,xe:=xe}
noncomputable abbrev Cx.marked(X:Cx)(v:Value)(xe:Value->Shared->Prop):Cx:={X with A:=X.A.mark (some v),calm:=false,xe:=xe}
section
variable {X:Cx}{U:List (Addr × Obj)}{σ:St}{H:Hp}{s:Shared}
theorem Inv.MR(I:Inv X U σ H s)(xe:Value->Shared->Prop):Inv (X.alt (X.pn++U) xe) [] σ H s:=
 ⟨⟨I.ok.mod,I.ok.kind,I.ok.glob,I.ok.blt,I.ok.above,I.ok.inj,I.ok.has,I.ok.fH,I.ok.hd,I.ok.frames,I.ok.cg,I.ok.Ab,I.ok.bs,I.ok.cH,I.ok.bF,I.ok.bX,I.ok.qc,I.ok.fI⟩,I.os,I.bare,I.M,I.loc,I.cell,I.free,I.aB,
  λp hp=>I.pin p (by simpa using hp),I.ag,I.len⟩
theorem Inv.ofAlt(I:Inv (X.alt (X.pn++U) xe) iV σ H s):Inv X U σ H s:=
 ⟨⟨I.ok.mod,I.ok.kind,I.ok.glob,I.ok.blt,I.ok.above,I.ok.inj,I.ok.has,I.ok.fH,I.ok.hd,I.ok.frames,I.ok.cg,I.ok.Ab,I.ok.bs,I.ok.cH,I.ok.bF,I.ok.bX,I.ok.qc,I.ok.fI⟩,I.os,I.bare,I.M,I.loc,I.cell,I.free,I.aB,
  λp hp=>I.pin p (lF _ hp),I.ag,I.len⟩
theorem Inv.jt(I:Inv X U σ H s)(v:Value)(xe:Value->Shared->Prop):Inv (X.marked v xe) U σ H s:=
 ⟨⟨I.ok.mod,I.ok.kind,I.ok.glob,I.ok.blt,I.ok.above,I.ok.inj,I.ok.has,I.ok.fH,(λz=>nomatch z),I.ok.frames,I.ok.cg,I.ok.Ab,I.ok.bs,I.ok.cH,I.ok.bF,I.ok.bX,I.ok.qc,I.ok.fI⟩,I.os,I.bare,I.M,I.loc,I.cell,I.free,I.aB,
  I.pin,I.ag,I.len⟩
theorem Inv.WX(I:Inv (X.marked v xe) U σ H s)(hh:X.A.handled=none):Inv X U σ H s:=
 ⟨⟨I.ok.mod,I.ok.kind,I.ok.glob,I.ok.blt,I.ok.above,I.ok.inj,I.ok.has,I.ok.fH,λ_=>hh,I.ok.frames,I.ok.cg,I.ok.Ab,I.ok.bs,I.ok.cH,I.ok.bF,I.ok.bX,I.ok.qc,I.ok.fI⟩,I.os,I.bare,I.M,I.loc,I.cell,I.free,I.aB,
  I.pin,I.ag,I.len⟩
theorem name_goes{pos:Pos}(I:Inv X U σ H s)(hN:X.N.Nodup)(hi:X.N[i]? =some n)(hl:X.env.scope.names.lookup n=some .local)
  (h:∀s',Inv X U (σ.set i none) H s'->Q () s'):wpAny qMa A (do bindName X.env n .none;unbindBehindTheSuite X.env n pos) Q E s:=by
 have hp:(X.env.scope.kind==.class||(X.env.scope.kind==.module&&X.env.locals !=X.env.globals))=false:=by rw[I.ok.kind];rfl
 have hk:X.env.kindOf n=some .local:=hl;refine yab (ycs (ZF (v:=V.aw) I hN hi (.inl hl) Z (λs1 I1=>?_) (.inr hl)));unfold unbindBehindTheSuite;refine ydi ?_;unfold unbindName;refine yab (wpAny_point (yab ?_));unfold deleteName;simp only[hk,hp];rw[yac (by decide)];obtain⟨m,hn,ig⟩:=id I1.loc;obtain⟨u,ru,lk⟩:=ig i n V.aw hi (by rw[ycN (by rw[I.len];exact(yaj.mp hi).1)]) (.inl hl);have MS:(m n).isSome=true:=by
  rcases lk with⟨_,e⟩|⟨z,_⟩
  ·rw[e];rfl
  ·have z':X.env.scope.names.lookup n=some .cell\/X.env.scope.names.lookup n=some .free:=z;rcases z' with z'|z'<;>(rw[hl]at z';cases z')
 refine yab (wpAny_nsDel_keeps hn λh' v Ea hs=>?_);rw[MS];simp only[Bool.not_true,ycJ,ycw];refine yan (wpAny_point (h _ ?_));obtain⟨oL,_,_,Hr,_⟩:=id hn;have kp:∀b o,b≠X.env.locals->s1.heap.get? b=some o->h'.get? b=some o:=λb o hb e=>(hs.2 b hb).trans e;refine⟨I1.ok,I1.os,I1.bare,⟨λb o e n hb hx=>?_,λb o e n hb hx=>?_,I1.M.free,λb o e hx=>?_,I1.M.bq,I1.M.bc,I1.M.bf⟩,⟨_,Ea,λj y w e1 e2 e3=>?_⟩,λy c e=>?_,I1.free,I1.aB,λp hp=>?_,λb ob e=>?_,?_⟩
 ·exact kp b o (yal (yad (yae e) I1.ok.above)) (I1.M.keep b o e n hb hx)
 ·obtain⟨sl,e1⟩:=I1.M.slot b o e n hb hx;exact⟨sl,kp b _ (yal (yad (yae e) I1.ok.above)) e1⟩
 ·obtain⟨o',e1⟩:=I1.M.there b o e hx;exact⟨o',kp b _ (yal (yad (yae e) I1.ok.above)) e1⟩
 ·by_cases hj:j=i
  ·subst hj;rw[List.getElem?_set]at e2;simp only[ybM]at e2
   split at e2<;>cases e2
  ·rw[ybH (Ne.symm hj)]at e2;obtain⟨u',r',q⟩:=ig j y w e1 (by rw[ybH (Ne.symm hj)];exact e2) e3;refine⟨u',r',?_⟩;rcases q with⟨k,e⟩|⟨k,c,e,z⟩
   ·refine .inl ⟨k,?_⟩;have:y≠n:=λe=>hj (Ys hN e1 (e▸hi));simp only[this,ycw];exact e
   ·exact .inr ⟨k,c,e,z.sameBut hs (I1.dB y c e)⟩
 ·obtain⟨w',z⟩:=I1.cell y c e;exact⟨w',z.sameBut hs (I1.dB y c e)⟩
 ·obtain⟨e,n,ne,nf,d⟩:=I1.pin p hp;exact⟨kp p.1 p.2 ne e,n,ne,nf,d⟩
 ·refine(I1.ag b ob e).KQ (λc w' hc q=>kp c w' ?_ q) (λ_ q=>q) λ_ _ q=>q;rintro rfl;have z:=I1.free;rcases hc with rfl|hc
  ·rw[e]at z;cases z
  ·rw[hc]at z;cases z
 ·rw[ycd];exact I.len
theorem Inv.looked{cls:Value}(I:Inv X U σ H s)(Pi:X.stack=X.env::X.L)(F:EJ s.heap a T cls)(ha:H a=none)(hT:H T=none)(f1:X.s₀.heap.get? a=none)(f2:X.s₀.heap.get? T=none)
  (dX:∀p∈X.pn++U,p.1≠a/\p.1≠T) (st:(hideAll s.heap (aI X.stack++[a,T])).StaysIn h5) (up:s.heap.UpToSlots h5):
  Inv X U σ H {s with heap:=h5,toks:=t'}:=by
 obtain⟨oe,vs,oT,ts,a0,t1,t2,t3,t4,t5,t6,t7,t8,t9⟩:=F;have two:∀b,b∈[a,T]->b=a\/b=T:=λb hb=>by simpa using hb
 have AW:∀b,b∈[a,T]->∃o vs,s.heap.get? b=some o/\o.data=.fields vs:=λb hb=>by
  rcases two b hb with rfl|rfl
  ·exact⟨_,_,t1,t3⟩
  ·exact⟨_,_,t7,t8⟩
 have oR:∀b o,s.heap.get? b=some o->b∉aI X.stack->b∉[a,T]->h5.get? b=some o:=λb o e n1 n2=>
  st b o (hideAll_get _ e λhm=>(yao.mp hm).elim n1 n2)
 have fr:∀b∈aI X.stack,∃o,s.heap.get? b=some o/\∀vs,o.data≠ .fields vs:=λb hb=>(I.stack.mem hb).2;have MT:∀b∈X.fs,b∈aI X.stack:=λb hb=>by rw[Pi];unfold aI;rw[ybT];split<;>first|exact hb|exact lG _ hb
 refine I.MP (ch:=[a,T]) (λb hb=>⟨?_,?_,λx c e z=>?_,λp hp=>?_⟩) (λb o hL hb hc e n=>?_) (λb o hL hb hc e n=>?_) (λb o hc e=>?_) (λm hm=>up.ns hm) λb u e=>?_
 ·rcases two b hb with rfl|rfl
  ·exact f1
  ·exact f2
 ·obtain⟨o,ws,e,d⟩:=AW b hb;rintro rfl;obtain⟨m,⟨o',es,ep,e',d',_⟩,_⟩:=I.loc;rw[e]at e';cases e';rw[d]at d';cases d'
 ·obtain⟨o,ws,e1,d⟩:=AW b hb;obtain⟨v,o',e',d'⟩:=I.cell x c e;rw[z,e1]at e';cases e';rw[d]at d';cases d'
 ·rcases two b hb with rfl|rfl
  ·exact(dX p hp).1
  ·exact(dX p hp).2
 ·exact oR b o e (λhm=>(yag.mp (I.KR b hm)).elim hL hb) hc
 ·obtain⟨o2,e2,d2⟩:=fr b (MT b hb);rw[e]at e2;cases e2;exact up b o e d2
 ·by_cases hm:b∈aI X.stack
  ·obtain⟨o2,e2,d2⟩:=fr b hm;obtain⟨sl,q⟩:=up b o2 e2 d2;exact⟨_,q⟩
  ·exact⟨o,oR b o e hm hc⟩
 ·refine(I.ag b u e).KQ (λc v hc q=>oR c v q (λhm=>?_) λhm=>?_) (λ_ q=>q) λ_ _ q=>q
  ·have z:=I.Ku c hm;rcases hc with rfl|hc
   ·rw[e]at z;cases z
   ·rw[hc]at z;cases z
  ·have z:H c=none:=by
    rcases two c hm with rfl|rfl
    ·exact ha
    ·exact hT
   rcases hc with rfl|hc
   ·rw[e]at z;cases z
   ·rw[hc]at z;cases z
def MU(K:Frag)(C:Addr)(i n:Nat)(tb:XK->TS)(th:TS):TS:=λD σ H=>
 tb (λcls _ H'=>exmOne K cls (.ref C)=some true/\∀a,H' a=none->
  th {nx:=λσ2 H2=>D.nx (σ2.set i none) H2,rt:=D.rt,bk:=λσ2 H2=>D.bk (σ2.set i none) H2,ct:=λσ2 H2=>D.ct (σ2.set i none) H2} ((replicate n none).set i (some (.ref a))) (upd H' a (xB a cls))) D σ H
theorem MV{body dY:List Stmt}{x nm:Str}{np dZ pos:Pos}(hc:X.calm=true)(hex:X.ex=[])(Pi:X.stack=X.env::X.L)(ij:X.env.frame=some X.env.locals)
  (hg:Gl X x) (hm:X.mg x=some (.ref C)) (hN:X.N.Nodup) (hi:X.N[i]? =some nm) (hl:X.env.scope.names.lookup nm=some .local)
  (hb:∀(E:XK)(pn:List (Addr × Obj))(xe:Value->Shared->Prop),Passes (ak X.prog X.w) (X.alt pn xe) E->aQ (X.alt pn xe) body (tb E))
  (hs:∀v:Value,aQ (X.marked v λ_ _=>False) (b₀::dY) th) (pi:(x==("__debug__":Str))=false:=by decide):
  PS X (.Try body [.ExceptHandler (some (.Name x np)) (some nm) (b₀::dY) dZ] [] [] pos) (MU X.K C i X.N.length tb th):=by
 intro U s σ H D I h;refine wpAny_Try_except ?_;have AX:Passes (ak X.prog X.w) (X.alt (X.pn++U) λe s'=>∃a T cls σ' H',e=.ref a/\Inv X U σ' H' s'/\EJ s'.heap a T cls/\H' a=none/\H' T=none/\X.s₀.heap.get? a=none/\X.s₀.heap.get? T=none/\
   (∀p∈X.pn++U,p.1≠a/\p.1≠T)/\exmOne X.K cls (.ref C)=some true/\∀a,H' a=none->
  th {nx:=λσ2 H2=>D.nx (σ2.set i none) H2,rt:=D.rt,bk:=λσ2 H2=>D.bk (σ2.set i none) H2,ct:=λσ2 H2=>D.ct (σ2.set i none) H2} ((replicate X.N.length none).set i (some (.ref a))) (upd H' a (xB a cls)))
   (λcls _ H'=>exmOne X.K cls (.ref C)=some true/\∀a,H' a=none->
  th {nx:=λσ2 H2=>D.nx (σ2.set i none) H2,rt:=D.rt,bk:=λσ2 H2=>D.bk (σ2.set i none) H2,ct:=λσ2 H2=>D.ct (σ2.set i none) H2} ((replicate X.N.length none).set i (some (.ref a))) (upd H' a (xB a cls))):=by
  intro iV σ2 H2 s2 e s' I2 q;obtain⟨a,T,cls,H',rfl,fl,n1,n2,ha,hT,os,bare,un,ag,hE⟩:=q;have I3:=I2.z8 os un ag bare λb hb=>nomatch hb;have AY:∀b,s2.heap.get? b=none->X.s₀.heap.get? b=none:=λb hb=>by
   cases q:X.s₀.heap.get? b with
   |none=>rfl
   |some o=>
    obtain⟨o',e'⟩:=I2.M.there b o q (by show b∉X.ex;rw[hex];simp);rw[hb]at e';cases e'
  have pn:∀b,s2.heap.get? b=none->∀p∈X.pn++U,p.1≠b:=λb hb p hp z=>by
   have:=(I2.pin p (lF _ hp)).1;rw[z,hb]at this;cases this
  exact⟨a,T,cls,σ2,H',Z,I3.ofAlt,fl,ha,hT,AY a n1,AY T n2,λp hp=>⟨pn a n1 p hp,pn T n2 p hp⟩,hE⟩
 refine yaA (hb _ (X.pn++U) _ AX [] s σ H D (I.MR _) h) (λf s1 q=>?_) (λe s1 q=>?_)
 ·cases f with
  |next=>obtain⟨σ',H',I',q⟩:=q;exact ycD ⟨σ',H',I'.ofAlt,q⟩
  |brk=>obtain⟨σ',H',I',q⟩:=q;exact⟨σ',H',I'.ofAlt,q⟩
  |cont=>obtain⟨σ',H',I',q⟩:=q;exact⟨σ',H',I'.ofAlt,q⟩
  |ret u=>obtain⟨v,σ',H',I',q⟩:=q;exact⟨v,σ',H',I'.ofAlt,q⟩
 ·obtain⟨a,T,cls,σ',H',rfl,I1,F1,ha,hT,f1,f2,dX,hx,hh⟩:=q;obtain⟨oe,vs,oT,ts,a0,t1,t2,t3,t4,t5,t6,t7,t8,t9⟩:=id F1;have EM:X.A.frames=some (X.env::X.L):=by rw[←Pi];exact I1.ok.frames
  have ff:s1.heap.FunFrames (hideAll s1.heap (aI X.stack++[a,T])) (X.env::X.L):=by
   have z:=Ky I1 [a,T];rw[Pi]at z ⊢;exact z
  have MW:Heap.FlyingW (hideAll s1.heap (aI X.stack++[a,T])) (X.env::X.L) a cls a0 s1.heap:=
   ⟨λb o q=>of_hideAll _ q,ydy _ (lE _ (by simp)),ff,oe,vs,T,oT,ts,t1,⟨t2,t4⟩,t3,t5,ydy _ (lE _ (by simp)),t6,t7,t8,t9⟩
  refine wpAny_looks_onW EM ij MW λh4 held MX=>?_;refine wpAny_landsW held λh5 EN MY=>?_;have AZ:s1.heap.UpToSlots h5:=MX.trans MY;have I5:Inv X U σ' H' {s1 with heap:=h5}:=I1.looked (t':=s1.toks) Pi F1 ha hT f1 f2 dX EN.1 AZ;obtain⟨oe5,vs5,e5,c5,d5,_⟩:=EN.first;refine wpAny_handleBy_cons (codeAny_handlers_test ?_) (by intro q;cases q);refine XH (X:=X.marked (.ref a) λ_ _=>False) (I5.jt (.ref a) _) hg hm ?_ (hd:=pi);have LT:Looks (model X.prog X.w) h5 (typeOf (.ref a)) cls:=by
   subst c5;exact(Looks.ld e5).andThen .now
  refine(exm_one (M:=model X.prog X.w) I5.bt LT hx).here ?_;show codeAny _ _ (.handlers (.ref a) [.ExceptHandler none (some nm) (b₀::dY) dZ] X.env) _ _;refine codeAny_handlers_suite_as ?_;refine lands_againW EN λh6 HN MZ=>?_;have EO:s1.heap.UpToSlots h6:=AZ.trans MZ;have I6:Inv X U σ' H' {s1 with heap:=h6}:=I1.looked (t':=s1.toks) Pi F1 ha hT f1 f2 dX HN.1 EO;obtain⟨M0,vs6,e6,c6,d6,_⟩:=HN.first;have aL:a≠X.env.locals:=by
   rintro rfl;obtain⟨m,⟨o',es,ep,e',d',_⟩,_⟩:=I1.loc;rw[t1]at e';cases e';rw[t3]at d';cases d'
  have aC:∀x c,X.env.cells.lookup x=some c->c≠a:=λx c e z=>by
   obtain⟨v,o',e',d'⟩:=I1.cell x c e;rw[z,t1]at e';cases e';rw[t3]at d';cases d'
  refine W9 (X:=X.marked (.ref a) λ_ _=>False) (v:=V.ref a) (I6.jt (.ref a) λ_ _=>False) hN hi (.inl hl) rfl (λs7 I7 sb=>?_) (.inr hl);have e7:s7.heap.get? a=some M0:=by
   obtain⟨b,hs,hb⟩:=sb;rw[hs.2 a ?_]
   ·exact e6
   ·rcases hb with rfl|hb
    ·exact aL
    ·exact(aC _ _ hb).symm
  have I8:Inv (X.marked (.ref a) λ_ _=>False) U ((replicate X.N.length none).set i (some (.ref a))) H' s7:=I7.weak (by rw[ycd,ycd,lN];exact I1.len.symm) λj v e=>by
   by_cases hj:j=i
   ·subst hj;rw[List.getElem?_set]at e ⊢;simp only[ybM,lN]at e ⊢
    split at e
    ·rename_i bn;rw[yaf (by rw[I1.len];exact bn)];exact e
    ·cases e
   ·rw[ybH (Ne.symm hj),ybq]at e
    split at e<;>cases e
  have I9:=I8.wV (o:=xB a cls) ha f1 aL aC (λp hp=>(dX p hp).1) (MQ e7 c6 d6);refine yaA (hs (.ref a) U s7 _ _ _ I9 (hh a ha)) (λf s8 q8=>?_) (λ_ _ z=>z.elim);have Dq:=I.ok.hd hc;cases f with
  |next=>obtain⟨σ8,H8,J,q⟩:=q8;exact name_goes (J.WX Dq) hN hi hl λs9 J9=>⟨_,_,J9,q⟩
  |brk=>obtain⟨σ8,H8,J,q⟩:=q8;exact name_goes (J.WX Dq) hN hi hl λs9 J9=>⟨_,_,J9,q⟩
  |cont=>obtain⟨σ8,H8,J,q⟩:=q8;exact name_goes (J.WX Dq) hN hi hl λs9 J9=>⟨_,_,J9,q⟩
  |ret u=>obtain⟨v,σ8,H8,J,q⟩:=q8;exact name_goes (J.WX Dq) hN hi hl λs9 J9=>⟨v,_,_,J9,q⟩
end
noncomputable def Kz(a:Addr)(q:Str):HO:=.ext λh=>∃o vs t,h.get? a=some o/\o.data=.fields vs/\vs[1]? =some (.str q t)
theorem wW(e:h.CodeRec (.ref a) q):JU P w H h a (Kz a q):=by
 obtain⟨c,o,vs,t,e1,e2,e3,e4⟩:=e;cases e1;exact⟨⟨o,vs,t,e2,e3,e4⟩,⟨o,e2⟩,λ_ _⟨o,vs,t,e,r⟩ k=>⟨o,vs,t,k o e,r⟩⟩
theorem xC(e:JU P w H h a (Kz a q)):h.CodeRec (.ref a) q:=by
 obtain⟨⟨o,vs,t,e2,e3,e4⟩,_⟩:=e;exact⟨a,o,vs,t,Z,e2,e3,e4⟩
def VW(H:Hp)(P:Addr)(q:Str):Prop:=
 ∃ps:Array Value,H P=some (.bQ ps)/\TriplesOk ps.toList/\∀pos cv,codeAmong pos ps.toList=some cv->∃a,cv=.ref a/\H a=some (Kz a q)
structure bY(mg:Str->Option Value)(M:Heap)(c P:Addr):Prop where
 hd:CodeHd M c P
 bm:∃bm ob,mg "__builtins__"=some (.ref bm)/\bm≠builtinsNs/\M.get? bm=some ob/\ob.cls=.type "module"/\ob.dict=some builtinsNs/\ob.data=.plain
theorem Uv(l:List Value)(h:TriplesOk l):TriplesOk (l++[.int a ta,.int b tb,c]):=by
 fun_induction TriplesOk l with
 |case1=>simp[TriplesOk]
 |case2 a' t b' u x rest ih=>exact ih h
 |case3=>exact h.elim
theorem zk(l:List Value)(h:TriplesOk l)(e:codeAmong p (l++[.int a ta,.int b tb,c])=some cv):codeAmong p l=some cv\/cv=c:=by
 fun_induction TriplesOk l with
 |case1=>
  simp only[lR,codeAmong]at e
  split at e
  ·cases e;exact .inr rfl
  ·cases e
 |case2 a' t b' u x rest ih=>
  simp only[lQ,codeAmong]at e ⊢
  split at e
  ·rename_i q;rw[yaf q];exact .inl e
  ·rename_i q;rw[yac q];exact ih h e
 |case3=>exact h.elim
section
variable {X:Cx}{U:List (Addr × Obj)}{σ:St}{H:Hp}{s:Shared}
theorem wX{params:Arguments}{body:Expr}{scope:Scope}{pos:Pos}{cl:List (Str × Addr)}(I:Inv X U σ H s)(qLa:bY X.mg X.M c P)(Id:X.env.code=.ref c)(hq:q=X.env.qual++"<lambda>")
  (ed:defaultsOf params X.env=([],[])) (ER:closureFor scope X.env=pure cl) (T:VW H P q)
  (h:∀f c' pm pr H' s',Inv X U σ H' s'->s'.heap.get? f=some (kla_obj "<lambda>" q params body scope cl pm c' pr)->H' f=none->s.heap.objs.size<=f->H' c'=some (Kz c' q)->VW H' P q->
   (∀b o,H b=some o->b≠P->H' b=some o)->(∀b o,s.heap.get? b=some o->b≠P->s'.heap.get? b=some o)->Q (.ref f) s'):
  wpAny (model X.prog X.w) X.A (eval (.Lambda params body scope pos) X.env) Q X.xe s:=by
 subst hq;obtain⟨ps,hP,ht,hc⟩:=T;obtain⟨bm,ob,b1,b2,b3,b4,b5,b6⟩:=qLa.bm;have Dr:s.heap.get? P=some (tabObj ps):=I.ag P _ hP;have hg:s.heap.Ns mainGlobals X.mg:=I.mod.glob.keeps I.bk;have M1:mainGlobals≠P:=λz=>by
  obtain⟨o,es,ep,e,hd,_⟩:=hg;rw[z,Dr]at e;cases e;cases hd
 have A0:=I.bk _ _ b3;have M3:bm≠mainGlobals:=λz=>by
  obtain⟨o,es,ep,e,hd,_⟩:=hg;rw[z,e]at A0;cases A0;rw[hd]at b6;cases b6
 have ik:bm≠P:=λz=>by
  rw[z,Dr]at A0;cases A0;cases b4
 have hB:s.heap.BuiltinsAt X.mg P:=⟨bm,ob,b1,b2,M3,ik,A0,b4,b5,b6⟩;refine kla_eval ed ?_;cases ha:codeAmong pos ps.toList with
 |some cv=>
  obtain⟨c',rfl,cJ⟩:=hc pos cv ha;refine kla_makeFunctionHit ER I.ok.glob hg Id (qLa.hd.keeps I.bk) Dr ht ha hB λpr h' tk k hsz=>?_;have kp:∀b o,s.heap.get? b=some o->(h'.push (kla_obj "<lambda>" (X.env.qual++"<lambda>") params body scope cl ((X.mg "__name__").getD .none) c' pr)).get? b=some o:=λb o e=>yaa _ (k b o e);exact h h'.objs.size c' _ pr H _ (I.kept kp) (yam _ Z) (I.ag.fresh hsz) hsz cJ ⟨ps,hP,ht,hc⟩ (λ_ _ e _=>e) λb o e _=>kp b o e
 |none=>
  refine kla_makeFunction ER I.ok.glob hg Id (qLa.hd.keeps I.bk) Dr ht ha M1 hB λc' pr h' tk ext ck bn oS HQ=>?_;have kp:∀b o,s.heap.get? b=some o->b≠P->(h'.push (kla_obj "<lambda>" (X.env.qual++"<lambda>") params body scope cl ((X.mg "__name__").getD .none) c' pr)).get? b=some o:=λb o e n=>yaa _ (ext b o n e);have ES:H c'=none:=I.ag.fresh ck;have M4:c'≠P:=λz=>by rw[z,hP]at ES;cases ES
  have Hk:∀b o,H b=some o->b≠P->upd (upd H P (.bQ (ps++ #[rawInt pos.line,rawInt pos.col,.ref c']))) c' (Kz c' (X.env.qual++"<lambda>")) b=some o:=λb o e n=>by
   rw[Qx (Qz e ES),Qx n];exact e
  have HP:upd (upd H P (.bQ (ps++ #[rawInt pos.line,rawInt pos.col,.ref c']))) c' (Kz c' (X.env.qual++"<lambda>")) P=some (.bQ (ps++ #[rawInt pos.line,rawInt pos.col,.ref c'])):=by
   rw[Qx M4.symm,Qe]
  have hsz:s.heap.objs.size<=h'.objs.size:=ybi (yba ck bn);refine h h'.objs.size c' _ pr (upd (upd H P (.bQ (ps++ #[rawInt pos.line,rawInt pos.col,.ref c']))) c' (Kz c' (X.env.qual++"<lambda>"))) _ (I.un (t':=tk) ⟨λb o e n hb hx=>?_,λb o e n hb hx=>?_,λb o e n hx=>?_,λb o e hx=>?_,λb xs e=>?_,λb o u e=>?_,λb qs e=>?_⟩ λb u e=>?_) (yam _ Z) ?_ hsz (Qe) ⟨_,HP,?_,λp cv e=>?_⟩ Hk λb o e n=>kp b o e n
  ·exact kp b o e λz=>by rw[z,hP]at n;cases n
  ·exact⟨o.slots,kp b o e λz=>by rw[z,hP]at n;cases n⟩
  ·have n1:b≠P:=λz=>by rw[z,hP]at n;cases n
   have n2:b≠c':=yal (yad (yae e) ck);rw[Qx n2,Qx n1];exact n
  ·by_cases z:b=P
   ·exact⟨_,by rw[z];exact yaa _ HQ⟩
   ·exact⟨o,kp b o e z⟩
  ·exact Hk b _ e λz=>by rw[z,hP]at e;cases e
  ·exact Hk b _ e λz=>by rw[z,hP]at e;cases e
  ·by_cases z:b=P
   ·subst z;rw[hP]at e;cases e;exact⟨_,HP⟩
   ·exact⟨#[],by rw[Hk b _ e z];simp⟩
  ·by_cases z1:b=c'
   ·subst z1;rw[Qe]at e;cases e;exact wW (oS.keeps λb o e=>yaa _ e)
   ·by_cases z2:b=P
    ·subst z2;rw[HP]at e;cases e;exact(yaa _ HQ:_)
    ·rw[Qx z1,Qx z2]at e;refine(I.ag b u e).KQ (λd v hd q'=>kp d v q' λz=>?_) (λd q'=>Hk d _ q' λz=>by rw[z,hP]at q';cases q') λd xs q'=>Hk d _ q' λz=>by rw[z,hP]at q';cases q'
     rcases hd with rfl|hd
     ·exact z2 z
     ·rw[z,hP]at hd;cases hd
  ·have n2:h'.objs.size≠c':=ybA bn;have n0:H h'.objs.size=none:=I.ag.fresh hsz;have n1:h'.objs.size≠P:=λz=>by rw[z,hP]at n0;cases n0
   show upd _ _ _ _=none;rw[Qx n2,Qx n1];exact n0
  ·rw[Array.toList_append];exact Uv _ ht
  ·rw[Array.toList_append]at e;rcases zk _ ht e with e|rfl
   ·obtain⟨a,rfl,ET⟩:=hc p cv e;exact⟨a,Z,Hk a _ ET λz=>by rw[z,hP]at ET;cases ET⟩
   ·exact⟨c',Z,Qe⟩
end
noncomputable def zl(P:Program)(w:World)(K:Frag)(mg:Str->Option Value)(M:Heap)(N:List Str)(q:Str)(scope:Scope)(f c':Addr)(cl:List (Str × Addr))(A:Around)(L:List Env)(s:Shared)(H:Hp)(E:XK):Cx where
 prog:=P
 w:=w
 K:=K
 mg:=mg
 M:=M
 A:=A.deeper (envX q scope s.heap.objs.size f (.ref c') cl)
 N:=N
 s₀:=s
 H₀:=H
 env:=envX q scope s.heap.objs.size f (.ref c') cl
 L:=L
 stack:=envX q scope s.heap.objs.size f (.ref c') cl::L
 ex:=[]
 calm:=true
 fn:=λ_=>false
 pn:=[]
 xe:=λe s'=>wpAny (model P w) (A.deeper (envX q scope s.heap.objs.size f (.ref c') cl)) (leaving (envX q scope s.heap.objs.size f (.ref c') cl) e) (λ_ dS=>ak P w L H s E e dS) (λe' dS=>ak P w L H s E e' dS) s'
theorem WY{K:Frag}{M:Heap}{N:List Str}{q:Str}{scope:Scope}{cl:List (Str × Addr)}{L:List Env}{H:Hp}{E:XK}:
  ie (zl P w K mg M N q scope f c' cl A L s H E) E:=⟨Z,Z,Z,λ_ _ h=>h⟩
structure CellsOk(N:List Str)(σ:St)(scope:Scope)(cl:List (Str × Addr))(H:Hp)(fs:List Addr)(h:Heap):Prop where
 inj:∀x y c,cl.lookup x=some c->cl.lookup y=some c->x=y
 has:∀x,scope.names.lookup x=some .free->∃c,cl.lookup x=some c
 none_:∀y∈scope.names,y.2≠ .local/\y.2≠ .cell
 cell:∀x c,cl.lookup x=some c->H c=none/\c∉fs/\∃v,h.IsCell c v
 val:∀(i:Nat)(x:Str)(v:V),N[i]? =some x->σ[i]? =some (some v)->scope.names.lookup x=some .free->∃u c,RelV v u/\cl.lookup x=some c/\h.IsCell c (some u)
section
variable {X:Cx}{U:List (Addr × Obj)}{σ1:St}{H:Hp}{s:Shared}
theorem wY{params:Arguments}{body:Expr}{scope:Scope}{cl:List (Str × Addr)}{pm pr:Value}(I:Inv X U σ1 H s)(hh:X.A.handled=none)(hr:ao (k+1) X.A)
  (ho:s.heap.get? f=some (kla_obj "<lambda>" q params body scope cl pm c' pr)) (cJ:H c'=some (Kz c' q)) (hk:scope.kind=.function) (M5:scope.isCoroutine=false) (EU:scope.isGenerator=false)
  (Do:bindArgs (kla_fn "<lambda>" q params body scope cl pm (.ref c') pr) ⟨[],[]⟩=pure []) (hlen:σ.length=N.length)
  (C:CellsOk N σ scope cl H (aI X.stack) s.heap) (hx:Passes (ak X.prog X.w) X E)
  (hb:ao k (X.A.deeper (envX q scope s.heap.objs.size f (.ref c') cl))->PE (zl X.prog X.w X.K X.mg X.M N q scope f c' cl X.A X.stack s H E) body te) (h:te σ H Q):
  wpAny (model X.prog X.w) X.A (call (.ref f) []) (EP X U σ1 Q) X.xe s:=by
 have GT:∀x∈scope.names,x.2≠ .cell:=λx hx=>(C.none_ x hx).2;refine ydk (ycA (R:=CR (ak X.prog X.w) X.stack X.prog X.w H s Q E) ?_ λr s' hq=>?_)
 ·refine kla_callFunE hr.depth ho rfl M5 EU rfl (xC (I.ag c' _ cJ)) ?_;rw[Do];refine yan (wpAny_newFunctionEnv GT (λy hy=>nomatch hy) (λh₁ Ds HR=>⟨I.nolimit.fresh _ HR,?_⟩) hk);show codeAny _ _ (.expr body (envX q scope s.heap.objs.size f (.ref c') cl)) _ _;have Dt:∀b o,s.heap.get? b=some o->h₁.get? b=some o:=λb o e=>HR.extBut b o (yal (yae e)) (yaa _ e);have De:∀x,Aa scope x->scope.names.lookup x=some .free:=λx hv=>by
   rcases hv with z|z|z
   ·exact absurd rfl (C.none_ _ (yax z)).1
   ·exact absurd rfl (C.none_ _ (yax z)).2
   ·exact z
  have J:Inv (zl X.prog X.w X.K X.mg X.M N q scope f c' cl X.A X.stack s H E) [] σ H {s with heap:=h₁,toks:=s.toks+([]:List (Str × Value)).length}:=by
   refine⟨⟨I.ok.mod,hk,Z,Z,lA _,C.inj,λx f8=>?_,(λx c z _=>nomatch z),λ_=>hh,Around.frames_deeper I.ok.frames,.inr ⟨Z,Z⟩,λb z=>absurd (show b∈([]:List Addr)from z) (by simp),I.bs,yas I.ok.cH I.sz,λb _ _ z=>absurd (show b∈([]:List Addr)from z) (by simp),λb z=>absurd (show b∈([]:List Addr)from z) (by simp),I.stack,I.Ku⟩,
    Z,I.bare,Un.kept Dt,⟨_,Ds,λi x v h1 h2 h3=>?_⟩,λx c e=>?_,I.ag.fresh (lA _),λx c e=>(C.cell x c e).1,λp hp=>absurd (show p∈([]:List (Addr × Obj))from hp) (by simp),I.ag.kept Dt,hlen⟩
   ·have EV:scope.names.lookup x=some .cell\/scope.names.lookup x=some .free:=f8;rcases EV with z|z
    ·exact absurd rfl (C.none_ _ (yax z)).2
    ·exact C.has x z
   ·obtain⟨u,c,r,e,⟨o,e1,e2⟩⟩:=C.val i x v h1 h2 (De x h3);exact⟨u,r,.inr ⟨.inr (De x h3),c,e,⟨o,Dt _ _ e1,e2⟩⟩⟩
   ·obtain⟨_,_,v,o,e1,e2⟩:=C.cell x c e;exact⟨v,o,Dt _ _ e1,e2⟩
  refine kla_codeExpr (yaA (hb (hr.deeper _) [] _ σ H Q J h) (λv s' hq=>?_) λe s' hq=>hq);obtain⟨y,H',J',r,q'⟩:=hq;exact⟨y,H',J'.os,J'.bare,J'.M,J'.ag,r,q'⟩
 ·cases r with
  |error e=>exact hx U σ1 H s e s' I hq
  |ok fl=>
   cases fl with
   |ret u=>exact I.after hq
   |next=>exact False.elim hq
   |brk=>exact False.elim hq
   |cont=>exact False.elim hq
end
theorem M6{CX:dE}{K:Frag}{M:Heap}{k:Nat}{name qual:Str}{params:Arguments}{body:List Stmt}{scope:Scope}{dV kV doc pm ad ct oc:Value}{an od:Option Addr}
  {mt:Array (Option Value)} {N ps:List Str}  {L:List Env}  {H:Hp} {args:Args} {us:List Value} {vs:List V} {Q:VK} {E:XK}
  (lk:K.lookup f=some ⟨oc,od,.func (fnOf name qual params body scope dV kV doc pm an ad ct),mt⟩) (GM:codeIn K ad qual=true) (S:aa N ps scope)
  (hr:ao (k+1) A) (e0:dR P w K mg M A L s H) (hb:BindsTo s (fnOf name qual params body scope dV kV doc pm an ad ct) args (ps.zip us)) (r:Vals vs us) (hl:vs.length=ps.length)
  (bv:ao k (A.deeper (envOfC qual scope s.heap.objs.size f ad))->
   ∃t,aQ (Z2 CX P w K mg M N qual scope f ad A L s H E) body t/\t {nx:=λ_ H'=>Q .aw H',rt:=Q} (start N vs) H):
  codeAny (model P w) A (.call (.ref f) args) (CR CX L P w H s Q E) s:=by
 have KX:K.In s.heap:=e0.mod.iN.keeps λb o e=>(e0.bs b o e).1;have lim:s.heap.NoLimit:=e0.mod.nolimit.keeps λb o e=>(e0.bs b o e).1;have dU:∀y∈ps.zip us,scope.names.lookup y.1=some .local\/(scope.names.lookup y.1=some .cell/\((cellsFrom (s.heap.objs.size+1) scope.names []).lookup y.1).isSome=true):=λ⟨n,v⟩ hy=>by
  rcases S.par n (ydp hy).1 with q|q
  ·exact .inl q
  ·exact .inr ⟨q,cellsFrom_some _ _ _ (.inl q)⟩
 refine codeAny_call_function hr.depth (KX _ _ lk) rfl S.co S.gen rfl (codeRec_of KX GM) (hb _ _ _ _ ?_);refine ydx S.kind dU λenv he s1 x=>?_;subst he;refine⟨lim.keeps x.toInCall.keep,codeAny_func ?_⟩;obtain⟨t,ht,hq⟩:=bv (hr.deeper _);have I:Inv (Z2 CX P w K mg M N qual scope f ad A L s H E) [] (start N vs) H s1:=Uo S hr.hd e0 hl r x;refine yaA (ht [] s1 (start N vs) H _ I hq) (λfl s' hs=>?_) λe s' hs=>hs;have fin:∀{σ':St}{H':Hp}{v:V}{u:Value},Inv (Z2 CX P w K mg M N qual scope f ad A L s H E) [] σ' H' s'->RelV v u->Q v H'->CE L P w H s Q u s':=
  λ{σ' H' v u} J rv q=>⟨v,H',J.os,J.bare,J.M,J.ag,rv,q⟩
 cases fl with
 |ret u=>
  obtain⟨v,σ',H',J,rv,q⟩:=hs;exact fin J rv q
 |next=>
  obtain⟨σ',H',J,q⟩:=hs;exact fin (v:=V.aw) (u:=Value.none) J rfl q
 |brk=>
  obtain⟨_,_,_,q⟩:=hs;exact False.elim q
 |cont=>
  obtain⟨_,_,_,q⟩:=hs;exact False.elim q
structure bG(X:Cx)(N:List Str)(σ:St)(q:Str)(params:Arguments)(body:Expr)(scope:Scope)(f c':Addr)(cl:List (Str × Addr))(pm pr:Value):Prop where
 ob:X.s₀.heap.get? f=some (kla_obj "<lambda>" q params body scope cl pm c' pr)
 un:X.H₀ f=none
 fr:f∉X.fs
 code:X.H₀ c'=some (Kz c' q)
 kind:scope.kind=.function
 co:scope.isCoroutine=false
 gen:scope.isGenerator=false
 bind:bindArgs (kla_fn "<lambda>" q params body scope cl pm (.ref c') pr) ⟨[],[]⟩=pure []
 len:σ.length=N.length
 cells:CellsOk N σ scope cl X.H₀ X.fs X.s₀.heap
def M7(i:Nat)(f c':Addr)(q:Str)(σ:St)(te:TE):TE:=λσ1 H Q=>σ1[i]? =some (some (.ref f))/\H c'=some (Kz c' q)/\te σ H Q
section
theorem M8{p pos:Pos}{params:Arguments}{body:Expr}{scope:Scope}{cl:List (Str × Addr)}{pm pr:Value}
  (qLa:bG X N σ q params body scope f c' cl pm pr) (hex:X.ex=[]) (Ba:X.calm=true) (hN:X.N[i]? =some x) (hv:Aa X.env.scope x) (hr:ao (k+1) X.A) (hx:Passes (ak X.prog X.w) X E)
  (ig:∀x c,cl.lookup x=some c->c<X.s₀.heap.objs.size)
  (hb:∀s H,ao k (X.A.deeper (envX q scope s.heap.objs.size f (.ref c') cl))->PE (zl X.prog X.w X.K X.mg X.M N q scope f c' cl X.A X.stack s H E) body te)
  (hd:(x==("__debug__":Str))=false:=by decide) (GM:(x==("__classdict__":Str))=false:=by decide):PE X (.Call (.Name x p) [] [] pos) (M7 i f c' q σ te):=by
 intro U s σ1 H Q I h;obtain⟨h1,h2,h3⟩:=h;have TW:∀b:Addr,b∉X.ex:=λb z=>by rw[hex]at z;cases z
 have ho:=I.M.keep f _ qLa.ob qLa.un qLa.fr (TW f);refine yaZ (au (yz (X:=X) hN hv hd GM U s σ1 H (λv H'=>v=.ref f/\H'=H) I ⟨_,h1,Z,Z⟩) λu s1⟨v,H',I1,rv,e,e2⟩=>?_);subst e e2;obtain rfl:u=Value.ref f:=rv;have Ai:=I1.M.keep f _ qLa.ob qLa.un qLa.fr (TW f);have f':∀b,b<X.s₀.heap.objs.size->b≠X.env.locals:=λb hb=>yal (yad hb I1.ok.above);refine callWith_of (P:=λh=>h=s1.heap) rfl (λh e=>⟨.frame,.inl rfl,by subst e;exact(Looks.ld (part:=none) Ai).andThen .now⟩) (PyProof.Rows.evalArgs_nil3 ⟨Z,?_⟩);refine wY I1 (I1.ok.hd Ba) hr Ai h2 qLa.kind qLa.co qLa.gen qLa.bind qLa.len ?_ hx (hb s1 H') h3;refine⟨qLa.cells.inj,qLa.cells.has,qLa.cells.none_,λx c e=>?_,λj y v e1 e2 e3=>?_⟩
 ·obtain⟨a1,a2,v,o,a3,a4⟩:=qLa.cells.cell x c e;refine⟨I1.M.free c o a3 a1 (TW c),λz=>?_,v,o,I1.M.keep c o a3 a1 a2 (TW c),a4⟩;rcases yag.mp (I1.KR c z)with z|z
  ·exact f' c (ig x c e) z
  ·exact a2 z
 ·obtain⟨u,c,r,e,o,a3,a4⟩:=qLa.cells.val j y v e1 e2 e3;obtain⟨a1,a2,_⟩:=qLa.cells.cell y c e;exact⟨u,c,r,e,o,I1.M.keep c o a3 a1 a2 (TW c),a4⟩
theorem ju(h:i.natAbs<2^2000):Builtin.Int.intBits i<=2^20:=yas (intBits_le h) (by decide)
def M9(i j:Int):Prop:=i.natAbs<2^2000/\j.natAbs<2^2000
theorem Yy:aS X (binaryOp .Mult) (rI M9 λi j=>.int (i*j)):=Af λ_ _ _ _ _ _ _ hc q=>mul_int q (IntMulOk.of_bits (ju hc.1) (ju hc.2))
def M'(i j:Int):Prop:=0<j/\j.natAbs<2^2000
theorem Yz:aS X (binaryOp .FloorDiv) (rI M' λi j=>.int (i/j)):=Af λi j _ _ _ _ _ hc q=>by
 have hp:Builtin.divisionGoesByPylong i j=false:=PyProof.noPylong_of_log2 (by
  by_cases h0:j.natAbs=0
  ·rw[h0];decide
  ·have:=(ydr h0).mpr hc.2;lia)
 refine floordiv_int (ybR hc.1) ?_ (.inl hp);rw[yco _ (ycB hc.1)];exact q
noncomputable def VX(x:Str)(n:Nat):Str:=⟨(replicate n x.cps).foldl (· ++ ·) #[]⟩
theorem zm:aS X (binaryOp .Mult) (λx y H Q=>∃z n,x=.str z/\y=.int n/\0<=n/\z.length*n.toNat<=sizeLine/\n<2^40/\Q (.str (VX z n.toNat)) H):=by
 intro U s σ H x y v u Q I rx ry h;obtain⟨z,n,rfl,rfl,h0,hl,hn,q⟩:=h;obtain⟨t,rfl⟩:=rx;obtain⟨t',rfl⟩:=ry;have hlen:∀k:Nat,(VX z k).cps.toList=(replicate k z.cps.toList).flatten:=λk=>by
  unfold VX;have:∀(l:List (Array Nat))(acc:Array Nat),(l.foldl (· ++ ·) acc).toList=acc.toList++(l.map (·.toList)).flatten:=by
   intro l
   induction l with
   |nil=>intro acc;simp
   |cons a r ih=>intro acc;rw[ycI,ih];simp
  rw[this];simp
 refine PySem.P.mul_str ?_ ?_ ?_ ?_
 ·rw[lx (by lia),lx (by lia)];rfl
 ·intro h1 h2 h3;have:(z.length:Int)*n<=2^63-1:=by
   have e:((z.length*n.toNat:Nat):Int)=(z.length:Int)*n:=by push_cast;rw[Int.toNat_of_nonneg h0]
   have:=KZ;lia
  have:=(Int.le_ediv_iff_mul_le (by lia:0<n)).mpr this;lia
 ·intro h1 h2;have:=hl;exact lx (yeC.mpr hl)
 ·by_cases h1:n<1
  ·rw[yaf h1];have e:VX z n.toNat=Str.empty:=by rw[show n=0 by lia];rfl
   exact⟨by decide,.str (VX z n.toNat),H,I.tok _,⟨_,by rw[e]⟩,q⟩
  ·rw[yac h1]
   by_cases h2:(n==1||z.length==0)=true
   ·rw[yaf h2];have e:VX z n.toNat=z:=by
     have:(VX z n.toNat).cps.toList=z.cps.toList:=by
      rw[hlen];simp only[Bool.or_eq_true,yck]at h2;rcases h2 with h2|h2
      ·rw[h2];simp
      ·have:z.cps.toList=[]:=by
        have h3:z.cps.size=0:=h2;rw[Array.eq_empty_of_size_eq_zero h3]
       rw[this];simp
     have:(VX z n.toNat).cps=z.cps:=by rw[←Array.toList_inj];exact this
     cases z;cases hh:VX _ n.toNat;rw[hh]at this;simp only at this;rw[this]
    exact⟨.str (VX z n.toNat),H,I,⟨t,by rw[e]⟩,q⟩
   ·rw[yac h2];refine⟨?_,.str (VX z n.toNat),H,I.tok _,⟨_,Z⟩,q⟩;show(VX z n.toNat).cps.size<=sizeLine;rw[←lV,hlen,List.length_flatten,List.map_replicate,List.sum_replicate_nat];have e:z.cps.toList.length=z.length:=by rw[lV];rfl
    rw[e,ydB];exact hl
theorem Q8:Wj X (.type "int") (λxs H Q=>∃x n,xs=[.str x]/\PySem.intText? x=some n/\x.length<=640/\Q (.int n) H):=by
 intro U s σ H xs us Q I r h;obtain⟨x,n,rfl,hn,hl,q⟩:=h;obtain⟨u,rfl,t,rfl⟩:=vals1 r;exact PySem.W.KIN.call_text hn hl ⟨.int n,H,I.tok _,⟨_,Z⟩,q⟩
inductive eg (K:Frag) (H:Hp):Nat->V->V->Bool->Prop where
 |flat {n:Nat} {x y:V} (fx:XF x=true) (fy:XF y=true):eg K H n x y (bU x y)
 |tup {n:Nat} {a b:Addr} {xs ys:List V} {e:Nat->Bool} (ne:a≠b) (ha:ai K H a xs) (hb:ai K H b ys) (he:∀j x y,xs[j]? =some x->ys[j]? =some y->eg K H n x y (e j)):
   eg K H (n+1) (.ref a) (.ref b) ((List.range (min xs.length ys.length)).all e&&xs.length==ys.length)
theorem Vi{U:List (Addr × Obj)}{σ:St}{H:Hp}{s:Shared}{A:Around}{xs ys:List V}{ap Da:List Value}{e:Nat->Bool}{n:Nat}(r1:Vals xs ap)(r2:Vals ys Da)
  (he:∀j x y u v,xs[j]? =some x->ys[j]? =some y->RelV x u->RelV y v->SeqAt.EqAt A s u v (e j)):∀j(h1:j<ap.toArray.size)(h2:j<Da.toArray.size),SeqAt.EqAt A s ap.toArray[j] Da.toArray[j] (e j):=by
 intro j h1 h2;have l1:=r1.length;have l2:=r2.length;rw[lW]at h1 h2;have k1:xs[j]? =some xs[j]:=yah (by lia);have k2:ys[j]? =some ys[j]:=yah (by lia);obtain⟨u,e1,q1⟩:=r1.get k1;obtain⟨v,e2,q2⟩:=r2.get k2;have z1:ap.toArray[j]=u:=by
  rw[yah h1]at e1;simpa using lB e1
 have z2:Da.toArray[j]=v:=by
  rw[yah h2]at e2;simpa using lB e2
 rw[z1,z2];exact he j _ _ u v k1 k2 q1 q2
theorem eg.at{U:List (Addr × Obj)}{σ:St}(I:Inv X U σ H s){n:Nat}{k:Bool}(d:eg X.K H n x y k):∀{A:Around}{u v:Value},A.units+n<cLine->RelV x u->RelV y v->SeqAt.EqAt A s u v k:=by
 induction d with
 |flat fx fy=>intro A u v _ rx ry;exact yF rx ry fx fy
 |@tup n a b xs ys e ne ha hb he ih=>
  intro A u v hu rx ry;obtain rfl:u=Value.ref a:=rx;obtain rfl:v=Value.ref b:=ry;obtain⟨ap,r1,p1,_⟩:=I.tuple ha;obtain⟨Da,r2,p2,_⟩:=I.tuple hb;have l1:=r1.length;have l2:=r2.length;have z:=SeqAt.RcAt.tuples (A:=A) (s:=s) (e:=e) p1 p2 (by lia) (Vi (U:=U) (σ:=σ) (H:=H) (n:=n) r1 r2 λj x y u v h1 h2 q1 q2=>ih j x y h1 h2 (A:=A.in1) (by show A.units+1+n<cLine;lia) q1 q2);rw[lW,lW, ←l1, ←l2]at z;exact .of_refs ne z
def HS(K:Frag)(n:Nat)(neg:Bool):R2:=λx y H Q=>∃a b xs ys e k,x=.ref a/\y=.ref b/\ai K H a xs/\ai K H b ys/\(∀j x y,xs[j]? =some x->ys[j]? =some y->eg K H n x y (e j))/\
 ((List.range (min xs.length ys.length)).all e&&xs.length==ys.length)=k/\Q (.bl (if neg then !k else k)) H
theorem jv(hu:X.A.units+1+n<cLine):aS X (compareOp .NotEq) (HS X.K n true):=by
 intro U s σ H x y v u Q I rx ry h;obtain⟨a,b,xs,ys,e,k,rfl,rfl,ha,hb,he,hk,q⟩:=h;obtain rfl:v=Value.ref a:=rx;obtain rfl:u=Value.ref b:=ry;obtain⟨ap,r1,p1,_⟩:=I.tuple ha;obtain⟨Da,r2,p2,_⟩:=I.tuple hb;have l1:=r1.length;have l2:=r2.length;refine SeqAt.RcNeAt.tuples (e:=e) p1 p2 (by lia) (Vi (U:=U) (σ:=σ) (H:=H) (n:=n) r1 r2 λj x y u v h1 h2 q1 q2=>(he j x y h1 h2).at I (A:=X.A.in1) (by show X.A.units+1+n<cLine;lia) q1 q2) X.prog X.w X.xe _ ?_;rw[lW,lW, ←l1, ←l2,hk];exact⟨.bl (!k),H,I,Z,q⟩
def Na:V->List V->Hp->VK->Prop:=λx vs H Q=>∃l xs y,x=.ref l/\vs=[y]/\H l=some (.lst xs)/\XF y=true/\xs.all XF=true/\Q (.int (xs.countP λz=>bU z y)) H
theorem Yg:∀{xs:List V}{us:List Value},Vals xs us->xs.all XF=true->us.countP (bR y)=xs.countP λz=>bU z y
 |_,_,.nil,_=>rfl
 |x::xs,u::us,.cons r t,h=>by
  rw[ydg,yaO]at h;rw[List.countP_cons,List.countP_cons,Yg t h.2,jo r h.1]
theorem wZ:cN X "list.count" Na:=by
 intro U s σ H x vs v us Q I rx rv h;obtain⟨l,xs,y,rfl,rfl,hH,fy,fs,q⟩:=h;obtain rfl:v=Value.ref l:=rx;obtain⟨u,rfl,ru⟩:=vals1 rv;obtain⟨z,ap,n,r,hl,e⟩:=I.wQ hH;refine ycT slot_list_count ⟨_,e,Z⟩ entry_list_count (args_list_count_2 _ _) (SeqAt.list_countAt l ap.toArray n none #[] u (bR y)) ⟨e,λw hw=>Xq ru fy r fs w (by simpa using hw),?_⟩;rw[show ap.toArray.toList=ap from rfl,Yg r fs];exact⟨.int _,H,I.tok _,⟨_,Z⟩,q⟩
def Nb:V->List V->Hp->VK->Prop:=λx vs H Q=>∃l xs y j,x=.ref l/\vs=[y]/\H l=some (.lst xs)/\XF y=true/\xs.all XF=true/\(∃z,xs[j]? =some z/\bU z y=true)/\(∀i z,i<j->xs[i]? =some z->bU z y=false)/\Q (.int (j:Nat)) H
theorem w4:cN X "list.index" Nb:=by
 intro U s σ H x vs v us Q I rx rv h;obtain⟨l,xs,y,j,rfl,rfl,hH,fy,fs,⟨zj,hz,hit⟩,cZ,q⟩:=h;obtain rfl:v=Value.ref l:=rx;obtain⟨u,rfl,ru⟩:=vals1 rv;obtain⟨z,ap,n,r,hl,e⟩:=I.wQ hH;have hj:j<xs.length:=(yaj.mp hz).1;have at_:∀(i:Nat)(hi:i<ap.toArray.size)(w:V),xs[i]? =some w->bR y ap.toArray[i]=bU w y:=λi hi w hw=>by
  obtain⟨w',e1,q1⟩:=r.get hw;have Nc:i<ap.length:=by simpa using hi
  rw[yah Nc]at e1;have z1:ap.toArray[i]=w':=by simpa using lB e1
  rw[z1];refine jo q1 ?_;exact yby.mp fs w (lM hw)
 have hsz:ap.toArray.size=xs.length:=by rw[lW];exact hl.symm
 refine ycT slot_list_index ⟨_,e,Z⟩ entry_list_index (args_list_index_2 _ _)
  (SeqAt.list_indexAt l ap.toArray n none #[] u (bR y) j (by lia) (by have:=KZ;lia) ?_ ?_) ⟨e,λw hw=>Xq ru fy r fs w (by simpa using hw),⟨.int _,H,I.tok _,⟨_,Z⟩,q⟩⟩
 ·rw[at_ j (by lia) zj hz];exact hit
 ·intro m hm bn;have:xs[m]? =some xs[m]:=yah (by lia);rw[at_ m hm _ this];exact cZ m _ bn this
end
structure bB(K:Frag)(C:Addr):Prop where
 ex:excIn K C [.type "ValueError",.type "Exception",.type "BaseException",.type "object"] "ValueError.__new__"=true
 ga:findIn K (.ref C) "__getattribute__"=some (some (.builtin "BaseException.__getattribute__"))
 gn:findIn K (.ref C) "__getattr__"=some none
 cl:findIn K (.ref C) "__class__"=some (some (.builtin "object.__class__"))
theorem bB.err{K:Frag}(e:bB K C):iU K C:=⟨e.ex⟩
theorem YA{K:Frag}(KX:K.In h)(e:iU K C):∃bm N nm q bs hdct sn sub ab col dd k0 k1 k2 k3 k5,h.get? C=some (excClassObj nm q C N bs bm hdct sn sub ab col dd k0 k1 k2 k3 k5 "ValueError.__new__")/\
  OwnTail h [.type "ValueError",.type "Exception",.type "BaseException",.type "object"] bm:=by
 have q:=e.ex;unfold excIn at q
 split at q
 ·rename_i dd cd sl ho
  split at q
  ·rename_i C' bm k0 k1 k2 k3 n k5 hm hs;simp only[yaO,yck,ybO]at q;obtain⟨⟨⟨⟨⟨rfl,rfl⟩,dW⟩,ht⟩,ag⟩,Dp⟩:=q;obtain⟨nm,bs,mro,ns,qn,hd,sn,sub,ab,col,del⟩:=cd;dsimp only at hm dW ag Dp;subst hm dW;have dc:sl= #[k0,k1,k2,k3,some (.builtin "ValueError.__new__"),k5]:=by
    obtain⟨l⟩:=sl;simp only at hs;rw[hs]
   subst dc;exact⟨bm,ns,nm,qn,bs,hd,sn,sub,ab,col,dd,k0,k1,k2,k3,k5,KX _ _ ho,tail_of_in KX ht⟩
  ·cases q
 ·cases q
section
variable {prog:Program}{w:World}{A:Around}{E:Value->Shared->Prop}{h:Heap}{g:Array GenState}{d:Drawn}{t:Nat}{os:OsState}{K:Frag}{a C:Addr}{o:Obj}
theorem YB(KX:K.In h)(e:bB K C)(hx:h.get? a=some o)(hc:o.cls=.ref C)(hq:R (.ok (.ret (.ref C))) ⟨h,g,d,t,os⟩):
  codeAny (model prog w) A (.call (.builtin "getset_descriptor.__get__") ⟨[.builtin "object.__class__",.ref a,.ref C],[]⟩) R ⟨h,g,d,t,os⟩:=by
 obtain⟨bm,N,nm,q,bs,hdct,sn,sub,ab,col,dd,k0,k1,k2,k3,k5,hC,T⟩:=YA KX e.err;have HU:(⟨h,g,d,t,os⟩:Shared).TypeIs (.builtin "object.__class__") "getset_descriptor":=ycY;have dG:(Value.ref C::bm).contains (.type (".".intercalate ("object.__class__".cutAt '.').dropLast))=true:=by
  rw[F.owner_object_class,ycK,T.hasType (X:="object") (b:=true) (by decide)];rfl
 refine ycr F.slot_gs_get.plain F.entry_gs_get (F.slot_gs_get.check _ _ _ _ _ _ _ _ HU (F.args_gs_get _ _ _) ?_)
 repeat (any_goals (first|assumption|(with_reducible refine ycl hx ?_;rw[hc])|(with_reducible refine wpAny_isSubtype_exc hC ?_;rw[dG])|wp_step))
 refine⟨Code.quiet_builtin _ (by decide+kernel),yeg F.entry_object_class ?_⟩
 repeat (any_goals (first|assumption|(with_reducible refine ycl hx ?_;rw[hc])|wp_step))
theorem Vj{tk:Tok}(KX:K.In h)(e:bB K C)(hx:h.get? a=some o)(hc:o.cls=.ref C)(hq:Q (.done (.ret (.ref C))) ⟨h,g,d,t,os⟩):
  wpAny (model prog w) A (Builtin.«object.__getattribute__» ⟨[.ref a,.str "__class__" tk],[]⟩) Q E ⟨h,g,d,t,os⟩:=by
 have qLa:=looks_findIn (M:=model prog w) KX e.cl;have HU:(⟨h,g,d,t,os⟩:Shared).TypeIs (.builtin "object.__class__") "getset_descriptor":=ycY;have f5:=ycY;have f6:=F.slot_gs_get.lookup;have f7:=F.slot_gs_set.lookup
 repeat (any_goals (first|assumption|(with_reducible refine ycl hx ?_;rw[hc])|with_reducible refine Looks.at qLa ?_|wp_step))
 refine YB KX e hx hc ?_
 repeat (any_goals (first|assumption|wp_step))
theorem Vk(KX:K.In h)(e:bB K C)(hx:h.get? a=some o)(hc:o.cls=.ref C)(hq:Q () ⟨h,g,d,t,os⟩):
  wpAny qMa A (checkBuiltinCall "BaseException.__getattribute__" ⟨[.ref a,iW],[]⟩) Q E ⟨h,g,d,t,os⟩:=by
 obtain⟨bm,N,nm,q,bs,hdct,sn,sub,ab,col,dd,k0,k1,k2,k3,k5,hC,T⟩:=YA KX e.err;have hk:builtinKind "BaseException.__getattribute__"=some .slot:=by decide+kernel
 have oU:splitId "BaseException.__getattribute__"=some ("BaseException","__getattribute__"):=by decide+kernel
 have dG:(Value.ref C::bm).contains (.type "BaseException")=true:=by rw[ycK,T.hasType (X:="BaseException") (b:=true) (by decide)];rfl
 have ha:=F.args_bexc_ga (.ref a) iW;simp only[checkBuiltinCall,hk,oU];refine yab ?_
 ·unfold isInstance
  repeat (first|(with_reducible refine ycl hx ?_;rw[hc])|(with_reducible refine wpAny_isSubtype_exc hC ?_;rw[dG])|wp_step)
  exact hq
theorem VY{tk:Tok}(KX:K.In h)(e:bB K C)(hx:h.get? a=some o)(hc:o.cls=.ref C)(hq:R (.ok (.ret (.ref C))) ⟨h,g,d,t,os⟩):
  codeAny (model prog w) A (.call (.builtin "BaseException.__getattribute__") ⟨[.ref a,.str "__class__" tk],[]⟩) R ⟨h,g,d,t,os⟩:=
 ycr F.excAttr_ValueError.ga.plain F.entry_bexc_ga (Vk KX e hx hc (Vj KX e hx hc hq))
theorem Uw{tk:Tok}(KX:K.In h)(e:bB K C)(hx:h.get? a=some o)(hc:o.cls=.ref C)(hq:Q (.ref C) ⟨h,g,d,t,os⟩):
  wpAny (model prog w) A (getAttrBy (.ref a) (.str "__class__" tk) false) Q E ⟨h,g,d,t,os⟩:=by
 have L1:=looks_findIn (M:=model prog w) KX e.ga;have L2:=looks_findIn (M:=model prog w) KX e.gn;have f3:=F.excAttr_ValueError.ga.bind (.ref a);have gt:(Value.builtin "BaseException.__getattribute__"==Value.builtin "object.__getattribute__")=false:=by decide+kernel
 have de:(onTheHeap (Value.ref C)&&Value.builtin "BaseException.__getattribute__"==Value.builtin "object.__getattribute__")=false:=by rw[gt];rfl
 repeat (any_goals (first|assumption|(with_reducible refine ycl hx ?_;rw[hc])|with_reducible refine Looks.at L1 ?_|with_reducible refine Looks.at L2 ?_|wp_step))
 refine VY KX e hx hc ?_
 repeat (any_goals (first|assumption|wp_step))
theorem VZ(KX:K.In h)(e:bB K C)(hx:h.get? a=some o)(hc:o.cls=.ref C)(hq:Q (some (.ref C)) ⟨h,g,d,t+1,os⟩):
  wpAny (model prog w) A (getAttr? (.ref a) "__class__") Q E ⟨h,g,d,t,os⟩:=by
 unfold getAttr? getAttrBy?
 repeat (any_goals (first|assumption|with_reducible apply Uw KX e hx hc|wp_step))
end
theorem w6{K:Frag}{a C:Addr}(e:bB K C):KitX K (.ref a) (.ref C) (λh=>∃o,h.get? a=some o/\o.cls=.ref C) where
 ty:=λqMa h X⟨o,e1,e2⟩=>by
  rw[←e2];exact(Looks.ld e1).andThen .now
 it:=λqMa h X _=>by
  obtain⟨bm,N,nm,q,bs,hdct,sn,sub,ab,col,dd,k0,k1,k2,k3,k5,hC,T⟩:=YA X e.err;intro A' Q' E' s' k q;unfold isType loadHead;exact yab (wpAny_loadPart (k _ _ hC) (yan q))
 ne:=λh tp dd ap n sl X HV=>by
  obtain⟨bm,N,nm,q,bs,hdct,sn,sub,ab,col,dd,k0,k1,k2,k3,k5,hC,T⟩:=YA X e.err;refine Bool.eq_false_iff.mpr λq=>?_;have e:C=tp:=Value.ref.inj (yck.mp q);subst e;rw[hC]at HV;exact absurd (Value.type.inj (yaI Obj.cls (lB HV))) (by decide)
 ca:=λ{prog w A E Q s} X⟨o,e1,e2⟩ k=>by
  obtain⟨h,g,d,t,os⟩:=s;exact VZ X e e1 e2 k
section
noncomputable def EW:V->Bool
 | .ref _=>true
 | .ty _=>true
 |_=>false
noncomputable def oW:V->Value
 | .ref C=>.ref C
 | .ty n=>.type n
 |_=>.none
theorem Nd(h:EW c=true)(r:RelV c u):u=oW c:=by
 cases c<;>first|exact r|cases h
def Nf(K:Frag):List V->Hp->VK->Prop:=λxs H Q=>∃x c b,xs=[x,c]/\EW c=true/\((∃t,bj K H x t/\kitOne K t (oW c)=some b)\/∃a C,x=.ref a/\H a=some (xB a (.ref C))/\bB K C/\kitOne K (.ref C) (oW c)=some b)/\Q (.bl b) H
theorem Jy:Wj X (.builtin "isinstance") (Nf X.K):=by
 intro U s σ H xs us Q I r h;obtain⟨x,c,b,rfl,hc,hx,q⟩:=h;obtain⟨u,u2,rfl,ru,Ng⟩:=vals2 r;obtain rfl:=Nd hc Ng;rcases hx with⟨t,ty,k⟩|⟨a,C,rfl,hH,e,k⟩
 ·exact xl I ru ty k λtk=>⟨.bl b,H,I.tok tk,Z,q⟩
 ·obtain rfl:u=Value.ref a:=ru;obtain⟨⟨o,vs,e1,e2,_⟩,_⟩:=(show JU X.prog X.w H s.heap a (xB a (.ref C))from I.ag a _ hH);exact ydo (w6 e) I.bt ⟨o,e1,e2⟩ k (λz=>nomatch z) λtk=>⟨.bl b,H,I.tok tk,Z,q⟩
end
def w8(P:Addr)(H:Hp):Prop:=H P=some (.bQ #[])/\∀b,b≠P->H b=none\/∃o xs,H b=some (.bO o (.lst xs))
noncomputable def qp(K:Frag):Bool:=K.all λp=>match p.2.cls with
 | .type n=> !(n=="list")
 |_=>true
theorem zn{K:Frag}{o:Obj}(h:qp K=true)(e:K.lookup a=some o):o.cls≠ .type "list":=λz=>by
 have q:=yby.mp h (a,o) (mem_of_lookupK e);dsimp only at q;rw[z]at q;exact absurd q (by decide)
theorem xD{K:Frag}{CX:dE}{k:Nat}{fd:FuncData}{x:Str}{sp:Sp}{vs:List Value}{ns:List Int}
  (KX:K.In s₁.heap) (nL:qp K=true) (nT:noTabs K=true) (Ds:s₁.heap.Ns mainGlobals mg) (hb:s₁.heap.Ns builtinsNs mb) (EX:∀x:Str,x≠"__name__"->mb x=bootBuiltins x) (EY:s₁.heap.NoLimit) (hg:s₁.gens= #[])
  (hC:CodeHd s₁.heap c P) (hP:s₁.heap.get? P=some (tabObj #[])) (Nh:∃bm ob,mg "__builtins__"=some (.ref bm)/\bm≠builtinsNs/\s₁.heap.get? bm=some ob/\ob.cls=.type "module"/\ob.dict=some builtinsNs/\ob.data=.plain)
  (ha:s₁.heap.get? a=some {cls:=.type "list",data:=.seq vs.toArray}) (hi:IntsAre vs ns) (hl:ns.length<=sizeLine) (hr:ao k callerA)
  (F:∀M:Heap,K.In M->M.Ns mainGlobals mg->bY mg M c P->af Pr w K mg M CX k fa fd [x] sp) (Do:∀(s:Shared)(u:Value),BindsTo s fd ⟨[u],[]⟩ [(x,u)])
  (Tm:∀H:Hp,w8 P H->(∃o,H a=some (.bO o (.lst (ns.map V.int))))->sp [.ref a] H (λv _=>v=.bl true) λ_ _ _=>False)
  (EZ:∀H e s',CX [] H s₁ (λ_ _ _=>False) e s'->False):
  codeAny (model Pr w) callerA (.call (.ref fa) ⟨[.ref a],[]⟩) (λr s'=>r=.ok (.ret (.bool true))/\OldK s₁.heap s'.heap/\s'.os=s₁.os/\AllBare s'.gens) s₁:=by
 have rv:=Ut hi;have Ni:=hi.length;have Nj:P≠a:=λz=>by rw[z,ha]at hP;cases hP
 have Nl:K.lookup P=none:=by
  cases q:K.lookup P with
  |none=>rfl
  |some o=>
   have e:=KX P o q;rw[hP]at e;cases e;have z:=yby.mp nT (P,_) (mem_of_lookupK q);exact absurd (show false=true from z) yar
 have core:∀H:Hp,w8 P H->(∃o,H a=some (.bO o (.lst (ns.map V.int))))->aV Pr w H s₁.heap->(∀b,H b≠none->b=a\/b=P)->(H a≠none->K.lookup a=none)->
   codeAny (model Pr w) callerA (.call (.ref fa) ⟨[.ref a],[]⟩) (λr s'=>r=.ok (.ret (.bool true))/\OldK s₁.heap s'.heap/\s'.os=s₁.os/\AllBare s'.gens) s₁:=by
  intro H hO hS ag hA hK;have BT:∀{b:Addr}{o:Obj},s₁.heap.get? b=some o->H b=none->(qb s₁.heap H).get? b=some o:=λe n=>wF e n;have HW:∀{b:Addr}{o:Obj},s₁.heap.get? b=some o->(∀vs n,o.data≠ .seq vs n)->(o.cls≠ .none)->H b=none:=λ{b o} e d1 d2=>by
   cases q:H b with
   |none=>rfl
   |some u=>
    rcases hA b (by rw[q];simp)with z|z
    ·subst z;rw[ha]at e;cases e;exact absurd rfl (d1 _ _)
    ·subst z;rw[hP]at e;cases e;exact absurd rfl d2
  have AR:∀{b:Addr}{o:Obj}{es:Array DictEntry}{ep:Nat},s₁.heap.get? b=some o->o.data=.dict es ep->H b=none:=λ{b o es ep} e d=>by
   cases q:H b with
   |none=>rfl
   |some u=>
    rcases hA b (by rw[q];simp)with z|z
    ·subst z;rw[ha]at e;cases e;cases d
    ·subst z;rw[hP]at e;cases e;cases d
  have Du:∀{b:Addr}{m:Str->Option Value},s₁.heap.Ns b m->(qb s₁.heap H).Ns b m:=λ{b m}⟨o,es,ep,e,d,r⟩=>⟨o,es,ep,BT e (AR e d),d,r⟩;have HX:K.In (qb s₁.heap H):=λb o e=>BT (KX b o e) (by
   cases q:H b with
   |none=>rfl
   |some u=>
    rcases hA b (by rw[q];simp)with z|z
    ·subst z;rw[hK (by rw[q];simp)]at e;cases e
    ·subst z;rw[Nl]at e;cases e)
  have hM:Mod K mg (qb s₁.heap H):=⟨HX,Du Ds,⟨mb,Du hb,EX⟩,let ⟨mc,h1,h2⟩:=EY;⟨mc,Du h1,h2⟩⟩;have e0:dR Pr w K mg (qb s₁.heap H) callerA [] s₁ H:=⟨Z,hM,λb o e=>LS e,ycZ (z7 _ _),trivial,λb hb=>absurd (show b∈([]:List Addr)from hb) (by simp),ag,.of_eq hg⟩;have qLa:bY mg (qb s₁.heap H) c P:=by
   obtain⟨o,Ch,file,tf,flags,tg,Nm,text,tt,e1,r1,r2,r⟩:=hC;obtain⟨bm,ob,b1,b2,b3,b4,b5,b6⟩:=Nh;exact⟨⟨o,Ch,file,tf,flags,tg,Nm,text,tt,BT e1 (HW e1 (λvs n z=>by rw[r2]at z;cases z) λz=>by rw[r1]at z;cases z),r1,r2,r⟩,
    ⟨bm,ob,b1,b2,BT b3 (HW b3 (λvs n z=>by rw[b6]at z;cases z) λz=>by rw[b4]at z;cases z),b4,b5,b6⟩⟩
  refine ycA ((F _ HX (Du Ds) qLa).run callerA [] s₁ H ⟨[.ref a],[]⟩ [.ref a] [.ref a] _ _ hr e0 (Do s₁ (.ref a)) (.cons Z .nil) (Tm H hO hS)) λr s' h=>?_;cases r with
  |error e=>exact(EZ H e s' h).elim
  |ok fl=>
   cases fl with
   |next=>exact False.elim h
   |brk=>exact False.elim h
   |cont=>exact False.elim h
   |ret u=>
    obtain⟨v,H',os,bare,un,Bb,r',q⟩:=h;have q':v=.bl true:=q;subst q';obtain rfl:u=Value.bool true:=r';have Bc:∃ps,s'.heap.get? P=some (tabObj ps):=by
     obtain⟨more,e⟩:=un.bf P #[] hO.1;exact⟨_,Bb P _ e⟩
    have keep:∀b o,b≠P->s₁.heap.get? b=some o->s'.heap.get? b=some o:=λb o ik e=>by
     cases q:H b with
     |none=>exact un.keep b o e q (by intro z;exact absurd (show b∈([]:List Addr)from z) (by simp)) (by simp)
     |some u=>
      rcases hO.2 b ik with z|⟨ob,xs,z⟩
      ·rw[q]at z;cases z
      ·have z2:=un.bc b ob _ z;obtain⟨e1,_⟩:=ag b _ z;obtain⟨e2,_⟩:=Bb b _ z2;rw[e]at e1;cases e1;exact e2
    refine⟨Z,⟨λb o e=>?_,λb o e=>?_⟩,os,bare⟩
    ·by_cases ik:b=P
     ·subst ik;rw[hP]at e;cases e;obtain⟨ps,e2⟩:=Bc;exact .inr (.inl ⟨(hC.tab hP).isCodeTable,Z, #[],ps,Z,by rw[Array.empty_append];exact e2⟩)
     ·exact .inl (keep b o ik e)
    ·by_cases ik:b=P
     ·subst ik;obtain⟨ps,e2⟩:=Bc;exact⟨_,e2⟩
     ·exact⟨o,keep b o ik e⟩
 cases hk:K.lookup a with
 |some o=>
  have e:=KX a o hk;rw[ha]at e;cases e;exact absurd rfl (zn nL hk)
 |none=>
  refine core (λb=>if b=a then some (.bO {cls:=.type "list",data:=.seq vs.toArray} (.lst (ns.map V.int)))else if b=P then some (.bQ #[])else none) ⟨?_,λb hb=>?_⟩ ⟨{cls:=.type "list",data:=.seq vs.toArray},yaf rfl⟩ (λb u z=>?_) (λb z=>?_) λ_=>hk
  ·show(if P=a then _ else if P=P then _ else _)=_;rw[yac Nj,yaf rfl]
  ·by_cases h1:b=a
   ·exact .inr ⟨_,_,yaf h1⟩
   ·exact .inl (by show(if b=a then _ else if b=P then _ else _)=_;rw[yac h1,yac hb])
  ·by_cases h1:b=a
   ·have z':=(yaf h1).symm.trans z;cases z';subst h1;exact⟨ha,by rw[lu];exact hl,vs,_,rv,ha⟩
   ·have z1:=(yac h1).symm.trans z
    by_cases hb:b=P
    ·subst hb;have z':=(yaf Z).symm.trans z1;cases z';exact hP
    ·have z':=(yac hb).symm.trans z1;cases z'
  ·by_cases h1:b=a
   ·exact .inl h1
   ·by_cases hb:b=P
    ·exact .inr hb
    ·exact absurd ((yac h1).trans (yac hb)) z
theorem vb{l:PySem.W.OpenLaw}{n k:Nat}{q:Program}{loose:List Str}{d d':DefRec}{K:Params->Frag}{CX:World->dE}{sp:World->Addr->Sp}{x:Str}
  (hn:l.most=some n) (Np:n<=sizeLine) (EI:d.params.defaults=[]) (hr:ao k callerA)
  (hY:∀(w:World)(h:Heap),YP w h->(K w.params).In h) (nL:∀w:World,qp (K w.params)=true) (nT:∀w:World,noTabs (K w.params)=true) (oS:(recsOf q).find? (λe=>e.name==d.name)=some d')
  (hT:∀w:World,∃c P,tabIn (K w.params) d.name=some (c,P))
  (F:∀(w:World)(mg:Str->Option Value)(fa:Addr)(h:Heap),(K w.params).In h->h.Ns mainGlobals mg->mg d.name=some (.ref fa)->
   ∃fd:FuncData,(∀(s:Shared)(u:Value),BindsTo s fd ⟨[u],[]⟩ [(x,u)])/\
    ∀(M:Heap)(c P:Addr),tabIn (K w.params) d.name=some (c,P)->(K w.params).In M->M.Ns mainGlobals mg->bY mg M c P->af l.prog w (K w.params) mg M (CX w) k fa fd [x] (sp w P))
  (Tm:∀(w:World)(H:Hp)(a P:Addr)(ns:List Int),ns.length<=n->w8 P H->(∃o,H a=some (.bO o (.lst (ns.map V.int))))->sp w P [.ref a] H (λv _=>v=.bl true) λ_ _ _=>False)
  (EZ:∀(w:World)(H:Hp)(s:Shared)(e:Value)(s':Shared),CX w [] H s (λ_ _ _=>False) e s'->False):
  PySem.W.WalkO q loose XP YP l.row.toRowW d [] (λf vs=>PySem.call f vs):=by
 refine HK.qo hn EI λw s₀ s₁ mg mb fa o pm cd doc a vs ns G qYa ho hd GM AV oP hints hlen hg=>?_;have KX:=hY w _ qYa;obtain⟨fd,hb,hF⟩:=F w mg fa _ KX G.T.g AV;obtain⟨c,P,ht⟩:=hT w;obtain⟨hC,hP⟩:=tab_of G.T KX oS ht;exact xD (c:=c) (P:=P) (sp:=sp w P) KX (nL w) (nT w) G.T.g G.T.b G.T.builtins G.T.nolimit hg hC hP G.T.bmain oP hints (yas hlen Np) hr (λM kb nb qLa=>hF M c P ht kb nb qLa) hb (λH hO hS=>Tm w H a P ns hlen hO hS) λH e s'=>EZ w H s₁ e s'
section
def Nq(i j k:Nat)(ta:TA):TS:=λD σ H=>ta σ H λvs H1=>∃v w z,vs=[v,w,z]/\D.nx (((σ.set i (some v)).set j (some w)).set k (some z)) H1
theorem Nr{px py pz pt pos:Pos}{kt k2 oE}(hc:X.calm=true)(hN:X.N.Nodup)(hi:X.N[i]? =some x)(hj:X.N[j]? =some y)(hk:X.N[k]? =some z)(Eh:i≠j)(Nt:i≠k)(Nu:j≠k)
  (hx:X.env.scope.names.lookup x=some .local) (hy:X.env.scope.names.lookup y=some .local) (hz:X.env.scope.names.lookup z=some .local) (ha:PA X [a,b,c] ta)
  (hw:swappedStores [.Tuple [.Name x px,.Name y py,.Name z pz] kt pt] (.Tuple [a,b,c] k2 oE) X.env=pure (some [x,y,z]))
  (hs:swapsWithSole [.Tuple [.Name x px,.Name y py,.Name z pz] kt pt] (.Tuple [a,b,c] k2 oE) pos.line X.env=pure false:=by rfl):
  PS X (.Assign [.Tuple [.Name x px,.Name y py,.Name z pz] kt pt] (.Tuple [a,b,c] k2 oE) pos) (Nq i j k ta):=by
 intro U s σ H D I h;rw[exec_Assign_arm];refine yab (ycF ?_);rw[hs];refine yab (yan ?_);rw[yac (by decide)];refine yab (Tuple_ (au (ha _ U s σ H _ I h) λus s1⟨vs,H1,I1,r1,q1⟩=>?_));obtain⟨v,w,u,e1,q1⟩:=q1;subst e1;obtain⟨u1,u2,u3,rfl,rv,IO,ru⟩:∃u1 u2 u3,us=[u1,u2,u3]/\RelV v u1/\RelV w u2/\RelV u u3:=by
  cases r1 with
  |cons p q=>
   cases q with
   |cons p' q'=>
    cases q' with
    |cons E1 E2=>
     cases E2;exact⟨_,_,_,Z,p,p',E1⟩
 refine yaX ?_ (by show 3<=sizeLine;decide);have I2:Inv X U σ H1 {s1 with heap:=s1.heap.push {cls:=.type "tuple",data:=.seq [u1,u2,u3].toArray}}:=I1.kept (t':=s1.toks) λb o e=>yaa _ e;rw[hw];refine yab (yan ?_);show wpAny (model X.prog X.w) X.A (do rule "assign.swapped-stores";let items←unpackItems (.ref s1.heap.objs.size) 3 none;assignInOrder [λv=>bindName X.env z v,λv=>bindName X.env y v,λv=>bindName X.env x v] items.reverse;pure Flow.next) _ _ _;refine yab (wpAny_rule (yab (unpackItems_tuple (items:= #[u1,u2,u3]) (I.ok.hd hc) (IsTup.new s1.heap _) λh' f8=>?_)));have I3:=I2.kept (h':=h') (t':=s1.toks) λb o e=>f8 b o (yal (yae e)) e;show wpAny _ _ (assignInOrder [λv=>bindName X.env z v,λv=>bindName X.env y v,λv=>bindName X.env x v] [u3,u2,u1]>>=λ_=>pure Flow.next) _ _ _;refine yab (ybz (ycs (ZF I3 hN hk (.inl hz) ru (λs2 I4=>?_) (.inr hz))));refine ybz (ycs (ZF I4 hN hj (.inl hy) IO (λs3 I5=>?_) (.inr hy)));refine ybz (ycs (ZF I5 hN hi (.inl hx) rv (λs4 I6=>assignInOrder_nil (yan ?_)) (.inr hx)));have e:((σ.set k (some u)).set j (some w)).set i (some v)=((σ.set i (some v)).set j (some w)).set k (some u):=by
  rw[ydQ _ _ (Ne.symm Nu),ydQ _ _ (Ne.symm Nt),ydQ (i:=j) (j:=i) _ _ (Ne.symm Eh)]
 rw[e]at I6;exact⟨_,H1,I6,q1⟩
end
noncomputable def Zh(cells:List (Str × Addr)):List (Str × NameKind)->List (Str × Addr)->List (Str × Addr)
 |[],acc=>acc
 |(n,k)::r,acc=>Zh cells r (if k==.free then(n,(cells.lookup n).getD 0)::acc else acc)
theorem xE{env:Env}:∀(names:List (Str × NameKind))(acc:List (Str × Addr)),(∀y∈names,y.2=.free->∃c,env.cells.lookup y.1=some c)->
  (forIn names acc λx(cs:List (Str × Addr))=>(do
   let (name,kind):=x
   if kind==.free then
    let c←cellOf env name
    pure (ForInStep.yield ((name,c)::cs))
   else pure (ForInStep.yield cs):Sem (ForInStep (List (Str × Addr)))))=pure (Zh env.cells names acc)
 |[],acc,_=>rfl
 |(n,k)::r,acc,h=>by
  rw[yeh];have ih:=λPs=>xE (env:=env) r Ps λy hy=>h y (lG _ hy)
  by_cases hk:k=.free
  ·subst hk;obtain⟨c,hc⟩:=h (n,.free) lH rfl;have cJ:env.cells.lookup n=some c:=hc;show _=pure (Zh env.cells r (if NameKind.free==NameKind.free then _ else _));have e:cellOf env n=pure c:=by unfold cellOf;rw[cJ]
   simp only[ydb,ybM,e,pure_bind,cJ,Option.getD_some];exact ih _
  ·have hb:(k==NameKind.free)=false:=yaB.mpr hk;show _=pure (Zh env.cells r (if k==NameKind.free then _ else _));simp only[hb,ycJ,ycw,pure_bind];exact ih _
theorem Xr{scope:Scope}{env:Env}(h:∀y∈scope.names,y.2=.free->∃c,env.cells.lookup y.1=some c):closureFor scope env=pure (Zh env.cells scope.names []):=by
 unfold closureFor;have:=xE (env:=env) scope.names [] h;simp only[bind_pure]at this ⊢;exact this
theorem Vl{cells:List (Str × Addr)}:∀(names:List (Str × NameKind))(acc:List (Str × Addr)),(∀y∈names,y.2=.free->∃c,cells.lookup y.1=some c)->(acc.lookup x=some c->cells.lookup x=some c)->
  (Zh cells names acc).lookup x=some c->cells.lookup x=some c
 |[],_,_,h,e=>h e
 |(n,k)::r,acc,h0,h,e=>by
  unfold Zh at e;refine Vl r _ (λy hy=>h0 y (lG _ hy)) (λe'=>?_) e
  split at e'
  ·rename_i hk;rw[ybm]at e'
   split at e'
   ·rename_i hx;have f8:x=n:=eq_of_beq hx;subst f8;obtain⟨d,hd⟩:=h0 (x,k) lH (eq_of_beq hk);have oD:cells.lookup x=some d:=hd;rw[oD]at e' ⊢;exact e'
   ·exact h e'
  ·exact h e'
theorem K3{cells:List (Str × Addr)}:∀(names:List (Str × NameKind))(acc:List (Str × Addr)),((∃c,acc.lookup x=some c)\/(x,NameKind.free)∈names)->∃c,(Zh cells names acc).lookup x=some c
 |[],acc,h=>by
  rcases h with h|h
  ·exact h
  ·cases h
 |(n,k)::r,acc,h=>by
  unfold Zh;refine K3 r _ ?_;rcases h with⟨c,h⟩|h
  ·refine .inl ?_
   split
   ·rw[ybm]
    split
    ·exact⟨_,Z⟩
    ·exact⟨c,h⟩
   ·exact⟨c,h⟩
  ·rcases yag.mp h with e|h
   ·cases e;refine .inl ?_;rw[yaf (by rfl),ybm,ydb];exact⟨_,Z⟩
   ·exact .inr h
section
variable {P:Program}{w:World}{K:Frag}{mg:Str->Option Value}{M:Heap}
theorem cO{x qual:Str}{st:Stmt}{fd:FuncData}{sp:Sp}(F:az K x qual st f fd)(S:aa N ps (Qf st))(len:∀vs H Q E,sp vs H Q E->vs.length=ps.length)
  (bv:∀(ad:Value)(A:Around)(L:List Env)(s:Shared)(H:Hp)(vs:List V)(Q:VK)(E:XK),ao k (A.deeper (envOfC qual (Qf st) s.heap.objs.size f ad))->sp vs H Q E->
   ∃t,aQ (Z2 (ak P w) P w K mg M N qual (Qf st) f ad A L s H E) (QI st) t/\t {nx:=λ_ H'=>Q .aw H',rt:=Q} (start N vs) H):af P w K mg M (ak P w) (k+1) f fd ps sp:=by
 obtain⟨oc,od,kV,doc,pm,an,ad,ct,mt,rfl,lk,GM⟩:=F.ex;exact HE lk GM S len λA L s H vs Q E hr Tm=>bv ad A L s H vs Q E hr Tm
theorem okN{x qual:Str}{st:Stmt}{fd:FuncData}{sp:Sp}(F:az K x qual st f fd)(S:aa N ps (Qf st))(len:∀vs H Q E,sp vs H Q E->vs.length=ps.length)
  (bv:∀(ad:Value)(A:Around)(L:List Env)(s:Shared)(H:Hp)(vs:List V)(Q:VK)(E:XK),ao k (A.deeper (envOfC qual (Qf st) s.heap.objs.size f ad))->sp vs H Q E->
   ∃t,aQ (Z2 (ak P w) P w K mg M N qual (Qf st) f ad A L s H E).bA (QI st) t/\t {nx:=λ_ H'=>Q .aw H',rt:=Q} (start N vs) H):af P w K mg M (ak P w) (k+1) f fd ps sp:=
 cO F S len λad A L s H vs Q E hr Tm=>by
  obtain⟨t,h,q⟩:=bv ad A L s H vs Q E hr Tm;exact⟨t,h.bA,q⟩
end
structure Dv(X:Cx)(e:Expr)(t:TE):Prop where
 pe:PE X e t
structure oX(X:Cx)(e:List Stmt)(t:TS):Prop where
 ps:aQ X e t
theorem Nv{k1 k2 v1 v2:Expr}{pos pos':Pos}{t1 t2 u1 u2:TE}(h1:Dv X k1 t1)(h2:Dv X v1 u1)(h3:Dv X k2 t2)(h4:Dv X v2 u2):oX X [.Return (some (.Dict [some k1,some k2] [v1,v2] pos)) pos'] (CZ (EH [(t1,u1),(t2,u2)])):=
 ⟨Qg (Qr (xx (X9 h1.pe h2.pe (X9 h3.pe h4.pe xw)) Z Z (List.cons_ne_nil _ _) (ycf Z)))⟩
theorem zo:oX X [.Return (some (.Dict [some (.Constant (.str x) j1 p1),some (.Constant (.str y) j2 p2)] [.Constant (.int i) j3 p3,.Dict [] [] p4] p5)) p6] (CZ (EH [(tC (.str x),tC (.int i)),(tC (.str y),yJ)])):=
 Nv ⟨Qd⟩ ⟨Qj⟩ ⟨Qd⟩ ⟨wT⟩
theorem Nw{K:Frag}{M:Heap}{x qual:Str}{st:Stmt}{fd:FuncData}{N ps:List Str}{k:Nat}{sp:Sp}(F:az K x qual st f fd)(S:aa N ps (Qf st))(len:∀vs H Q E,sp vs H Q E->vs.length=ps.length)
  (bv:∀(ad:Value)(A:Around)(L:List Env)(s:Shared)(H:Hp)(vs:List V)(Q:VK)(E:XK),ao k (A.deeper (envOfC qual (Qf st) s.heap.objs.size f ad))->sp vs H Q E->
   ∃t,oX (Z2 (ak P w) P w K mg M N qual (Qf st) f ad A L s H E).bA (QI st) t/\t {nx:=λ_ H'=>Q .aw H',rt:=Q} (start N vs) H):af P w K mg M (ak P w) (k+1) f fd ps sp:=
 okN F S len λad A L s H vs Q E hr Tm=>by
  obtain⟨t,h,q⟩:=bv ad A L s H vs Q E hr Tm;exact⟨t,h.ps,q⟩
structure Def(P:Program)(w:World)(K:Frag)(mg:Str->Option Value)(M:Heap)(k:Nat)(x:Str)(ps:List Str)(sp:Sp):Prop where
 ex:∃f fd,mg x=some (.ref f)/\keepIn K (.ref f)=true/\Binds K fd ps []/\af P w K mg M (ak P w) k f fd ps sp
section
variable {X:Cx}{k k':Nat}{x:Str}{ps:List Str}{sp:Sp}{E:XK}{p pos:Pos}{e:Expr}{es:List Expr}{t:TA}
theorem Def.pe(D:Def X.prog X.w X.K X.mg X.M k x ps sp)(hr:ao k' X.A)(hk:k<=k')(hg:Gl X x)(hx:Passes (ak X.prog X.w) X E)(ha:PA X (e::es) t)(pi:(x==("__debug__":Str))=false:=by decide)
  (he:starEach (e::es) X.env=(false,eval e X.env)::starEach es X.env:=by rfl) (mo:(backTo pos (starEach es X.env)).any (·.1)=false:=by rfl):PE X (.Call (.Name x p) (e::es) [] pos) (Wk sp [] E t):=by
 obtain⟨f,fd,h1,h2,h3,h4⟩:=D.ex;exact xm h4 (hr.mono hk) hg h1 h2 h3 .nil hx ha pi he mo
theorem Def.pq(D:Def X.prog X.w X.K X.mg X.M k x ps sp)(hr:ao k' X.A)(hx:Passes (ak X.prog X.w) X E)(ha:PA X (e::es) t)(hk:k<=k':=by decide)(hg:Gl X x:=by exact rfl)(pi:(x==("__debug__":Str))=false:=by decide)
  (he:starEach (e::es) X.env=(false,eval e X.env)::starEach es X.env:=by rfl) (mo:(backTo pos (starEach es X.env)).any (·.1)=false:=by rfl):PE X (.Call (.Name x p) (e::es) [] pos) (Wk sp [] E t):=D.pe hr hk hg hx ha pi he mo
theorem Def.Nx(D:Def X.prog X.w X.K X.mg X.M k x ps sp)(hr:ao k' X.A)(hk:k<=k')(hg:Gl X x)(hx:Passes (ak X.prog X.w) X E)(pi:(x==("__debug__":Str))=false:=by decide):
  PE X (.Call (.Name x p) [] [] pos) (Wk sp [] E WI):=by
 obtain⟨f,fd,h1,h2,h3,h4⟩:=D.ex;exact wN h4 (hr.mono hk) hg h1 h2 h3 .nil hx pi
end
theorem aF{c:Bool}{A B:Prop}(hT:c=true->A)(hF:c=false->B):if c=true then A else B:=by
 cases c with
 |true=>rw[yaf rfl];exact hT rfl
 |false=>rw[yac (by decide)];exact hF rfl
theorem HY(x y:Bool):(!decide (V.bl x=V.bl y))=(x !=y):=by cases x<;>cases y<;>rfl
theorem xF(x y:Int):(!decide (V.int x=V.int y))=decide (x≠y):=by
 by_cases h:x=y
 ·subst h;simp
 ·rw[lx (λe=>h (V.int.inj e)),ly h];rfl
theorem Xb(x y:Int):decide (V.int x=V.int y)=decide (x=y):=by
 by_cases h:x=y
 ·subst h;simp
 ·rw[lx (λe=>h (V.int.inj e)),lx h]
theorem qr(hr:ao k A):A.units+1+1<cLine:=yba (by lia:A.units+1+1<=A.units+64) hr.units
theorem ay.upd{K:Frag}{H:Hp}{o:HO}{xs:List V}(h:ay K H a xs)(n:a≠b):ay K (upd H b o) a xs:=by
 rcases h with(h|⟨o',h⟩)|h
 ·exact .inl (.inl (by rw[Qx n];exact h))
 ·exact .inl (.inr ⟨o',by rw[Qx n];exact h⟩)
 ·exact .inr h
theorem ai.same{K:Frag}{xs:List V}(e:Qu H H')(h:ai K H a xs):ai K H' a xs:=by
 rcases h with(h|⟨o,h⟩)|h
 ·exact .inl (.inl (e _ _ h))
 ·exact .inl (.inr ⟨o,e _ _ h⟩)
 ·exact .inr h
theorem Qu.new(h:H p=none):Qu H (upd H p o):=λb u e=>by rw[Qx (Qz e h)];exact e
structure aD(H:Hp)(t r:Addr)(c:Int)(rs:List (Key × V)):Prop where
 tw:H t=some (.dK [(Sum.inr "count",.int c),(Sum.inr "rests",.ref r)])
 rt:H r=some (.dK rs)
 vs:∀kv∈rs,∃k z,kv=(Sum.inl k,V.int z)
 c0:0<=c
 ln:(rs.length:Int)<=c
 ne:t≠r
theorem aD.same{c:Int}{rs:List (Key × V)}(T:aD H t r c rs)(e:Qu H H'):aD H' t r c rs:=⟨e _ _ T.tw,e _ _ T.rt,T.vs,T.c0,T.ln,T.ne⟩
def Apart(t r:Addr)(H H':Hp):Prop:=∀b o,H b=some o->b≠t->b≠r->H' b=some o
theorem Apart.trans{H H1 H2:Hp}(a:Apart t r H H1)(b:Apart t r H1 H2):Apart t r H H2:=λc o e n1 n2=>b c o (a c o e n1 n2) n1 n2
theorem Apart.of{t r:Addr}{H H1:Hp}(a:Qu H H1):Apart t r H H1:=λc o e _ _=>a c o e
theorem Apart.seq{K:Frag}{xs:List V}(e:Apart t r H H')(h:ay K H a xs)(n1:a≠t)(n2:a≠r):ay K H' a xs:=by
 rcases h with(h|⟨o,h⟩)|h
 ·exact .inl (.inl (e _ _ h n1 n2))
 ·exact .inl (.inr ⟨o,e _ _ h n1 n2⟩)
 ·exact .inr h
theorem Ux{rs:List (Key × V)}(h:∀kv∈rs,∃k z,kv=(Sum.inl k,V.int z)) (k:Int) (d:Int):∃z,(Wm rs (Sum.inl k:Key)).getD (.int d)=.int z:=by
 cases e:rs.find? λkv=>decide (kv.1=(Sum.inl k:Key))with
 |none=>exact⟨d,by unfold Wm;rw[e];rfl⟩
 |some p=>
  obtain⟨k',z,rfl⟩:=h p (List.mem_of_find?_eq_some e);exact⟨z,by unfold Wm;rw[e];rfl⟩
theorem Uy{rs:List (Key × V)}(h:∀kv∈rs,∃k z,kv=(Sum.inl k,V.int z)) (k z:Int):(∀kv∈putK rs (Sum.inl k:Key) (.int z),∃k z,kv=(Sum.inl k,V.int z))/\(putK rs (Sum.inl k:Key) (.int z)).length<=rs.length+1:=by
 unfold putK
 split
 ·refine⟨λkv hm=>?_,by rw[lu];lia⟩;obtain⟨p,hp,rfl⟩:=ybS.mp hm;obtain⟨k',z',rfl⟩:=h p hp
  split
  ·exact⟨k',z,Z⟩
  ·exact⟨k',z',Z⟩
 ·refine⟨λkv hm=>?_,by rw[lq];exact lA _⟩;rcases yao.mp hm with hm|hm
  ·exact h kv hm
  ·exact⟨k,z,yak.mp hm⟩
theorem xG:¬ ((Sum.inr "count":Key)=(Sum.inr "rests":Key)):=by
 have h:¬ ("count":Str)="rests":=by decide+kernel
 exact λe=>h (ydm e)
theorem vc(c d:Int)(r:Addr):putK [((Sum.inr "count":Key),V.int c),(Sum.inr "rests",V.ref r)] (Sum.inr "count") (.int d)=[((Sum.inr "count":Key),V.int d),((Sum.inr "rests":Key),V.ref r)]:=by
 have h:¬ ((Sum.inr "rests":Key)=(Sum.inr "count":Key)):=λe=>xG e.symm;unfold putK;rw[yaf (by simp)];simp only[lU,ycX,ybM,yac h]
theorem Ka(h:H t=some (.dK [(Sum.inr "count",.int c),(Sum.inr "rests",.ref r)])):zh H t (.str "count") (some (.int c)):=by
 have e:=zh.k (k:=(Sum.inr "count":Key)) h;rw[K1 rfl]at e;exact e
theorem Kb(h:H t=some (.dK [(Sum.inr "count",.int c),(Sum.inr "rests",.ref r)])):zh H t (.str "rests") (some (.ref r)):=by
 have e:=zh.k (k:=(Sum.inr "rests":Key)) h;rw[WW xG,K1 rfl]at e;exact e
theorem zp(d:Int)(h:H t=some (.dK [(Sum.inr "count",.int c),(Sum.inr "rests",.ref r)])):yH H t (.str "count") (.int d) (upd H t (.dK [(Sum.inr "count",.int d),(Sum.inr "rests",.ref r)])):=by
 have e:=yH.k (k:=(Sum.inr "count":Key)) (v:=.int d) h (by show 2<sizeLine;decide);rw[vc]at e;exact e
def ZP(K:Frag):Sp:=λvs H Q _=>∃(a t r:Addr)(ns:List Int)(c many:Int)(rs:List (Key × V)),vs=[.ref a,.ref t,.int many]/\ay K H a (ns.map V.int)/\aD H t r c rs/\a≠t/\a≠r/\ns.length<=63/\c<100000/\0<many/\many<1000000/\
 ∀(v:Int)(T0:List (Key × V))(H':Hp),0<=v->v<many->aD H' t r (c+1) T0->Apart t r H H'->Q (.int v) H'
def qt:Sp:=λvs H Q _=>vs=[]/\∀(t r:Addr)(H':Hp),H t=none->H r=none->aD H' t r 0 []->Qu H H'->Q (.ref t) H'
structure Own(mg:Str->Option Value):Prop where
 len:mg "len"=none
 range:mg "range"=none
 abs:mg "abs"=none
 max:mg "max"=none
 int:mg "int"=none
 aY:mg "isinstance"=none
 bool:mg "bool"=none
 val:mg "ValueError"=none
 reversed:mg "reversed"=none
 divmod:mg "divmod"=none
 str:mg "str"=none
 sum:mg "sum"=none
def E3:XK:=λ_ _ _=>False
theorem bG.alt{params:Arguments}{body:Expr}{scope:Scope}{cl:List (Str × Addr)}{pm pr:Value}
  (qLa:bG X N σ q params body scope f c' cl pm pr):bG (X.alt pn xe) N σ q params body scope f c' cl pm pr:=
 ⟨qLa.ob,qLa.un,qLa.fr,qLa.code,qLa.kind,qLa.co,qLa.gen,qLa.bind,qLa.len,qLa.cells⟩
def Dw(P:Addr)(q:Str)(th:St->Addr->Addr->Hp->VK->Prop):TE:=λσ H Q=>VW H P q/\∀(f c':Addr)(H1:Hp),H1 f=none->H1 c'=some (Kz c' q)->VW H1 P q->(∀b o,H b=some o->b≠P->H1 b=some o)->th σ f c' H1 Q
section
variable {qual:Str}{st:Stmt}{fd:FuncData}{params:Arguments}{body:Expr}{scope:Scope}{ci:Pos}
theorem zq(F:az X.K x qual st fa fd)(S:aa N [p1] (Qf st))(hm:X.mg x=some (.ref fa))(hg:Gl X x)(hb:Binds X.K fd [p1] [])(hr:ao (k+1) X.A)(hx:Passes (ak X.prog X.w) X E)
  (qLa:bY X.mg X.M c P) (Id:X.env.code=.ref c) (hq:q=X.env.qual++"<lambda>") (ed:defaultsOf params X.env=([],[])) (ia:∀y,X.fn y=true)
  (sk:scope.kind=.function) (E4:scope.isCoroutine=false) (oY:scope.isGenerator=false) (eh:∀y∈scope.names,y.2≠ .local/\y.2≠ .cell) (cQ:∀y∈scope.names,y.2=.free->X.env.scope.names.lookup y.1=some .cell)
  (Do:∀cl pm c' pr,bindArgs (kla_fn "<lambda>" q params body scope cl pm (.ref c') pr) ⟨[],[]⟩=pure [])
  (bv:∀(ad:Value)(σ:St)(f c':Addr)(cl:List (Str × Addr))(pm pr:Value)(s1:Shared)(H1:Hp)(Q:VK),
   bG (Z2 (ak X.prog X.w) X.prog X.w X.K X.mg X.M N qual (Qf st) fa ad X.A X.stack s1 H1 E) X.N σ q params body scope f c' cl pm pr->
   (∀x c,cl.lookup x=some c->c<s1.heap.objs.size)->ao k (X.A.deeper (envOfC qual (Qf st) s1.heap.objs.size fa ad))->th σ f c' H1 Q->
   ∃t,aQ (Z2 (ak X.prog X.w) X.prog X.w X.K X.mg X.M N qual (Qf st) fa ad X.A X.stack s1 H1 E) (QI st) t/\t {nx:=λ_ H'=>Q .aw H',rt:=Q} (start N [.ref f]) H1)
  (pi:(x==("__debug__":Str))=false:=by decide):PE X (.Call (.Name x p) [.Lambda params body scope il] [] ci) (Dw P q th):=by
 intro U s σ H Q I h;obtain⟨hT,h⟩:=h;obtain⟨oc,od,kV,doc,pm',an,ad,ct,mt,rfl,lk,GM⟩:=F.ex;have has:∀y∈scope.names,y.2=.free->∃c,X.env.cells.lookup y.1=some c:=λy hy e=>I.ok.has y.1 (.inl (cQ y hy e));refine yaZ (XH I hg hm ?_ pi);refine callWith_K (h₀:=X.M) I.ok.mod.iN F.kp ?_ rfl rfl;show wpAny _ _ (spliced ((false,eval (.Lambda params body scope il) X.env)::[])) _ _ s;refine ybB (wX I qLa Id hq ed (Xr has) hT λf c' pm pr H1 s1 I1 ob un fr code T1 keep kp=>yci ⟨I1.bt,?_⟩);have Ny:∀b∈aI X.stack,∃o,s.heap.get? b=some o:=λb hb=>let ⟨o,e,_⟩:=(I.stack.mem hb).2;⟨o,e⟩;have cs:∀y d,(Zh X.env.cells scope.names []).lookup y=some d->X.env.cells.lookup y=some d:=λy d e=>Vl scope.names [] has (λz=>nomatch z) e;have Nz:∀b∈aI X.stack,b=X.env.locals\/b∈X.fs:=λb hb=>yag.mp (I.KR b hb);have LA:bG (Z2 (ak X.prog X.w) X.prog X.w X.K X.mg X.M N qual (Qf st) fa ad X.A X.stack s1 H1 E) X.N σ q params body scope f c' (Zh X.env.cells scope.names []) pm pr:=by
  refine⟨ob,un,λhf=>?_,code,sk,E4,oY,Do _ _ _ _,I.len,⟨λy z d e1 e2=>I.ok.inj y z d (cs y d e1) (cs z d e2),λy hy=>K3 scope.names [] (.inr (yax hy)),eh,λy d e=>?_,λj y v e1 e2 e3=>?_⟩⟩
  ·obtain⟨o,e⟩:=Ny f hf;exact absurd (yae e) (yeC.mpr fr)
  ·refine⟨I1.aB y d (cs y d e),λhf=>?_,I1.cell y d (cs y d e)⟩;rcases Nz d hf with z|z
   ·exact I.dB y d (cs y d e) z
   ·obtain⟨o,eo⟩:∃o,X.s₀.heap.get? d=some o:=let ⟨o,e,_⟩:=(I.ok.qc.mem z).2;⟨o,e⟩;exact absurd (yae eo) (yeC.mpr (I.ok.fH y d (ia y) (cs y d e)))
  ·have hy:X.env.scope.names.lookup y=some .cell:=cQ _ (yax e3) rfl;obtain⟨m,_,hl⟩:=I1.loc;obtain⟨u,r,NC⟩:=hl j y v e1 e2 (.inr (.inl hy));obtain⟨d,hd⟩:=I.ok.has y (.inl hy);rcases NC with⟨kk,_⟩|⟨_,d',oD,hc⟩
   ·have z:X.env.scope.names.lookup y=some .local:=kk;rw[hy]at z;cases z
   ·obtain⟨d2,hd2⟩:=K3 (cells:=X.env.cells) scope.names [] (.inr (yax e3));have:=cs y d2 hd2;rw[oD]at this;cases this;exact⟨u,d',r,hd2,hc⟩
 have Db:∀y d,(Zh X.env.cells scope.names []).lookup y=some d->d<s1.heap.objs.size:=λy d e=>by
  obtain⟨v,o,e1,_⟩:=I1.cell y d (cs y d e);exact yae e1
 have hB:=hb s1 [.ref f] I1.bt rfl;refine ydk (ycA (M6 (N:=N) (ps:=[p1]) (Q:=Q) (E:=E) lk GM S hr I1.Dh hB (vs:=[.ref f]) (.cons Z .nil) Z λND=>bv ad σ f c' _ pm pr s1 H1 Q LA Db ND (h f c' H1 un code T1 keep)) λr s' hq=>?_);cases r with
 |error e=>exact hx U σ H1 s1 e s' I1 hq
 |ok fl=>
  cases fl with
  |ret u=>exact I1.after hq
  |next=>exact False.elim hq
  |brk=>exact False.elim hq
  |cont=>exact False.elim hq
end
noncomputable def xH(sc L:Scope):Bool:=sc.names.all λy=> !(y.2==.free)||L.names.lookup y.1==some .cell
theorem Uz{sc L:Scope}(h:xH sc L=true):∀y∈sc.names,y.2=.free->L.names.lookup y.1=some .cell:=λy hy e=>by
 have q:=yby.mp h y hy;rw[e]at q;simpa using q
structure oZ(K:Frag)(x qual:Str)(st:Stmt)(f:Addr)(fd:FuncData)(ad:Value):Prop where
 ex:∃(oc:Value)(od:Option Addr)(kV doc pm:Value)(an:Option Addr)(ct:Value)(mt:Array (Option Value)),
  fd=fnOf x qual (JS st) (QI st) (Qf st) .none kV doc pm an ad ct/\K.lookup f=some ⟨oc,od,.func fd,mt⟩/\codeIn K ad qual=true
theorem NF{K:Frag}{M:Heap}{x qual:Str}{st:Stmt}{fd:FuncData}{ad:Value}{N ps:List Str}{k:Nat}{sp:Sp}(F:oZ K x qual st f fd ad)(S:aa N ps (Qf st))(len:∀vs H Q E,sp vs H Q E->vs.length=ps.length)
  (bv:∀(A:Around)(L:List Env)(s:Shared)(H:Hp)(vs:List V)(Q:VK)(E:XK),ao k (A.deeper (envOfC qual (Qf st) s.heap.objs.size f ad))->sp vs H Q E->
   ∃t,aQ (Z2 (ak P w) P w K mg M N qual (Qf st) f ad A L s H E).bA (QI st) t/\t {nx:=λ_ H'=>Q .aw H',rt:=Q} (start N vs) H):af P w K mg M (ak P w) (k+1) f fd ps sp:=by
 obtain⟨oc,od,kV,doc,pm,an,ct,mt,rfl,lk,GM⟩:=F.ex;exact HE lk GM S len λA L s H vs Q E hr Tm=>by
  obtain⟨t,h,q⟩:=bv A L s H vs Q E hr Tm;exact⟨t,h.bA,q⟩
structure ae(K:Frag)(x:Str)(st:Stmt):Prop where
 ex:∃f fd,nsIn K mainGlobals x=some (some (.ref f))/\az K x x st f fd
theorem vd{K:Frag}{x:Str}{st:Stmt}{od an:Option Addr}{mt:Array (Option Value)}{kV doc pm ad ct:Value}(a:nsIn K mainGlobals x=some (some (.ref f)))
  (l:K.lookup f=some ⟨oc,od,.func (fnOf x x (JS st) (QI st) (Qf st) .none kV doc pm an ad ct),mt⟩) (c:codeIn K ad x=true) (k:keepIn K (.ref f)=true):ae K x st:=
 ⟨f,_,a,⟨⟨oc,od,kV,doc,pm,an,ad,ct,mt,Z,l,c⟩,k⟩⟩
section
variable {P:Program}{w:World}{K:Frag}{mg:Str->Option Value}{M h:Heap}{x:Str}{st:Stmt}{k:Nat}{ps:List Str}{sp:Sp}
theorem ae.def(D:ae K x st)(X:K.In h)(G:h.Ns mainGlobals mg)(ag:∀f fd,az K x x st f fd->af P w K mg M (ak P w) k f fd ps sp)
  (hb:∀(kV doc pm:Value)(an:Option Addr)(ad ct:Value)(us:List Value),us.length=ps.length->bindArgs (fnOf x x (JS st) (QI st) (Qf st) .none kV doc pm an ad ct) ⟨us,[]⟩=pure (ps.zip us)):Def P w K mg M k x ps sp:=by
 obtain⟨f,fd,a,F⟩:=D.ex;exact⟨f,fd,mg_of X G a,F.kp,F.binds hb,ag f fd F⟩
end
theorem NG{K:Frag}{x:Str}{mt o3:Array (Option Value)}{fd:FuncData}(a:nsIn K mainGlobals x=some (some (.ref f)))(l:K.lookup f=some ⟨oc,od,.func fd,mt⟩)(hc:fd.code=.ref c)
  (lc:K.lookup c=some ⟨E5,E6,.fields vs,o3⟩) (hv:(vs[11]? :Option Value)=some (.ref P)):tabIn K x=some (c,P):=by
 unfold tabIn;simp only[a,l,hc,lc,hv]
theorem Js{k:Bool}{ta tb:TE}{σ:St}{H:Hp}{Q:VK}(Good:V->Hp->Prop)(hT:k=true->(∀v H',Good v H'->Q v H')->ta σ H Q) (hF:k=false->(∀v H',Good v H'->Q v H')->tb σ H Q) (rest:∀v H',Good v H'->Q v H'):if k=true then ta σ H Q else tb σ H Q:=by
 cases k with
 |true=>rw[yaf rfl];exact hT rfl rest
 |false=>rw[yac (by decide)];exact hF rfl rest
theorem NH(a:Str):bU (.str a) (.str a)=true:=by simp[bU]
theorem eg.str{K:Frag}{H:Hp}{n:Nat}{a:Str}:eg K H n (.str a) (.str a) true:=by
 have:=eg.flat (K:=K) (H:=H) (n:=n) (x:=.str a) (y:=.str a) rfl rfl;rw[NH]at this;exact this
theorem all_true(n:Nat):(List.range n).all (λ_=>true)=true:=yby.mpr λ_ _=>rfl
inductive bE (K:Frag) (H:Hp) (n:Nat):List V->List V->Prop where
 |nil:bE K H n [] []
 |cons {x y:V} {xs ys:List V} (h:eg K H n x y true) (t:bE K H n xs ys):bE K H n (x::xs) (y::ys)
theorem bE.len{K:Frag}{H:Hp}{n:Nat}{xs ys:List V}(l:bE K H n xs ys):xs.length=ys.length:=by
 induction l with
 |nil=>rfl
 |cons h t ih=>rw[lD,lD,ih]
theorem bE.at{K:Frag}{H:Hp}{n:Nat}{xs ys:List V}(l:bE K H n xs ys):∀(j:Nat)(x y:V),xs[j]? =some x->ys[j]? =some y->eg K H n x y true:=by
 induction l with
 |nil=>intro j x y h;cases h
 |cons h t ih=>
  intro j x y h1 h2;cases j with
  |zero=>cases h1;cases h2;exact h
  |succ j=>exact ih j x y h1 h2
theorem WZ{K:Frag}{H:Hp}{n:Nat}{neg:Bool}{xs ys:List V}{Q:VK}(ha:ai K H a xs)(hb:ai K H b ys)(l:bE K H n xs ys)(k:Q (.bl (!neg)) H):HS K n neg (.ref a) (.ref b) H Q:=by
 refine⟨a,b,xs,ys,λ_=>true,true,Z,Z,ha,hb,l.at,by rw[all_true,l.len];simp,?_⟩;cases neg<;>exact k
structure av(H:Hp)(a t r Pa:Addr)(q:Str)(ns:List Int)(c:Int):Prop where
 sc:∃o,H a=some (.bO o (.lst (ns.map V.int)))
 tw:∃rs,aD H t r c rs
 tab:VW H Pa q
 ln:ns.length<=63
theorem VW.same{q:Str}(T:VW H P q)(e:Qu H H'):VW H' P q:=by
 obtain⟨ps,h1,h2,h3⟩:=T;exact⟨ps,e _ _ h1,h2,λp cv z=>let ⟨a,z1,z2⟩:=h3 p cv z;⟨a,z1,e _ _ z2⟩⟩
section
variable {H H':Hp}{a t r Pa:Addr}{q:Str}{ns:List Int}{c c':Int}{K:Frag}
theorem av.same(S:av H a t r Pa q ns c)(e:Qu H H'):av H' a t r Pa q ns c:=
 ⟨let ⟨o,h⟩:=S.sc;⟨o,e _ _ h⟩,let ⟨rs,h⟩:=S.tw;⟨rs,h.same e⟩,S.tab.same e,S.ln⟩
theorem av.nat(S:av H a t r Pa q ns c):a≠t:=λz=>by
 obtain⟨o,h⟩:=S.sc;obtain⟨rs,h2⟩:=S.tw;rw[z,h2.tw]at h;cases h
theorem av.bV(S:av H a t r Pa q ns c):a≠r:=λz=>by
 obtain⟨o,h⟩:=S.sc;obtain⟨rs,h2⟩:=S.tw;rw[z,h2.rt]at h;cases h
theorem av.sq(S:av H a t r Pa q ns c):ay K H a (ns.map V.int):=let ⟨o,h⟩:=S.sc; .inl (.inr ⟨o,h⟩)
theorem av.keep(S:av H a t r Pa q ns c)(A:Apart t r H H')(e:H b=some o)(n:∀al,o≠ .dK al):H' b=some o:=by
 obtain⟨rs,h2⟩:=S.tw;refine A b o e (λz=>?_) λz=>?_
 ·rw[z,h2.tw]at e;cases e;exact n _ rfl
 ·rw[z,h2.rt]at e;cases e;exact n _ rfl
theorem av.tup(S:av H a t r Pa q ns c)(A:Apart t r H H'){b:Addr}{xs:List V}(e:H b=some (.tup xs)):H' b=some (.tup xs):=S.keep A e λ_ z=>nomatch z
theorem av.drawn(S:av H a t r Pa q ns c)(A:Apart t r H H'){rs:List (Key × V)}(T:aD H' t r c' rs):av H' a t r Pa q ns c':=by
 obtain⟨o,h⟩:=S.sc;obtain⟨ps,h1,h2,h3⟩:=S.tab;exact⟨⟨o,S.keep A h λ_ z=>nomatch z⟩,⟨rs,T⟩,⟨ps,S.keep A h1 (λ_ z=>nomatch z),h2,λp cv z=>let ⟨b,z1,z2⟩:=h3 p cv z;⟨b,z1,S.keep A z2 λ_ z=>nomatch z⟩⟩,S.ln⟩
theorem av.zr(S:av H a t r Pa q ns c)(k:∀b o,H b=some o->b≠Pa->H' b=some o)   (e:H b=some o) (n:∀ps,o≠ .bQ ps):H' b=some o:=by
 obtain⟨ps,h1,_⟩:=S.tab;refine k b o e λz=>?_;rw[z,h1]at e;cases e;exact n _ rfl
theorem av.lam(S:av H a t r Pa q ns c)(k:∀b o,H b=some o->b≠Pa->H' b=some o) (T:VW H' Pa q):av H' a t r Pa q ns c:=by
 obtain⟨o,h⟩:=S.sc;obtain⟨rs,h2⟩:=S.tw;exact⟨⟨o,S.zr k h λ_ z=>nomatch z⟩,⟨rs,S.zr k h2.tw (λ_ z=>nomatch z),S.zr k h2.rt (λ_ z=>nomatch z),h2.vs,h2.c0,h2.ln,h2.ne⟩,T,S.ln⟩
end
noncomputable def xI(scope:Scope)(env:Env)(C:Addr):Env:=
 {scope:=scope,locals:=C,globals:=env.globals,cells:=cellsFrom (C+1) scope.names [],qual:=env.qual,func:=none,code:=env.code,frame:=env.frame,builtins:=env.builtins}
noncomputable abbrev Ze(X:Cx)(NB:List Str)(scope:Scope)(s:Shared)(H:Hp)(ex:List Addr):Cx:=
 {X with N:=NB,s₀:=s,H₀:=H,env:=xI scope X.env s.heap.objs.size,L:=X.stack,ex:=ex,fn:=λ_=>true,pn:=[],xe:=λ_ _=>False}
structure bZ(NB:List Str)(scope:Scope):Prop where
 kind:scope.kind=.function
 nd:NB.Nodup
 aT:∀y∈scope.names,y.2≠ .free
 loc:∀y∈scope.names,y.2=.local->scope.names.lookup y.1=some .local
theorem WK{scope:Scope}{env:Env}(h:∀y∈scope.names,y.2≠ .free):relabel scope env=scope:=by
 obtain⟨k,names,g,c,m⟩:=scope;have e:∀l:List (Str × NameKind),(∀y∈l,y.2≠ .free)->(l.map λ(n,k)=>if(k==NameKind.free&&env.scope.kind==.function&&env.kindOf n==some .cell)then(n,NameKind.cell)else(n,k))=l:=by
  intro l
  induction l with
  |nil=>intro _;rfl
  |cons y r ih=>
   intro hl;obtain⟨n,k⟩:=y;have hk:(k==NameKind.free)=false:=yaB.mpr (hl (n,k) lH);rw[lU,ih λy hy=>hl y (lG _ hy)];simp only[hk,yct,ycJ,ycw]
 unfold relabel;simp only[e names h]
theorem UA{scope:Scope}{env:Env}(h:∀y∈scope.names,y.2≠ .free):closureFor scope env=pure []:=by
 rw[Xr λy hy e=>absurd e (h y hy)];have e:∀(l:List (Str × NameKind))(acc:List (Str × Addr)),(∀y∈l,y.2≠ .free)->Zh env.cells l acc=acc:=by
  intro l
  induction l with
  |nil=>intro acc _;rfl
  |cons y r ih=>
   intro acc hl;obtain⟨n,k⟩:=y;have hk:(k==NameKind.free)=false:=yaB.mpr (hl (n,k) lH);unfold Zh;rw[hk];exact ih acc λy hy=>hl y (lG _ hy)
 rw[e _ _ h]
theorem Ko{scope:Scope}{globals:Addr}{qual:Str}{env:Env}(hk:scope.kind=.function)
  (hQ:∀PP s',PP={scope:=scope,locals:=s.heap.objs.size,globals:=globals,cells:=cellsFrom (s.heap.objs.size+1) scope.names [],qual:=qual,func:=none,code:=env.code,frame:=env.frame,builtins:=env.builtins}->
   InCallC s s.heap.objs.size (λ_=>none) (cellsFrom (s.heap.objs.size+1) scope.names []) (λ_=>none) s'->Q PP s'):
  wpAny qMa A (newFunctionEnv scope globals [] [] qual none .none (some env)) Q E s:=by
 simp only[newFunctionEnv,ydC,ybM];refine yab (wpAny_alloc ?_);refine yab (wpAny_layCells _ (λname kind cells=>by cases E7:kind==NameKind.cell<;>simp[E7]) _ _ _ _ ?_);have ok:=cellsFrom_ok scope.names (s.heap.push {cls:=.type "dict",data:=.dict #[]}) (s.heap.objs.size+1) [] ⟨λ_ _ hm=>(nomatch hm),List.Pairwise.nil⟩ (by rw[ybg];exact lA _);rw[ybg]at ok;rw[show({s with heap:=s.heap.push {cls:=.type "dict",data:=.dict #[]}}:Shared).heap.objs.size=s.heap.objs.size+1 from ybg ..];refine yab (yan (yan (hQ _ _ Z ?_)));exact⟨⟨⟨_,_,Z⟩,(Heap.Ns.new s.heap (.type "dict")).keeps (pushCells_keeps _ _),λb o e=>pushCells_keeps _ _ b o (yaa _ e),lA _⟩,
   λn c hc=>(ok.empty n c (mem_of_lookup hc)).1,ok.apart,λn c hm=>(ok.empty n c hm).2⟩
section
variable {prog:Program}
theorem Vm{elt target iter:Expr}{ifs:List Expr}{scope:Scope}{pos:Pos}{it acc:Value}{env:Env}(I:Nat->Shared->Prop)
  (turn:∀n s,I n s->wpAny (model prog w) A (pyNext it) (λr s₁=>match r with
   |none=>R (.ok .next) s₁
   |some v=>wpAny (model prog w) A (letOwnedTupleGo target it v) (λ_ HZ=>wpAny (model prog w) A (assign target env v) (λ_ s₂=>
     wpAny (model prog w) A (forIn ifs true λc r=>if r=true then do let ok←isTrue c env (eval c env);pure (ForInStep.yield ok)else pure (ForInStep.yield r)) (λok s₃=>
      if ok=true then wpAny (model prog w) A (eval elt env) (λx s₄=>
       wpAny (model prog w) A (call (.builtin "list.append") [acc,x]) (λ_ s₅=>∃m,m<n/\I m s₅) (notedBy (model prog w) A env λe s'=>R (.error e) s') s₄) (notedBy (model prog w) A env λe s'=>R (.error e) s') s₃
      else ∃m,m<n/\I m s₃) (notedBy (model prog w) A env λe s'=>R (.error e) s') s₂) (notedBy (model prog w) A env λe s'=>R (.error e) s') HZ) (notedBy (model prog w) A env λe s'=>R (.error e) s') s₁) (notedBy (model prog w) A env λe s'=>R (.error e) s') s)
  (n:Nat) (h:I n s):
  codeAny (model prog w) A (.compLoop (.ListComp elt [⟨target,iter,ifs,0⟩] scope pos) 0 it acc env) R s:=by
 refine codeAny_loop rfl I (λn s hI=>?_) n h;show wpAny _ A ((compTurn (.ListComp elt [⟨target,iter,ifs,0⟩] scope pos) 0 it acc env).onRaise (λx=>do noteFrame x env;theTreesLotGoes x)) _ _ s;refine wpAny_noted ?_;rw[compTurn_list];refine yab (ycF (yab (yaA (turn n s hI) (λr s₁ h₁=>?_) λ_ _ h'=>h')));cases r with
 |none=>exact yan h₁
 |some v=>
  refine yab (yaA h₁ (λ_ HZ NI=>?_) λ_ _ h'=>h');refine yab (yaA NI (λ_ s₂ h₂=>yab (yaA h₂ (λok s₃ h₃=>?_) λ_ _ h'=>h')) λ_ _ h'=>h');cases ok with
  |false=>exact yan ⟨Z,h₃⟩
  |true=>
   exact yab (yab (yaA h₃ (λx s₄ h₄=>yab (yaA h₄ (λ_ s₅ h₅=>yan (yan ⟨Z,h₅⟩)) λ_ _ h'=>h')) λ_ _ h'=>h'))
end
def Bd(X:Cx)(ifs:List Expr)(t:TT):Prop:=
 ∀(U:List (Addr × Obj))(s:Shared)(σ:St)(H:Hp)(Q:Bool->Hp->Prop),Inv X U σ H s->t σ H Q->
  wpAny (model X.prog X.w) X.A (forIn ifs true λc r=>if r=true then do let ok←isTrue c X.env (eval c X.env);pure (ForInStep.yield ok)else pure (ForInStep.yield r)) (TP X U σ Q) X.xe s
def ve:TT:=λ_ H Q=>Q true H
theorem Xt:Bd X [] ve:=λU s σ H Q I h=>wpAny_tests_nil ⟨H,I,h⟩
theorem XO(h:PT X c t):Bd X [c] t:=λU s σ H Q I q=>wpAny_tests_one (h U s σ H Q I q)
def V0(NB:List Str)(wi:TI)(g:TG)(tt:TT)(te:TE):TE:=λσ H Q=>wi σ H λJ H1=>∃W:Nat->Nat->List V->Hp->Prop,(∃m,W 0 m [] H1)/\∀i m vs H,W i m vs H->
 (J.stop i H/\∀p,H p=none->Q (.ref p) (upd H p (.lst vs)))\/(J.go i H/\vs.length<sizeLine/\∃N:List V->Hp->Prop,(∀Ch H',N Ch H'->∃m',m'<m/\W (i+1) m' Ch H')/\
  ∀x H',J.cK i H x H'->g x (replicate NB.length none) H' λσ2 H2=>tt σ2 H2 λb H3=>if b=true then te σ2 H3 λv H4=>N (vs++[v]) H4 else N vs H3)
noncomputable abbrev Kk(ys:List Value):Obj:={cls:=.type "list",data:=.seq ys.toArray ys.length}
section
theorem Zi{elt tg iter:Expr}{ifs:List Expr}{scope:Scope}{pos:Pos}{tt:TT}(hc:X.calm=true)(S:bZ NB scope)(hi:PI X tg iter wi)
  (hg:∀s H ex,PG (Ze X NB scope s H ex) tg g) (ht:∀s H ex,Bd (Ze X NB scope s H ex) ifs tt) (he:∀s H ex,PE (Ze X NB scope s H ex) elt te)
  (hs:∀x,foldedSetIterable iter X.env x=pure x:=by intro _;rfl):PE X (.ListComp elt [⟨tg,iter,ifs,0⟩] scope pos) (V0 NB wi g tt te):=by
 intro U s σ H Q I h;rw[eval_ListComp];refine ycC (use:=none) (cl:=[]) rfl hs (UA S.aT) S.kind S.loc (au (hi U s σ H _ I h) λv s1 h1=>au h1 λAQ s2 h2=>?_);obtain⟨it,fp,tn,J,H2,e,I2,T,fK,f2,W,⟨m0,w0⟩,turn⟩:=h2;subst e;refine yaX ?_;have cR:∀b o,s2.heap.get? b=some o->(s2.heap.push {cls:=.type "list",data:=.seq ([]:List Value).toArray}).get? b=some o:=λb o e=>yaa _ e;have I3:Inv X U σ H2 {s2 with heap:=s2.heap.push {cls:=.type "list",data:=.seq ([]:List Value).toArray}}:=I2.kept (t':=s2.toks) cR;have dQ:tn 0 (s2.heap.push {cls:=.type "list",data:=.seq ([]:List Value).toArray}):=T.keep _ _ _ fK λb _ o e=>cR b o e;have cS:(s2.heap.push {cls:=.type "list",data:=.seq ([]:List Value).toArray}).get? s2.heap.objs.size=some (Kk []):=yam _ rfl;have iX:H2 s2.heap.objs.size=none:=I2.ag.fresh (lA _);have P3:∀b o,s2.heap.get? b=some o->b≠s2.heap.objs.size:=λb o e=>yal (yae e);have iY:∀b∈fp,∃o,s2.heap.get? b=some o:=λb hb=>let ⟨o,e,_⟩:=T.obj _ _ fK b hb;⟨o,e⟩;have ss:X.s₀.heap.objs.size<=s2.heap.objs.size:=I2.sz;have ei:s2.heap.objs.size≠X.env.locals:=ybA I2.lt;have dH:∀x c,X.env.cells.lookup x=some c->c≠s2.heap.objs.size:=λx c e=>let ⟨v,o,e1,_⟩:=I2.cell x c e;P3 c o e1;have eu:∀p∈X.pn++U,p.1≠s2.heap.objs.size:=λp hp=>P3 p.1 _ (I2.pin p hp).1;have eB:s2.heap.objs.size∉aI X.stack:=λz=>let ⟨o,e,_⟩:=(I2.stack.mem z).2;P3 _ o e rfl;generalize Be:({s2 with heap:=s2.heap.push {cls:=.type "list",data:=.seq ([]:List Value).toArray}}:Shared)=s3 at I3 ⊢;have Bf:s3.heap=s2.heap.push {cls:=.type "list",data:=.seq ([]:List Value).toArray}:=by rw[←Be]
 rw[←Bf]at dQ cS cR;generalize s2.heap.objs.size=D at cS iX P3 ss ei dH eu eB ⊢;refine Ko S.kind λPP s4 eC x4=>?_;subst eC;rw[WK S.aT];have eE:∀b o,s3.heap.get? b=some o->b<s3.heap.objs.size:=λb o e=>yae e;have fP:∀b∈fp,b<s3.heap.objs.size:=λb hb=>let ⟨o,e⟩:=iY b hb;eE b o (cR b o e);have IR:D<s3.heap.objs.size:=eE D _ cS;have Re:∀b∈fp,b≠D:=λb hb=>let ⟨o,e⟩:=iY b hb;P3 b o e;obtain⟨h4,ip,rfl,Ty⟩:=x4.done;have Bg:∀b o,X.M.get? b=some o->b∉D::fp:=λb o e hb=>by
  rcases yag.mp hb with rfl|hb
  ·exact absurd (yad (yae (I2.ok.bs b o e).1) ss) (lY _)
  ·obtain⟨_,_,_,f3,_⟩:=f2 b hb;rcases f3 with z|z
   ·exact I2.ok.bF b o e z
   ·exact absurd (yad (yae (I2.ok.bs b o e).1) z) (lY _)
 have iZ:∀b∈D::fp,b∉aI X.stack:=λb hb hf=>by
  rcases yag.mp hb with rfl|hb
  ·exact eB hf
  ·obtain⟨_,f1,Bh,_⟩:=f2 b hb;rcases yag.mp (I2.KR b hf)with z|z
   ·exact f1 z
   ·exact Bh z
 have eF:∀y c,(cellsFrom (s3.heap.objs.size+1) scope.names []).lookup y=some c->s3.heap.objs.size<c:=λy c e=>x4.above y c (yax e);have cp:∀b∈D::fp,b<s3.heap.objs.size:=λb hb=>by
  rcases yag.mp hb with rfl|hb
  ·exact IR
  ·exact fP b hb
 have Bi:(Ze X NB scope s3 H2 (D::fp)).Ok:=by
  refine⟨I3.ok.mod,S.kind,I3.ok.glob,I3.ok.blt,lA _,λy z c h1 h2=>?_,λy hy=>?_,λy c _ h=>ybi (eF y c h),I3.ok.hd,I3.ok.frames,.inl rfl,λb hb=>⟨yal (cp b hb),λy c e z=>?_⟩,I3.bs,yas I3.ok.cH I3.sz,Bg,iZ,I3.stack,I3.Ku⟩
  ·exact name_of_addr x4.apart (yax h1) (yax h2)
  ·have hy:scope.names.lookup y=some .cell\/scope.names.lookup y=some .free:=hy;rcases hy with hy|hy
   ·exact WV hy
   ·exact absurd rfl (S.aT _ (yax hy))
  ·have:=eF y c e;rw[z]at this;exact absurd (yaD this (cp b hb)) (lY _)
 have rep:∀(j:Nat)(v:V),(replicate NB.length (none:Option V))[j]? ≠some (some v):=λj v z=>by
  rw[ybq]at z
  split at z<;>cases z
 have IB:Inv (Ze X NB scope s3 H2 (D::fp)) [(D,Kk [])] (replicate NB.length none) H2 {s3 with heap:=h4,toks:=ip}:=by
  refine⟨Bi,Z,I3.bare,Un.kept Ty,⟨_,x4.toInCall.ns,λi y v h1 h2 h3=>absurd h2 (rep i v)⟩,λy c h=>⟨_,x4.cell y c h⟩,I3.ag.fresh (lA _),λy c h=>I3.ag.fresh (ybi (eF y c h)),λp hp=>?_,I3.ag.kept Ty,by rw[lN]⟩;obtain rfl:p=(D,Kk []):=by simpa using hp
  exact⟨Ty _ _ cS,iX,yal IR,eB,λv z=>nomatch z⟩
 have on:∀{H':Hp}{ys:List Value},(∀b∈fp,H' b=none)->∀b∈fp,xc (Ze X NB scope s3 H2 (D::fp)) [(D,Kk ys)] H' b:=λhn b hb=>
  ⟨hn b hb,yal (fP b hb),iZ b (lG _ hb),.inl (lG _ hb),λy c e z=>by
   have:=eF y c e;rw[z]at this;exact absurd (yaD this (fP b hb)) (lY _),λp hp=>by
    obtain rfl:p=(D,_):=by simpa using hp
    exact(Re b hb).symm⟩
 have i0:tn 0 h4:=T.keep _ _ _ dQ λb _ o e=>Ty b o e;have Bj:∀b∈fp,H2 b=none:=λb hb=>(f2 b hb).1;have dG:(Ze X NB scope s3 H2 (D::fp)).calm=true:=hc;have loop:codeAny (model X.prog X.w) X.A (.compLoop (.ListComp elt [⟨tg,iter,ifs,0⟩] scope pos) 0 (.ref it) (.ref D) (xI scope X.env s3.heap.objs.size))
   (compPost (model X.prog X.w) X.A X.xe none (EP X U σ Q) (.ref D) s3.heap.objs.size) {s3 with heap:=h4,toks:=ip}:=by
  refine Vm (λn s'=>∃i vs ys H',Inv (Ze X NB scope s3 H2 (D::fp)) [(D,Kk ys)] (replicate NB.length none) H' s'/\Vals vs ys/\vs.length<=sizeLine/\tn i s'.heap/\(∀b∈fp,H' b=none)/\W i n vs H') ?_ m0 ⟨0,[],[],H2,IB,.nil,lX _,i0,Bj,w0⟩;rintro n s5 ⟨i,vs,ys,H5,I5,rv,eG,dD,fL,w5⟩;rcases turn i n vs H5 w5 with⟨stop,qn⟩|⟨go,bn,N,hN,step⟩
  ·refine yaA (T.done (Ze X NB scope s3 H2 (D::fp)) Z Z Z dG i _ s5 _ H5 (λ_ _=>False) I5 (on fL) dD stop) (λr s6⟨hr,I6⟩=>?_) (λ_ _ z=>z.elim);subst hr;obtain⟨m6,Bk,_⟩:=id I6.loc;refine⟨m6,Bk,λh7 E8=>?_⟩;have eI:∀b o,b≠s3.heap.objs.size->s6.heap.get? b=some o->h7.get? b=some o:=λb o hb e=>(E8.2 b hb).trans e;have o4:H5 s3.heap.objs.size=none:=I6.free;have Bl:Un (aI X.stack) (D::fp) H2 H5 s3.heap h7:=by
    have u:=I6.M;refine⟨λb o e n hb hx=>eI b o (yal (yae e)) (u.keep b o e n hb hx),λb o e n hb hx=>?_,u.free,λb o e hx=>?_,u.bq,u.bc,u.bf⟩
    ·obtain⟨sl,q⟩:=u.slot b o e n hb hx;exact⟨sl,eI b _ (yal (yae e)) q⟩
    ·obtain⟨o',q⟩:=u.there b o e hx;exact⟨o',eI b _ (yal (yae e)) q⟩
   have o6:aV X.prog X.w H5 h7:=λb u e=>(I6.ag b u e).KQ (λc w' dC q=>eI c w' (by
    rintro rfl;rcases dC with rfl|dC
    ·rw[o4]at e;cases e
    ·rw[o4]at dC;cases dC) q) (λ_ q=>q) λ_ _ q=>q
   have I7:Inv X U σ H5 {s6 with heap:=h7}:=I3.z8 (s':={s6 with heap:=h7}) I6.os Bl o6 I6.bare λb hb=>by
    rcases yag.mp hb with rfl|hb
    ·exact⟨.inr ss,ei,dH,eu⟩
    ·obtain⟨_,f1,_,f3,f4,f5⟩:=f2 b hb;exact⟨f3,f1,f4,f5⟩
   obtain⟨eD,nD,_⟩:=I6.pin (D,Kk ys) (by simp);have i4:H5 D=none:=nD;have Bm:h7.get? D=some (Kk ys):=eI D _ (yal IR) eD;have Bn:X.s₀.heap.get? D=none:=by
    cases q:X.s₀.heap.get? D with
    |none=>rfl
    |some o=>exact absurd (yad (yae q) ss) (lY _)
   exact⟨.ref D,upd H5 D (.lst vs),I7.wV i4 Bn ei dH eu ⟨eG,ys,ys.length,rv,Bm⟩,Z,qn D i4⟩
  ·refine yaA (T.item (Ze X NB scope s3 H2 (D::fp)) Z Z Z dG i _ s5 _ H5 (λ_ _=>False) I5 (on fL) dD go) (λr s6⟨u,hr,h6⟩=>?_) (λ_ _ z=>z.elim);subst hr;refine yaA h6 (λ_ s7⟨x,H7,I7,r7,y7,eJ,Bo⟩=>?_) (λ_ _ z=>z.elim);have Bp:=I7.pinned (on Bo) (T.obj _ _ eJ);refine yaA (hg s3 H2 (D::fp) _ s7 _ H7 x u _ Bp r7 (step x H7 y7)) (λ_ s8⟨σ8,H8,I8,q8⟩=>?_) (λ_ _ z=>z.elim);refine yaA (ht s3 H2 (D::fp) _ s8 σ8 H8 _ I8 q8) (λok s9⟨H9,I9,q9⟩=>?_) (λ_ _ z=>z.elim);have i5:∀{σ':St}{H':Hp}{s':Shared},Inv (Ze X NB scope s3 H2 (D::fp)) ([(D,Kk ys)]++Vb fp s7.heap) σ' H' s'->tn (i+1) s'.heap/\∀b∈fp,H' b=none:=λJ=>
    ⟨T.keep _ _ _ eJ λb hb o e=>(J.pin (b,o) (lE _ (lE _ (Zb hb e)))).1,λb hb=>by
     obtain⟨o,e,d⟩:=T.obj _ _ eJ b hb;exact(J.pin (b,o) (lE _ (lE _ (Zb hb e)))).2.1⟩
   have wk:∀{σ':St}{H':Hp}{s':Shared}{pl:List (Addr × Obj)},Inv (Ze X NB scope s3 H2 (D::fp)) pl σ' H' s'->Inv (Ze X NB scope s3 H2 (D::fp)) pl (replicate NB.length none) H' s':=λJ=>
    J.weak (by rw[lN];exact J.len.symm) λj v z=>absurd z (rep j v)
   cases ok with
   |false=>
    rw[yac (by decide)]at q9;rw[yac (by decide)];obtain⟨m',hm,w9⟩:=hN vs H9 q9;obtain⟨t9,f9⟩:=i5 I9;exact⟨m',hm,i+1,vs,ys,H9,wk I9.ZG,rv,eG,t9,f9,w9⟩
   |true=>
    rw[yaf rfl]at q9;rw[yaf rfl];refine yaA (he s3 H2 (D::fp) _ s9 σ8 H9 _ I9 q9) (λy cT⟨v,LE,eK,eM,Bq⟩=>?_) (λ_ _ z=>z.elim);obtain⟨eD,nD,_,nf,_⟩:=eK.pin (D,Kk ys) (by simp);have Br:=rv.length;refine append_at (hsz:=by show ys.toArray.size<=sizeLine;rw[lW, ←Br];exact eG) eD λi6 eN eO=>?_;obtain⟨m',hm,Bs⟩:=hN (vs++[v]) LE Bq;obtain⟨oQ,Bt⟩:=i5 eK;have eP:=eK.ZG;have i7:∀b o,b≠D->cT.heap.get? b=some o->i6.get? b=some o:=λb o hb e=>(eN.2 b hb).trans e;have IE:Inv (Ze X NB scope s3 H2 (D::fp)) [] σ8 LE cT:=eP.XG λp hp=>nomatch hp;have Bu:Inv (Ze X NB scope s3 H2 (D::fp)) [] σ8 LE {cT with heap:=i6}:=IE.turned (t':=cT.toks) i7 nD (yal IR) (.inl lH) (λy' c e z=>by
     have:=eF y' c e;rw[z]at this;exact absurd (yaD this IR) (lY _)) (λp hp=>absurd (show p∈([]:List (Addr × Obj))from hp) (by simp))
    have eL:({cls:=.type "list",data:=.seq (ys.toArray.push y) (ys.length+1)}:Obj)=Kk (ys++[y]):=by
     show({cls:=.type "list",data:=.seq (ys.toArray.push y) (ys.length+1)}:Obj)={cls:=.type "list",data:=.seq (ys++[y]).toArray (ys++[y]).length};rw[lq,lC,ydL]
    refine⟨m',hm,i+1,vs++[v],ys++[y],LE,wk (Bu.XG λp hp=>?_),rv.append (.cons eM .nil),by rw[lq,lC];exact bn,T.keep _ _ _ oQ λb hb o e=>i7 b o (Re b hb) e,Bt,Bs⟩;obtain rfl:p=(D,Kk (ys++[y])):=by simpa using hp
    exact⟨by rw[←eL];exact eO,nD,yal IR,nf,λv z=>nomatch z⟩
 exact ycQ loop (T.self _ 0 _ _ _ i0 loop)
end
open Builtin Builtin.Str
section
variable {prog:Program}
theorem ycm{name:Str}{id:String}{rest:List Value}(slot:Slot "str" name id)(entry:entryFor table id=some B)(args:argsOk id ⟨.str x t::rest,[]⟩)
  (g:Gives (B ⟨.str x t::rest,[]⟩) m) (h:m.post Q s):wpAny (model prog w) A (call (.builtin id) (.str x t::rest)) Q E s:=
 ydk (ycr slot.plain entry (slot.check _ _ _ _ _ _ _ _ (ybY _ _ _) args (g prog w A (wants Q E) s h)))
end
section
def Dx(C:Str->Str->Prop)(f:Str->Str->V):V->List V->Hp->VK->Prop:=λx vs H Q=>∃z y,x=.str z/\vs=[.str y]/\C z y/\Q (f z y) H
def NJ(z _:Str):Prop:=z.length<=sizeLine
theorem Z4:cN X "str.strip" (Dx NJ λz y=>.str (Txt.stripChars z y)):=by
 intro U s σ H x vs v us Q I rx rv h;obtain⟨z,y,rfl,rfl,hl,q⟩:=h;obtain⟨t,rfl⟩:=rx;obtain⟨u,rfl,t',rfl⟩:=vals1 rv;exact ycm F.slot_str_strip F.entry_str_strip (F.args_str_strip_2 _ _) (gives_str_strip_chars z y t t') (ycx (λ_=>fits_stripped _ _ _ hl) λt2 k=>⟨.str _,H,I.tok k,⟨t2,Z⟩,q⟩)
theorem YC:cN X "str.startswith" (Dx (λ_ _=>True) λz y=>.bl (Txt.startswith z y)):=by
 intro U s σ H x vs v us Q I rx rv h;obtain⟨z,y,rfl,rfl,_,q⟩:=h;obtain⟨t,rfl⟩:=rx;obtain⟨u,rfl,t',rfl⟩:=vals1 rv;exact ycm F.slot_str_startswith F.entry_str_startswith (F.args_str_startswith_2 _ _) (gives_str_startswith z y t t') ⟨.bl _,H,I,Z,q⟩
theorem xJ:cN X "str.find" (Dx (λ_ _=>True) λz y=>.int (Txt.find z y)):=by
 intro U s σ H x vs v us Q I rx rv h;obtain⟨z,y,rfl,rfl,_,q⟩:=h;obtain⟨t,rfl⟩:=rx;obtain⟨u,rfl,t',rfl⟩:=vals1 rv;exact ycm F.slot_str_find F.entry_str_find (F.args_str_find_2 _ _) (gives_str_find z y t t') ⟨.int _,H,I.tok _,⟨_,Z⟩,q⟩
theorem W1:cN X "str.zfill" (λx vs H Q=>∃z i,x=.str z/\vs=[.int i]/\PadOk i=true/\Q (.str (Txt.zfill z i)) H):=by
 intro U s σ H x vs v us Q I rx rv h;obtain⟨z,i,rfl,rfl,hp,q⟩:=h;obtain⟨t,rfl⟩:=rx;obtain⟨u,rfl,t',rfl⟩:=vals1 rv;exact ycm F.slot_str_zfill F.entry_str_zfill (F.args_str_zfill_2 _ _) (gives_str_zfill z i t t' (ycg hp).1 (ycg hp).2) (ycx (fits_zfilled (ycg hp).2) λt2 k=>⟨.str _,H,I.tok k,⟨t2,Z⟩,q⟩)
theorem JT:Dj X (λx lo hi H Q=>∃z,x=.str z/\z.length<=sizeLine/\Q (.str (StrLaws.sliceText z lo hi)) H):=by
 intro U s σ H x v vl vu lo hi sl Q I rx hs pl pu h;obtain⟨z,rfl,hl,q⟩:=h;obtain⟨t,rfl⟩:=rx;have part:∀{v:Value}{o:Option Int},IsPart v o->∃p:Option (Int × Tok),v=partValue p/\p.map (·.1)=o:=λp=>by
  cases p with
  |none=>exact⟨none,Z,Z⟩
  |int i t=>exact⟨some (i,t),Z,Z⟩
 obtain⟨p,rfl,rfl⟩:=part pl;obtain⟨p2,rfl,rfl⟩:=part pu;refine⟨"str",_,F.slot_str_getitem.lookup,ybY _ _ _,?_⟩;refine wpAny_getItem_str_slice (l:=p) (u:=p2) (st:=none) hs rfl ?_;unfold sliceMade slicePicked;refine ycx (λ_=>?_) λt2 k=>⟨.str (StrLaws.sliceText z (p.map (·.1)) (p2.map (·.1))),H,I.tok k,⟨t2,Z⟩,q⟩;show(List.filterMap _ _).toArray.size<=sizeLine;rw[lW];exact yas (List.length_filterMap_le _ _) (yas (sliceIndices_le _ _ _) hl)
end
theorem xK:typeLookup (.type "list_reverseiterator") "__len__"=pure none:=by rw[typeLookup_type,builtinLookup_eq_fast];kernel_rfl
theorem vf:typeLookup (.type "list_reverseiterator") "__length_hint__"=pure (some (.builtin "list_reverseiterator.__length_hint__")):=by rw[typeLookup_type,builtinLookup_eq_fast];kernel_rfl
section
variable {prog:Program}
theorem xL(hh:A.handled=none)(I l:Addr)(ul:l≠I)(items:Array Value):
  WalksS prog w A I [I,l] [I] (λa b=>a=b) items.size (λi v=>items[items.size-1-i]? =some v) (λi s=>i<=items.size/\s.heap.IsRevIter I l ((items.size:Int)-1-(i:Int))/\s.heap.IsList l items) where
 sub:=λb hb=>by simp at hb;simp[hb]
 grefl:=λ_=>rfl
 gtrans:=λ_ _ _ a b=>a.trans b
 frame:=λi s h' tk x _ hk=>⟨x.1,x.2.1.at λo e=>hk I (by simp) o e,x.2.2.at λo e=>hk l (by simp) o e⟩
 item:=λi s Q E hi x hQ=>by
  have e:(items.size:Int)-1-(i:Int)=((items.size-1-i:Nat):Int):=by lia
  have hit:=x.2.1;rw[e]at hit;have hx:items[items.size-1-i]? =some (items[items.size-1-i]'(by lia)):=ycu (by lia);refine wpAny_pyNext_rev_item hit x.2.2 hx λh' Bv Ia=>?_;have e2:((items.size-1-i:Nat):Int)-1=(items.size:Int)-1-((i+1:Nat):Int):=by lia
  rw[e2]at Bv;exact hQ _ _ hx ⟨hi,Bv,x.2.2.at λo eo=>(Ia.2 l ul).trans eo⟩ ⟨λb o hb eo=>Ia.extBut b o (λh=>hb (by simp[h])) eo,Z,Z,Z,lA _⟩
 done:=λs Q E x hQ=>by
  have e:(items.size:Int)-1-(items.size:Int)= -1:=by lia
  have hit:=x.2.1;rw[e]at hit;exact wpAny_pyNext_rev_end hh hit λh' NK=>hQ _ ⟨λb o hb eo=>NK b o (λh=>hb (by simp[h])) eo,Z,Z,Z,lA _⟩
 self:=λ_ _ _ _ x hQ=>wpAny_pyIter_revIter x.2.1 hQ
variable {wr:List Addr}{St:Nat->Shared->Prop}
theorem qu(W:WalksS prog w A.in1 I fp wr G n P St)(hT:∀i s,St i s->s.TypeIs (.ref I) "list_reverseiterator") (ge:St 0 s) (E9:∀b∈fp,b<s.heap.objs.size) (hI:I∈fp)
  (hQ:∀s' acc,Moved wr G s s'->ItemsOf P acc n->Q acc.toList s') (hn:n<=sizeLine):wpAny (model prog w) A (collect (.ref I)) Q E s:=by
 have Ib:s.heap.objs.size∉fp:=λhm=>lY _ (E9 _ hm);have Fb:s.heap.objs.size≠I:=λe=>Ib (e▸hI);unfold collect;refine yab (wpAny_runValue (yeg F.entry_proto_collect ?_));rw[Around.under_plainId F.plain_proto_collect _];show wpAny _ A.in1 (newList []>>=λl=>again (.builtin "list.__iadd__" ⟨[l,.ref I],[]⟩)) _ _ s;refine yab (yaX ?_);refine yan ⟨plainId_quiet F.plain_list_iadd _,yeg F.entry_list_iadd ?_⟩;rw[Around.under_plainId F.plain_list_iadd _];have df:=W.frame 0 s (s.heap.push {cls:=.type "list",data:=.seq ([]:List Value).toArray}) s.toks ge (lA _) λb _ o e=>yaa _ e;have NL:(s.heap.push {cls:=.type "list",data:=.seq ([]:List Value).toArray}).get? s.heap.objs.size=some {cls:=.type "list",data:=.seq ([]:List Value).toArray}:=yam _ rfl;have h1:Builtin.List.listSameRef (.ref s.heap.objs.size) (.ref I)=false:=by simp[Builtin.List.listSameRef,Fb]
 show wpAny _ A.in1 (Builtin.List.listExtendWith (.ref s.heap.objs.size) (.ref I) (.ref s.heap.objs.size)) _ _ _;unfold Builtin.List.listExtendWith;refine yab (ydA (hT 0 _ df) ?_);rw[yac (by rw[h1];decide)];refine yab (W.self 0 _ _ _ df ?_);refine yab (ycE ?_);unfold Builtin.List.listLengthHint;refine yab (ydq (hT 0 _ df) xK ?_);show wpAny _ A.in1 (specialOf (Value.ref I) (Str.ofString "__length_hint__")>>=_) _ _ _;refine yab (ydq (hT 0 _ df) vf ?_);generalize aO:("list_reverseiterator.__length_hint__":String)=Dy
 (fail_if_success (clear aO Dy))
 wp_delta
 rw[show splitId Dy=some ("list_reverseiterator","__length_hint__")from by subst aO;decide+kernel];subst aO;refine yab (ydU (b:=true) (hT 0 _ df) (by rw[isSubtype_type];kernel_rfl) ?_);refine yan ?_;rw[yac (by decide)];refine yan ⟨plainId_quiet F.plain_extend_loop _,codeAny_extend_loopS W hn _ Ib _ n 0 _ _ _ rfl (lX _) df NL (ItemsOf.nil P) λs' Ps c' hm Fc Sc=>?_⟩;show wpAny _ A (load s.heap.objs.size>>=_) _ _ s';refine yab (wpAny_load Fc ?_);exact yan (hQ s' Ps (Moved.drop_new (o:={cls:=.type "list",data:=.seq ([]:List Value).toArray}) (tk:=s.toks) hm (lA _)) Sc)
theorem vg(W:WalksS prog w A.in1.in1 I fp wr G n P St)(hT:∀i s,St i s->s.TypeIs (.ref I) "list_reverseiterator") (ge:St 0 s) (E9:∀b∈fp,b<s.heap.objs.size) (hI:I∈fp)
  (Fd:∀i v,P i v->∃y u,v=Value.str y u)
  (hq:∀s'(l:List (Str × Tok)),Moved wr G s s'->ItemsOf P (strValues l).toArray n->JoinOk x (l.map (·.1))=true/\∀t' k,Q (.str (Txt.join x (l.map (·.1))) t') {s' with toks:=k}) (hsz:n<=sizeLine):
  wpAny (model prog w) A (call (.builtin "str.join") [.str x t,.ref I]) Q E s:=by
 refine ydk (ycr F.slot_str_join.plain F.entry_str_join (F.slot_str_join.check _ _ _ _ _ _ _ _ (ybY _ _ _) (F.args_str_join_2 _ _) ?_));rw[join_tree_other];refine yab (ydA (hT 0 s ge) ?_);show wpAny _ A.in1 ((pyIter (.ref I)).tryCatch _>>=λit=>collect it>>=λitems=>joinTail x items) _ _ s;refine yab (wpAny_tryCatch (W.of_in1.self 0 s _ _ ge ?_));refine yab (qu W hT ge E9 hI (λs' acc hm Sc=>?_) hsz);obtain⟨l,hl⟩:=exists_strValues acc.toList λv hv=>by
  obtain⟨j,hj,rfl⟩:=Array.mem_iff_getElem.mp (yeq.mp hv);exact Fd j _ (Sc.2 j _ (ycu hj))
 rw[←hl];have Bw:ItemsOf P (strValues l).toArray n:=by rw[hl];simpa using Sc
 obtain⟨ag,By⟩:=hq s' l hm Bw;unfold JoinOk at ag;rw[ybO]at ag;have g:Gives (joinTail x (strValues l)) (joinMade x l):=by
  have g0:=gives_joinTail x l ag;cases l with
  |nil=>exact g0
  |cons p r=>cases r with
   |nil=>exact g0
   |cons q r'=>exact g0
 exact g prog w A (wants Q E) s' (post_join l ⟨joinFit_length ag,By⟩)
end
theorem boot_reversed:bootBuiltins "reversed"=some (.type "reversed"):=by boot_by_name
section
def NN(to te:TE):TE:=λσ H Q=>to σ H λx H1=>∃z,x=.str z/\te σ H1 λy H2=>∃(l:Addr)(ys:List Str),y=.ref l/\H2 l=some (.lst (ys.map V.str))/\JoinOk z ys.reverse=true/\Q (.str (Txt.join z ys.reverse)) H2
theorem zt{to te:TE}{apos Bz ci p:Pos}(hc:X.calm=true)(hg:Gl X "reversed")(hm:X.mg "reversed"=none)(ho:PE X o to)(he:PE X e te)
  (Os:attributeBase o "join" X.env (eval o X.env)=eval o X.env:=by rfl) (tz:(apos.endLine==ci.line)=true:=by rfl) (hs:starEach [e] X.env=[(false,eval e X.env)]:=by rfl):
  PE X (.Call (.Attribute o "join" apos) [.Call (.Name "reversed" p) [e] [] Bz] [] ci) (NN to te):=by
 intro U s σ H Q I h;refine wpAny_Call_method_late Os rfl tz rfl (au (ho U s σ H _ I h) λv s1⟨x,H1,I1,r1,q1⟩=>?_);obtain⟨z,rfl,q1⟩:=q1;obtain⟨t,rfl⟩:=r1;refine⟨"str","str.join",yau,ybr,ybs,ybY _ _ _,(λ_ e=>nomatch e),?_⟩;refine yca rfl (ycq ?_);show wpAny _ _ (spliced ((false,eval (.Call (.Name "reversed" p) [e] [] Bz) X.env)::[])) _ _ s1;refine ybB ?_;refine yaZ (WF I1 hg hm boot_reversed ?_ (by decide) (by decide));refine yaT ?_ hs rfl;rw[hs];show wpAny _ _ (spliced ((false,eval e X.env)::[])) _ _ s1;refine ybB (au (he U s1 σ H1 _ I1 q1) λy s2⟨yv,H2,I2,r2,l,ys,e2,hl,hj,q2⟩=>yci ?_);subst e2;obtain rfl:y=Value.ref l:=r2;obtain⟨zz,ap,n,rv,hlen,eo⟩:=I2.wQ hl;have fQ:s2.heap.IsList l ap.toArray:=⟨_,eo,Z,n,Z⟩;have BA:ap.length=ys.length:=by rw[←rv.length,lu]
 refine call_reversed_list fQ ?_;refine yci ?_;have up:∀b o,s2.heap.get? b=some o->(s2.heap.push (revObj l ((ap.toArray.size:Int)-1))).get? b=some o:=λb o e=>yaa _ e;have I3:Inv X U σ H2 {s2 with heap:=s2.heap.push (revObj l ((ap.toArray.size:Int)-1))}:=I2.kept (t':=s2.toks) up;have ul:l≠s2.heap.objs.size:=yal (yae eo);have hh:X.A.in1.in1.handled=none:=I2.ok.hd hc;have BB:∀(i:Nat)(u:Value),ap.toArray[ap.toArray.size-1-i]? =some u->∃y t,u=Value.str y t:=λi u hu=>by
  have h1:ap[ap.toArray.size-1-i]? =some u:=by simpa using hu
  have bn:=(yaj.mp h1).1;have h2:(ys.map V.str)[ap.toArray.size-1-i]? =some ((ys.map V.str)[ap.toArray.size-1-i]'(by rw[lu];lia)):=yah _;obtain⟨u',e',r'⟩:=rv.get h2;rw[h1]at e';cases e';rw[List.getElem_map]at r';obtain⟨t',rfl⟩:=r';exact⟨_,_,Z⟩
 show wpAny _ _ (call (.builtin "str.join") [.str z t,.ref s2.heap.objs.size]) _ _ _;refine vg (xL hh s2.heap.objs.size l ul ap.toArray) (λi s x=>x.2.1.typeIs) ⟨lX _,⟨_,yam _ rfl,Z,by simp[revObj]⟩,fQ.push _⟩ (λb hb=>?_) (by simp) BB (λs' ls hm hi=>?_) ?_
 ·show b<(s2.heap.push _).objs.size;rw[ybg];rcases yag.mp hb with rfl|hb
  ·exact ydV _
  ·rw[yak.mp hb];exact ydM (yae eo)
 ·have NO:ls.map (·.1)=ys.reverse:=by
   have hsz:ls.length=ap.length:=by
    have:=hi.1;unfold strValues at this;simpa using this
   refine List.ext_getElem? λj=>?_
   by_cases hj:j<ls.length
   ·have e1:(strValues ls).toArray[j]? =some (Value.str ls[j].1 ls[j].2):=by
     unfold strValues;simp[hj]
    have e2:=hi.2 j _ e1;have e3:ap[ap.toArray.size-1-j]? =some (Value.str ls[j].1 ls[j].2):=by simpa using e2
    have h2:(ys.map V.str)[ap.toArray.size-1-j]? =some ((ys.map V.str)[ap.toArray.size-1-j]'(by rw[lu,lW];lia)):=yah _;obtain⟨u',e',r'⟩:=rv.get h2;rw[e3]at e';cases e';rw[List.getElem_map]at r';obtain⟨t',r'⟩:=r';have hq:=(Value.str.inj r').1;rw[lK,yah hj,List.getElem?_reverse (by lia)];simp only[Option.map_some];have Fe:ap.toArray.size-1-j=ys.length-1-j:=by rw[lW,BA]
    simp only[Fe]at hq;rw[yah (by lia),hq]
   ·rw[yei (by rw[lu];lia),yei (by rw[yds];lia)]
  rw[NO];refine⟨hj,λt' k=>?_⟩;obtain⟨h',g',d',Dz,oH⟩:=s';obtain rfl:g'=s2.gens:=hm.gens.symm;obtain rfl:d'=s2.drawn:=hm.drawn;obtain rfl:oH=s2.os:=hm.os;have fr:H2 s2.heap.objs.size=none:=I2.ag.fresh (lA _);have F3:=I2.wC (lA _) fr;obtain⟨f0,f1,f2,f3,f4,f5⟩:=F3;refine⟨.str _,H2,?_,⟨t',Z⟩,q2⟩;exact(I3.turned (h':=h') (t':=k) (it:=s2.heap.objs.size) (λb o hb e=>hm.heap b o (by simpa using hb) e) f0 f1 f3 f4 f5:)
 ·rw[lW,BA, ←lu (f:=V.str)];exact zz
theorem QB:aS X (binaryOp .Mult) (λx y H Q=>∃z n,x=.str z/\y=.int n/\ -(2^40)<n/\z.length*n.toNat<=sizeLine/\n<2^40/\Q (.str (VX z n.toNat)) H):=by
 intro U s σ H x y v u Q I rx ry h;obtain⟨z,n,ex,ey,h0,hl,hn,q⟩:=h
 by_cases hz:0<=n
 ·exact zm U s σ H x y v u Q I rx ry ⟨z,n,ex,ey,hz,hl,hn,q⟩
 ·subst ex ey;obtain⟨t,rfl⟩:=rx;obtain⟨t',rfl⟩:=ry;refine PySem.P.mul_str ?_ ?_ ?_ ?_
  ·rw[lx (by lia),lx (by lia)];rfl
  ·intro h1 h2 h3;lia
  ·intro h1 h2;lia
  ·rw[yaf (by lia)];have e:VX z n.toNat=Str.empty:=by rw[show n.toNat=0 by lia];rfl
   exact⟨by decide,.str (VX z n.toNat),H,I.tok _,⟨_,by rw[e]⟩,q⟩
theorem NP(hu:X.A.units+1+n<cLine):aS X (compareOp .NotEq) (λx y H Q=>∃a b xs ys,x=.ref a/\y=.ref b/\ay X.K H a xs/\ay X.K H b ys/\bE X.K H n xs ys/\Q (.bl false) H):=by
 intro U s σ H x y v u Q I rx ry h;obtain⟨a,b,xs,ys,rfl,rfl,ha,hb,lk,q⟩:=h;obtain rfl:v=Value.ref a:=rx;obtain rfl:u=Value.ref b:=ry;obtain⟨ap,r1,p1,_⟩:=I.list ha;obtain⟨Da,r2,p2,_⟩:=I.list hb;have l1:=r1.length;have l2:=r2.length;have l3:=lk.len;refine SeqAt.RcNeAt.lists (e:=λ_=>true) p1.isList p2.isList (by rw[lW,lW];lia) (by lia) (Vi (U:=U) (σ:=σ) (H:=H) (n:=n) r1 r2 λj x y u v h1 h2 q1 q2=>(lk.at j x y h1 h2).at I (A:=X.A.in1) (by show X.A.units+1+n<cLine;lia) q1 q2) X.prog X.w X.xe _ ?_;rw[all_true];exact⟨.bl false,H,I,Z,q⟩
end
noncomputable def BC(lo c:Int)(n:Nat):It:=⟨λi _=>i<n,λi H x H'=>H'=H/\x=.int (lo+i*c),λi _=>n<=i⟩
theorem qv{P:Program}{w:World}{K:Frag}{tg:Expr}(it:Addr)(lo c:Int)(n:Nat):Turn P w K tg (BC lo c n) [it] it (λi h=>IsRangeIter h it (lo+(i:Nat)*c) ((n:Int)-(i:Nat)) c) where
 mem:=by simp
 obj:=λi h st b hb=>by
  have e:b=it:=by simpa using hb
  subst e;exact⟨_,st,λv z=>by
   have z':Data.fields _=Data.cell v:=z;cases z'⟩
 keep:=λi h h' st k=>k it (by simp) _ st
 item:=by
  intro X hP hw hK hc i U s σ H E I hf st hg;subst hP hw hK;obtain⟨f0,f1,f2,f3,f4,f5⟩:=hf it (by simp);have W:=Walks.range (prog:=X.prog) (w:=X.w) (I.ok.hd hc) it lo c n;refine W.item i s _ _ hg st λv h' tk hv Tk kk=>?_;obtain⟨t,rfl⟩:=hv;have I1:Inv X U σ H {s with heap:=h',toks:=tk}:=I.turned (λb o hb e=>kk b o (by simpa using hb) e) f0 f1 f3 f4 f5;exact⟨_,Z,xf (s:={s with heap:=h',toks:=tk}) (n:="range_iterator") Tk rfl rfl (by decide) ⟨.int (lo+i*c),H,I1,⟨t,Z⟩,⟨Z,Z⟩,Tk,λb hb=>(hf b hb).1⟩⟩
 done:=by
  intro X hP hw hK hc i U s σ H E I hf st hg;subst hP hw hK;obtain⟨f0,f1,f2,f3,f4,f5⟩:=hf it (by simp);exact wpAny_pyNext_range_end (I.ok.hd hc) st (by have:n<=i:=hg;lia) λh' eb=>⟨Z,I.turned (t':=s.toks) (λb o hb e=>eb b o hb e) f0 f1 f3 f4 f5⟩
 self:=λ_ _ _ _ _ st h=>wpAny_pyIter_rangeiter st h
section
variable {X:Cx}{tg:Expr}
def NQ(ta:TA):TI:=λσ H R=>ta σ H λvs H1=>∃(i j c:Int)(n:Nat),vs=[.int i,.int j,.int c]/\(-(2^40)<=i/\i<2^40/\ -(2^40)<=j/\j<2^40/\0<c/\c<2^20)/\Builtin.Range.rangeSize i j c=(n:Int)/\R (BC i c n) H1
theorem xM{p pos:Pos}(hg:Gl X "range")(hm:X.mg "range"=none)(ha:PA X [a,b,d] ta)(hs:starEach [a,b,d] X.env=(false,eval a X.env)::starEach [b,d] X.env:=by rfl)(hp:(backTo pos (starEach [b,d] X.env)).any (·.1)=false:=by rfl):
  PI X tg (.Call (.Name "range" p) [a,b,d] [] pos) (NQ ta):=by
 intro U s σ H R I h;refine Call_ (WF I hg hm boot_range (yaT (au (ha pos U s σ H _ I h) λus s1⟨vs,H1,I1,r1,q1⟩=>?_) hs hp));obtain⟨i,j,c,n,e,⟨b1,b2,b3,b4,b5,b6⟩,hn,q⟩:=q1;subst e;obtain⟨u1,u2,u3,rfl,⟨t1,rfl⟩,⟨t2,rfl⟩,⟨t3,rfl⟩⟩:∃u1 u2 u3,us=[u1,u2,u3]/\RelV (.int i) u1/\RelV (.int j) u2/\RelV (.int c) u3:=by
  cases r1 with
  |cons p q=>
   cases q with
   |cons p' q'=>
    cases q' with
    |cons E1 E2=>
     cases E2;exact⟨_,_,_,Z,p,p',E1⟩
 refine call_range_3 (by lia) ?_ (.inl (ycO (by lia)));refine wpAny_pyIter_range (IsRange.new ..) ?_ ?_
 ·have Ic:0<=(n:Int):=Int.natCast_nonneg n;have Ev:(n:Int)<=2^41:=by
   rw[←hn];unfold Builtin.Range.rangeSize;rw[yaf b5]
   split
   ·have:(j-i-1)/c<=(j-i-1)/1:=by
     rw[yef];exact Int.ediv_le_self _ (by lia)
    rw[yef]at this;lia
   ·lia
  unfold Builtin.Range.small;simp only[hn];unfold Builtin.Range.rangeFitsLong;rw[yaf b5];rw[ly (show-(2^63)<=i by lia),ly (show i<2^63 by lia),ly (show-(2^63)<=j by lia),ly (show j<2^63 by lia),ly (show-(2^63)<=c by lia),ly (show c<2^63 by lia),ly (show-(2^63)<=(n:Int) by lia),ly (show(n:Int)<2^63 by lia),
   ly (show-(2^63)<=j+(c-1) by lia),ly (show j+(c-1)<2^63 by lia)]
  simp
 have I2:Inv X U σ H1 {s1 with heap:=s1.heap.push {cls:=.type "range",data:=.fields #[.int i t1,.int j t2,.int c t3]},toks:=s1.toks}:=I1.kept λb o e=>yaa _ e;refine⟨(s1.heap.push {cls:=.type "range",data:=.fields #[.int i t1,.int j t2,.int c t3]}).objs.size,[(s1.heap.push {cls:=.type "range",data:=.fields #[.int i t1,.int j t2,.int c t3]}).objs.size],_,_,H1,Z,
  I2.kept (t':=s1.toks) λb o e=>yaa _ e,qv _ i c n,?_,λb hb=>?_,q⟩
 ·have e1:i+((0:Nat):Int)*c=i:=by simp
  have e2:((n:Nat):Int)-((0:Nat):Int)=Builtin.Range.rangeSize i j c:=by rw[hn];simp
  show IsRangeIter _ _ (i+((0:Nat):Int)*c) (((n:Nat):Int)-((0:Nat):Int)) c;rw[e1,e2];exact yam _ rfl
 ·have e:b=(s1.heap.push {cls:=.type "range",data:=.fields #[.int i t1,.int j t2,.int c t3]}).objs.size:=by simpa using hb
  subst e;exact I2.wC (lA _) (I2.ag.fresh (lA _))
theorem zu{lo c:Int}{n:Nat}{g:TG}{tb:TS}{D:Ends}{σ:St}{H:Hp}(Pv:Nat->St->Hp->Prop)(h0:Pv 0 σ H)
  (hs:∀i σ H,i<n->Pv i σ H->g (.int (lo+i*c)) σ H λσ2 H2=>tb {D with nx:=Pv (i+1),ct:=Pv (i+1),bk:=D.nx} σ2 H2) (hd:∀σ H,Pv n σ H->D.nx σ H):
  ∃W:Nat->Nat->St->Hp->Prop,(∃m,W 0 m σ H)/\∀i m σ H,W i m σ H->
   ((BC lo c n).stop i H/\D.nx σ H)\/((BC lo c n).go i H/\∃N:St->Hp->Prop,(∀σ' H',N σ' H'->∃m',m'<m/\W (i+1) m' σ' H')/\∀x H',(BC lo c n).cK i H x H'->g x σ H' λσ2 H2=>tb {D with nx:=N,ct:=N,bk:=D.nx} σ2 H2):=by
 refine⟨λi m σ H=>m=n-i/\i<=n/\Pv i σ H,⟨n,by simp,lX _,h0⟩,?_⟩;rintro i m σ H ⟨rfl,hi,p⟩
 by_cases bn:i<n
 ·refine .inr ⟨bn,Pv (i+1),λσ' H' p'=>⟨n-(i+1),by lia,Z,bn,p'⟩,λx H' y=>?_⟩;obtain⟨e,y⟩:=y;subst e y;exact hs i σ _ bn p
 ·have e:i=n:=by lia
  subst e;exact .inl ⟨lA _,hd σ H p⟩
end
structure o7(X:Cx)(st:Stmt)(t:TS):Prop where
 ps:PS X st t
section
theorem W2{st:Stmt}{rest:List Stmt}{t1 t2:TS}(h:o7 X st t1)(hr:oX X rest t2):oX X (st::rest) (Wg t1 t2):=⟨Qb h.ps hr.ps⟩
theorem NR{st:Stmt}(h:o7 X st t):oX X [st] t:=⟨Qg h.ps⟩
end
theorem NS{K:Frag}{M:Heap}{x qual:Str}{st:Stmt}{fd:FuncData}{ad:Value}{N ps:List Str}{k:Nat}{sp:Sp}(F:oZ K x qual st f fd ad)(S:aa N ps (Qf st))(len:∀vs H Q E,sp vs H Q E->vs.length=ps.length)
  (bv:∀(A:Around)(L:List Env)(s:Shared)(H:Hp)(vs:List V)(Q:VK)(E:XK),ao k (A.deeper (envOfC qual (Qf st) s.heap.objs.size f ad))->sp vs H Q E->
   ∃t,oX (Z2 (ak P w) P w K mg M N qual (Qf st) f ad A L s H E).bA (QI st) t/\t {nx:=λ_ H'=>Q .aw H',rt:=Q} (start N vs) H):af P w K mg M (ak P w) (k+1) f fd ps sp:=
 NF F S len λA L s H vs Q E hr Tm=>by
  obtain⟨t,h,q⟩:=bv A L s H vs Q E hr Tm;exact⟨t,h.ps,q⟩
noncomputable def xN(z y:Str)(i:Int):Int:=match occurrences z y (fromIndex z.length i) z.length 1 with|k::_=>(k:Int)|[]=> -1
theorem UB:∀{ys:List Str}{us:List Value},Vals (ys.map V.str) us->∃l:List (Str × Tok),us=strValues l/\l.map (·.1)=ys
 |[],_,.nil=>⟨[],Z,Z⟩
 |y::ys,_,.cons r t=>by
  obtain⟨l,e1,e2⟩:=UB t;obtain⟨tk,rfl⟩:=r;exact⟨(y,tk)::l,by rw[e1];rfl,by rw[lU,e2]⟩
section
theorem Xu:cN X "str.join" (λx vs H Q=>∃(z:Str)(p:Addr)(ys:List Str),x=.str z/\vs=[.ref p]/\ay X.K H p (ys.map V.str)/\JoinOk z ys=true/\Q (.str (Txt.join z ys)) H):=by
 intro U s σ H x vs v us Q I rx rv h;obtain⟨z,p,ys,rfl,rfl,hq,hj,q⟩:=h;obtain⟨t,rfl⟩:=rx;obtain⟨u,rfl,ru⟩:=vals1 rv;obtain rfl:u=Value.ref p:=ru;obtain⟨ap,rv,pl,hl⟩:=I.list hq;obtain⟨l,e1,e2⟩:=UB rv;subst e1;have ag:=hj;unfold JoinOk at ag;rw[ybO, ←e2]at ag;refine ycT F.slot_str_join (ybY _ _ _) F.entry_str_join (F.args_str_join_2 _ _) (meets_str_join_list z t p l ag) ⟨pl.isList,?_⟩;refine post_join l ⟨joinFit_length ag,λt' k=>⟨.str (Txt.join z (l.map (·.1))),H,I.tok k,⟨t',Z⟩,?_⟩⟩;rw[e2];exact q
theorem vh:cN X "str.find" (λx vs H Q=>∃(z y:Str)(i:Int),x=.str z/\vs=[.str y,.int i]/\Q (.int (xN z y i)) H):=by
 intro U s σ H x vs v us Q I rx rv h;obtain⟨z,y,i,rfl,rfl,q⟩:=h;obtain⟨t,rfl⟩:=rx;obtain⟨u1,u2,rfl,⟨t1,rfl⟩,⟨t2,rfl⟩⟩:=vals2 rv;exact ycm F.slot_str_find F.entry_str_find (F.args_str_find_3 _ _ _) (gives_str_find_from z y i t t1 t2) ⟨.int _,H,I.tok _,⟨_,Z⟩,q⟩
end
theorem Yh{prog:Program}{w:World}{A:Around}(hh:A.handled=none)(I l:Addr)(ul:l≠I)(items:Array Value):
  WalksS prog w A I [I,l] [I] (λa b=>a=b) items.size (λi v=>items[i]? =some v) (λi s=>s.heap.IsListIter I l i/\s.heap.IsList l items) where
 sub:=λb hb=>by simp at hb;simp[hb]
 grefl:=λ_=>rfl
 gtrans:=λ_ _ _ a b=>a.trans b
 frame:=λi s h' tk x _ hk=>⟨x.1.at λo e=>hk I (by simp) o e,x.2.at λo e=>hk l (by simp) o e⟩
 item:=λi s Q E hi x hQ=>by
  have hx:items[i]? =some (items[i]'hi):=ycu hi;refine wpAny_pyNext_list_item x.1 x.2 hx λh' Tk sb=>?_;exact hQ _ _ hx ⟨Tk,x.2.at λo eo=>(sb.2 l ul).trans eo⟩ ⟨λb o hb eo=>(sb.2 b (λh=>hb (by simp[h]))).trans eo,Z,Z,Z,lA _⟩
 done:=λs Q E x hQ=>wpAny_pyNext_list_end hh x.1 x.2 (Array.getElem?_eq_none (lA _)) λh' eb=>hQ _ ⟨λb o hb eo=>eb b o (λh=>hb (by simp[h])) eo,Z,Z,Z,lA _⟩
 self:=λ_ _ _ _ x hQ=>wpAny_pyIter_listiter x.1 hQ
theorem qw{ns:List Int}{us:List Value}(r:Vals (ns.map V.int) us):∀i v,us.toArray[i]? =some v->∃t,v=Value.int (ns.getD i 0) t:=λi v hv=>by
 have h1:us[i]? =some v:=by simpa using hv
 have bn:=(yaj.mp h1).1;have hl:=r.length;rw[lu]at hl;have h2:(ns.map V.int)[i]? =some (V.int (ns.getD i 0)):=by
  rw[lK,yah (by lia)];simp[List.getD,yah (show i<ns.length by lia)]
 obtain⟨u,e,q⟩:=r.get h2;rw[h1]at e;cases e;exact q
theorem qx(ns:List Int):∀k,k<=ns.length->preSum (λi=>ns.getD i 0) k=(ns.take k).sum:=by
 intro k
 induction k with
 |zero=>intro _;rfl
 |succ k ih=>
  intro hk;have e:ns.take (k+1)=ns.take k++[ns.getD k 0]:=by
   rw[yaE,yah (by lia)];simp[List.getD,yah (show k<ns.length by lia)]
  show preSum _ k+ns.getD k 0=_;rw[ih (by lia),e,List.sum_append];simp
theorem NT(val:Nat->Int):∀k,argBest (λi j=>decide (val i>val j)) k<=k/\∀i,i<=k->val i<=val (argBest (λi j=>decide (val i>val j)) k):=by
 intro k
 induction k with
 |zero=>exact⟨lA _,λi hi=>by rw[Nat.le_zero.mp hi];exact Int.le_refl _⟩
 |succ k ih=>
  unfold argBest
  by_cases h:val (k+1)>val (argBest (λi j=>decide (val i>val j)) k)
  ·rw[yaf (ly h)];refine⟨lA _,λi hi=>?_⟩;rcases ybc i (k+1)with h1|h1
   ·have:=ih.2 i (by lia);lia
   ·rw[show i=k+1 by lia];exact Int.le_refl _
  ·rw[yac (by rw[ydN];exact h)];refine⟨by lia,λi hi=>?_⟩;rcases ybc i (k+1)with h1|h1
   ·exact ih.2 i (by lia)
   ·rw[show i=k+1 by lia];lia
section
theorem jw(hc:X.calm=true):Wj X (.builtin "sum") (λxs H Q=>∃(p:Addr)(ns:List Int),xs=[.ref p]/\ay X.K H p (ns.map V.int)/\Q (.int ns.sum) H):=by
 intro U s σ H xs us Q I r h;obtain⟨p,ns,rfl,hq,q⟩:=h;obtain⟨u,rfl,ru⟩:=vals1 r;obtain rfl:u=Value.ref p:=ru;obtain⟨ap,rv,pl,hl⟩:=I.list hq;have fQ:=pl.isList;have bn:p<s.heap.objs.size:=by obtain⟨o,e,_⟩:=fQ;exact yae e
 have hlen:=rv.length;rw[lu]at hlen;refine call_sum_walkAnyS (ydK fQ ?_);have I2:Inv X U σ H {s with heap:=s.heap.push {cls:=.type "list_iterator",data:=.fields #[.ref p,.int 0 0]}}:=I.kept (t':=s.toks) λb o e=>yaa _ e;refine⟨s.heap.objs.size,_,_,_,_,_,_,λi=>ns.getD i 0,Z,Yh (A:=X.A.in1) (I.ok.hd hc) _ p (yal bn) ap.toArray,⟨⟨_,yam _ rfl,Z,Z⟩,fQ.push _⟩,λb hb=>?_,qw rv,λs' t' hm=>?_⟩
 ·show b<(s.heap.push _).objs.size;rw[ybg];rcases yag.mp hb with rfl|hb
  ·exact ydV _
  ·rw[yak.mp hb];exact ydM bn
 ·obtain⟨f0,f1,f2,f3,f4,f5⟩:=I.wC (lA _) (I.ag.fresh (lA _));obtain⟨h',g',d',Dz,oH⟩:=s';obtain rfl:g'=s.gens:=hm.gens.symm;obtain rfl:d'=s.drawn:=hm.drawn;obtain rfl:oH=s.os:=hm.os;have e:preSum (λi=>ns.getD i 0) ap.toArray.size=ns.sum:=by
   rw[lW, ←hlen,qx ns _ (lA _),List.take_length]
  rw[e];refine⟨.int ns.sum,H,?_,⟨t',Z⟩,q⟩;exact(I2.turned (h':=h') (t':=Dz) (it:=s.heap.objs.size) (λb o hb eo=>hm.heap b o (by simpa using hb) eo) f0 f1 f3 f4 f5:)
theorem xO(hc:X.calm=true):Wj X (.builtin "max") (λxs H Q=>∃(p:Addr)(ns:List Int),xs=[.ref p]/\ay X.K H p (ns.map V.int)/\ns≠[]/\∀m,m∈ns->(∀n∈ns,n<=m)->Q (.int m) H):=by
 intro U s σ H xs us Q I r h;obtain⟨p,ns,rfl,hq,ul,q⟩:=h;obtain⟨u,rfl,ru⟩:=vals1 r;obtain rfl:u=Value.ref p:=ru;obtain⟨ap,rv,pl,hl⟩:=I.list hq;have fQ:=pl.isList;have bn:p<s.heap.objs.size:=by obtain⟨o,e,_⟩:=fQ;exact yae e
 have hlen:=rv.length;rw[lu]at hlen;have dZ:0<ns.length:=by cases ns with|nil=>exact absurd rfl ul|cons a r=>exact yeG _
 refine call_max_walkS (ydK fQ ?_);have I2:Inv X U σ H {s with heap:=s.heap.push {cls:=.type "list_iterator",data:=.fields #[.ref p,.int 0 0]}}:=I.kept (t':=s.toks) λb o e=>yaa _ e;refine⟨s.heap.objs.size,_,_,_,_,_,_,_,Z,Yh (A:=X.A.in1) (I.ok.hd hc) _ p (yal bn) ap.toArray,⟨⟨_,yam _ rfl,Z,Z⟩,fQ.push _⟩,λb hb=>?_,by rw[lW];lia,CmpOf.ints_gt (λi=>ns.getD i 0) (qw rv),λv s' hv hm=>?_⟩
 ·show b<(s.heap.push _).objs.size;rw[ybg];rcases yag.mp hb with rfl|hb
  ·exact ydV _
  ·rw[yak.mp hb];exact ydM bn
 ·obtain⟨f0,f1,f2,f3,f4,f5⟩:=I.wC (lA _) (I.ag.fresh (lA _));obtain⟨h',g',d',Dz,oH⟩:=s';obtain rfl:g'=s.gens:=hm.gens.symm;obtain rfl:d'=s.drawn:=hm.drawn;obtain rfl:oH=s.os:=hm.os;obtain⟨t,rfl⟩:=qw rv _ _ hv;obtain⟨b1,b2⟩:=NT (λi=>ns.getD i 0) (ap.toArray.size-1);generalize argBest (λi j=>decide (ns.getD i 0>ns.getD j 0)) (ap.toArray.size-1)=j at b1 b2;rw[lW]at b1 b2;have getD_eq:∀i,i<ns.length->ns.getD i 0=ns[i]! :=λi hi=>by simp[List.getD,yah hi]
  have hj:j<ns.length:=by lia
  refine⟨.int (ns.getD j 0),H,?_,⟨t,Z⟩,q _ ?_ λn hn=>?_⟩
  ·exact(I2.turned (h':=h') (t':=Dz) (it:=s.heap.objs.size) (λb o hb eo=>hm.heap b o (by simpa using hb) eo) f0 f1 f3 f4 f5:)
  ·have:ns.getD j 0=ns[j]:=by simp[List.getD,yah hj]
   rw[this];exact List.getElem_mem hj
  ·obtain⟨i,hi,rfl⟩:=List.mem_iff_getElem.mp hn;have e:ns.getD i 0=ns[i]:=by simp[List.getD,yah hi]
   rw[←e];exact b2 i (by lia)
end
structure aA(P:Program)(w:World)(K:Frag)(a:Addr)(al:List (Key × V)):Prop where
 ne:(a==sysModules)=false
 ok:∀h:Heap,K.In h->∃vs,KV al vs/\h.DictOf (Jr P w) a vs
section
variable {ty:TE}{pos:Pos}{al:List (Key × V)}
def NU(a:Addr)(al:List (Key × V))(td ty:TE):TE:=λσ H Q=>td σ H λx H1=>ty σ H1 λy H2=>∃k v,x=.ref a/\y=kV k/\Wm al k=some v/\Q v H2
theorem K4(D:aA X.prog X.w X.K a al)(ho:PE X o td)(hi:PE X i ty)(hs:EG i):PE X (.Subscript o i pos) (NU a al td ty):=by
 intro U s σ H Q I h;refine xu PySem.F.slot_dict_getitem.lookup hs (au (ho U s σ H _ I h) λu s1⟨x,H1,I1,rx,q1⟩=>au (hi U s1 σ H1 _ I1 q1) λiv s2⟨y,H2,I2,ry,k,v,ex,ey,l,q2⟩=>?_);subst ex ey;obtain rfl:u=Value.ref a:=rx;obtain⟨vs,rel,dd⟩:=D.ok s2.heap I2.bt;obtain⟨w',hw,IO⟩:=jh.some_of (v:=v) (o:=valueAt vs k) (by rw[←l];exact rel.val k);exact⟨dd.typeIs,wpAny_getItem_of (Ur ry) dd.mapOf hw ⟨v,H2,I2.tok _,IO,q2⟩⟩
def NV(a:Addr)(al:List (Key × V))(ty td:TE):TE:=λσ H Q=>ty σ H λy H1=>td σ H1 λx H2=>∃k,x=.ref a/\y=kV k/\Q (.bl (!(Wm al k).isSome)) H2
theorem Wn(D:aA X.prog X.w X.K a al)(hi:PE X i ty)(ho:PE X o td):PC X .NotIn i o (NV a al ty td):=by
 intro U s σ H Q I h;refine au (hi U s σ H _ I h) λiv s1⟨y,H1,I1,ry,q1⟩=>au (ho U s1 σ H1 _ I1 q1) λu s2⟨x,H2,I2,rx,k,ex,ey,q2⟩=>?_;subst ex ey;obtain rfl:u=Value.ref a:=rx;obtain⟨vs,rel,dd⟩:=D.ok s2.heap I2.bt;refine wpAny_notIn_of (Ur ry) D.ne dd.mapOf ?_;rw[←(rel.val k).Vg];exact⟨.bl _,H2,I2.tok _,Z,q2⟩
end
theorem boot_sum:bootBuiltins "sum"=some (.builtin "sum"):=by boot_by_name
section
theorem NW:Eg X .Add (λx y H Q=>∃i j,x=.str i/\y=.str j/\i.length+j.length<=sizeLine/\Q (.str (i++j)) H):=by
 intro U s σ H x y v u Q I r1 r2 h;obtain⟨i,j,e1,e2,hl,q⟩:=h;subst e1;subst e2;obtain⟨t,rfl⟩:=r1;obtain⟨t',rfl⟩:=r2;exact SB.iadd (λt2 k=>⟨.str _,H,I.tok k,⟨t2,Z⟩,q⟩) hl
theorem W3{elt tg iter:Expr}{ifs:List Expr}{scope:Scope}{pos BD py:Pos}{tt:TT}(hc:X.calm=true)(S:bZ NB scope)(hi:PI X tg iter wi)
  (hg:∀s H ex,PG (Ze X NB scope s H ex) tg g) (ht:∀s H ex,Bd (Ze X NB scope s H ex) ifs tt) (he:∀s H ex,PE (Ze X NB scope s H ex) elt te)
  (hN:X.N.Nodup) (NX:X.N[iy]? =some y) (hy:Loc X.env.scope y) (NY:swapsWith (.ListComp elt [⟨tg,iter,ifs,0⟩] scope pos) (some (.Name y py)) BD.line X.env=pure true)
  (hs:∀x,foldedSetIterable iter X.env x=pure x:=by intro _;rfl) (hf:X.fn y=true\/X.env.scope.names.lookup y=some .local:=by first|exact .inl rfl|exact .inr rfl|assumption):
  PS X (.Assign [.Name y py] (.ListComp elt [⟨tg,iter,ifs,0⟩] scope pos) BD) (Wi (V0 NB wi g tt te) (Jz iy)):=by
 intro U s σ H Dn I h;rw[exec_Assign_Name_used _ _ _ _ NY];refine yab (ycF (yab ?_));show wpAny _ X.A (do let _←comprehension (.ListComp elt [⟨tg,iter,ifs,0⟩] scope pos) scope X.env _ (newList []) false (eval iter X.env) (some (assign (.Name y py) X.env))) _ _ s;refine yab (yaA (ycC (use:=some (assign (.Name y py) X.env)) (Q:=λ_ s'=>SP X U Dn .next s') (cl:=[]) Z hs (UA S.aT) S.kind S.loc (au (hi U s σ H _ I h) λv s1 h1=>au h1 λAQ s2 h2=>?_)) (λ_ s' hq=>yan (yan hq)) λ_ _ e=>e);obtain⟨it,fp,tn,J,H2,e,I2,T,fK,f2,W,⟨m0,w0⟩,turn⟩:=h2;subst e;refine yaX ?_;have cR:∀b o,s2.heap.get? b=some o->(s2.heap.push {cls:=.type "list",data:=.seq ([]:List Value).toArray}).get? b=some o:=λb o e=>yaa _ e;have I3:Inv X U σ H2 {s2 with heap:=s2.heap.push {cls:=.type "list",data:=.seq ([]:List Value).toArray}}:=I2.kept (t':=s2.toks) cR;have dQ:tn 0 (s2.heap.push {cls:=.type "list",data:=.seq ([]:List Value).toArray}):=T.keep _ _ _ fK λb _ o e=>cR b o e;have cS:(s2.heap.push {cls:=.type "list",data:=.seq ([]:List Value).toArray}).get? s2.heap.objs.size=some (Kk []):=yam _ rfl;have iX:H2 s2.heap.objs.size=none:=I2.ag.fresh (lA _);have P3:∀b o,s2.heap.get? b=some o->b≠s2.heap.objs.size:=λb o e=>yal (yae e);have iY:∀b∈fp,∃o,s2.heap.get? b=some o:=λb hb=>let ⟨o,e,_⟩:=T.obj _ _ fK b hb;⟨o,e⟩;have ss:X.s₀.heap.objs.size<=s2.heap.objs.size:=I2.sz;have ei:s2.heap.objs.size≠X.env.locals:=ybA I2.lt;have dH:∀x c,X.env.cells.lookup x=some c->c≠s2.heap.objs.size:=λx c e=>let ⟨v,o,e1,_⟩:=I2.cell x c e;P3 c o e1;have eu:∀p∈X.pn++U,p.1≠s2.heap.objs.size:=λp hp=>P3 p.1 _ (I2.pin p hp).1;have eB:s2.heap.objs.size∉aI X.stack:=λz=>let ⟨o,e,_⟩:=(I2.stack.mem z).2;P3 _ o e rfl;generalize Be:({s2 with heap:=s2.heap.push {cls:=.type "list",data:=.seq ([]:List Value).toArray}}:Shared)=s3 at I3 ⊢;have Bf:s3.heap=s2.heap.push {cls:=.type "list",data:=.seq ([]:List Value).toArray}:=by rw[←Be]
 rw[←Bf]at dQ cS cR;generalize s2.heap.objs.size=D at cS iX P3 ss ei dH eu eB ⊢;refine Ko S.kind λPP s4 eC x4=>?_;subst eC;rw[WK S.aT];have eE:∀b o,s3.heap.get? b=some o->b<s3.heap.objs.size:=λb o e=>yae e;have fP:∀b∈fp,b<s3.heap.objs.size:=λb hb=>let ⟨o,e⟩:=iY b hb;eE b o (cR b o e);have IR:D<s3.heap.objs.size:=eE D _ cS;have Re:∀b∈fp,b≠D:=λb hb=>let ⟨o,e⟩:=iY b hb;P3 b o e;obtain⟨h4,ip,rfl,Ty⟩:=x4.done;have Bg:∀b o,X.M.get? b=some o->b∉D::fp:=λb o e hb=>by
  rcases yag.mp hb with rfl|hb
  ·exact absurd (yad (yae (I2.ok.bs b o e).1) ss) (lY _)
  ·obtain⟨_,_,_,f3,_⟩:=f2 b hb;rcases f3 with z|z
   ·exact I2.ok.bF b o e z
   ·exact absurd (yad (yae (I2.ok.bs b o e).1) z) (lY _)
 have iZ:∀b∈D::fp,b∉aI X.stack:=λb hb hf=>by
  rcases yag.mp hb with rfl|hb
  ·exact eB hf
  ·obtain⟨_,f1,Bh,_⟩:=f2 b hb;rcases yag.mp (I2.KR b hf)with z|z
   ·exact f1 z
   ·exact Bh z
 have eF:∀y c,(cellsFrom (s3.heap.objs.size+1) scope.names []).lookup y=some c->s3.heap.objs.size<c:=λy c e=>x4.above y c (yax e);have cp:∀b∈D::fp,b<s3.heap.objs.size:=λb hb=>by
  rcases yag.mp hb with rfl|hb
  ·exact IR
  ·exact fP b hb
 have Bi:(Ze X NB scope s3 H2 (D::fp)).Ok:=by
  refine⟨I3.ok.mod,S.kind,I3.ok.glob,I3.ok.blt,lA _,λy z c h1 h2=>?_,λy hy=>?_,λy c _ h=>ybi (eF y c h),I3.ok.hd,I3.ok.frames,.inl rfl,λb hb=>⟨yal (cp b hb),λy c e z=>?_⟩,I3.bs,yas I3.ok.cH I3.sz,Bg,iZ,I3.stack,I3.Ku⟩
  ·exact name_of_addr x4.apart (yax h1) (yax h2)
  ·have hy:scope.names.lookup y=some .cell\/scope.names.lookup y=some .free:=hy;rcases hy with hy|hy
   ·exact WV hy
   ·exact absurd rfl (S.aT _ (yax hy))
  ·have:=eF y c e;rw[z]at this;exact absurd (yaD this (cp b hb)) (lY _)
 have rep:∀(j:Nat)(v:V),(replicate NB.length (none:Option V))[j]? ≠some (some v):=λj v z=>by
  rw[ybq]at z
  split at z<;>cases z
 have IB:Inv (Ze X NB scope s3 H2 (D::fp)) [(D,Kk [])] (replicate NB.length none) H2 {s3 with heap:=h4,toks:=ip}:=by
  refine⟨Bi,Z,I3.bare,Un.kept Ty,⟨_,x4.toInCall.ns,λi y v h1 h2 h3=>absurd h2 (rep i v)⟩,λy c h=>⟨_,x4.cell y c h⟩,I3.ag.fresh (lA _),λy c h=>I3.ag.fresh (ybi (eF y c h)),λp hp=>?_,I3.ag.kept Ty,by rw[lN]⟩;obtain rfl:p=(D,Kk []):=by simpa using hp
  exact⟨Ty _ _ cS,iX,yal IR,eB,λv z=>nomatch z⟩
 have on:∀{H':Hp}{ys:List Value},(∀b∈fp,H' b=none)->∀b∈fp,xc (Ze X NB scope s3 H2 (D::fp)) [(D,Kk ys)] H' b:=λhn b hb=>
  ⟨hn b hb,yal (fP b hb),iZ b (lG _ hb),.inl (lG _ hb),λy c e z=>by
   have:=eF y c e;rw[z]at this;exact absurd (yaD this (fP b hb)) (lY _),λp hp=>by
    obtain rfl:p=(D,_):=by simpa using hp
    exact(Re b hb).symm⟩
 have i0:tn 0 h4:=T.keep _ _ _ dQ λb _ o e=>Ty b o e;have Bj:∀b∈fp,H2 b=none:=λb hb=>(f2 b hb).1;have dG:(Ze X NB scope s3 H2 (D::fp)).calm=true:=hc;have loop:codeAny (model X.prog X.w) X.A (.compLoop (.ListComp elt [⟨tg,iter,ifs,0⟩] scope pos) 0 (.ref it) (.ref D) (xI scope X.env s3.heap.objs.size))
   (compPost (model X.prog X.w) X.A X.xe (some (assign (.Name y py) X.env)) (λ_ s'=>SP X U Dn .next s') (.ref D) s3.heap.objs.size) {s3 with heap:=h4,toks:=ip}:=by
  refine Vm (λn s'=>∃i vs ys H',Inv (Ze X NB scope s3 H2 (D::fp)) [(D,Kk ys)] (replicate NB.length none) H' s'/\Vals vs ys/\vs.length<=sizeLine/\tn i s'.heap/\(∀b∈fp,H' b=none)/\W i n vs H') ?_ m0 ⟨0,[],[],H2,IB,.nil,lX _,i0,Bj,w0⟩;rintro n s5 ⟨i,vs,ys,H5,I5,rv,eG,dD,fL,w5⟩;rcases turn i n vs H5 w5 with⟨stop,qn⟩|⟨go,bn,N,hN,step⟩
  ·refine yaA (T.done (Ze X NB scope s3 H2 (D::fp)) Z Z Z dG i _ s5 _ H5 (λ_ _=>False) I5 (on fL) dD stop) (λr s6⟨hr,I6⟩=>?_) (λ_ _ z=>z.elim);subst hr;obtain⟨m6,Bk,_⟩:=id I6.loc;have o4:H5 s3.heap.objs.size=none:=I6.free;have Bl:Un (aI X.stack) (D::fp) H2 H5 s3.heap s6.heap:=I6.M;have I7:Inv X U σ H5 s6:=I3.z8 (s':=s6) I6.os Bl I6.ag I6.bare λb hb=>by
    rcases yag.mp hb with rfl|hb
    ·exact⟨.inr ss,ei,dH,eu⟩
    ·obtain⟨_,f1,_,f3,f4,f5⟩:=f2 b hb;exact⟨f3,f1,f4,f5⟩
   obtain⟨eD,nD,_⟩:=I6.pin (D,Kk ys) (by simp);have i4:H5 D=none:=nD;have Bm:s6.heap.get? D=some (Kk ys):=eD;have Bn:X.s₀.heap.get? D=none:=by
    cases q:X.s₀.heap.get? D with
    |none=>rfl
    |some o=>exact absurd (yad (yae q) ss) (lY _)
   have I8:Inv X U σ (upd H5 D (.lst vs)) s6:=I7.wV i4 Bn ei dH eu ⟨eG,ys,ys.length,rv,Bm⟩;have hq:=qn D i4;have NZ:X.s₀.heap.objs.size<=s3.heap.objs.size:=I3.sz;have cL:s3.heap.objs.size≠X.env.locals:=ybA I3.lt;have cC:∀x c,X.env.cells.lookup x=some c->c≠s3.heap.objs.size:=λx c e=>let ⟨v,o,e1,_⟩:=I3.cell x c e;yal (eE c o e1);have cP:∀p∈X.pn++U,p.1≠s3.heap.objs.size:=λp hp=>yal (eE p.1 _ (I3.pin p hp).1);show wpAny (model X.prog X.w) X.A (assign (.Name y py) X.env (.ref D)) _ X.xe s6;refine wpAny_assign_Name (W9 (v:=.ref D) I8 hN NX hy Z (λs9 I9⟨a9,N0,N1⟩=>?_) hf);have na:s3.heap.objs.size≠a9:=by
    rcases N1 with rfl|z
    ·exact cL
    ·exact(cC y a9 z).symm
   refine⟨m6,Bk.sameBut N0 na,λN2 Ff=>⟨_,_,?_,hq⟩⟩;have Fg:upd H5 D (.lst vs) s3.heap.objs.size=none:=by rw[Qx (ybA IR)];exact o4
   exact(I9.turned (h':=N2) (t':=s9.toks) (it:=s3.heap.objs.size) (λb o hb e=>(Ff.2 b hb).trans e) Fg cL (.inr NZ) cC cP:)
  ·refine yaA (T.item (Ze X NB scope s3 H2 (D::fp)) Z Z Z dG i _ s5 _ H5 (λ_ _=>False) I5 (on fL) dD go) (λr s6⟨u,hr,h6⟩=>?_) (λ_ _ z=>z.elim);subst hr;refine yaA h6 (λ_ s7⟨x,H7,I7,r7,y7,eJ,Bo⟩=>?_) (λ_ _ z=>z.elim);have Bp:=I7.pinned (on Bo) (T.obj _ _ eJ);refine yaA (hg s3 H2 (D::fp) _ s7 _ H7 x u _ Bp r7 (step x H7 y7)) (λ_ s8⟨σ8,H8,I8,q8⟩=>?_) (λ_ _ z=>z.elim);refine yaA (ht s3 H2 (D::fp) _ s8 σ8 H8 _ I8 q8) (λok s9⟨H9,I9,q9⟩=>?_) (λ_ _ z=>z.elim);have i5:∀{σ':St}{H':Hp}{s':Shared},Inv (Ze X NB scope s3 H2 (D::fp)) ([(D,Kk ys)]++Vb fp s7.heap) σ' H' s'->tn (i+1) s'.heap/\∀b∈fp,H' b=none:=λJ=>
    ⟨T.keep _ _ _ eJ λb hb o e=>(J.pin (b,o) (lE _ (lE _ (Zb hb e)))).1,λb hb=>by
     obtain⟨o,e,d⟩:=T.obj _ _ eJ b hb;exact(J.pin (b,o) (lE _ (lE _ (Zb hb e)))).2.1⟩
   have wk:∀{σ':St}{H':Hp}{s':Shared}{pl:List (Addr × Obj)},Inv (Ze X NB scope s3 H2 (D::fp)) pl σ' H' s'->Inv (Ze X NB scope s3 H2 (D::fp)) pl (replicate NB.length none) H' s':=λJ=>
    J.weak (by rw[lN];exact J.len.symm) λj v z=>absurd z (rep j v)
   cases ok with
   |false=>
    rw[yac (by decide)]at q9;rw[yac (by decide)];obtain⟨m',hm,w9⟩:=hN vs H9 q9;obtain⟨t9,f9⟩:=i5 I9;exact⟨m',hm,i+1,vs,ys,H9,wk I9.ZG,rv,eG,t9,f9,w9⟩
   |true=>
    rw[yaf rfl]at q9;rw[yaf rfl];refine yaA (he s3 H2 (D::fp) _ s9 σ8 H9 _ I9 q9) (λy cT⟨v,LE,eK,eM,Bq⟩=>?_) (λ_ _ z=>z.elim);obtain⟨eD,nD,_,nf,_⟩:=eK.pin (D,Kk ys) (by simp);have Br:=rv.length;refine append_at (hsz:=by show ys.toArray.size<=sizeLine;rw[lW, ←Br];exact eG) eD λi6 eN eO=>?_;obtain⟨m',hm,Bs⟩:=hN (vs++[v]) LE Bq;obtain⟨oQ,Bt⟩:=i5 eK;have eP:=eK.ZG;have i7:∀b o,b≠D->cT.heap.get? b=some o->i6.get? b=some o:=λb o hb e=>(eN.2 b hb).trans e;have IE:Inv (Ze X NB scope s3 H2 (D::fp)) [] σ8 LE cT:=eP.XG λp hp=>nomatch hp;have Bu:Inv (Ze X NB scope s3 H2 (D::fp)) [] σ8 LE {cT with heap:=i6}:=IE.turned (t':=cT.toks) i7 nD (yal IR) (.inl lH) (λy' c e z=>by
     have:=eF y' c e;rw[z]at this;exact absurd (yaD this IR) (lY _)) (λp hp=>absurd (show p∈([]:List (Addr × Obj))from hp) (by simp))
    have eL:({cls:=.type "list",data:=.seq (ys.toArray.push y) (ys.length+1)}:Obj)=Kk (ys++[y]):=by
     show({cls:=.type "list",data:=.seq (ys.toArray.push y) (ys.length+1)}:Obj)={cls:=.type "list",data:=.seq (ys++[y]).toArray (ys++[y]).length};rw[lq,lC,ydL]
    refine⟨m',hm,i+1,vs++[v],ys++[y],LE,wk (Bu.XG λp hp=>?_),rv.append (.cons eM .nil),by rw[lq,lC];exact bn,T.keep _ _ _ oQ λb hb o e=>i7 b o (Re b hb) e,Bt,Bs⟩;obtain rfl:p=(D,Kk (ys++[y])):=by simpa using hp
    exact⟨by rw[←eL];exact eO,nD,yal IR,nf,λv z=>nomatch z⟩
 exact ycQ loop (T.self _ 0 _ _ _ i0 loop)
theorem zw(hK:X.K=K0):aS X (compareOp .In) (iS K0 false):=by
 subst hK;exact Xo
end
end L2
namespace aE
noncomputable def aP(m:Int):Int:=10^m.toNat
noncomputable def Kc(i:Int):Int:=if i<0 then-i else i
noncomputable def yK(a b:Int):Int:=if decide (a<0) !=decide (b<0)then-(Kc a/Kc b)else Kc a/Kc b
noncomputable def short(a b:Int):Int:=if a*b<0 then 0-Kc a/Kc b else Kc a/Kc b
noncomputable def zx(u o p:Int):Int:=yK (u*aP (p-o)) (aP (o-p))
theorem J3(m:Int):0<aP m:=Int.pow_pos (by decide)
theorem qy(h:m<=0):aP m=1:=by
 unfold aP;rw[Int.toNat_of_nonpos h];rfl
theorem qA(ha:0<=a)(hb:0<=b):aP (a+b)=aP a*aP b:=by
 unfold aP;rw[Int.toNat_add ha hb,Int.pow_add]
theorem jx(ht:0<t):Kc (i*t)=Kc i*t:=by
 unfold Kc
 by_cases h:i<0
 ·rw[yaf h,yaf (ybE h ht),Int.neg_mul]
 ·rw[yac h,yac (ydl.mpr (ydG (ydl.mp h) (ycB ht)))]
theorem Vn(ht:0<t):Kc t=t:=by unfold Kc;rw[yac (by lia)]
theorem lt_mul{i t:Int}(ht:0<t):decide (i*t<0)=decide (i<0):=by
 by_cases h:i<0
 ·rw[ly h,ly (ybE h ht)]
 ·rw[lx h,lx (ydl.mpr (ydG (ydl.mp h) (ycB ht)))]
theorem vi(ht:0<t)(hb:0<b):yK (u*t) b=if u<0 then-(Kc u*t/b)else Kc u*t/b:=by
 unfold yK;rw[lt_mul ht,jx ht,Vn hb,lx (ydl.mpr (ycB hb))]
 by_cases h:u<0
 ·rw[ly h,yaf h];rfl
 ·rw[lx h,yac h];rfl
theorem UC(ht:0<t)(hb:0<b):short (u*t) b=if u<0 then-(Kc u*t/b)else Kc u*t/b:=by
 unfold short;rw[jx ht,Vn hb]
 by_cases h:u<0
 ·rw[yaf h,yaf (ybE (ybE h ht) hb)];lia
 ·rw[yac h,yac (ydl.mpr (ydG (ydG (ydl.mp h) (ycB ht)) (ycB hb)))]
theorem N3(h1:0<=o)(h2:o<=18)(h3:0<=p)(h4:p<=18):zx u o p=short (u*aP (18-o)) (aP (18-p)):=by
 unfold zx;rw[vi (J3 _) (J3 _),UC (J3 _) (J3 _)];have e:Kc u*aP (p-o)/aP (o-p)=Kc u*aP (18-o)/aP (18-p):=by
  by_cases h:o<=p
  ·rw[qy (show o-p<=0 by lia),yef,show(18:Int)-o=(p-o)+(18-p) by lia,qA (by lia) (by lia), ←Int.mul_assoc,Int.mul_ediv_cancel _ (ybR (J3 _))]
  ·rw[qy (show p-o<=0 by lia),Int.mul_one,show(18:Int)-p=(o-p)+(18-o) by lia,qA (by lia) (by lia),Int.mul_ediv_mul_of_pos_left _ _ (J3 _)]
 rw[e]
theorem N4(h:a<=b)(hb:0<=b):aP a<=aP b:=by
 by_cases ha:0<=a
 ·rw[show b=a+(b-a) by lia,qA ha (by lia)];have:=J3 (b-a);have h2:=J3 a
  calc aP a=aP a*1:=(Int.mul_one _).symm
   _<=aP a*aP (b-a):=Int.mul_le_mul_of_nonneg_left (by lia) (ycB h2)
 ·rw[qy (by lia)];have:=J3 b;lia
end aE
namespace aW
open PySem PySem.NumText Builtin Builtin.Str StrLaws
noncomputable abbrev tx(l:List Nat):Str:=⟨l.toArray⟩
theorem Jt(l:List Nat):(tx l).cps.toList=l:=rfl
theorem Qi(l:List Nat):(tx l).length=l.length:=by show l.toArray.size=_;rw[lW]
theorem V1(z:Str):z=tx z.cps.toList:=by cases z;rfl
theorem len_list(z:Str):z.length=z.cps.toList.length:=by show z.cps.size=_;rw[lV]
theorem UD(h:tx a=tx b):a=b:=by
 have:=yaI (λz:Str=>z.cps.toList) h;exact this
theorem QM(a b:List Nat):tx a++tx b=tx (a++b):=by
 show(⟨a.toArray++b.toArray⟩:Str)=_;rw[List.append_toArray]
noncomputable def dec(n:Nat):List Nat:=(Nat.toDigits 10 n).map Char.toNat
theorem XM(n:Nat):PySem.Str.ofString (toString ((n:Nat):Int))=tx (dec n):=by
 rw[V1 (PySem.Str.ofString _),PySem.W.KIN.signs_num n];rfl
theorem xP(n:Nat):digitsVal (dec n)=n:=PySem.W.KIN.val_back n
theorem qB(n:Nat):AllDigits (dec n):=by
 intro c hc;obtain⟨ch,h1,rfl⟩:=ybS.mp hc;have h:=Nat.isDigit_of_mem_toDigits (b:=10) (by decide) (by decide) h1;unfold Char.isDigit at h;simp only[yaO,ydN]at h;exact⟨yea.mp h.1,yea.mp h.2⟩
theorem yL(n:Nat):1<=(dec n).length:=by
 unfold dec;rw[lu];exact toDigits_len_ge 10 n
theorem qC(h:n<2^100):(dec n).length<=100:=by
 have:=nat_repr_length_le (n:=n) (k:=100) (by decide) h;unfold dec;rw[lu];have e:(Nat.repr n).length=(Nat.toDigits 10 n).length:=by rw[←String.length_toList,Nat.toList_repr]
 lia
theorem xQ(ha:AllDigits a)(hb:AllDigits b):AllDigits (a++b):=λc hc=>(yao.mp hc).elim (ha c) (hb c)
theorem xR(k:Nat):AllDigits (replicate k 48):=λc hc=>by rw[yaw hc];decide
theorem N5(b:List Nat):∀acc:Nat,b.foldl (λacc c=>acc*10+(c-48)) acc=acc*10^b.length+b.foldl (λacc c=>acc*10+(c-48)) 0:=by
 induction b with
 |nil=>intro acc;simp
 |cons c r ih=>
  intro acc;rw[ycI,ycI,ih (acc*10+(c-48)),ih (0*10+(c-48)),lD,Nat.pow_succ];rw[Nat.add_mul,yeH,ybd,yey,ydB 10,yez]
theorem Xc(a b:List Nat):digitsVal (a++b)=digitsVal a*10^b.length+digitsVal b:=by
 unfold digitsVal;rw[List.foldl_append,N5]
theorem qD(k:Nat):digitsVal (replicate k 48)=0:=by
 induction k with
 |zero=>rfl
 |succ k ih=>rw[show replicate (k+1) 48=[48]++replicate k 48 from rfl,Xc,ih];simp[digitsVal]
theorem XQ(h:AllDigits l):digitsVal l<10^l.length:=by
 induction l with
 |nil=>decide
 |cons c r ih=>
  have h1:=ih h.tail;have h2:=h.head;rw[show c::r=[c]++r from rfl,Xc,lq,lC];have e:digitsVal [c]=c-48:=by simp[digitsVal]
  rw[e,Nat.pow_add];have h3:(c-48)*10^r.length<=9*10^r.length:=Nat.mul_le_mul_right _ (by lia);lia
noncomputable def Ie(n o:Nat):List Nat:=replicate (o+1-(dec n).length) 48++dec n
theorem xS(n o:Nat):Txt.zfill (tx (dec n)) ((o:Int)+1)=tx (Ie n o):=by
 have hl:=Qi (dec n);unfold Txt.zfill Ie
 split
 ·rename_i h;rw[hl]at h;rw[show o+1-(dec n).length=0 by lia];rfl
 ·rename_i h;rw[hl]at h ⊢;have e:((o:Int)+1).toNat-(dec n).length=o+1-(dec n).length:=by lia
  rw[e];unfold zfilled;have hd:=qB n;have hn:=yL n;cases hc:dec n with
  |nil=>rw[hc]at hn;exact absurd hn (by decide)
  |cons c r=>
   rw[hc]at hd;have hr:=hd.head;have e0:(tx (c::r)).cps[0]? =some c:=rfl;rw[e0];have key:padded (tx (c::r)) (o+1-(c::r).length) 0 48=tx (replicate (o+1-(c::r).length) 48++(c::r)):=by
    unfold padded;rw[V1 ⟨_⟩]
    congr 1
    simp
   split
   ·rename_i h1;cases h1;lia
   ·rename_i h1;cases h1;lia
   ·exact key
theorem Kd(l:List Nat)(h:k<=l.length):sliceText (tx l) none (some (k:Int))=tx (l.take k):=by
 have e:=sliceText_nat (tx l) (a:=0) (b:=k) (lX _) (by rw[Qi];exact h);have e2:sliceText (tx l) none (some (k:Int))=sliceText (tx l) (some ((0:Nat):Int)) (some (k:Int)):=by
  unfold sliceText;rw[sliceIdx_none_lo];rfl
 rw[e2,e];simp
theorem Xp(l:List Nat)(h:a<=l.length)(Op:a<=b):sliceText (tx l) (some (a:Int)) (some (b:Int))=tx ((l.drop a).take (b-a)):=by
 by_cases hb:b<=l.length
 ·exact sliceText_nat (tx l) Op (by rw[Qi];exact hb)
 ·have e2:sliceText (tx l) (some (a:Int)) (some (b:Int))=sliceText (tx l) (some (a:Int)) (some ((l.length:Nat):Int)):=by
   have e3:strSliceIndices (some (a:Int)) (some (b:Int)) 1 (tx l).length=strSliceIndices (some (a:Int)) (some ((l.length:Nat):Int)) 1 (tx l).length:=by
    rw[Qi];unfold strSliceIndices;have h1:¬ ((b:Int)<0):=by lia
    have h2:¬ (((l.length:Nat):Int)<0):=by lia
    have h3:min (b:Int) (l.length:Int)=l.length:=by lia
    have h4:min ((l.length:Nat):Int) (l.length:Int)=l.length:=by lia
    simp only[h1,h2,ycw,h3,h4,show((1:Int)>0)=True from by simp,ybM]
   unfold sliceText;rw[e3]
  rw[e2,sliceText_nat (tx l) h (by rw[Qi];exact lA _)];have e4:(l.drop a).take (l.length-a)=(l.drop a).take (b-a):=by
   rw[yaq (by rw[lJ];lia),yaq (by rw[lJ];lia)]
  show tx ((l.drop a).take (l.length-a))=_;rw[e4]
theorem JY(l:List Nat)(k:Nat):sliceText (tx l) (some (k:Int)) none=tx (l.drop k):=by
 by_cases h:k<=l.length
 ·have e2:sliceText (tx l) (some (k:Int)) none=sliceText (tx l) (some (k:Int)) (some ((l.length:Nat):Int)):=by
   unfold sliceText;rw[sliceIdx_none_hi,Qi]
  rw[e2,Xp l h h];rw[yaq (by rw[lJ];lia)]
 ·rw[yaz (by lia)];have e3:strSliceIndices (some (k:Int)) none 1 (tx l).length=[]:=by
   rw[sliceIdx_none_hi,Qi];unfold strSliceIndices;have h1:¬ ((k:Int)<0):=by lia
   have h2:¬ (((l.length:Nat):Int)<0):=by lia
   have h3:max (0:Int) (min (k:Int) (l.length:Int))=l.length:=by lia
   have h4:max (0:Int) (min ((l.length:Nat):Int) (l.length:Int))=l.length:=by lia
   simp only[h1,h2,ycw,show((1:Int)>0)=True from by simp,ybM,h3,h4];unfold sliceRange;simp
  unfold sliceText;rw[e3]
  split
  ·rename_i h1;have:l.length=0:=by
    have h2:(0==(tx l).length)=true:=by simpa using h1
    rw[Qi]at h2;have:=yck.mp h2;lia
   rw[yaH.mp this]
  ·rfl
theorem sub_one(l:List Nat)(c:Nat):subAt (tx l) ⟨#[c]⟩ 0=(l.head?==some c):=by
 rw[subAt_eq];show((l.drop 0).take 1==[c])=_;cases l with
 |nil=>rfl
 |cons a r=>
  simp only[List.drop_zero,List.take_succ_cons,yeu,ydt]
  by_cases h:a=c
  ·subst h;simp
  ·rw[yaB.mpr (by simpa using h),yaB.mpr (by simpa using h)]
theorem vj(c:Nat):("0123456789":Str).cps.contains c=decide (48<=c/\c<=57):=by
 have e:("0123456789":Str).cps= #[48,49,50,51,52,53,54,55,56,57]:=by decide+kernel
 rw[e]
 by_cases h:c<58
 ·exact (by decide+kernel:∀c:Nat,c<58->(#[48,49,50,51,52,53,54,55,56,57]:Array Nat).contains c=decide (48<=c/\c<=57)) c h
 ·rw[decide_eq_false (λz=>h (Nat.lt_succ_of_le z.2))];exact Bool.eq_false_iff.mpr λz=>h ((by decide:∀x∈([48,49,50,51,52,53,54,55,56,57]:List Nat),x<58) c (yai.mp (by rw[List.contains_toArray]at z;exact z)))
noncomputable instance (l:List Nat):Decidable (AllDigits l):=inferInstanceAs (Decidable (∀c∈l,48<=c/\c<=57))
theorem UE{l:List Nat}{c:Nat}(h:c∈l.takeWhile p):p c=true:=by
 induction l with
 |nil=>cases h
 |cons a r ih=>
  rw[ybU]at h;cases hp:p a with
  |false=>rw[hp]at h;cases h
  |true=>
   rw[hp,yaf rfl]at h;rcases yag.mp h with rfl|h
   ·exact hp
   ·exact ih h
theorem xT(l:List Nat):decide (Txt.stripChars (tx l) "0123456789"=(Str.empty:Str))=decide (AllDigits l):=by
 have g:∀c,("0123456789":Str).cps.contains c=true↔(48<=c/\c<=57):=λc=>by rw[vj];simp
 unfold Txt.stripChars Txt.stripBy stripSame stripped stripLo stripHi;simp only[ybM,Qi];generalize hp:(("0123456789":Str).cps.contains:Nat->Bool)=p;have g':∀c,p c=true↔(48<=c/\c<=57):=λc=>by rw[←hp];exact g c
 by_cases h:AllDigits l
 ·rw[ly h,ly];have e1:(tx l).cps.toList.takeWhile p=l:=takeWhile_all λc hc=>(g' c).mpr (h c hc);rw[e1];have e2:(tx l).cps.toList.drop l.length=[]:=yaz (lA _);rw[e2];show(if(l.length==0&&l.length==l.length)=true then tx l else strSub (tx l) l.length l.length)=Str.empty
  by_cases hz:(l.length==0&&l.length==l.length)=true
  ·rw[yaf hz];have:l.length=0:=by
    simp only[yaO,yck]at hz;exact hz.1
   rw[yaH.mp this];rfl
  ·rw[yac hz,V1 (strSub _ _ _),strSub_toList,yeI,yeu];rfl
 ·rw[lx h,lx];have bn:((tx l).cps.toList.takeWhile p).length<l.length:=by
   have hle:((tx l).cps.toList.takeWhile p).length<=l.length:=ybV (yaU p);rcases ybc ((tx l).cps.toList.takeWhile p).length l.length with z|z
   ·exact z
   ·refine absurd (λc hc=>?_) h;have e:(tx l).cps.toList.takeWhile p=l:=ybn (yaU p) z;rw[←e]at hc;exact(g' c).mp (UE hc)
  generalize Db:((tx l).cps.toList.takeWhile p).length=lo at bn;have eQ:∃a r,l.drop lo=a::r/\p a=false:=by
   have hd:l.dropWhile p=l.drop lo:=by
    have:=ybP (p:=p) (l:=l);have e3:l.drop lo=((l.takeWhile p)++l.dropWhile p).drop lo:=by rw[this]
    rw[e3,ybo (by rw[←Db];exact lA _),yaz (by rw[←Db];exact lA _),lR]
   cases hx:l.drop lo with
   |nil=>
    have:=yaI List.length hx;rw[lJ,ybw]at this;lia
   |cons a r=>
    refine⟨a,r,Z,?_⟩;rw[hx]at hd;have:=ydO (p:=p) (l:=l);rw[hd]at this;simpa using this
  obtain⟨a,r,hx,iq⟩:=eQ;have f8:(tx l).cps.toList.drop lo=a::r:=hx;rw[f8];have i8:r.length+1=l.length-lo:=by
   have:=yaI List.length hx;rw[lJ,lD]at this;lia
  have hk:((a::r).reverse.takeWhile p).length<=r.length:=by
   rw[List.reverse_cons];have hle:((r.reverse++[a]).takeWhile p).length<=r.length:=by
    by_cases ol:∀c∈r.reverse,p c=true
    ·rw[ydj ol,ybU,iq];simp
    ·have:((r.reverse++[a]).takeWhile p).length<(r.reverse++[a]).length:=by
      have hle:((r.reverse++[a]).takeWhile p).length<=(r.reverse++[a]).length:=ybV (yaU p);rcases ybc ((r.reverse++[a]).takeWhile p).length (r.reverse++[a]).length with z|z
      ·exact z
      ·have e:(r.reverse++[a]).takeWhile p=r.reverse++[a]:=ybn (yaU p) z;have:p a=true:=UE (l:=r.reverse++[a]) (by rw[e];simp);rw[iq]at this;cases this
     rw[lq,yds,lC]at this;lia
   exact hle
  split
  ·intro z;have:=yaI (λz:Str=>z.cps.toList.length) z;have e0:l.length=0:=this;lia
  ·intro z;have:=yaI (λz:Str=>z.cps.toList.length) z;have e0:(strSub (tx l) lo (l.length-((a::r).reverse.takeWhile p).length)).cps.toList.length=0:=this;rw[strSub_toList,lI,Jt,hx,lD]at e0;lia
end aW
namespace aK
open PySem.NumText
noncomputable abbrev Rw:=Nat × Nat
noncomputable def Jh(t:List Nat):Nat × List Nat:=match t with
 |40::r=>if 41∈r/\r.takeWhile (· !=41)≠[]/\AllDigits (r.takeWhile (· !=41))/\(r.takeWhile (· !=41)).head?≠some 48 then(digitsVal (r.takeWhile (· !=41)),r.drop ((r.takeWhile (· !=41)).length+1))else(1,t)
 |_=>(1,t)
noncomputable def Q0(rows:List Rw)(c n:Nat):List Rw:=match rows.getLast? with
 |some (c',m)=>if c'=c then rows.dropLast++[(c,n+m)]else rows++[(c,n)]
 |none=>rows++[(c,n)]
noncomputable def WL:Nat->List Nat->List Rw->List Rw
 |0,_,rows=>rows
 |_,[],rows=>rows
 |k+1,c::t,rows=>WL k (Jh t).2 (Q0 rows c (Jh t).1)
noncomputable def rowsOf(l:List Nat):List Rw:=WL l.length l []
noncomputable def ins(c:Nat):Bool:=[44,66,48,47].contains c
noncomputable def zy:List (List Nat):=[[57],[83,57],[86,57],[83,86,57],[57,86,57],[83,57,86,57]]
structure Facts where
 kind:Nat
 signed:Bool
 before:Nat
 behind:Nat
deriving DecidableEq,Repr
noncomputable def Wo:List Rw->Bool->Bool->Nat->Nat->Option (Bool × Nat × Nat)
 |[],s,_,a,b=>some (s,a,b)
 |(c,n)::r,s,p,a,b=>if c=57 then(if p then Wo r s p a n else Wo r s p n b)else if n>1 then none else if c=83 then Wo r true p a b else Wo r s true a b
noncomputable def Q1(rows:List Rw):Option Facts:=if zy.contains (rows.map (·.1))then(match Wo rows false false 0 0 with
 |some (s,a,b)=>if a+b>18 then none else some ⟨2,s,a,b⟩
 |none=>none)else none
noncomputable def JB(rows:List Rw):Option Facts:=match rows with
 |[(c,n)]=>if(c≠88/\c≠65)\/n>60 then none else some ⟨if c=88 then 0 else 1,false,0,0⟩
 |_=>none
noncomputable def JK(rows:List Rw):Bool:=match rows with
 |(c,n)::r=>decide (n>1)||(match r.dropWhile (λx=>ins x.1)with|(c',_)::_=>c'==c|[]=>false)
 |[]=>false
noncomputable def Zm:List (List Nat)->List Rw->List Nat->List Nat × List Rw
 |[],rows,Y=>(Y,rows)
 |ch::more,rows,Y=>match rows with
  |(c,n)::r=>if ch.contains c&& !JK rows then Zm more r (Y++[c])else Zm more rows Y
  |[]=>Zm more rows Y
noncomputable def ZQ(rows:List Rw):List Nat × List Rw:=Zm [[43,45],[36]] rows []
noncomputable def QW(place:Nat):List Rw->Nat->Nat × List Rw
 |[],many=>(many,[])
 |(c,n)::r,many=>if c=place then QW place r (many+n)else if ins c then QW place r many else(many,(c,n)::r)
noncomputable def Ja(rows:List Rw):List Nat × Nat × Nat × List Rw:=match rows with
 |(c,n)::r=>if[57,90,42,43,45,36].contains c then(let x:=QW c rows 0;let y:=QW 57 x.2 0;([c],x.1,y.1,y.2))else([],0,0,rows)
 |[]=>([],0,0,rows)
noncomputable def Jq(rows:List Rw)(place:List Nat):Option Nat × List Rw:=match rows with
 |(46,n)::r=>if n>1\/r=[]then(none,rows)else(match r with
  |(c,m)::r'=>if c≠57/\([c]≠place\/[43,45,36].contains c)then(none,rows)else(some m,r')
  |[]=>(none,rows))
 |_=>(some 0,rows)
noncomputable def JV:List (List Nat):=[[43],[45],[67,82],[68,66]]
noncomputable def Kp(rows:List Rw):Option (List Nat):=if rows=[]then some []else if !JV.contains (rows.map (·.1))||rows.any (λx=>decide (x.2>1))then none else some (rows.map (·.1))
noncomputable def Ju(rows:List Rw):Option Facts:=
 let ld:=ZQ rows
 let wp:=Ja ld.2
 let bp:=Jq wp.2.2.2 (if wp.2.2.1=0 then wp.1 else[57])
 let tl:=Kp bp.2
 match wp.1,bp.1,tl with
 |[place],some behind,some tail=>
  let fl:Bool:=[43,45,36].contains place
  if fl&&decide (wp.2.1<2)then none
  else
   let shown:=[ld.1.take 1,[place],tail].filter (JV.contains ·)
   if shown.length>1 then none
   else
    let before:=wp.2.1+wp.2.2.1-(if fl then 1 else 0)
    if before+behind>18 then none else some ⟨3,shown.length==1,before,behind⟩
 |_,_,_=>none
noncomputable def JW(rows:List Rw):Option Facts:=match Q1 rows with
 |some f=>some f
 |none=>match JB rows with
  |some f=>some f
  |none=>Ju rows
noncomputable def Q2(l:List Nat):Option Facts:=JW (rowsOf l)
end aK
theorem Aj:0<=PySem.sizeLine:=by rw[ybQ];decide
theorem bK:1<=PySem.sizeLine:=by rw[ybQ];decide
theorem bw:2<=PySem.sizeLine:=by rw[ybQ];decide
theorem Ak:3<=PySem.sizeLine:=by rw[ybQ];decide
theorem eR:4<=PySem.sizeLine:=by rw[ybQ];decide
theorem Ig:5<=PySem.sizeLine:=by rw[ybQ];decide
namespace Lw
open PySem PySem.Spec PyProof.Rows L2 aW aK
open Builtin Builtin.Str StrLaws
theorem Jw(l:List Nat)(c:Nat):(!(occurrences (tx l) (tx [c]) 0 (tx l).length 1).isEmpty)=l.contains c:=by
 rcases occ_head (tx l) (tx [c]) 1 (lA _)with⟨h1,h2⟩|⟨i,t,h1,h2,h3⟩
 ·have hn:c∉l:=λhm=>by
   obtain⟨j,hj⟩:=ych.mp hm;exact h2 j ((subAt_one (tx l) c j).mpr hj)
  rw[h1];simp[hn]
 ·have hi:l[i]? =some c:=(subAt_one (tx l) c i).mp h2;have hm:c∈l:=ych.mpr ⟨i,hi⟩;rw[h1];simp[hm]
theorem vk(l:List Nat)(c:Nat):Txt.startswith (tx l) (tx [c])=(l.head?==some c):=by
 unfold Txt.startswith;have e:(tx [c])=(⟨#[c]⟩:Str):=rfl;rw[e,sub_one];cases l with
 |nil=>rfl
 |cons a r=>
  rw[ly (by show 0+1<=(tx (a::r)).length;rw[Qi,lD];lia)];rfl
theorem Xv(a b:List Nat):decide (V.str (tx a)=V.str (tx b))=decide (a=b):=by
 by_cases h:a=b
 ·rw[ly h,ly (by rw[h])]
 ·rw[lx h,lx λq=>h (UD (V.str.inj q))]
theorem Jm(a b:Nat):decide (V.str (tx [a])=V.str (tx [b]))=decide (a=b):=by
 rw[Xv]
 by_cases h:a=b
 ·rw[ly h,ly (by rw[h])]
 ·rw[lx h,lx λq=>h (ycL q).1]
theorem vm(n a:Nat):fromIndex n (a:Int)=a:=by
 unfold fromIndex;rw[yac (by lia)];lia
theorem N6{l:List Nat}{c i:Nat}(hi:l[i]? =some c)(hn:∀k,k<i->l[k]? ≠some c):l.takeWhile (· !=c)=l.take i:=by
 induction l generalizing i with
 |nil=>cases hi
 |cons a r ih=>
  cases i with
  |zero=>
   have:a=c:=by simpa using hi
   subst this;simp
  |succ i=>
   have hb:(a !=c)=true:=by
    have:=hn 0 (yeG _);simpa using this
   rw[ybU,hb];simp only[ybM,List.take_succ_cons];rw[ih (i:=i) (by simpa using hi) λk hk=>by
    have:=hn (k+1) (by lia);simpa using this]
theorem N7{a c:Nat}(h:l.drop a=40::r)(hc:c≠40):
  (c∉r/\xN (tx l) (tx [c]) (a:Int)= -1)\/(c∈r/\xN (tx l) (tx [c]) (a:Int)=((a+1+(r.takeWhile (· !=c)).length:Nat):Int)):=by
 have hd:∀i,l[a+i]? =(40::r)[i]? :=λi=>by rw[←h,ycb]
 unfold xN;rw[vm];rcases occ_head_from (tx l) (tx [c]) a 1 (lA _)with⟨h1,h2⟩|⟨i,t,h1,h2,h3,h4⟩
 ·refine .inl ⟨λhm=>?_,by rw[h1]⟩;obtain⟨j,hj⟩:=ych.mp hm;refine h2 (a+(j+1)) (by lia) ((subAt_one (tx l) c _).mpr ?_);show l[a+(j+1)]? =some c;rw[hd];exact hj
 ·have hi:l[i]? =some c:=(subAt_one (tx l) c i).mp h3;obtain⟨k,rfl⟩:∃k,i=a+k:=⟨i-a,by lia⟩;rw[hd]at hi;cases k with
  |zero=>exact absurd (by simpa using hi) (Ne.symm hc)
  |succ k=>
   have hk:r[k]? =some c:=by simpa using hi
   have e:=N6 (l:=r) (c:=c) (i:=k) hk λm hm z=>h4 (a+(m+1)) (by lia) (by lia) ((subAt_one (tx l) c _).mpr (by show l[a+(m+1)]? =some c;rw[hd];exact z));refine .inr ⟨ych.mpr ⟨k,hk⟩,?_⟩;have hkl:=(yaj.mp hk).1;rw[h1,e,lI,ybb (by lia)];show((a+(k+1):Nat):Int)=_
   congr 1
   lia
theorem zA(l:List Nat){a b:Nat}(h:b<a)(hl:1<=l.length):sliceText (tx l) (some (a:Int)) (some (b:Int))=tx []:=by
 have e3:strSliceIndices (some (a:Int)) (some (b:Int)) 1 (tx l).length=[]:=by
  rw[Qi];unfold strSliceIndices;have h1:¬ ((a:Int)<0):=by lia
  have h2:¬ ((b:Int)<0):=by lia
  have h3:max (0:Int) (min (a:Int) (l.length:Int))≥max (0:Int) (min (b:Int) (l.length:Int)):=by lia
  simp only[h1,h2,ycw,show((1:Int)>0)=True from by simp,ybM];unfold sliceRange;simp;lia
 unfold sliceText;rw[e3]
 split
 ·rename_i h1;have:l.length=0:=by
   have h2:(0==(tx l).length)=true:=by simpa using h1
   rw[Qi]at h2;have:=yck.mp h2;lia
  lia
 ·rfl
noncomputable def yM(x:Rw):HO:=.tup [.str (tx [x.1]),.int (x.2:Nat)]
inductive bx (H:Hp):List Addr->List Rw->Prop where
 |nil:bx H [] []
 |cons {r:Addr} {rs:List Addr} {x:Rw} {xs:List Rw}:H r=some (yM x)->bx H rs xs->bx H (r::rs) (x::xs)
section
variable {H H':Hp}{rs:List Addr}{rows:List Rw}
theorem bx.len(h:bx H rs rows):rs.length=rows.length:=by
 induction h with
 |nil=>rfl
 |cons _ _ ih=>rw[lD,lD,ih]
theorem bx.keep(h:bx H rs rows)(e:∀b xs,H b=some (.tup xs)->H' b=some (.tup xs)):bx H' rs rows:=by
 induction h with
 |nil=>exact .nil
 |cons a _ ih=>exact .cons (e _ _ a) ih
theorem bx.at(h:bx H rs rows):∀{i:Nat}{x:Rw},rows[i]? =some x->∃r,rs[i]? =some r/\H r=some (yM x):=by
 induction h with
 |nil=>intro i x e;cases e
 |cons a _ ih=>
  intro i x e;cases i with
  |zero=>exact⟨_,Z,by have:_=x:=lB e;rw[←this];exact a⟩
  |succ i=>exact ih (i:=i) (x:=x) e
theorem bx.app(h:bx H rs rows)(e:H r=some (yM x)):bx H (rs++[r]) (rows++[x]):=by
 induction h with
 |nil=>exact .cons e .nil
 |cons a _ ih=>exact .cons a ih
theorem bx.dr(h:bx H rs rows):∀k,bx H (rs.drop k) (rows.drop k):=by
 induction h with
 |nil=>intro k;rw[List.drop_nil,List.drop_nil];exact .nil
 |cons a t ih=>
  intro k;cases k with
  |zero=>exact .cons a t
  |succ k=>exact ih k
end
structure aj(K:Frag)(H:Hp)(p:Addr)(rs:List Addr)(rows:List Rw):Prop where
 sq:ay K H p (rs.map V.ref)
 rw:bx H rs rows
 le:rows.length<=600
section
variable {K:Frag}{H H':Hp}{p:Addr}{rs:List Addr}{rows:List Rw}{σ:L2.St}{i k:Nat}{Q:VK}
theorem ay.same{K:Frag}{xs:List V}(e:Qu H H')(h:ay K H a xs):ay K H' a xs:=by
 rcases h with(h|⟨o,h⟩)|h
 ·exact .inl (.inl (e _ _ h))
 ·exact .inl (.inr ⟨o,e _ _ h⟩)
 ·exact .inr h
theorem aj.same(R:aj K H p rs rows)(e:Qu H H'):aj K H' p rs rows:=⟨ay.same e R.sq,R.rw.keep λb xs h=>e _ _ h,R.le⟩
theorem aj.len(R:aj K H p rs rows):(rs.map V.ref).length=rows.length:=by rw[lu,R.rw.len]
theorem aj.at(R:aj K H p rs rows){x:Rw}(e:rows[k]? =some x):∃r,cf (rs.map V.ref) (k:Int)=some (.ref r)/\H r=some (yM x):=by
 obtain⟨r,h1,h2⟩:=R.rw.at e;exact⟨r,J2 (by rw[lK,h1];rfl),h2⟩
theorem UF(h1:σ[i]? =some (some (.ref p)))(h2:∀Q:VK,Q (.int (k:Nat)) H->te σ H Q) (R:aj K H p rs rows)  (e:rows[k]? =some x) (q:∀r,H r=some (yM x)->Q (.ref r) H):ba (Ag K) (ZB i) te σ H Q:=by
 obtain⟨r,a,b⟩:=R.at e;exact⟨_,h1,h2 _ ⟨p,_,_,_,Z,Z,R.sq,a,q r b⟩⟩
theorem XR(h1:σ[i]? =some (some (.ref p)))(h2:∀Q:VK,Q (.int (k:Nat)) H->te σ H Q) (R:aj K H p rs rows)  (e:rows[k]? =some x) (q:Q (.str (tx [x.1])) H):ba (qd K) (ba (Ag K) (ZB i) te) (tC (.int 0)) σ H Q:=
 UF h1 h2 R e λr b=>⟨r,_,_,_,Z,Z,ai.of b,Z,q⟩
theorem yN(h1:σ[i]? =some (some (.ref p)))(h2:∀Q:VK,Q (.int (k:Nat)) H->te σ H Q) (R:aj K H p rs rows)  (e:rows[k]? =some x) (q:Q (.int (x.2:Nat)) H):ba (qd K) (ba (Ag K) (ZB i) te) (tC (.int 1)) σ H Q:=
 UF h1 h2 R e λr b=>⟨r,_,_,_,Z,Z,ai.of b,Z,q⟩
theorem ZI(h1:σ[i]? =some (some (.ref p)))(R:aj K H p rs rows)(q:Q (.int (rows.length:Nat)) H):oI (λxs H Q=>∃p ys,xs=[.ref p]/\(ay K H p ys\/ai K H p ys)/\Q (.int ys.length) H) (Jp (ZB i) WI) σ H Q:=
 ⟨_,h1,p,_,Z,.inl R.sq,by rw[R.len];exact q⟩
theorem Zj(h:σ[i]? =some (some (.int (k:Nat)))):∀Q:VK,Q (.int (k:Nat)) H->ZB i σ H Q:=λQ q=>⟨_,h,q⟩
end
theorem Zw(l:List Nat):Txt.join "" (l.map λc=>tx [c])=tx l:=by
 show Builtin.Str.glued _ _=_;rw[yda];have e:("":Str)=⟨#[]⟩:=by decide+kernel
 rw[e];exact join_ones l
theorem vn:∀(l:List Nat)(n:Nat),(l.map λc=>tx [c]).foldl (λ(m:Nat)(s:Str)=>m+s.length+("":Str).length) n=n+l.length:=by
 have e:("":Str).length=0:=by decide+kernel
 intro l
 induction l with
 |nil=>intro n;rfl
 |cons a r ih=>
  intro n;show(r.map λc=>tx [c]).foldl _ (n+(tx [a]).length+("":Str).length)=_;rw[ih,e,Qi,lD,lD,ybw];lia
theorem XS{l:List Nat}(h:l.length<=1000):JoinOk "" (l.map λc=>tx [c])=true:=by
 unfold JoinOk;rw[←Array.foldl_toList,List.toList_toArray,vn];unfold tooLong;have hz:=zza
 rw[lx (by lia)];rfl
noncomputable def top(i:Nat):Stmt:=PySem.Challenge.pw_boxmoves_k17_moves.main.body.getD i (.Pass ⟨0,0,0,0⟩)
noncomputable abbrev YD:Stmt:=top 19
theorem K5:aa ["many","power","turn"] ["many"] (Qf YD):=by constructor<;>decide+kernel
noncomputable abbrev XT:Stmt:=top 20
theorem YE:aa ["text"] ["text"] (Qf XT):=by constructor<;>decide+kernel
noncomputable abbrev KA:Stmt:=top 21
theorem Zx:aa ["text","number","start","part"] ["text"] (Qf KA):=by constructor<;>decide+kernel
noncomputable abbrev XU:Stmt:=top 22
theorem Zk:aa ["number","above","parts","part"] ["number"] (Qf XU):=by constructor<;>decide+kernel
noncomputable abbrev Fi:Stmt:=top 24
theorem xU:aa ["amount","places","units","own"] ["amount","places"] (Qf Fi):=by constructor<;>decide+kernel
noncomputable abbrev YF:Stmt:=top 25
theorem Vo:aa ["amount","before","behind","units","kept"] ["amount","before","behind"] (Qf YF):=by constructor<;>decide+kernel
noncomputable abbrev Xd:Stmt:=top 26
theorem XV:aa ["number","by","quotient"] ["number","by"] (Qf Xd):=by constructor<;>decide+kernel
noncomputable abbrev K6:Stmt:=top 37
theorem Wp:aa ["picture","rows","facts"] ["picture"] (Qf K6):=by constructor<;>decide+kernel
noncomputable abbrev jy:Stmt:=top 38
theorem KC:aa ["picture","rows","facts","kind","signed","before","behind"] ["picture"] (Qf jy):=by constructor<;>decide+kernel
noncomputable abbrev K7:Stmt:=top 39
theorem Wq:aa ["picture","rows","facts"] ["picture"] (Qf K7):=by constructor<;>decide+kernel
noncomputable abbrev Z5:Stmt:=top 40
theorem Xw:aa ["picture","rows","facts"] ["picture"] (Qf Z5):=by constructor<;>decide+kernel
noncomputable abbrev Zl:Stmt:=top 41
theorem ZC:aa ["kind","picture","rows","facts"] ["kind","picture"] (Qf Zl):=by constructor<;>decide+kernel
noncomputable abbrev Xx:Stmt:=top 42
theorem V2:aa ["rows"] ["rows"] (Qf Xx):=by constructor<;>decide+kernel
noncomputable abbrev Vp:Stmt:=top 43
theorem Zo:aa ["thing","rows","at","symbol","many"] ["thing"] (Qf Vp):=by constructor<;>decide+kernel
noncomputable abbrev Wr:Stmt:=top 44
theorem KE:aa ["text","at","end","number"] ["text","at"] (Qf Wr):=by constructor<;>decide+kernel
noncomputable abbrev Ws:Stmt:=top 45
theorem Xy:aa ["rows","facts"] ["rows"] (Qf Ws):=by constructor<;>decide+kernel
noncomputable abbrev Xe:Stmt:=top 46
theorem Ji:aa ["rows","symbol","many","signed","behind_point","figures"] ["rows"] (Qf Xe):=by constructor<;>decide+kernel
noncomputable abbrev Xz:Stmt:=top 47
theorem Xf:aa ["rows","symbol","many"] ["rows"] (Qf Xz):=by constructor<;>decide+kernel
noncomputable abbrev Xg:Stmt:=top 48
theorem QP:aa ["rows","lead","start","place","many","nines","behind","end","tail","floats","shown","before"] ["rows"] (Qf Xg):=by constructor<;>decide+kernel
noncomputable abbrev Xh:Stmt:=top 49
theorem Jj:aa ["rows","lead","start","place","many","nines","behind","end"] ["rows"] (Qf Xh):=by constructor<;>decide+kernel
noncomputable abbrev Vq:Stmt:=top 50
theorem ZM:aa ["rows","lead","at","choice"] ["rows"] (Qf Vq):=by constructor<;>decide+kernel
noncomputable abbrev KF:Stmt:=top 51
theorem Zy:aa ["rows","at","symbol","many","behind"] ["rows","at"] (Qf KF):=by constructor<;>decide+kernel
noncomputable abbrev Vr:Stmt:=top 52
theorem Zp:aa ["rows","at","place","many","nines","behind"] ["rows","at"] (Qf Vr):=by constructor<;>decide+kernel
noncomputable abbrev XW:Stmt:=top 53
theorem JZ:aa ["rows","at","place","many","nines"] ["rows","at"] (Qf XW):=by constructor<;>decide+kernel
noncomputable abbrev KG:Stmt:=top 54
theorem Z6:aa ["rows","at","place","many"] ["rows","at","place"] (Qf KG):=by constructor<;>decide+kernel
noncomputable abbrev XA:Stmt:=top 55
theorem Xi:aa ["rows","at","place","symbol","many"] ["rows","at","place"] (Qf XA):=by constructor<;>decide+kernel
noncomputable abbrev Vs:Stmt:=top 56
theorem Yi:aa ["rows","at","tail"] ["rows","at"] (Qf Vs):=by constructor<;>decide+kernel
noncomputable abbrev W4:Stmt:=top 61
theorem J6:aa ["picture","amount","rows","signed","before","behind","lead","body","tail","units","is_below"] ["picture","amount"] (Qf W4):=by constructor<;>decide+kernel
noncomputable abbrev ZJ:Stmt:=top 62
theorem QZ:aa ["picture","text","rows","signed","before","behind","lead","body","tail","pairs","units","choice"] ["picture","text"] (Qf ZJ):=by constructor<;>decide+kernel
noncomputable abbrev Xj:Stmt:=top 63
theorem Vt:aa ["body"] ["body"] (Qf Xj):=by constructor<;>decide+kernel
noncomputable abbrev XB:Stmt:=top 64
theorem V3:aa ["symbols"] ["symbols"] (Qf XB):=by constructor<;>decide+kernel
noncomputable abbrev KH:Stmt:=top 65
theorem UG:aa ["symbols","is_below"] ["symbols","is_below"] (Qf KH):=by constructor<;>decide+kernel
noncomputable abbrev KI:Stmt:=top 66
theorem Z7:aa ["body","units","is_below","signs","hidden","place"] ["body","units","is_below"] (Qf KI):=by constructor<;>decide+kernel
noncomputable abbrev YG:Stmt:=top 67
theorem ZR:aa ["body","units","symbol","many","figures","signs","used"] ["body","units"] (Qf YG):=by constructor<;>decide+kernel
noncomputable abbrev KJ:Stmt:=top 68
theorem XX:aa ["body","signs","at","symbol"] ["body","signs"] (Qf KJ):=by constructor<;>decide+kernel
noncomputable abbrev Z8:Stmt:=top 73
theorem JL:aa ["picture","amount","rows","signed","before","behind","units","figures"] ["picture","amount"] (Qf Z8):=by constructor<;>decide+kernel
noncomputable abbrev XC:Stmt:=top 74
theorem Jx:aa ["picture","content","rows","signed","before","behind","last","is_below","figures","units"] ["picture","content"] (Qf XC):=by constructor<;>decide+kernel
noncomputable abbrev jz:Stmt:=top 75
theorem Vu:aa ["content","picture","other","right","source","target","text","moved"] ["content","picture","other","right"] (Qf jz):=by constructor<;>decide+kernel
noncomputable abbrev vo:Stmt:=top 76
theorem N8:aa ["picture","amount"] ["picture","amount"] (Qf vo):=by constructor<;>decide+kernel
noncomputable abbrev ZK:Stmt:=top 77
theorem Xk:aa ["content","picture","kind","figures"] ["content","picture"] (Qf ZK):=by constructor<;>decide+kernel
noncomputable abbrev Zt:Stmt:=top 78
theorem JC:aa ["content","picture","signed","before","behind","units","places"] ["content","picture"] (Qf Zt):=by constructor<;>decide+kernel
noncomputable abbrev Vv:Stmt:=top 79
theorem zB:aa ["text","size","right"] ["text","size","right"] (Qf Vv):=by constructor<;>decide+kernel
noncomputable abbrev KK:Stmt:=top 81
theorem Zz:aa ["_law_script","_law_town","_law_many","_law_at","_law_rest","_law_number"] ["_law_script","_law_town","_law_many"] (Qf KK):=by constructor<;>decide+kernel
noncomputable abbrev XY:Stmt:=top 82
theorem YH:aa [] [] (Qf XY):=by constructor<;>decide+kernel
noncomputable abbrev XZ:Stmt:=top 83
theorem JM:aa ["_law_kept","_law_kinds","_law_found"] ["_law_kept"] (Qf XZ):=by constructor<;>decide+kernel
noncomputable abbrev JH:Stmt:=top 84
theorem J0:aa ["_law_deed","_law_kept","_law_found","e"] ["_law_deed"] (Qf JH):=by constructor<;>decide+kernel
noncomputable abbrev ZD:Stmt:=top 85
theorem J1:aa ["_law_script","_law_town","_law_figures","_law_far","_law_units","_law_places_here","_law_k"] ["_law_script","_law_town","_law_figures","_law_far"] (Qf ZD):=by constructor<;>decide+kernel
noncomputable abbrev XD:Stmt:=top 86
theorem Zu:aa ["_law_script","_law_town","_law_symbol","_law_most","_law_found","_law_k"] ["_law_script","_law_town","_law_symbol","_law_most"] (Qf XD):=by constructor<;>decide+kernel
noncomputable abbrev ZE:Stmt:=top 87
theorem QH:aa ["_law_script","_law_town","_law_first","_law_whole","_law_broken","_law_signs","_law_lead","_law_tail"] ["_law_script","_law_town"] (Qf ZE):=by constructor<;>decide+kernel
noncomputable abbrev KL:Stmt:=top 88
theorem Zd:aa ["_law_parts","_law_lead","_law_first","_law_whole","_law_broken","_law_tail"] ["_law_parts"] (Qf KL):=by constructor<;>decide+kernel
noncomputable abbrev Jn:Stmt:=top 89
theorem QA:aa ["_law_parts","_law_amount","_law_lead","_law_first","_law_whole","_law_broken","_law_tail","_law_symbol","_law_places_here","_law_floats","_law_before","_law_behind","_law_units","_law_figures","_law_less","_law_mark","_law_size","_law_ahead","_law_stars","_law_row","_law_left","_law_stop","_law_at","_law_end"] ["_law_parts","_law_amount"] (Qf Jn):=by constructor<;>decide+kernel
noncomputable abbrev ZS:Stmt:=top 90
theorem Jv:aa ["_law_script","_law_town","_law_shows","_law_before","_law_behind","_law_line_here"] ["_law_script","_law_town"] (Qf ZS):=by constructor<;>decide+kernel
noncomputable abbrev Xl:Stmt:=top 91
theorem ZT:aa ["_law_shows","_law_before","_law_behind","_law_amount","_law_units","_law_figures"] ["_law_shows","_law_before","_law_behind","_law_amount"] (Qf Xl):=by constructor<;>decide+kernel
noncomputable abbrev QK:Stmt:=top 92
theorem QJ:aa ["_law_script","_law_town","_law_turn","_law_size","_law_line_here","_law_shows","_law_before","_law_behind","_law_content_here","_law_parts","_law_sort","_law_k"] ["_law_script","_law_town"] (Qf QK):=by constructor<;>decide+kernel
noncomputable abbrev Qw:Stmt:=top 93
theorem Qv:aa ["_law_one","_law_line_here","_law_kind","_law_room_so","_law_content_here","_law_short_so","_law_sign","_law_last","_law_lead","_law_first","_law_whole","_law_broken","_law_tail","_law_figures","_law_at","_law_place","_law_symbol","_law_units"] ["_law_one"] (Qf Qw):=by constructor<;>decide+kernel
noncomputable abbrev Xm:Stmt:=top 94
theorem Vw:aa ["_law_content_here","_law_size","_law_right_here"] ["_law_content_here","_law_size","_law_right_here"] (Qf Xm):=by constructor<;>decide+kernel
noncomputable abbrev QS:Stmt:=top 95
theorem QU:aa ["_law_one","_law_two","_law_right_here","_law_line_here","_law_kind","_law_room_so","_law_content_here","_law_other_here","_law_there","_law_other_room","_law_old","_law_found","_law_bad","_law_amount","_law_figures"] ["_law_one","_law_two","_law_right_here"] (Qf QS):=by constructor<;>decide+kernel
noncomputable abbrev WP:Stmt:=top 96
theorem Vx:aa ["_law_script","_law_town","_law_k","_law_told","_law_one","_law_right_here","_law_two"] ["_law_script"] (Qf WP):=by constructor<;>decide+kernel
section
variable {P:Program}{w:World}{K:Frag}{mg:Str->Option Value}{M:Heap}{f:Addr}{fd:FuncData}{tk:Nat->Tok}{c kr:Nat->Addr}
def zC:Sp:=λvs H Q _=>∃m:Int,vs=[.int m]/\ -(2^62)<=m/\m<2^62/\Q (.int (aE.aP m)) H
theorem xV(F:az K "ten_to" "ten_to" YD f fd)(O:Own mg):af P w K mg M (ak P w) 1 f fd ["many"] zC:=by
 refine okN F K5 (λvs H Q E h=>?_) (λad A L s H vs Q E hr h=>?_)
 ·obtain⟨m,rfl,_⟩:=h;rfl
 ·obtain⟨m,rfl,h1,h2,k⟩:=h;refine⟨_,(Qb (Z' 1 K5.nd Qj)
   (Qb (Z1 yaG Z (XJ Z O.range (Qa (pv 0) Qc)) (Y' 2 K5.nd) (Qg (Z' 1 K5.nd (Qt jj (pv 1) Qj))))
   (Qg (Qr (pv 1))))),?_⟩
  refine⟨_,Z,m,Z,h1,h2,XL (n:=m.toNat) (λi σ H2=>∃v,σ=[some (.int m),some (.int (10^i)),v]/\H2=H) ⟨none,Z,Z⟩ ?_ ?_⟩
  ·rintro i σ H2 hi ⟨v,rfl,rfl⟩;refine⟨_,Z,_,_,Z,Z,.inr ⟨by decide,by decide⟩,?_⟩;exact⟨_,by rw[Int.pow_succ];rfl,Z⟩
  ·rintro σ H2 ⟨v,rfl,rfl⟩;exact⟨_,Z,k⟩
theorem Vy(h:m<=40):(aE.aP m).natAbs<2^200:=by
 have h1:=aE.N4 (a:=m) (b:=40) h (by decide);have h2:=aE.J3 m;have h3:aE.aP 40<2^200:=by decide
 lia
theorem big{a:Int}(h:a.natAbs<2^200):a.natAbs<2^2000:=yad h (by decide)
structure Txt(K:Frag)(mg:Str->Option Value)(tk:Nat->Tok)(c kr:Nat->Addr):Prop where
 pW:mg "BoxError"=some (.ref (c 0))
 ph:mg "NoPicture"=some (.ref (c 1))
 pk:mg "NoRoom"=some (.ref (c 2))
 pI:mg "NoQuotient"=some (.ref (c 3))
 rS:mg "NoText"=some (.ref (c 4))
 gU:mg "NoFigures"=some (.ref (c 5))
 pj:mg "NoLetters"=some (.ref (c 6))
 pq:mg "NoMove"=some (.ref (c 7))
 rT:mg "NoPath"=some (.ref (c 8))
 pY:mg "NoAmount"=some (.ref (c 9))
 rQ:mg "NoGroup"=some (.ref (c 10))
 rR:mg "BadSize"=some (.ref (c 11))
 rV:mg "NoBack"=some (.ref (c 12))
 rW:mg "BadRow"=some (.ref (c 13))
 rX:mg "Closed"=some (.ref (c 14))
 gO:mg "FIGURES"=some (.str "0123456789" (tk 0))
 nt:mg "PART"=some (.int 18 (tk 1))
 gL:mg "INSERTED"=some (.str ",B0/" (tk 2))
 nU:mg "SIGNS"=some (.str "+-" (tk 3))
 gG:mg "FLOATING"=some (.str "+-$" (tk 4))
 nu:mg "PLACES"=some (.str "9Z*+-$" (tk 5))
 gy:mg "MOST_FIGURES"=some (.int 18 (tk 6))
 gN:mg "MOST_SIGNS"=some (.int 60 (tk 7))
 gD:mg "LAST_BELOW"=some (.str "pqrstuvwxy" (tk 8))
 gk:mg "LETTERS_AND_BLANK"=some (.str "abcdefghijklmnopqrstuvwxyzABCDEFGHIJKLMNOPQRSTUVWXYZ " (tk 9))
 gW:mg "BESIDE"=some (.ref (kr 3))
 gX:mg "NOT_BELOW"=some (.ref (kr 4))
 nV:mg "BELOW"=some (.ref (kr 5))
 nW:mg "MOVES"=some (.ref (kr 6))
 gH:mg "NUMBER_FORMS"=some (.ref (kr 0))
 nM:mg "SHOWN"=some (.ref (kr 1))
 gF:mg "PLAIN_KINDS"=some (.ref (kr 2))
 tW:∀H,ai K H (kr 0) [.str "9",.str "S9",.str "V9",.str "SV9",.str "9V9",.str "S9V9"]
 nN:∀H,ai K H (kr 1) [.str "+",.str "-",.str "CR",.str "DB"]
 pO:iU K (c 1)
 pP:iU K (c 2)
 rY:∀H,ai K H (kr 7) [.str "number",.str "edited",.str "text"]
 rZ:∀H,ai K H (kr 8) [.str "number",.str "edited",.str "text"]
 r6:∀H,ai K H (kr 9) [.str "number",.str "edited",.str "text",.str "letters"]
 r8:∀H,ai K H (kr 10) [.str "text",.str "letters"]
 mD:iU K (c 5)
 pR:iU K (c 6)
 pS:iU K (c 7)
 pT:kitOne K (.type "str") (.type "str")=some true
 pU:kitOne K (.type "int") (.type "str")=some false
 lj:kitOne K (.type "NoneType") (.type "str")=some false
 lp:kitOne K (.type "tuple") (.type "str")=some false
noncomputable def UH:List (Key × V):=[(Sum.inr "X",.str "text"),(Sum.inr "A",.str "letters")]
def Vz:Sp:=λvs H Q _=>∃z:Str,vs=[.str z]/\z.length<=1000/\Q (.bl (decide (z.cps.toList≠[]/\NumText.AllDigits z.cps.toList))) H
theorem K8(z:Str):decide (V.str z=V.str "")=decide (z.cps.toList=[]):=by
 have e:("":Str)=tx []:=by decide+kernel
 rw[e]
 by_cases h:z.cps.toList=[]
 ·rw[ly h,ly];rw[V1 z,h]
 ·rw[lx h,lx];intro q;exact h (by rw[V.str.inj q])
theorem xW(z:Str):decide (V.str (Txt.stripChars z "0123456789")=V.str "")=decide (NumText.AllDigits z.cps.toList):=by
 rw[K8, ←xT z.cps.toList];have e:tx z.cps.toList=z:=(V1 z).symm;rw[e]
 by_cases h:(Txt.stripChars z "0123456789").cps.toList=[]
 ·rw[ly h,ly];rw[V1 (Txt.stripChars _ _),h];rfl
 ·rw[lx h,lx];intro q;exact h (by rw[q];rfl)
theorem YI(F:az K "is_figures" "is_figures" XT f fd)(T:Txt K mg tk c kr):af P w K mg M (ak P w) 1 f fd ["text"] Vz:=by
 refine okN F YE (λvs H Q E h=>?_) (λad A L s H vs Q E hr h=>?_)
 ·obtain⟨z,rfl,_⟩:=h;rfl
 ·obtain⟨z,rfl,hl,k⟩:=h;refine⟨_,(Qg (Qr (Ug (JR ZZ (pv 0) Qd (Qo _)) (Uf (JR Q3 (JF yau ybF ybG Z4 (pv 0) (Qa (QD (v:=V.str "0123456789") Z T.gO ⟨_,Z⟩) Qc)) Qd (Qo _)))))),?_⟩;refine⟨_,Z,Z,_,Z,?_⟩;refine aF (λh=>?_) (λh=>?_)
  ·refine⟨_,Z,Z,z,"0123456789",Z,Z,yas hl (by decide),Z,?_⟩;rw[K8]at h;refine Eq.mp (yaI (λb=>Q (.bl b) H) ?_) k;rw[xW];have ul:z.cps.toList≠[]:=λq=>by rw[ly q]at h;cases h
   by_cases hd:NumText.AllDigits z.cps.toList
   ·rw[ly hd,ly ⟨ul,hd⟩]
   ·rw[lx hd,lx λq=>hd q.2]
  ·rw[K8]at h;have ul:z.cps.toList=[]:=by
    by_cases q:z.cps.toList=[]
    ·exact q
    ·rw[lx q]at h;cases h
   refine Eq.mp (yaI (λb=>Q (.bl b) H) ?_) k;exact lx λq=>q.1 ul
def zD:Sp:=λvs H Q _=>∃z:Str,vs=[.str z]/\NumText.AllDigits z.cps.toList/\z.length<=500/\Q (.int (NumText.digitsVal z.cps.toList:Nat)) H
theorem UI(F:az K "number_of" "number_of" KA f fd)(O:Own mg)(T:Txt K mg tk c kr)(gA:Def P w K mg M 1 "ten_to" ["many"] zC):af P w K mg M (ak P w) 2 f fd ["text"] zD:=by
 refine okN F Zx (λvs H Q E h=>?_) (λad A L s H vs Q E hr h=>?_)
 ·obtain⟨z,rfl,_⟩:=h;rfl
 ·obtain⟨z,rfl,hd,h2,k⟩:=h;have SC:=len_list z;refine⟨_,(Qb (Z' 1 Zx.nd Qj)
   (Qb (Z1 yaG Z (xM Z O.range (Qa Qj (Qa (Qq QF Z O.len yaK (Qa (pv 0) Qc)) (Qa (QD (v:=V.int 18) Z T.nt ⟨_,Z⟩) Qc)))) (Y' 2 Zx.nd) (Qb (Z' 3 Zx.nd (QT JT (pv 0) (QV (pv 2)) (QV (Qt JA (pv 2) (QD (v:=V.int 18) Z T.nt ⟨_,Z⟩)))))
   (Qg (Z' 1 Zx.nd (Qt JA (Qt Yy (pv 1) (gA.pq hr Qy (Qa (Qq QF Z O.len yaK (Qa (pv 3) Qc)) Qc))) (Q9 Q8 Z O.int ycV (Qa (pv 3) Qc)))))))
   (Qg (Qr (pv 1))))),?_⟩
  have hn:Builtin.Range.rangeSize 0 (z.length:Int) 18=(((z.length+17)/18:Nat):Int):=by
   unfold Builtin.Range.rangeSize;rw[yaf (by decide)]
   split<;>lia
  refine⟨_,Z,z,Z,yas h2 (by decide),0,(z.length:Int),18,_,Z,⟨by decide,by decide,by lia,by lia,by decide,by decide⟩,hn,zu (λi σ H2=>∃x2 x3,σ=[some (.str z),some (.int (NumText.digitsVal (z.cps.toList.take (18*i)):Nat)),x2,x3]/\H2=H) ⟨none,none,Z,Z⟩ ?_ ?_⟩
  ·rintro i σ H2 hi ⟨x2,x3,rfl,rfl⟩;have N9:18*i<z.length:=by lia
   have hs:StrLaws.sliceText z (some (0+(i:Int)*18)) (some (0+(i:Int)*18+18))=tx ((z.cps.toList.drop (18*i)).take 18):=by
    have e1:(0+(i:Int)*18)=((18*i:Nat):Int):=by lia
    have e2:(0+(i:Int)*18+18)=((18*i+18:Nat):Int):=by lia
    rw[e2,e1];have:=Xp z.cps.toList (a:=18*i) (b:=18*i+18) (by lia) (by lia);rw[←V1 z,show 18*i+18-18*i=18 by lia]at this;exact this
   refine⟨_,Z,_,Z,_,Z,_,Z,_,_,Z,Z,_,Z,z,Z,yas h2 (by decide),?_⟩;rw[hs];have Ih:NumText.AllDigits ((z.cps.toList.drop (18*i)).take 18):=λc hc=>hd c (yaY (ybf hc));have mo:((z.cps.toList.drop (18*i)).take 18).length<=18:=by rw[lI];lia
   have fR:1<=((z.cps.toList.drop (18*i)).take 18).length:=by rw[lI,lJ];lia
   have re:z.cps.toList.take (18*(i+1))=z.cps.toList.take (18*i)++(z.cps.toList.drop (18*i)).take 18:=by rw[show 18*(i+1)=18*i+18 by lia,List.take_add]
   generalize (z.cps.toList.drop (18*i)).take 18=pl at Ih mo fR re;have ce:=Qi pl;have N':=XQ (l:=z.cps.toList.take (18*i)) λc hc=>hd c (ybf hc);have Oa:NumText.digitsVal (z.cps.toList.take (18*i))<10^500:=yad N' (yat (by decide) (by rw[lI];lia));refine⟨_,Z,_,Z,tx pl,Z,by rw[ce];exact yas mo (by decide),_,Z,by lia,by lia,_,_,Z,Z,⟨yaD Oa (by decide),big (Vy (by lia))⟩,?_⟩;refine⟨_,Z,tx pl,_,Z,ybI Ih (λq=>by rw[Jt]at q;rw[q]at fR;exact absurd fR (by decide)) (by rw[ce];lia),by rw[ce];lia,_,_,Z,Z,?_⟩;have et:aE.aP (((tx pl).length:Nat):Int)=((10^pl.length:Nat):Int):=by
    unfold aE.aP;rw[lZ,ce];push_cast;rfl
   have key:((NumText.digitsVal (z.cps.toList.take (18*i)):Nat):Int)*aE.aP (((tx pl).length:Nat):Int)+((NumText.digitsVal (tx pl).cps.toList:Nat):Int)=((NumText.digitsVal (z.cps.toList.take (18*(i+1))):Nat):Int):=by
    rw[re,Xc,et,Jt];push_cast;rfl
   refine⟨some (.int (0+(i:Int)*18)),some (.str (tx pl)),?_,Z⟩;rw[←key];rfl
  ·rintro σ H2 ⟨x2,x3,rfl,rfl⟩;refine⟨_,Z,?_⟩;rw[yaq (by lia)];exact k
def qE:Sp:=λvs H Q _=>∃(l:List Nat)(a:Nat),vs=[.str (tx l),.int (a:Nat)]/\l.length<=500/\a<=l.length/\∀b,a<=b->b<=l.length->(Jh (l.drop a)).2=l.drop b->∀q,H q=none->Q (.ref q) (upd H q (.tup [.int ((Jh (l.drop a)).1:Nat),.int (b:Nat)]))
theorem vp(h:t.take 1≠[40]):Jh t=(1,t):=by
 unfold Jh
 split
 ·exact absurd rfl h
 ·rfl
theorem xX(h:¬ (41∈r/\r.takeWhile (· !=41)≠[]/\NumText.AllDigits (r.takeWhile (· !=41))/\(r.takeWhile (· !=41)).head?≠some 48)):Jh (40::r)=(1,40::r):=yac h
theorem zE(h:41∈r/\r.takeWhile (· !=41)≠[]/\NumText.AllDigits (r.takeWhile (· !=41))/\(r.takeWhile (· !=41)).head?≠some 48):Jh (40::r)=(NumText.digitsVal (r.takeWhile (· !=41)),r.drop ((r.takeWhile (· !=41)).length+1)):=yaf h
theorem UJ(a:Nat):(a:Int)+1=((a+1:Nat):Int):=by lia
theorem qF(F:az K "times_at" "times_at" Wr f fd)(O:Own mg)(T:Txt K mg tk c kr)(gu:Def P w K mg M 1 "is_figures" ["text"] Vz)(gf:Def P w K mg M 2 "number_of" ["text"] zD):
  af P w K mg M (ak P w) 3 f fd ["text","at"] qE:=by
 refine okN F KE (λvs H Q E h=>?_) (λad A L s H vs Q E hr h=>?_)
 ·obtain⟨l,a,rfl,_⟩:=h;rfl
 ·obtain⟨l,a,rfl,hl,ha,k⟩:=h;have hz:=zza
  have ce:=Qi l;have Ob:("(":Str)=tx [40]:=by decide+kernel
  have Oc:(")":Str)=tx [41]:=by decide+kernel
  have Od:("0":Str)=tx [48]:=by decide+kernel
  refine⟨_,(Qb (QL (Ql ZZ (QT JT (pv 0) (QV (pv 1)) (QV (Qt JA (pv 1) Qj))) Qd (Qo _)) (Qg (Qr (QG (Qa Qj (Qa (pv 1) Qc))))) Qs)
   (Qb (Z' 2 KE.nd (JF yau slot_str_find type_str_find vh (pv 0) (Qa Qd (Qa (pv 1) Qc))))
   (Qb (Z' 3 KE.nd (QT JT (pv 0) (QV (Qt JA (pv 1) Qj)) (QV (Qq (Ui Z) Z O.max boot_max (Qa (pv 2) (Qa (pv 1) Qc))))))
   (Qb (QL (PW.pt (Xa (Kn (WG (gu.pq hr Qy (Qa (pv 3) Qc)))) (Zf (WG (JF yau slot_str_startswith type_str_startswith YC (pv 3) (Qa Qd Qc)))))) (Qg (Qr (QG (Qa Qj (Qa (pv 1) Qc))))) Qs)
   (Qg (Qr (QG (Qa (gf.pq hr Qy (Qa (pv 3) Qc)) (Qa (Qt JA (pv 2) Qj) Qc))))))))),?_⟩
  refine⟨_,Z,_,Z,_,Z,_,Z,_,_,Z,Z,_,Z,tx l,Z,by lia,?_⟩;rw[UJ,Xp l (a:=a) (b:=a+1) ha (by lia),show a+1-a=1 by lia];refine⟨Z,_,Z,?_⟩;have stop:Jh (l.drop a)=(1,l.drop a)->∀q,H q=none->Q (.ref q) (upd H q (.tup [.int 1,.int (a:Nat)])):=λe q hq=>by
   have:=k a (lA _) ha (by rw[e]) q hq;rw[e]at this;exact this
  rw[Ob,Xv];refine aF (λh1=>?_) (λh1=>?_)
  ·refine⟨_,Z,bw,stop (vp λe=>?_)⟩;rw[e]at h1;cases h1
  have h2:(l.drop a).take 1=[40]:=by
   by_cases e:(l.drop a).take 1=[40]
   ·exact e
   ·rw[lx e]at h1;cases h1
  obtain⟨r,fS⟩:∃r,l.drop a=40::r:=by
   cases e:l.drop a with
   |nil=>rw[e]at h2;cases h2
   |cons b r=>
    rw[e]at h2;have:b=40:=(ycL h2).1;exact⟨r,by rw[this]⟩
  have i8:l.length=a+(r.length+1):=by
   have:=yaI List.length fS;rw[lJ,lD]at this;lia
  have eS:¬ (41∈r/\r.takeWhile (· !=41)≠[]/\NumText.AllDigits (r.takeWhile (· !=41))/\(r.takeWhile (· !=41)).head?≠some 48)->∀q,H q=none->Q (.ref q) (upd H q (.tup [.int 1,.int (a:Nat)])):=λz=>stop (by rw[fS];exact xX z);refine⟨_,Z,Z,_,Z,tx l,")",(a:Int),Z,Z,?_⟩;rw[Oc];have i9:=N7 (c:=41) fS (by decide);generalize xN (tx l) (tx [41]) (a:Int)=e at i9;refine⟨_,Z,_,Z,_,_,Z,Z,_,Z,_,Z,_,Z,_,_,Z,_,Z,tx l,Z,by lia,?_⟩;rw[UJ];rcases i9 with⟨cZ,rfl⟩|⟨No,rfl⟩
  ·have es:StrLaws.sliceText (tx l) (some ((a+1:Nat):Int)) (some (if(a:Int)> -1 then(a:Int)else-1))=tx []:=by
    rw[yaf (by lia)];exact zA l (by lia) (by lia)
   rw[es];refine⟨_,Z,tx [],Z,by rw[Qi];decide,_,Z,?_⟩;refine aF (λ_=>?_) (λq=>?_)
   ·exact⟨_,Z,bw,eS λq=>cZ q.1⟩
   ·have:decide ((tx []).cps.toList≠[]/\NumText.AllDigits (tx []).cps.toList)=false:=lx λz=>z.1 rfl;rw[this]at q;cases q
  ·generalize hn:r.takeWhile (· !=41)=n;have hnl:n.length<=r.length:=by rw[←hn];exact(yeb _).length_le
   have hnr:n.length<r.length:=by
    rcases ybc n.length r.length with h|h
    ·exact h
    ·have e:n=r:=by rw[←hn]at h ⊢;exact(yeb _).eq_of_length_le h
     rw[←e, ←hn]at No;have:=UE No;simp at this
   have re:r.take n.length=n:=by
    have:=ybP (p:=(· !=41)) (l:=r);rw[hn]at this;rw[←this,List.take_left]
   have es:StrLaws.sliceText (tx l) (some ((a+1:Nat):Int)) (some (if(a:Int)>((a+1+n.length:Nat):Int)then(a:Int)else((a+1+n.length:Nat):Int)))=tx n:=by
    rw[yac (by lia),Xp l (by lia) (by lia),show a+1+n.length-(a+1)=n.length by lia];have:l.drop (a+1)=r:=by rw[←ycW,fS];rfl
    rw[this,re]
   rw[es];have hnt:=Qi n;refine⟨_,Z,tx n,Z,by lia,_,Z,?_⟩;refine aF (λq=>?_) (λq=>?_)
   ·refine⟨_,Z,bw,eS λz=>?_⟩;rw[hn]at z;have:decide ((tx n).cps.toList≠[]/\NumText.AllDigits (tx n).cps.toList)=true:=ly ⟨z.2.1,z.2.2.1⟩;rw[this]at q;cases q
   have BE:n≠[]/\NumText.AllDigits n:=by
    by_cases z:n≠[]/\NumText.AllDigits n
    ·exact z
    ·have:decide ((tx n).cps.toList≠[]/\NumText.AllDigits (tx n).cps.toList)=false:=lx z;rw[this]at q;cases q
   refine⟨_,Z,Z,tx n,"0",Z,Z,trivial,_,Z,?_⟩;rw[Od,vk];refine aF (λq2=>?_) (λq2=>?_)
   ·refine⟨_,Z,bw,eS λz=>?_⟩;rw[hn]at z;exact z.2.2.2 (by simpa using q2)
   have BF:41∈r/\r.takeWhile (· !=41)≠[]/\NumText.AllDigits (r.takeWhile (· !=41))/\(r.takeWhile (· !=41)).head?≠some 48:=by
    rw[hn];exact⟨No,BE.1,BE.2,by simpa using q2⟩
   have eT:1<=n.length:=by cases n with|nil=>exact absurd rfl BE.1|cons=>simp
   refine⟨_,Z,tx n,Z,BE.2,by lia,_,Z,_,_,Z,Z,bw,λp hp=>?_⟩;have et:=zE BF;rw[hn]at et;have:=k (a+1+n.length+1) (by lia) (by lia) (by
    rw[fS,et];show r.drop (n.length+1)=_;have e1:l.drop (a+1)=r:=by rw[←ycW,fS];rfl
    rw[←e1,ycW]
    congr 1) p hp
   rw[fS,et]at this;exact this
def Oe(v:V)(H:Hp):Prop:=v=.aw\/(∃i,v=.int i)\/∃a xs,v=.ref a/\H a=some (.tup xs)
def jA(K:Frag):Sp:=λvs H Q _=>∃(v:V)(rows:List Rw),vs=[v]/\((∃l,v=.str (tx l)/\l.length<=500/\rows=rowsOf l)\/(Oe v H/\rows=[]))/\∀p rs H',Qu H H'->aj K H' p rs rows->Q (.ref p) H'
theorem vq(t:List Nat):(Jh t).2.length<=t.length:=by
 unfold Jh
 split
 ·split
  ·show(List.drop _ _).length<=_;rw[lJ,lD];lia
  ·exact lA _
 ·exact lA _
theorem JN{c:TT}(Good:L2.St->Hp->Prop)(rest:∀σ' H',Good σ' H'->u D σ' H') (h:(∀σ' H',Good σ' H'->u D σ' H')->c σ H λb H1=>if b=true then t {D with nx:=u D} σ H1 else u D σ H1):Wg (Dc c t qf) u D σ H:=h rest
theorem bx.last{rs:List Addr}{rows:List Rw}(h:bx H rs rows):(rs=[]/\rows=[])\/∃T0 r EQ x,rs=T0++[r]/\rows=EQ++[x]/\bx H T0 EQ/\H r=some (yM x):=by
 induction h with
 |nil=>exact .inl ⟨Z,Z⟩
 |@cons r rs x xs a t ih=>
  rcases ih with⟨rfl,rfl⟩|⟨T0,r',EQ,x',rfl,rfl,h1,h2⟩
  ·exact .inr ⟨[],r,[],x,Z,Z,.nil,a⟩
  ·exact .inr ⟨r::T0,r',x::EQ,x',Z,Z,.cons a h1,h2⟩
theorem add_nil(c n:Nat):Q0 [] c n=[]++[(c,n)]:=rfl
theorem add_same(rows:List Rw)(c n m:Nat):Q0 (rows++[(c,m)]) c n=rows++[(c,n+m)]:=by
 unfold Q0;rw[ybp];simp
theorem xY{rows:List Rw}{c c' n m:Nat}(h:c'≠c):Q0 (rows++[(c',m)]) c n=(rows++[(c',m)])++[(c,n)]:=by
 unfold Q0;rw[ybp];simp[h]
theorem zF(F:az K "rows_of" "rows_of" Vp f fd)(O:Own mg)(T:Txt K mg tk c kr)(nO:Def P w K mg M 3 "times_at" ["text","at"] qE):
  af P w K mg M (ak P w) 4 f fd ["thing"] (jA K):=by
 refine okN F Zo (λvs H Q E h=>?_) (λad A L s H vs Q E hr h=>?_)
 ·obtain⟨v,rows,rfl,_⟩:=h;rfl
 ·obtain⟨v,rows,rfl,hv,k⟩:=h;have hz:=zza
  refine⟨_,(Qb (QL (Kn (WG (Qq Jy Z O.aY yaJ (Qa (pv 0) (Qa (xa (v:=V.ty "str") Z O.str yep Z) Qc))))) (Qg (Qr (JG Qc))) Qs)
   (Qb (Z' 1 Zo.nd (JG Qc))
   (Qb (Z' 2 Zo.nd Qj)
   (Qb (WU yaG (Ql KS (pv 2) (Qq QF Z O.len yaK (Qa (pv 0) Qc)) (Qo _)) (Qb (Z' 3 Zo.nd (QN ZO (pv 0) (pv 2) (λ_ _=>rfl)))
   (Qb (Jc (nO.pq hr Qy (Qa (pv 0) (Qa (Qt JA (pv 2) Qj) Qc))) (QY Z (Qh (Y' 4 Zo.nd) (Qh (Y' 2 Zo.nd) QE))))
   (Qb (QL (PW.pt (Je (Q7 (pv 1) (λ_=>rfl)) (Q6 (Ql Q3 (QN Jd (QN Q5 (pv 1) (Kw ZN Qj) (λ_ _=>rfl)) Qj (λ_ _=>rfl)) (pv 3) (Qo _))))) (Qg (Va (i:=4) Zo.nd Z (Or.inl Z) (QN Jd (Ms yaV slot_list_pop type_list_pop Mv (pv 1)) Qj (λ_ _=>rfl)) Yc)) Qs)
   (Qg (XI (JF yaV yaP yaQ Zv (pv 1) (Qa (QG (Qa (pv 3) (Qa (pv 4) Qc))) Qc))))))))
   (Qg (Qr (pv 1))))))),?_⟩
  rcases hv with⟨l,rfl,hl,rfl⟩|⟨hv,rfl⟩
  ·have ce:=Qi l;refine⟨_,Z,.str (tx l),V.ty "str",true,Z,Z,.inl ⟨_,.str _,T.pT⟩,true,Z,?_⟩;refine QQ ⟨Aj,λp hp=>?_⟩;have S1:=Qu.new (o:=.lst []) hp;refine⟨λm σ H2=>∃(a:Nat)(rs:List Addr)(rows:List Rw)(x3 x4:Option V)(kf:Nat),m=l.length-a/\a<=l.length/\σ=[some (.str (tx l)),some (.ref p),some (.int (a:Nat)),x3,x4]/\H2 p=some (.lst (rs.map V.ref))/\bx H2 rs rows/\Qu H H2/\rows.length<=a/\(l.drop a).length<=kf/\rowsOf l=WL kf (l.drop a) rows,⟨l.length,0,[],[],none,none,l.length,Z,lX _,Z,Qe,.nil,S1,lA _,by simp,Z⟩,?_⟩;rintro m σ H2 ⟨a,rs,rows,x3,x4,kf,rfl,Fj,rfl,ii,R2,S2,Ii,DA,Al⟩;refine⟨_,Z,_,Z,tx l,Z,by lia,_,_,Z,Z,_,Z,?_⟩;refine aF (λh1=>?_) (λh1=>?_)
   ·have ha:a<l.length:=by have:=yap h1;lia
    obtain⟨ch,Cl⟩:∃ch,l[a]? =some ch:=⟨_,yah ha⟩;have dh:l.drop a=ch::l.drop (a+1):=by rw[yaM ha];congr 1;rw[yah ha]at Cl;exact lB Cl
    refine⟨_,λ_ _ h=>h,_,Z,_,Z,tx l,(a:Int),ch,Z,Z,by lia,J2 Cl,?_⟩;refine⟨_,Z,_,Z,_,_,Z,Z,l,a+1,Z,hl,by lia,λb BG fT o8 q hq=>⟨q,_,Z,ai.of Qe,Z,_,_,Z,_,_,Z,Z,?_⟩⟩;have S3:=Qu.new (o:=.tup [.int ((Jh (l.drop (a+1))).1:Nat),.int (b:Nat)]) hq;generalize Of:upd H2 q (.tup [.int ((Jh (l.drop (a+1))).1:Nat),.int (b:Nat)])=H3 at S3;have Am:=S3 _ _ ii;have R3:=R2.keep λb xs h=>S3 _ _ h;have TD:=S2.trans S3;clear Of hq S3 ii R2 S2;cases kf with
    |zero=>rw[dh]at DA;exact absurd DA (by simp)
    |succ kf=>
    rw[dh]at Al DA;have o9:rowsOf l=WL kf (Jh (l.drop (a+1))).2 (Q0 rows ch (Jh (l.drop (a+1))).1):=Al;have BH:(Jh (l.drop (a+1))).2.length<=kf:=by
     have:=vq (l.drop (a+1));rw[lD]at DA;lia
    rw[o8]at o9 BH;generalize (Jh (l.drop (a+1))).1=n at o9;dsimp only;refine JN (λσ' H'=>∃(An:List Addr)(cU:List Rw)(nn:Nat),σ'=[some (.str (tx l)),some (.ref p),some (.int (b:Nat)),some (.str (tx [ch])),some (.int (nn:Nat))]/\H' p=some (.lst (An.map V.ref))/\bx H' An cU/\Qu H H'/\Q0 rows ch n=cU++[(ch,nn)]/\cU.length<=rows.length) ?_ (λrest=>?_)
    ·rintro σ' H4 ⟨An,cU,nn,rfl,i',R4,S4,Ij,hle⟩;refine⟨_,Z,.inl ⟨Z,_,.inl (.inl i')⟩,_,Z,_,Z,bw,λq2 Ev=>?_⟩;have S5:=Qu.new (o:=.tup [.str (tx [ch]),.int (nn:Nat)]) Ev;have g5:upd H4 q2 (.tup [.str (tx [ch]),.int (nn:Nat)]) q2=some (yM (ch,nn)):=Qe;generalize upd H4 q2 (.tup [.str (tx [ch]),.int (nn:Nat)])=H5 at S5 g5;have DB:=S5 _ _ i';have nq:q2≠p:=λz=>by rw[z,i']at Ev;cases Ev
     have R5:=R4.keep λb xs h=>S5 _ _ h;have Og:=S4.trans S5;refine⟨p,_,_,Z,Z,DB,by rw[lu,R4.len];lia,l.length-b,by lia,b,An++[q2],Q0 rows ch n,_,_,kf,Z,fT,Z,?_,?_,?_,?_,BH,o9⟩
     ·rw[Qe,lO];rfl
     ·rw[Ij];refine bx.app (R5.keep λb xs h=>?_) ?_
      ·rw[Qx λz=>by rw[z,DB]at h;cases h];exact h
      ·rw[Qx nq];exact g5
     ·intro b o h;rw[Qx (Qz h hp)];exact Og _ _ h
     ·rw[Ij,lq];simp;lia
    ·rcases R3.last with⟨rfl,rfl⟩|⟨T0,r',EQ,⟨c',m'⟩,rfl,rfl,R4,g4⟩
     ·refine⟨_,Z,false,.inl ⟨_,ay.of Am,Z⟩,?_⟩;exact QQ (QQ (rest _ _ ⟨[],[],n,Z,Am,.nil,TD,add_nil ch n,lA _⟩))
     ·have i':H3 p=some (.lst (T0.map V.ref++[V.ref r'])):=by rw[Am,lO];rfl
      have BI:ay K H3 p (T0.map V.ref++[V.ref r']):=ay.of i';refine⟨_,Z,true,.inl ⟨_,BI,by cases T0<;>rfl⟩,?_⟩;refine QX ⟨_,Z,_,Z,p,_,_,_,Z,Z,BI,X8 _ _,r',_,_,_,Z,Z,ai.of g4,Z,_,Z,Z,_,Z,?_⟩;rw[show(⟨#[ch]⟩:Str)=tx [ch]from rfl,Jm];refine aF (λh2=>?_) (λh2=>?_)
      ·have hc:c'=ch:=yap h2;subst hc;refine⟨_,Z,_,Z,.inl ⟨Z,_,BI⟩,p,_,V.ref r',Z,Z,i',by rw[lq];simp,r',[.str (tx [c']),.int (m':Nat)],1,.int (m':Nat),Z,Z,?_,Z,_,_,Z,Z,?_⟩
       ·exact ai.of (by rw[Qx λz=>by rw[z,i']at g4;cases g4];exact g4)
       ·refine rest _ _ ⟨T0,EQ,n+m',Z,by rw[Qe,yer],R4.keep λb xs h=>?_,λb o h=>?_,add_same EQ c' n m',by simp⟩
        ·rw[Qx λz=>by rw[z,i']at h;cases h];exact h
        ·rw[Qx (Qz h hp)];exact TD _ _ h
      ·have hc:c'≠ch:=yav h2;exact rest _ _ ⟨_,_,n,Z,Am,R3,TD,xY hc,lA _⟩
   ·have ha:a=l.length:=by have:=yav h1;lia
    subst ha;rw[ydW]at Al;have SL:rowsOf l=rows:=by
     rw[Al];cases kf<;>rfl
    refine⟨_,Z,k p rs H2 S2 ⟨ay.of ii,by rw[SL];exact R2,by rw[SL];lia⟩⟩
  ·have aY:∃x c b,[v,V.ty "str"]=[x,c]/\EW c=true/\((∃t,bj K H x t/\kitOne K t (oW c)=some b)\/∃a C,x=.ref a/\H a=some (xB a (.ref C))/\bB K C/\kitOne K (.ref C) (oW c)=some b)/\b=false:=by
    rcases hv with rfl|⟨i,rfl⟩|⟨a,xs,rfl,e⟩
    ·exact⟨_,_,false,Z,Z,.inl ⟨_,.aw,T.lj⟩,Z⟩
    ·exact⟨_,_,false,Z,Z,.inl ⟨_,.int _,T.pU⟩,Z⟩
    ·exact⟨_,_,false,Z,Z,.inl ⟨_,.tup e,T.lp⟩,Z⟩
   obtain⟨x,cc,b,e1,e2,e3,rfl⟩:=aY;refine⟨_,Z,x,cc,false,e1,e2,e3,false,Z,?_⟩;refine QX ⟨Aj,λp hp=>?_⟩;exact k p [] _ (Qu.new hp) ⟨ay.of Qe,.nil,by simp⟩
theorem drop_cons{α:Type}{l:List α}{a:Nat}{x:α}(h:l[a]? =some x):l.drop a=x::l.drop (a+1):=by
 have ha:=(yaj.mp h).1;rw[yaM ha]
 congr 1
 rw[yah ha]at h;exact lB h
theorem VA{α:Type}{l:List α}{a:Nat}(h:a<l.length):∃x,l[a]? =some x:=⟨_,yah h⟩
theorem Ik:(",B0/":Str)=tx [44,66,48,47]:=by decide+kernel
theorem vt:("+-$":Str)=tx [43,45,36]:=by decide+kernel
theorem Il:("+-":Str)=tx [43,45]:=by decide+kernel
theorem Oh:("9Z*+-$":Str)=tx [57,90,42,43,45,36]:=by decide+kernel
theorem Fl:("$":Str)=tx [36]:=by decide+kernel
theorem YJ:("9":Str)=tx [57]:=by decide+kernel
theorem vv:(".":Str)=tx [46]:=by decide+kernel
theorem WQ:("":Str)=tx []:=by decide+kernel
def YK(K:Frag):Sp:=λvs H Q _=>∃(p:Addr)(rs:List Addr)(rows:List Rw)(a:Nat),vs=[.ref p,.int (a:Nat)]/\aj K H p rs rows/\a<rows.length/\Q (.bl (JK (rows.drop a))) H
theorem UK(F:az K "floats_at" "floats_at" KF f fd)(O:Own mg)(T:Txt K mg tk c kr):af P w K mg M (ak P w) 1 f fd ["rows","at"] (YK K):=by
 refine okN F Zy (λvs H Q E h=>?_) (λad A L s H vs Q E hr h=>?_)
 ·obtain⟨p,rs,rows,a,rfl,_⟩:=h;rfl
 ·obtain⟨p,rs,rows,a,rfl,R,ha,k⟩:=h;refine⟨_,(Qb (Jc (QN Q5 (pv 0) (pv 1) (λ_ _=>rfl)) (QY Z (Qh (Y' 2 Zy.nd) (Qh (Y' 3 Zy.nd) QE))))
   (Qb (QL (Ql KU (pv 3) Qj (Qo _)) (Qg (Qr WN)) Qs)
   (Qb (Z' 4 Zy.nd (Qt JA (pv 1) Qj))
   (Qb (WU yaG (PW.pt (Je (Ql KS (pv 4) (Qq QR Z O.len yaK (Qa (pv 0) Qc)) (Qo _)) (Q6 (Ql Jf (QN Jd (QN Q5 (pv 0) (pv 4) (λ_ _=>rfl)) Qj (λ_ _=>rfl)) (QD (v:=V.str ",B0/") Z T.gL ⟨_,Z⟩) (by with_unfolding_all rfl))))) (Qg (Va (i:=4) Zy.nd Z (Or.inl Z) Qj Yc)))
   (Qg (Qr (Ug (JR KS (pv 4) (Qq QR Z O.len yaK (Qa (pv 0) Qc)) (Qo _)) (Uf (JR Q3 (QN Jd (QN Q5 (pv 0) (pv 4) (λ_ _=>rfl)) Qj (λ_ _=>rfl)) (pv 2) (Qo _)))))))))),?_⟩
  obtain⟨⟨y,n⟩,hx⟩:=VA ha;rw[drop_cons hx]at k;refine UF rfl (Zj Z) R hx λr di=>⟨r,_,Z,ai.of di,Z,_,_,Z,_,_,Z,Z,?_⟩;refine⟨_,Z,_,_,Z,Z,_,Z,?_⟩;refine aF (λh1=>?_) (λh1=>?_)
  ·have hn:n>1:=by have:=yap h1;lia
   have e:JK ((y,n)::rows.drop (a+1))=true:=by unfold JK;simp[hn]
   rw[e]at k;exact k
  have hn:¬ n>1:=by have:=yav h1;lia
  have e:JK ((y,n)::rows.drop (a+1))=(match(rows.drop (a+1)).dropWhile (λx=>ins x.1)with|(c',_)::_=>c'==y|[]=>false):=by
   show(decide (n>1)||_)=_;rw[lx hn,ydh]
   all_goals rfl
  rw[e]at k;clear e;refine⟨_,Z,_,_,Z,Z,?_⟩;refine⟨λm σ H2=>∃b:Nat,m=rows.length-b/\b<=rows.length/\σ=[some (.ref p),some (.int (a:Nat)),some (.str (tx [y])),some (.int (n:Nat)),some (.int (b:Nat))]/\H2=H/\(rows.drop (a+1)).dropWhile (λx=>ins x.1)=(rows.drop b).dropWhile (λx=>ins x.1),⟨_,a+1,Z,by lia,Z,Z,Z⟩,?_⟩;rintro m σ H2 ⟨b,rfl,hb,rfl,rfl,hd⟩;refine⟨_,Z,ZI rfl R ⟨_,_,Z,Z,_,Z,?_⟩⟩;rcases ybc b rows.length with bn|ck
  ·rw[ly (by lia)];obtain⟨⟨y2,n2⟩,gt⟩:=VA bn;refine QX (XR Z (Zj Z) R gt ⟨_,_,Z,Z,_,Z,?_⟩);rw[Ik,Jw];have hc:([44,66,48,47]:List Nat).contains y2=ins y2:=rfl;rw[hc];rw[drop_cons gt]at hd;refine aF (λh2=>?_) (λh2=>?_)
   ·refine⟨_,λ_ _ h=>h,?_⟩;refine⟨_,Z,_,_,Z,Z,_,?_,b+1,Z,by lia,Z,Z,?_⟩
    ·lia
    ·rw[hd,ybW,yaf h2]
   ·rw[ybW,yac (by rw[h2];decide)]at hd;rw[hd]at k;refine⟨_,Z,ZI rfl R ⟨_,_,Z,Z,_,Z,?_⟩⟩;rw[ly (by lia)];refine QX (XR Z (Zj Z) R gt ⟨_,Z,Z,?_⟩);rw[Jm];have e3:decide (y2=y)=(y2==y):=by by_cases z:y2=y<;>simp[z]
    rw[e3];exact k
  ·rw[lx (by lia)];refine QQ (QQ ?_);rw[yaz ck]at hd;rw[hd]at k;refine⟨_,Z,ZI rfl R ⟨_,_,Z,Z,_,Z,?_⟩⟩;rw[lx (by lia)];exact QQ k
def YL(K:Frag):Sp:=λvs H Q _=>∃(p:Addr)(rs:List Addr)(rows:List Rw)(a pc:Nat),vs=[.ref p,.int (a:Nat),.str (tx [pc])]/\aj K H p rs rows/\a<=rows.length/\
 ∀b many:Nat,b<=rows.length->QW pc (rows.drop a) 0=(many,rows.drop b)->∀q,H q=none->Q (.ref q) (upd H q (.tup [.int (many:Nat),.int (b:Nat)]))
theorem UL(F:az K "places_of" "places_of" KG f fd)(O:Own mg)(T:Txt K mg tk c kr):af P w K mg M (ak P w) 1 f fd ["rows","at","place"] (YL K):=by
 refine okN F Z6 (λvs H Q E h=>?_) (λad A L s H vs Q E hr h=>?_)
 ·obtain⟨p,rs,rows,a,pc,rfl,_⟩:=h;rfl
 ·obtain⟨p,rs,rows,a,pc,rfl,R,ha,k⟩:=h;have hz:=zza
  refine⟨_,(Qb (Z' 3 Z6.nd Qj)
   (Qb (WU yaG (PW.pt (Je (Ql KS (pv 1) (Qq QR Z O.len yaK (Qa (pv 0) Qc)) (Qo _)) (Q6 (PW.pt (Xa (Ql Q3 (QN Jd (QN Q5 (pv 0) (pv 1) (λ_ _=>rfl)) Qj (λ_ _=>rfl)) (pv 2) (Qo _)) (Zf (Ql Jf (QN Jd (QN Q5 (pv 0) (pv 1) (λ_ _=>rfl)) Qj (λ_ _=>rfl)) (QD (v:=V.str ",B0/") Z T.gL ⟨_,Z⟩) (by with_unfolding_all rfl)))))))) (Qb (QL (Ql Q3 (QN Jd (QN Q5 (pv 0) (pv 1) (λ_ _=>rfl)) Qj (λ_ _=>rfl)) (pv 2) (Qo _)) (Qg (Va (i:=3) Z6.nd Z (Or.inl Z) (QN Jd (QN Q5 (pv 0) (pv 1) (λ_ _=>rfl)) Qj (λ_ _=>rfl)) Yc)) Qs)
   (Qg (Va (i:=1) Z6.nd Z (Or.inl Z) Qj Yc))))
   (Qg (Qr (QG (Qa (pv 3) (Qa (pv 1) Qc))))))),?_⟩
  refine⟨λm σ H2=>∃b many:Nat,m=rows.length-b/\b<=rows.length/\σ=[some (.ref p),some (.int (b:Nat)),some (.str (tx [pc])),some (.int (many:Nat))]/\H2=H/\QW pc (rows.drop a) 0=QW pc (rows.drop b) many,⟨_,a,0,Z,ha,Z,Z,Z⟩,?_⟩;rintro m σ H2 ⟨b,many,rfl,hb,rfl,rfl,hd⟩;refine⟨_,Z,ZI rfl R ⟨_,_,Z,Z,_,Z,?_⟩⟩;rcases ybc b rows.length with bn|ck
  ·rw[ly (by lia)];obtain⟨⟨y,n⟩,hx⟩:=VA bn;rw[drop_cons hx]at hd;refine QX (XR Z (Zj Z) R hx ⟨_,Z,Z,_,Z,?_⟩);rw[Jm]
   by_cases h1:y=pc
   ·rw[ly h1];refine QX (QX ⟨_,λ_ _ h=>h,XR rfl (Zj Z) R hx ⟨_,Z,Z,_,Z,?_⟩⟩);rw[Jm,ly h1];refine QX ⟨_,Z,yN rfl (Zj Z) R hx ⟨_,_,Z,Z,?_⟩⟩;refine⟨_,Z,_,_,Z,Z,rows.length-(b+1),by lia,b+1,many+n,Z,by lia,Z,Z,?_⟩;rw[hd];show(if y=pc then QW pc (rows.drop (b+1)) (many+n)else _)=_;rw[yaf h1]
   ·rw[lx h1];refine QQ (XR Z (Zj Z) R hx ⟨_,_,Z,Z,_,Z,?_⟩);rw[Ik,Jw];have hc:([44,66,48,47]:List Nat).contains y=ins y:=rfl;rw[hc];refine aF (λh2=>?_) (λh2=>?_)
    ·refine⟨_,λ_ _ h=>h,XR rfl (Zj Z) R hx ⟨_,Z,Z,_,Z,?_⟩⟩;rw[Jm,lx h1];refine QQ ⟨_,Z,_,_,Z,Z,rows.length-(b+1),by lia,b+1,many,Z,by lia,Z,Z,?_⟩;rw[hd];show(if y=pc then _ else if ins y then QW pc (rows.drop (b+1)) many else _)=_;rw[yac h1,yaf h2]
    ·have hd2:QW pc (rows.drop a) 0=(many,rows.drop b):=by
      rw[hd,drop_cons hx];show(if y=pc then _ else if ins y then _ else(many,(y,n)::rows.drop (b+1)))=_;rw[yac h1,yac (by rw[h2];decide)]
     exact⟨_,Z,_,Z,bw,k b many (by lia) hd2⟩
  ·rw[lx (by lia)];refine QQ (QQ ?_);have fT:rows.drop b=[]:=yaz ck;have hd2:QW pc (rows.drop a) 0=(many,rows.drop b):=by rw[hd,fT];rfl
   exact⟨_,Z,_,Z,bw,k b many (by lia) hd2⟩
def qG(K:Frag):Sp:=λvs H Q _=>∃(p:Addr)(rs:List Addr)(rows:List Rw)(a:Nat),vs=[.ref p,.int (a:Nat)]/\aj K H p rs rows/\a<=rows.length/\
 ∀(pl:List Nat)(many bi b:Nat),b<=rows.length->Ja (rows.drop a)=(pl,many,bi,rows.drop b)->∀q H',Qu H H'->H' q=some (.tup [.str (tx pl),.int (many:Nat),.int (bi:Nat),.int (b:Nat)])->Q (.ref q) H'
theorem YM(F:az K "whole_part" "whole_part" XW f fd)(O:Own mg)(T:Txt K mg tk c kr)(mE:Def P w K mg M 1 "places_of" ["rows","at","place"] (YL K)):af P w K mg M (ak P w) 2 f fd ["rows","at"] (qG K):=by
 refine okN F JZ (λvs H Q E h=>?_) (λad A L s H vs Q E hr h=>?_)
 ·obtain⟨p,rs,rows,a,rfl,_⟩:=h;rfl
 ·obtain⟨p,rs,rows,a,rfl,R,ha,k⟩:=h;have hz:=zza
  refine⟨_,(Qb (QL (PW.pt (Xa (Ql j9 (pv 1) (Qq QR Z O.len yaK (Qa (pv 0) Qc)) (Qo _)) (Zf (Ql Jg (QN Jd (QN Q5 (pv 0) (pv 1) (λ_ _=>rfl)) Qj (λ_ _=>rfl)) (QD (v:=V.str "9Z*+-$") Z T.nu ⟨_,Z⟩) (by with_unfolding_all rfl))))) (Qg (Qr (QG (Qa Qd (Qa Qj (Qa Qj (Qa (pv 1) Qc))))))) Qs)
   (Qb (Z' 2 JZ.nd (QN Jd (QN Q5 (pv 0) (pv 1) (λ_ _=>rfl)) Qj (λ_ _=>rfl)))
   (Qb (Jc (mE.pq hr Qy (Qa (pv 0) (Qa (pv 1) (Qa (pv 2) Qc)))) (QY Z (Qh (Y' 3 JZ.nd) (Qh (Y' 1 JZ.nd) QE))))
   (Qb (Jc (mE.pq hr Qy (Qa (pv 0) (Qa (pv 1) (Qa Qd Qc)))) (QY Z (Qh (Y' 4 JZ.nd) (Qh (Y' 1 JZ.nd) QE))))
   (Qg (Qr (QG (Qa (pv 2) (Qa (pv 3) (Qa (pv 4) (Qa (pv 1) Qc))))))))))),?_⟩
  refine⟨_,Z,ZI rfl R ⟨_,_,Z,Z,_,Z,?_⟩⟩;have none:Ja (rows.drop a)=([],0,0,rows.drop a)->∀q,H q=none->Q (.ref q) (upd H q (.tup [.str "",.int 0,.int 0,.int (a:Nat)])):=λe q hq=>
   k [] 0 0 a ha e q _ (Qu.new hq) (by rw[Qe,WQ];rfl)
  rcases ybc a rows.length with bn|ck
  ·rw[lx (by lia)];obtain⟨⟨y,n⟩,hx⟩:=VA bn;refine QQ (XR Z (Zj Z) R hx ⟨_,_,Z,Z,_,Z,?_⟩);rw[Oh,Jw];refine aF (λh1=>?_) (λh1=>?_)
   ·refine⟨_,Z,eR,none ?_⟩;rw[drop_cons hx];show(if([57,90,42,43,45,36]:List Nat).contains y then _ else _)=_;rw[yac (by rw[ybO]at h1;rw[h1];decide)]
   ·have h2:([57,90,42,43,45,36]:List Nat).contains y=true:=by
     cases e:([57,90,42,43,45,36]:List Nat).contains y with
     |true=>rfl
     |false=>rw[e]at h1;cases h1
    refine XR rfl (Zj Z) R hx ?_;refine⟨_,Z,_,Z,_,Z,p,rs,rows,a,y,Z,R,ha,λb many hb fR q hq=>⟨q,_,Z,ai.of Qe,Z,_,_,Z,_,_,Z,Z,?_⟩⟩;have S1:=Qu.new (o:=.tup [.int (many:Nat),.int (b:Nat)]) hq;generalize upd H q (.tup [.int (many:Nat),.int (b:Nat)])=H1 at S1;refine⟨_,Z,_,Z,p,rs,rows,b,57,by rw[YJ];rfl,R.same S1,hb,λb2 bi fT ii q2 Ev=>⟨q2,_,Z,ai.of Qe,Z,_,_,Z,_,_,Z,Z,?_⟩⟩;have S2:=Qu.new (o:=.tup [.int (bi:Nat),.int (b2:Nat)]) Ev;generalize upd H1 q2 (.tup [.int (bi:Nat),.int (b2:Nat)])=H2 at S2;refine⟨_,Z,_,Z,_,Z,_,Z,eR,λq3 Fm=>?_⟩;refine k [y] many bi b2 fT ?_ q3 _ ((S1.trans S2).trans (Qu.new Fm)) Qe;rw[drop_cons hx]at fR ⊢;show(if([57,90,42,43,45,36]:List Nat).contains y then _ else _)=_;rw[yaf h2,fR];show([y],many,(QW 57 (rows.drop b) 0).1,(QW 57 (rows.drop b) 0).2)=_;rw[ii]
  ·rw[ly (by lia)];refine QX (QX ⟨_,Z,eR,none ?_⟩);rw[yaz ck];rfl
noncomputable def oV:Option Nat->V
 |none=>.aw
 |some n=>.int (n:Nat)
def YN(K:Frag):Sp:=λvs H Q _=>∃(p:Addr)(rs:List Addr)(rows:List Rw)(a:Nat)(pl:List Nat),vs=[.ref p,.int (a:Nat),.str (tx pl)]/\aj K H p rs rows/\a<=rows.length/\
 ∀(o:Option Nat)(b:Nat),b<=rows.length->Jq (rows.drop a) pl=(o,rows.drop b)->∀q,H q=none->Q (.ref q) (upd H q (.tup [oV o,.int (b:Nat)]))
theorem zG(h:y≠46):Jq ((y,n)::r) pl=(some 0,(y,n)::r):=by
 unfold Jq
 split
 ·rename_i e;exact absurd (Prod.mk.inj (ycL e).1).1 h
 ·rfl
theorem V4(F:az K "broken_part" "broken_part" XA f fd)(O:Own mg)(T:Txt K mg tk c kr):af P w K mg M (ak P w) 1 f fd ["rows","at","place"] (YN K):=by
 refine okN F Xi (λvs H Q E h=>?_) (λad A L s H vs Q E hr h=>?_)
 ·obtain⟨p,rs,rows,a,pl,rfl,_⟩:=h;rfl
 ·obtain⟨p,rs,rows,a,pl,rfl,R,ha,k⟩:=h;have hz:=zza
  have eU:2<=sizeLine:=by lia
  refine⟨_,(Qb (QL (PW.pt (Xa (Ql j9 (pv 1) (Qq QR Z O.len yaK (Qa (pv 0) Qc)) (Qo _)) (Zf (Ql ZZ (QN Jd (QN Q5 (pv 0) (pv 1) (λ_ _=>rfl)) Qj (λ_ _=>rfl)) Qd (Qo _))))) (Qg (Qr (QG (Qa Qj (Qa (pv 1) Qc))))) Qs)
   (Qb (QL (PW.pt (Xa (Ql KU (QN Jd (QN Q5 (pv 0) (pv 1) (λ_ _=>rfl)) Qj (λ_ _=>rfl)) Qj (Qo _)) (Zf (Ql Q3 (Qt JA (pv 1) Qj) (Qq QR Z O.len yaK (Qa (pv 0) Qc)) (Qo _))))) (Qg (Qr (QG (Qa Za (Qa (pv 1) Qc))))) Qs)
   (Qb (Jc (QN Q5 (pv 0) (Qt JA (pv 1) Qj) (λ_ _=>rfl)) (QY Z (Qh (Y' 3 Xi.nd) (Qh (Y' 4 Xi.nd) QE))))
   (Qb (QL (PW.pt (Je (Ql ZZ (pv 3) Qd (Qo _)) (Q6 (PW.pt (Xa (Ql ZZ (pv 3) (pv 2) (Qo _)) (Zf (Ql Jf (pv 3) (QD (v:=V.str "+-$") Z T.gG ⟨_,Z⟩) (by with_unfolding_all rfl)))))))) (Qg (Qr (QG (Qa Za (Qa (pv 1) Qc))))) Qs)
   (Qg (Qr (QG (Qa (pv 4) (Qa (Qt JA (pv 1) Qj) Qc))))))))),?_⟩
  refine⟨_,Z,ZI rfl R ⟨_,_,Z,Z,_,Z,?_⟩⟩;rcases ybc a rows.length with bn|ck
  ·rw[lx (by lia)];obtain⟨⟨y,n⟩,hx⟩:=VA bn;refine QQ (XR Z (Zj Z) R hx ⟨Z,_,Z,?_⟩);rw[vv,Jm]
   by_cases h1:y=46
   ·rw[ly h1];subst h1;refine QQ (yN Z (Zj Z) R hx ⟨_,_,Z,Z,_,Z,?_⟩)
    by_cases h2:n>1
    ·rw[ly (by lia)];refine QX (QX ⟨_,Z,eU,k none a ha ?_⟩);rw[drop_cons hx];show(if n>1\/_ then _ else _)=_;rw[yaf (.inl h2)]
    ·rw[lx (by lia)];refine QQ ⟨_,Z,_,_,Z,Z,ZI rfl R ⟨Z,_,Z,?_⟩⟩;rw[Xb]
     by_cases h3:a+1=rows.length
     ·rw[ly (by lia)];refine QX ⟨_,Z,eU,k none a ha ?_⟩;rw[drop_cons hx];show(if n>1\/_ then _ else _)=_;rw[yaf (.inr (yaz (by lia)))]
     ·rw[lx (by lia)];obtain⟨⟨y2,n2⟩,gt⟩:=VA (show a+1<rows.length by lia);refine QQ (UF (k:=a+1) Z (λQ q=>⟨_,Z,_,_,Z,Z,q⟩) R gt λr di=>⟨r,_,Z,ai.of di,Z,_,_,Z,_,_,Z,Z,?_⟩);have eb:Jq (rows.drop a) pl=if y2≠57/\([y2]≠pl\/[43,45,36].contains y2=true)then(none,rows.drop a)else(some n2,rows.drop (a+2)):=by
       rw[drop_cons hx];show(if n>1\/rows.drop (a+1)=[]then _ else _)=_;rw[yac (by rw[drop_cons gt];simp;lia),drop_cons gt]
      refine⟨_,Z,Z,_,Z,?_⟩;rw[YJ,Jm]
      by_cases h4:y2=57
      ·rw[ly h4];refine QQ (QQ ⟨_,Z,_,Z,_,_,Z,Z,eU,k (some n2) (a+2) (by lia) ?_⟩);rw[eb,yac λz=>z.1 h4]
      ·rw[lx h4];refine QX ⟨_,Z,_,Z,Z,_,Z,?_⟩;rw[Xv]
       by_cases h5:[y2]=pl
       ·rw[ly h5];refine QQ ⟨_,Z,_,_,Z,Z,_,Z,?_⟩;rw[vt,Jw];refine aF (λh6=>?_) (λh6=>?_)
        ·refine⟨_,Z,eU,k none a ha ?_⟩;rw[eb,yaf ⟨h4,.inr h6⟩]
        ·refine⟨_,Z,_,Z,_,_,Z,Z,eU,k (some n2) (a+2) (by lia) ?_⟩;rw[eb,yac λz=>z.2.elim (λq=>q h5) (λq=>by rw[h6]at q;cases q)]
       ·rw[lx h5];refine QX (QX ⟨_,Z,eU,k none a ha ?_⟩);rw[eb,yaf ⟨h4,.inl h5⟩]
   ·rw[lx h1];refine QX ⟨_,Z,eU,k (some 0) a ha ?_⟩;rw[drop_cons hx];exact zG h1
  ·rw[ly (by lia)];refine QX (QX ⟨_,Z,eU,k (some 0) a ha ?_⟩);rw[yaz ck];rfl
def jB(K:Frag):Sp:=λvs H Q _=>∃(p:Addr)(rs:List Addr)(rows:List Rw),vs=[.ref p]/\aj K H p rs rows/\
 ∀(ld:List Nat)(b:Nat),b<=rows.length->ld.length<=2->ZQ rows=(ld,rows.drop b)->∀q H',Qu H H'->H' q=some (.tup [.str (tx ld),.int (b:Nat)])->Q (.ref q) H'
theorem zH(F:az K "lead_of" "lead_of" Vq f fd)(O:Own mg)(T:Txt K mg tk c kr)(nv:Def P w K mg M 1 "floats_at" ["rows","at"] (YK K)):af P w K mg M (ak P w) 2 f fd ["rows"] (jB K):=by
 refine okN F ZM (λvs H Q E h=>?_) (λad A L s H vs Q E hr h=>?_)
 ·obtain⟨p,rs,rows,rfl,_⟩:=h;rfl
 ·obtain⟨p,rs,rows,rfl,R,k⟩:=h;have hz:=zza
  have eU:2<=sizeLine:=by lia
  refine⟨_,(Qb (Z' 1 ZM.nd Qd)
   (Qb (Z' 2 ZM.nd Qj)
   (Qb (Z1 yaG Z (ji (QG (Qa (QD (v:=V.str "+-") Z T.nU ⟨_,Z⟩) (Qa Qd Qc)))) (Y' 3 ZM.nd) (Qg (QL (PW.pt (Je (Ql KS (pv 2) (Qq QR Z O.len yaK (Qa (pv 0) Qc)) (Qo _)) (Je (Ql Jf (QN Jd (QN Q5 (pv 0) (pv 2) (λ_ _=>rfl)) Qj (λ_ _=>rfl)) (pv 3) (by with_unfolding_all rfl)) (Q6 (Kn (WG (nv.pq hr Qy (Qa (pv 0) (Qa (pv 2) Qc))))))))) (Qb (Va (i:=1) ZM.nd Z (Or.inl Z) (QN Jd (QN Q5 (pv 0) (pv 2) (λ_ _=>rfl)) Qj (λ_ _=>rfl)) NW)
   (Qg (Va (i:=2) ZM.nd Z (Or.inl Z) Qj Yc))) Qs)))
   (Qg (Qr (QG (Qa (pv 1) (Qa (pv 2) Qc)))))))),?_⟩
  refine⟨eU,λt ht=>⟨t,Z,⟨_,ai.of Qe⟩,?_⟩⟩;have S1:=Qu.new (o:=.tup [.str "+-",.str "$"]) ht;have g1:upd H t (.tup [.str "+-",.str "$"]) t=some (.tup [.str (tx [43,45]),.str (tx [36])]):=by rw[Qe,Il,Fl]
  generalize upd H t (.tup [.str "+-",.str "$"])=H1 at S1 g1;have R1:=R.same S1;refine qg (xs:=[.str (tx [43,45]),.str (tx [36])]) (λi σ H2=>∃(ld:List Nat)(b:Nat)(x:Option V),σ=[some (.ref p),some (.str (tx ld)),some (.int (b:Nat)),x]/\H2=H1/\b<=rows.length/\ld.length<=i/\ZQ rows=Zm (([[43,45],[36]]:List (List Nat)).drop i) (rows.drop b) ld) ⟨[],0,none,by rw[←WQ];rfl,Z,lX _,lA _,Z⟩ (λi σ H2 hi hP=>?_) ?_ ?_
  ·obtain⟨_,_,_,_,rfl,_⟩:=hP;exact ai.of g1
  ·rintro i x σ H2 hi ⟨ld,b,x3,rfl,rfl,hb,SC,Db⟩;have BJ:i<2:=(yaj.mp hi).1;obtain⟨ch,Cl,Oi⟩:∃ch,([[43,45],[36]]:List (List Nat))[i]? =some ch/\x=.str (tx ch):=by
    match i,hi,BJ with
    |0,hi,_=>exact⟨_,Z,(lB hi).symm⟩
    |1,hi,_=>exact⟨_,Z,(lB hi).symm⟩
   subst Oi;rw[drop_cons Cl]at Db;refine⟨_,Z,ZI rfl R1 ⟨_,_,Z,Z,_,Z,?_⟩⟩;rcases ybc b rows.length with bn|ck
   ·rw[ly (by lia)];obtain⟨⟨y,n⟩,hx⟩:=VA bn;have el:Zm (ch::([[43,45],[36]]:List (List Nat)).drop (i+1)) (rows.drop b) ld=if(ch.contains y&& !JK (rows.drop b))=true then Zm (([[43,45],[36]]:List (List Nat)).drop (i+1)) (rows.drop (b+1)) (ld++[y])else Zm (([[43,45],[36]]:List (List Nat)).drop (i+1)) (rows.drop b) ld:=by
     rw[drop_cons hx];rfl
    rw[el]at Db;refine QX (XR Z (Zj Z) R1 hx ⟨_,Z,_,_,Z,Z,_,Z,?_⟩);rw[Jw];refine aF (λh1=>?_) (λh1=>?_)
    ·refine⟨_,Z,_,Z,p,rs,rows,b,Z,R1,bn,_,Z,?_⟩;rw[h1,ydR]at Db;refine aF (λh2=>?_) (λh2=>?_)
     ·refine⟨_,Z,XR rfl (Zj Z) R1 hx ⟨_,_,Z,Z,by rw[Qi,Qi];simp;lia,?_⟩⟩;rw[QM];refine⟨_,Z,_,_,Z,Z,ld++[y],b+1,_,Z,Z,by lia,by rw[lq];simp;lia,?_⟩;rw[Db,yaf h2]
     ·refine⟨ld,b,_,Z,Z,hb,by lia,?_⟩;rw[Db,yac (by rw[h2];decide)]
    ·rw[h1,yct]at Db;exact QQ ⟨ld,b,_,Z,Z,hb,by lia,by rw[Db];rfl⟩
   ·rw[lx (by lia)];refine QQ (QQ ⟨ld,b,_,Z,Z,hb,by lia,?_⟩);rw[Db,yaz ck];rfl
  ·rintro σ H2 ⟨ld,b,x3,rfl,rfl,hb,SC,Db⟩;refine⟨_,Z,_,Z,eU,λq hq=>?_⟩;exact k ld b hb SC Db q _ (S1.trans (Qu.new hq)) Qe
theorem VB{xs:List V}{NB:List Str}{g:TG}{tt:TT}{te:TE}{Q:VK}{H:Hp}(Pv:Nat->List V->Hp->Prop)(h0:Pv 0 [] H)(hl:∀i vs H,i<=xs.length->Pv i vs H->ay K H a xs/\vs.length<=i)
  (hs:∀i x vs H,xs[i]? =some x->Pv i vs H->g x (replicate NB.length none) H λσ2 H2=>tt σ2 H2 λb H3=>if b=true then te σ2 H3 λv H4=>Pv (i+1) (vs++[v]) H4 else Pv (i+1) vs H3)
  (hd:∀vs H,Pv xs.length vs H->∀p,H p=none->Q (.ref p) (upd H p (.lst vs))) (hz:xs.length<sizeLine):
  ∃W:Nat->Nat->List V->Hp->Prop,(∃m,W 0 m [] H)/\∀i m vs H,W i m vs H->
   ((dO K a).stop i H/\∀p,H p=none->Q (.ref p) (upd H p (.lst vs)))\/((dO K a).go i H/\vs.length<sizeLine/\∃N:List V->Hp->Prop,(∀Ch H',N Ch H'->∃m',m'<m/\W (i+1) m' Ch H')/\
    ∀x H',(dO K a).cK i H x H'->g x (replicate NB.length none) H' λσ2 H2=>tt σ2 H2 λb H3=>if b=true then te σ2 H3 λv H4=>N (vs++[v]) H4 else N vs H3):=by
 refine⟨λi m vs H=>m=xs.length-i/\i<=xs.length/\Pv i vs H,⟨xs.length,by simp,lX _,h0⟩,?_⟩;rintro i m vs H ⟨rfl,hi,p⟩;obtain⟨q,hv⟩:=hl i vs H hi p
 by_cases bn:i<xs.length
 ·refine .inr ⟨⟨xs,xs[i],q,by simp[bn]⟩,by lia,Pv (i+1),λCh H' p'=>⟨xs.length-(i+1),by lia,Z,bn,p'⟩,λx H' y=>?_⟩;obtain⟨e,y⟩:=y;subst e;exact hs i x vs _ (y xs q) p
 ·have e:i=xs.length:=by lia
  subst e;exact .inl ⟨⟨xs,q,lA _⟩,hd vs H p⟩
theorem bx.at'{rs:List Addr}{rows:List Rw}(h:bx H rs rows):∀{i:Nat}{r:Addr},rs[i]? =some r->∃x,rows[i]? =some x/\H r=some (yM x):=by
 induction h with
 |nil=>intro i r e;cases e
 |cons a _ ih=>
  intro i r e;cases i with
  |zero=>exact⟨_,Z,by have:_=r:=lB e;rw[←this];exact a⟩
  |succ i=>exact ih (i:=i) (r:=r) e
theorem KO{k:Nat}{pos:Pos}(hK:X.K=K0)(hc:X.calm=true)(h:AN X es t)
  (hn:(assignEach es X.env).length=n:=by rfl) (ge:(assignEach es X.env).findIdx? (·.1)=none:=by rfl):PG X (.Tuple es k pos) (Ad K0 n t):=by
 subst hK;exact QY hc h hn ge
theorem xZ{rs:List Addr}{rows:List Rw}{te:TE}{NB:List Str}{n:Nat}{H:Hp}{Q:VK}(val:Rw->V)(dj:NB.length=3)(hn:n=2)(R:aj K H p rs rows)
  (eV:∀(x:Rw)(Q:VK),Q (val x) H->te [none,some (.str (tx [x.1])),some (.int (x.2:Nat))] H Q) (hd:∀q,H q=none->Q (.ref q) (upd H q (.lst (rows.map val)))):
  ∃W:Nat->Nat->List V->Hp->Prop,(∃m,W 0 m [] H)/\∀i m vs H,W i m vs H->
   ((dO K p).stop i H/\∀p,H p=none->Q (.ref p) (upd H p (.lst vs)))\/((dO K p).go i H/\vs.length<sizeLine/\∃N:List V->Hp->Prop,(∀Ch H',N Ch H'->∃m',m'<m/\W (i+1) m' Ch H')/\
    ∀x H',(dO K p).cK i H x H'->Ad K n (Yt (Jz 1) (Yt (Jz 2) AO)) x (replicate NB.length none) H' λσ2 H2=>ve σ2 H2 λb H3=>if b=true then te σ2 H3 λv H4=>N (vs++[v]) H4 else N vs H3):=by
 have hz:=zza
 have hl:=R.le;have hlen:=R.len;refine VB (xs:=rs.map V.ref) (λi vs H2=>H2=H/\vs=(rows.take i).map val) ⟨Z,Z⟩ ?_ ?_ ?_ (by lia)
 ·rintro i vs H2 hi ⟨rfl,rfl⟩;exact⟨R.sq,by rw[lu,lI];lia⟩
 ·rintro i x vs H2 hx ⟨rfl,rfl⟩;rw[lK]at hx;obtain⟨r,hr,rfl⟩:=yaS.mp hx;obtain⟨y,hy,g⟩:=R.rw.at' hr;subst hn;rw[dj];refine⟨r,_,Z,ai.of g,Z,_,_,Z,_,_,Z,Z,?_⟩;dsimp only[ve];rw[yaf rfl];refine eV y _ ⟨Z,?_⟩;have hi:=(yaj.mp hy).1;rw[yaE,hy,lO];rfl
 ·rintro vs H2 ⟨rfl,rfl⟩ q hq;rw[yaq (by lia)];exact hd q hq
theorem vw{α:Type}(rs:List Addr)(a:Nat):zY (rs.map V.ref) (some (a:Int)) none=(rs.drop a).map V.ref:=by
 unfold zY;rw[HT.Yv,HT.jn];rcases Nat.le_total a (rs.map V.ref).length with h|h
 ·rw[ybb h,yaq (by rw[lJ];exact lA _),yeA]
 ·rw[ydX h,yaz (lA _),yeB,yaz (by rw[lu]at h;exact h)];rfl
theorem Wt{rows:List Rw}(val:Rw->V)(dj:NB.length=3)(hn:n=2)
  (h:∀R:VK,(∀p rs H1,Qu H H1->aj K H1 p rs rows->R (.ref p) H1)->tl σ H R)
  (eV:∀(x:Rw)(H:Hp)(Q:VK),Q (val x) H->te [none,some (.str (tx [x.1])),some (.int (x.2:Nat))] H Q) (hd:∀q H1,Qu H H1->H1 q=none->Q (.ref q) (upd H1 q (.lst (rows.map val)))):
  V0 NB (wK K tl) (Ad K n (Yt (Jz 1) (Yt (Jz 2) AO))) ve te σ H Q:=
 h _ λp rs H1 S1 R1=>⟨p,Z,⟨_,R1.sq⟩,xZ val dj hn R1 (λx Q q=>eV x H1 Q q) λq hq=>hd q H1 S1 hq⟩
theorem Yj{rs:List Addr}{rows:List Rw}(RA:aj K H p rs rows)(h1:σ[i]? =some (some (.ref p)))(h2:σ[j]? =some (some (.int (a:Nat)))):
  ∀R:VK,(∀p2 eW H1,Qu H H1->aj K H1 p2 eW (rows.drop a)->R (.ref p2) H1)->Ex (Ey K) (ZB i) (Ew (ZB j)) qj σ H R:=λR r=>
 ⟨_,h1,_,h2,_,Z,p,_,Z,RA.sq,λp2 ii=>by
  rw[vw (α:=Unit)];have S2:=Qu.new (o:=.lst ((rs.drop a).map V.ref)) ii;exact r p2 (rs.drop a) _ S2 ⟨ay.of Qe,(RA.rw.dr a).keep λb xs h=>S2 _ _ h,by rw[lJ];have:=RA.le;lia⟩⟩
theorem vx{rs:List Addr}{rows:List Rw}(RA:aj K H p rs rows)(h1:σ[i]? =some (some (.ref p))):
  ∀R:VK,(∀p2 eW H1,Qu H H1->aj K H1 p2 eW rows->R (.ref p2) H1)->ZB i σ H R:=λR r=>⟨_,h1,r p rs H (Qu.refl H) RA⟩
theorem Oj(a b:List Nat):bU (.str (tx a)) (.str (tx b))=decide (a=b):=by
 show(tx a==tx b)=_
 by_cases h:a=b
 ·subst h;simp
 ·rw[lx h];exact yaB.mpr λz=>h (UD z)
theorem in_list(ls:List (List Nat))(s:List Nat):dF (.str (tx s)) (ls.map λl=>V.str (tx l))=ls.contains s:=by
 unfold dF
 induction ls with
 |nil=>rfl
 |cons a r ih=>
  rw[lU,ycj,ih,Oj,ycK]
  congr 1
  by_cases h:a=s
  ·subst h;simp
  ·rw[lx h];exact(yaB.mpr λz=>h z.symm).symm
theorem x0:([.str "9",.str "S9",.str "V9",.str "SV9",.str "9V9",.str "S9V9"]:List V)=zy.map λl=>V.str (tx l):=by decide+kernel
theorem YO:([.str "+",.str "-",.str "CR",.str "DB"]:List V)=JV.map λl=>V.str (tx l):=by decide+kernel
theorem K9(ls:List (List Nat)):(ls.map λl=>V.str (tx l)).all XF=true:=by
 induction ls with
 |nil=>rfl
 |cons a r ih=>rw[lU,ydg,ih];rfl
noncomputable def tV:Option (List Nat)->V
 |none=>.aw
 |some l=>.str (tx l)
def jC(K:Frag):Sp:=λvs H Q _=>∃(p:Addr)(rs:List Addr)(rows:List Rw)(a:Nat),vs=[.ref p,.int (a:Nat)]/\aj K H p rs rows/\a<=rows.length/\∀H',Qu H H'->Q (tV (Kp (rows.drop a))) H'
theorem ka(rows:List Rw):(rows.map λx=>V.str (tx [x.1]))=((rows.map (·.1)).map λc=>tx [c]).map V.str:=by rw[lT,lT];rfl
theorem Ol(rows:List Rw):(rows.map λx=>V.int (x.2:Nat))=(rows.map λx=>((x.2:Nat):Int)).map V.int:=by rw[lT];rfl
theorem zI(F:az K "tail_of" "tail_of" Vs f fd)(O:Own mg)(T:Txt K mg tk c kr):af P w K mg M (ak P w) 1 f fd ["rows","at"] (jC K):=by
 refine okN F Yi (λvs H Q E h=>?_) (λad A L s H vs Q E hr h=>?_)
 ·obtain⟨p,rs,rows,a,rfl,_⟩:=h;rfl
 ·obtain⟨p,rs,rows,a,rfl,R,ha,k⟩:=h;have hz:=zza
  have hle:=R.le;refine⟨_,(Qb (QL (Ql Q3 (pv 1) (Qq QR Z O.len yaK (Qa (pv 0) Qc)) (Qo _)) (Qg (Qr Qd)) Qs)
   (Qb (Z' 2 Yi.nd (JF yau ybr ybs Xu Qd (Qa (Zi (NB:=[".0","symbol","many"]) Z ⟨Z,by decide+kernel,by decide+kernel,by decide+kernel⟩ (Kv (QT Yx (pv 0) (QV (pv 1)) Jl)) (λ_ _ _=>(KO (K0:=K) (n:=2) Z Z (Qh (Qk (i:=1) (show([".0","symbol","many"]:List Str).Nodup by decide+kernel) Z (Or.inl Z) (Or.inr Z)) (Qh (Qk (i:=2) (show([".0","symbol","many"]:List Str).Nodup by decide+kernel) Z (Or.inl Z) (Or.inr Z)) QE)))) (λ_ _ _=>Xt) (λ_ _ _=>(pv 1))) Qc)))
   (Qb (QL (PW.pt (Xa (Ql Z3 (pv 2) (QD (v:=V.ref (kr 1)) Z T.nM Z) (by with_unfolding_all rfl)) (Zf (Ql KU (Qq (xO Z) Z O.max boot_max (Qa (Zi (NB:=[".0","symbol","many"]) Z ⟨Z,by decide+kernel,by decide+kernel,by decide+kernel⟩ (Kv (QT Yx (pv 0) (QV (pv 1)) Jl)) (λ_ _ _=>(KO (K0:=K) (n:=2) Z Z (Qh (Qk (i:=1) (show([".0","symbol","many"]:List Str).Nodup by decide+kernel) Z (Or.inl Z) (Or.inr Z)) (Qh (Qk (i:=2) (show([".0","symbol","many"]:List Str).Nodup by decide+kernel) Z (Or.inl Z) (Or.inr Z)) QE)))) (λ_ _ _=>Xt) (λ_ _ _=>(pv 2))) Qc)) Qj (Qo _))))) (Qg (Qr Za)) Qs)
   (Qg (Qr (pv 2)))))),?_⟩
  refine⟨_,Z,ZI rfl R ⟨Z,_,Z,?_⟩⟩;rw[Xb]
  by_cases h1:a=rows.length
  ·rw[ly (by lia)];have e:Kp (rows.drop a)=some []:=by rw[h1,ydW];rfl
   rw[e]at k;have:=k H (Qu.refl H);refine QX ?_;show Q (.str "") H;rw[WQ];exact this
  ·rw[lx (by lia)];have ul:rows.drop a≠[]:=λz=>by
    have:=yaI List.length z;rw[lJ,ybw]at this;lia
   have et:Kp (rows.drop a)=if(!JV.contains ((rows.drop a).map (·.1))||(rows.drop a).any (λx=>decide (x.2>1)))=true then none else some ((rows.drop a).map (·.1)):=by
    unfold Kp;rw[yac ul]
   rw[et]at k;have lm:(rows.drop a).length<=600:=by rw[lJ];lia
   refine QQ ⟨Z,Wt (λx=>.str (tx [x.1])) rfl rfl (Yj R Z Z) (λx H Q q=>⟨_,Z,q⟩) λq H2 S2 hq=>?_⟩;have RR:=R.same S2;have dc:∀{H3:Hp},aj K H3 p rs rows->∀{σ:L2.St}{i j:Nat},σ[i]? =some (some (.ref p))->σ[j]? =some (some (.int (a:Nat)))->∀R:VK,(∀p2 eW H1,Qu H3 H1->aj K H1 p2 eW (rows.drop a)->R (.ref p2) H1)->Ex (Ey K) (ZB i) (Ew (ZB j)) qj σ H3 R:=λ{_} R3{_ _ _} h1 h2=>Yj R3 h1 h2;generalize hD:rows.drop a=D at k ul lm dc;rw[ka];have S3:=S2.trans (Qu.new (o:=.lst (((D.map (·.1)).map λc=>tx [c]).map V.str)) hq);have R3:=RR.same (Qu.new (o:=.lst (((D.map (·.1)).map λc=>tx [c]).map V.str)) hq);refine⟨"",q,_,Z,Z,ay.of Qe,XS (by rw[lu];lia),?_⟩;rw[Zw];generalize upd H2 q (.lst (((D.map (·.1)).map λc=>tx [c]).map V.str))=H3 at S3 R3;refine⟨_,Z,kr 1,_,Z,.inr (T.nN _),Z,by rw[YO];exact K9 _,_,Z,?_⟩;rw[YO,yaf rfl,in_list];refine aF (λh2=>?_) (λh2=>?_)
   ·rw[h2,yeF]at k;exact k _ S3
   ·rw[h2,ydh]at k;dsimp only[KY,ba,oI,Jp];refine Wt (λx=>.int (x.2:Nat)) rfl rfl (dc R3 Z Z) (λx H Q q=>⟨_,Z,q⟩) λq5 H4 S4 BK=>?_;rw[Ol];have S5:=(S3.trans S4).trans (Qu.new (o:=.lst ((D.map λx=>((x.2:Nat):Int)).map V.int)) BK);refine⟨q5,_,Z,ay.of Qe,by simpa using ul,λm hm Om=>?_⟩;generalize upd H4 q5 (.lst ((D.map λx=>((x.2:Nat):Int)).map V.int))=H5 at S5;refine⟨_,_,Z,Z,_,Z,?_⟩;have Fn:decide ((1:Int)<m)=D.any (λx=>decide (x.2>1)):=by
     obtain⟨y,hy,rfl⟩:=ybS.mp hm
     by_cases h3:y.2>1
     ·rw[ly (by lia),ydY.mpr ⟨y,hy,ly h3⟩]
     ·rw[lx (by lia)];refine(ybL.mpr λz Fo=>?_).symm;have:=Om _ (ybS.mpr ⟨z,Fo,Z⟩);rw[ydN];lia
    rw[Fn];refine aF (λh3=>?_) (λh3=>?_)
    ·rw[h3]at k;exact k _ S5
    ·rw[h3]at k;exact⟨_,Z,k _ S5⟩
noncomputable def kindS:Nat->Str
 |0=>"text"
 |1=>"letters"
 |2=>"number"
 |_=>"edited"
noncomputable def fO(x:Facts):HO:=.tup [.str (kindS x.kind),.bl x.signed,.int (x.before:Nat),.int (x.behind:Nat)]
def FV(o:Option Facts)(v:V)(H:Hp):Prop:=match o with
 |none=>v=.aw
 |some x=>∃q,v=.ref q/\H q=some (fO x)
def Zq(K:Frag)(fn:List Rw->Option Facts):Sp:=λvs H Q _=>∃(p:Addr)(rs:List Addr)(rows:List Rw),vs=[.ref p]/\aj K H p rs rows/\∀v H',Qu H H'->FV (fn rows) v H'->Q v H'
theorem vy{rows:List Rw}(h:rows[i]? =some (y,n)):Wo (rows.drop i) s p a b=if y=57 then(if p then Wo (rows.drop (i+1)) s p a n else Wo (rows.drop (i+1)) s p n b)else if n>1 then none else if y=83 then Wo (rows.drop (i+1)) true p a b else Wo (rows.drop (i+1)) s true a b:=by
 rw[drop_cons h];rfl
theorem VC(F:az K "number_facts" "number_facts" Xe f fd)(O:Own mg)(T:Txt K mg tk c kr):af P w K mg M (ak P w) 1 f fd ["rows"] (Zq K Q1):=by
 refine okN F Ji (λvs H Q E h=>?_) (λad A L s H vs Q E hr h=>?_)
 ·obtain⟨p,rs,rows,rfl,_⟩:=h;rfl
 ·obtain⟨p,rs,rows,rfl,R,k⟩:=h;have hz:=zza
  have hle:=R.le;refine⟨_,(Qb (QL (Ql Z3 (JF yau ybr ybs Xu Qd (Qa (Zi (NB:=[".0","symbol","many"]) Z ⟨Z,by decide+kernel,by decide+kernel,by decide+kernel⟩ (Kv (pv 0)) (λ_ _ _=>(KO (K0:=K) (n:=2) Z Z (Qh (Qk (i:=1) (show([".0","symbol","many"]:List Str).Nodup by decide+kernel) Z (Or.inl Z) (Or.inr Z)) (Qh (Qk (i:=2) (show([".0","symbol","many"]:List Str).Nodup by decide+kernel) Z (Or.inl Z) (Or.inr Z)) QE)))) (λ_ _ _=>Xt) (λ_ _ _=>(pv 1))) Qc)) (QD (v:=V.ref (kr 0)) Z T.gH Z) (by with_unfolding_all rfl)) (Qg (Qr Za)) Qs)
   (Qb (Z' 3 Ji.nd WN)
   (Qb (Z' 4 Ji.nd WN)
   (Qb (Z' 5 Ji.nd (JG (Qa Qj (Qa Qj Qc))))
   (Qb (Z1 yaG Z (Kv (pv 0)) (QY Z (Qh (Y' 1 Ji.nd) (Qh (Y' 2 Ji.nd) QE))) (Qg (QL (Ql Q3 (pv 1) Qd (Qo _)) (Qg (Jc (pv 2) (yA (pv 5) (QC (Q7 (pv 4) (λ_=>rfl)) Qj Qj) set_list))) (Qg (QL (Ql KU (pv 2) Qj (Qo _)) (Qg (Qr Za)) (Qg (QL (Ql Q3 (pv 1) Qd (Qo _)) (Qg (Z' 3 Ji.nd WN)) (Qg (Z' 4 Ji.nd WN)))))))))
   (Qb (QL (Ql KU (Qq (jw Z) Z O.sum L2.boot_sum (Qa (pv 5) Qc)) (QD (v:=V.int 18) Z T.gy ⟨_,Z⟩) (Qo _)) (Qg (Qr Za)) Qs)
   (Qg (Qr (QG (Qa Qd (Qa (pv 3) (Qa (QN Q5 (pv 5) Qj (λ_ _=>rfl)) (Qa (QN Q5 (pv 5) Qj (λ_ _=>rfl)) Qc))))))))))))),?_⟩
  have Fp:("S":Str)=tx [83]:=by decide+kernel
  refine⟨Z,Wt (λx=>.str (tx [x.1])) rfl rfl (vx R Z) (λx H Q q=>⟨_,Z,q⟩) λq H2 S2 hq=>?_⟩;rw[ka];have S3:=S2.trans (Qu.new (o:=.lst (((rows.map (·.1)).map λc=>tx [c]).map V.str)) hq);refine⟨"",q,_,Z,Z,ay.of Qe,XS (by rw[lu];lia),?_⟩;rw[Zw];generalize upd H2 q (.lst (((rows.map (·.1)).map λc=>tx [c]).map V.str))=H3 at S3;have R3:=R.same S3;refine⟨kr 0,_,Z,.inr (T.tW _),Z,by rw[x0];exact K9 _,_,Z,?_⟩;rw[x0,yaf rfl,in_list];refine aF (λh2=>?_) (λh2=>?_)
  ·have hn:Q1 rows=none:=by
    unfold Q1;rw[yac (by rw[ybO]at h2;rw[h2];decide)]
   exact k .aw H3 S3 (by rw[hn];rfl)
  have hf:zy.contains (rows.map (·.1))=true:=by
   cases e:zy.contains (rows.map (·.1))with
   |true=>rfl
   |false=>rw[e]at h2;cases h2
  have en:Q1 rows=(match Wo rows false false 0 0 with
    |some (s,a,b)=>if a+b>18 then none else some ⟨2,s,a,b⟩
    |none=>none):=by
   unfold Q1;rw[yaf hf]
   all_goals rfl
  refine⟨bw,λfl ev=>?_⟩;have S4:=Qu.new (o:=.lst [.int 0,.int 0]) ev;refine⟨_,Z,p,Z,⟨_,(R3.same S4).sq⟩,?_⟩;refine wM (xs:=rs.map V.ref) (λi σ H5=>∃(x1 x2:Option V)(sg pt:Bool)(a b:Nat),σ=[some (.ref p),x1,x2,some (.bl sg),some (.bl pt),some (.ref fl)]/\H5 fl=some (.lst [.int (a:Nat),.int (b:Nat)])/\Qu H3 H5/\Wo rows false false 0 0=Wo (rows.drop i) sg pt a b) ⟨none,none,false,false,0,0,Z,Qe,S4,Z⟩ ?_ ?_ ?_
  ·rintro i σ H5 hi ⟨x1,x2,sg,pt,a,b,rfl,g5,S5,hg⟩;exact(R3.same S5).sq
  ·rintro i x σ H5 hx ⟨x1,x2,sg,pt,a,b,rfl,g5,S5,hg⟩;rw[lK]at hx;obtain⟨r,di,rfl⟩:=yaS.mp hx;obtain⟨⟨y,n⟩,hy,g⟩:=(R3.same S5).rw.at' di;rw[vy hy]at hg;refine⟨r,_,Z,ai.of g,Z,_,_,Z,_,_,Z,Z,?_⟩;refine⟨_,Z,Z,_,Z,?_⟩;rw[YJ,Jm];have keep:∀(o:HO),Qu H3 (upd H5 fl o):=λo b u h=>by rw[Qx (Qz h ev)];exact S5 _ _ h
   by_cases h1:y=57
   ·rw[ly h1];rw[yaf h1]at hg;refine QX ⟨_,Z,_,Z,_,Z,pt,Z,?_⟩;refine aF (λh3=>?_) (λh3=>?_)
    ·rw[yaf h3]at hg;refine⟨fl,_,1,1,Z,Z,g5,Z,some (.str (tx [y])),some (.int (n:Nat)),sg,pt,a,n,Z,?_,keep _,hg⟩;rw[Qe];rfl
    ·rw[yac (by rw[h3];decide)]at hg;refine⟨fl,_,0,0,Z,Z,g5,Z,some (.str (tx [y])),some (.int (n:Nat)),sg,pt,n,b,Z,?_,keep _,hg⟩;rw[Qe];rfl
   ·rw[lx h1];rw[yac h1]at hg;refine QQ ⟨_,Z,_,_,Z,Z,_,Z,?_⟩
    by_cases h3:n>1
    ·rw[ly (by lia)];rw[yaf h3]at hg;refine QX (k .aw H5 (S3.trans S5) ?_);rw[en,hg];rfl
    ·rw[lx (by lia)];rw[yac h3]at hg;refine QQ ⟨_,Z,Z,_,Z,?_⟩;rw[Fp,Jm]
     by_cases h4:y=83
     ·rw[ly h4];rw[yaf h4]at hg;exact QX ⟨some (.str (tx [y])),some (.int (n:Nat)),true,pt,a,b,Z,g5,S5,hg⟩
     ·rw[lx h4];rw[yac h4]at hg;exact QQ ⟨some (.str (tx [y])),some (.int (n:Nat)),sg,true,a,b,Z,g5,S5,hg⟩
  ·rintro σ H5 ⟨x1,x2,sg,pt,a,b,rfl,g5,S5,hg⟩;rw[R.len,ydW]at hg;rw[hg]at en;refine⟨_,Z,fl,[(a:Int),(b:Int)],Z,ay.of g5,_,_,Z,Z,_,Z,?_⟩;have es:([(a:Int),(b:Int)]:List Int).sum=((a+b:Nat):Int):=by simp
   rw[es]
   by_cases h1:a+b>18
   ·rw[ly (by lia)];refine QX (k .aw H5 (S3.trans S5) ?_);rw[en];show FV (if a+b>18 then none else _) _ _;rw[yaf h1];rfl
   ·rw[lx (by lia)];refine QQ ⟨_,Z,_,Z,fl,_,_,_,Z,Z,ay.of g5,Z,_,Z,fl,_,_,_,Z,Z,ay.of g5,Z,eR,λq6 Fq=>?_⟩;refine k _ _ ((S3.trans S5).trans (Qu.new Fq)) ?_;rw[en];show FV (if a+b>18 then none else _) _ _;rw[yac h1];exact⟨q6,Z,Qe⟩
theorem UM(y:Nat):Wm UH (Sum.inr (tx [y]):Key)=if y=88 then some (.str "text")else if y=65 then some (.str "letters")else none:=by
 have eX:("X":Str)=tx [88]:=by decide+kernel
 have eA:("A":Str)=tx [65]:=by decide+kernel
 unfold Wm UH;rw[eX,eA]
 by_cases h1:y=88
 ·subst h1;rw[yaf rfl];simp
 ·rw[yac h1];have n1:¬ ((Sum.inr (tx [88]):Key)=Sum.inr (tx [y])):=λz=>h1 (ycL (UD (ydm z))).1.symm
  by_cases h2:y=65
  ·subst h2;rw[yaf rfl];simp
  ·rw[yac h2];have n2:¬ ((Sum.inr (tx [65]):Key)=Sum.inr (tx [y])):=λz=>h2 (ycL (UD (ydm z))).1.symm;simp[n1,n2]
theorem V5(F:az K "plain_facts" "plain_facts" Xz f fd)(O:Own mg)(T:Txt K mg tk c kr)(KD:aA P w K (kr 2) UH):af P w K mg M (ak P w) 1 f fd ["rows"] (Zq K JB):=by
 refine okN F Xf (λvs H Q E h=>?_) (λad A L s H vs Q E hr h=>?_)
 ·obtain⟨p,rs,rows,rfl,_⟩:=h;rfl
 ·obtain⟨p,rs,rows,rfl,R,k⟩:=h;have hz:=zza
  refine⟨_,(Qb (QL (Ql ZZ (Qq QR Z O.len yaK (Qa (pv 0) Qc)) Qj (Qo _)) (Qg (Qr Za)) Qs)
   (Qb (Jc (QN Q5 (pv 0) Qj (λ_ _=>rfl)) (QY Z (Qh (Y' 1 Xf.nd) (Qh (Y' 2 Xf.nd) QE))))
   (Qb (QL (PW.pt (Xa (Z0 (Wn KD (pv 1) (QD (v:=V.ref (kr 2)) Z T.gF Z)) (by with_unfolding_all rfl)) (Zf (Ql KU (pv 2) (QD (v:=V.int 60) Z T.gN ⟨_,Z⟩) (Qo _))))) (Qg (Qr Za)) Qs)
   (Qg (Qr (QG (Qa (K4 KD (QD (v:=V.ref (kr 2)) Z T.gF Z) (pv 1) (λ_ _=>rfl)) (Qa WN (Qa Qj (Qa Qj Qc)))))))))),?_⟩
  refine⟨_,Z,p,_,Z,.inl R.sq,?_⟩;rw[R.len];refine⟨Z,_,Z,?_⟩;rw[xF]
  match rows,R,k with
  |[],R,k=>exact QX (k .aw H (Qu.refl H) Z)
  |_::_::_,R,k=>
   rw[ly (by simp;lia)];exact QX (k .aw H (Qu.refl H) Z)
  |[(y,n)],R,k=>
   refine QQ (UF (k:=0) Z (λQ q=>q) R Z λr di=>⟨r,_,Z,ai.of di,Z,_,_,Z,_,_,Z,Z,?_⟩);refine⟨_,Z,Sum.inr (tx [y]),Z,Z,_,Z,?_⟩;have ep:JB [(y,n)]=if(y≠88/\y≠65)\/n>60 then none else some ⟨if y=88 then 0 else 1,false,0,0⟩:=rfl;rw[UM]
   by_cases h1:y=88\/y=65
   ·have h2:(if y=88 then some (V.str "text")else if y=65 then some (.str "letters")else none)=some (.str (kindS (if y=88 then 0 else 1))):=by
     rcases h1 with rfl|rfl
     ·rfl
     ·rfl
    rw[h2];refine QQ ⟨_,Z,_,_,Z,Z,_,Z,?_⟩
    by_cases h3:n>60
    ·rw[ly (by lia)];refine QX (k .aw H (Qu.refl H) ?_);rw[ep,yaf (.inr h3)];rfl
    ·rw[lx (by lia)];refine QQ ⟨_,Z,Sum.inr (tx [y]),.str (kindS (if y=88 then 0 else 1)),Z,Z,by rw[UM,h2],eR,λq hq=>?_⟩;refine k _ _ (Qu.new hq) ?_;rw[ep,yac (by lia)];exact⟨q,Z,Qe⟩
   ·rw[yac (by lia),yac (by lia)];refine QX (QX (k .aw H (Qu.refl H) ?_));rw[ep,yaf (.inl (by lia))];rfl
end
theorem vz{K:Frag}{xs:List V}{NB:List Str}{g:TG}{tt:TT}{te:TE}{Q:VK}{H:Hp}(Pv:Nat->List V->Hp->Prop)(h0:Pv 0 [] H)(hl:∀i vs H,i<=xs.length->Pv i vs H->ai K H a xs/\vs.length<=i)
  (hs:∀i x vs H,xs[i]? =some x->Pv i vs H->g x (replicate NB.length none) H λσ2 H2=>tt σ2 H2 λb H3=>if b=true then te σ2 H3 λv H4=>Pv (i+1) (vs++[v]) H4 else Pv (i+1) vs H3)
  (hd:∀vs H,Pv xs.length vs H->∀p,H p=none->Q (.ref p) (upd H p (.lst vs))) (hz:xs.length<sizeLine):
  ∃W:Nat->Nat->List V->Hp->Prop,(∃m,W 0 m [] H)/\∀i m vs H,W i m vs H->
   ((dP K a).stop i H/\∀p,H p=none->Q (.ref p) (upd H p (.lst vs)))\/((dP K a).go i H/\vs.length<sizeLine/\∃N:List V->Hp->Prop,(∀Ch H',N Ch H'->∃m',m'<m/\W (i+1) m' Ch H')/\
    ∀x H',(dP K a).cK i H x H'->g x (replicate NB.length none) H' λσ2 H2=>tt σ2 H2 λb H3=>if b=true then te σ2 H3 λv H4=>N (vs++[v]) H4 else N vs H3):=by
 refine⟨λi m vs H=>m=xs.length-i/\i<=xs.length/\Pv i vs H,⟨xs.length,by simp,lX _,h0⟩,?_⟩;rintro i m vs H ⟨rfl,hi,p⟩;obtain⟨q,hv⟩:=hl i vs H hi p
 by_cases bn:i<xs.length
 ·refine .inr ⟨⟨xs,xs[i],q,by simp[bn]⟩,by lia,Pv (i+1),λCh H' p'=>⟨xs.length-(i+1),by lia,Z,bn,p'⟩,λx H' y=>?_⟩;obtain⟨e,y⟩:=y;subst e;exact hs i x vs _ (y xs q) p
 ·have e:i=xs.length:=by lia
  subst e;exact .inl ⟨⟨xs,q,lA _⟩,hd vs H p⟩
section
variable {P:Program}{w:World}{K:Frag}{mg:Str->Option Value}{M:Heap}{f:Addr}{fd:FuncData}{tk:Nat->Tok}{c kr:Nat->Addr}
noncomputable def X0(ld pl:List Nat)(many bi:Nat)(o:Option Nat)(tl:Option (List Nat)):Option Facts:=
 match pl,o,tl with
 |[place],some behind,some tail=>
  let fl:Bool:=[43,45,36].contains place
  if fl&&decide (many<2)then none
  else
   let shown:=[ld.take 1,[place],tail].filter (JV.contains ·)
   if shown.length>1 then none
   else
    let before:=many+bi-(if fl then 1 else 0)
    if before+behind>18 then none else some ⟨3,shown.length==1,before,behind⟩
 |_,_,_=>none
theorem kc{rows:List Rw}{ld pl:List Nat}{b many bi b2 b3:Nat}(h1:ZQ rows=(ld,rows.drop b))(h2:Ja (rows.drop b)=(pl,many,bi,rows.drop b2))(h3:Jq (rows.drop b2) (if bi=0 then pl else[57])=(o,rows.drop b3)):
  Ju rows=X0 ld pl many bi o (Kp (rows.drop b3)):=by
 unfold Ju;simp only[h1,h2,h3];rfl
theorem ke(r:List Rw):(Ja r).1=[]\/∃y,(Ja r).1=[y]:=by
 unfold Ja
 split
 ·split
  ·exact .inr ⟨_,Z⟩
  ·exact .inl rfl
 ·exact .inl rfl
theorem zJ{ls:List (List Nat)}{H:Hp}{Q:VK}(T:Txt K mg tk c kr)(hq:H a=some (.tup (ls.map λl=>V.str (tx l)))) (hl:ls.length<=3)
  (hd:∀q,H q=none->Q (.ref q) (upd H q (.lst ((ls.filter (JV.contains ·)).map λl=>V.str (tx l))))):
  ∃W:Nat->Nat->List V->Hp->Prop,(∃m,W 0 m [] H)/\∀i m vs H,W i m vs H->
   ((dP K a).stop i H/\∀p,H p=none->Q (.ref p) (upd H p (.lst vs)))\/((dP K a).go i H/\vs.length<sizeLine/\∃N:List V->Hp->Prop,(∀Ch H',N Ch H'->∃m',m'<m/\W (i+1) m' Ch H')/\
    ∀x H',(dP K a).cK i H x H'->Jz 1 x (replicate 2 none) H' λσ2 H2=>KY (ba (iS K false) (ZB 1) (tC (.ref (kr 1)))) σ2 H2 λb H3=>if b=true then ZB 1 σ2 H3 λv H4=>N (vs++[v]) H4 else N vs H3):=by
 have hz:=zza
 refine vz (NB:=["a","b"]) (xs:=ls.map λl=>V.str (tx l)) (λi vs H2=>H2=H/\vs=((ls.take i).filter (JV.contains ·)).map λl=>V.str (tx l)) ⟨Z,Z⟩ ?_ ?_ ?_ (by rw[lu];lia)
 ·rintro i vs H2 hi ⟨rfl,rfl⟩;refine⟨ai.of hq,?_⟩;rw[lu];exact yas (yaL _ _) (by rw[lI];lia)
 ·rintro i x vs H2 hx ⟨rfl,rfl⟩;rw[lK]at hx;obtain⟨l,fU,rfl⟩:=yaS.mp hx;refine⟨_,Z,kr 1,_,Z,.inr (T.nN _),Z,by rw[YO];exact K9 _,_,Z,?_⟩;rw[YO,yac (by decide),in_list];have ef:((ls.take (i+1)).filter (JV.contains ·))=((ls.take i).filter (JV.contains ·))++(if JV.contains l then[l]else[]):=by
   rw[yaE,fU,ybj]
   by_cases hm:l∈JV<;>simp[hm]
  refine aF (λh=>?_) (λh=>?_)
  ·refine⟨_,Z,Z,?_⟩;rw[ef,h,lO];rfl
  ·refine⟨Z,?_⟩;rw[ef,h];simp
 ·rintro vs H2 ⟨rfl,rfl⟩ q Ev;rw[lu,List.take_length];exact hd q Ev
theorem qH{ls:List (List Nat)}(T:Txt K mg tk c kr)(dj:NB.length=2)(hl:ls.length<=3)
  (h:∀R:VK,(∀p H1,Qu H H1->H1 p=some (.tup (ls.map λl=>V.str (tx l)))->R (.ref p) H1)->tl σ H R)
  (hd:∀q H1,Qu H H1->H1 q=none->Q (.ref q) (upd H1 q (.lst ((ls.filter (JV.contains ·)).map λl=>V.str (tx l))))):
  V0 NB (Hx K tl) (Jz 1) (KY (ba (iS K false) (ZB 1) (tC (.ref (kr 1))))) (ZB 1) σ H Q:=by
 refine h _ λp H1 S1 g1=>⟨p,Z,⟨_,ai.of g1⟩,?_⟩;rw[dj];exact zJ T g1 hl λq hq=>hd q H1 S1 hq
theorem UN(l:List Nat):StrLaws.sliceText (tx l) none (some 1)=tx (l.take 1):=by
 cases l with
 |nil=>decide+kernel
 |cons a r=>exact Kd (a::r) (k:=1) (by simp)
def jD(K:Frag):Sp:=λvs H Q _=>∃(p:Addr)(rs:List Addr)(rows:List Rw)(a:Nat),vs=[.ref p,.int (a:Nat)]/\aj K H p rs rows/\a<=rows.length/\
 ∀(pl:List Nat)(many bi b2 b3:Nat)(o:Option Nat),b3<=rows.length->Ja (rows.drop a)=(pl,many,bi,rows.drop b2)->Jq (rows.drop b2) (if bi=0 then pl else[57])=(o,rows.drop b3)->∀q H',Qu H H'->H' q=some (.tup [.str (tx pl),.int (many:Nat),.int (bi:Nat),oV o,.int (b3:Nat)])->Q (.ref q) H'
theorem zK(F:az K "body_of" "body_of" Vr f fd)(mW:Def P w K mg M 2 "whole_part" ["rows","at"] (qG K))(mF:Def P w K mg M 1 "broken_part" ["rows","at","place"] (YN K)):
  af P w K mg M (ak P w) 3 f fd ["rows","at"] (jD K):=by
 refine okN F Zp (λvs H Q E h=>?_) (λad A L s H vs Q E hr h=>?_)
 ·obtain⟨p,rs,rows,a,rfl,_⟩:=h;rfl
 ·obtain⟨p,rs,rows,b,rfl,R,hb,k⟩:=h;have hz:=zza
  refine⟨_,(Qb (Jc (mW.pq hr Qy (Qa (pv 0) (Qa (pv 1) Qc))) (QY Z (Qh (Y' 2 Zp.nd) (Qh (Y' 3 Zp.nd) (Qh (Y' 4 Zp.nd) (Qh (Y' 1 Zp.nd) QE))))))
   (Qb (Jc (mF.pq hr Qy (Qa (pv 0) (Qa (pv 1) (Qa (QC (Ql Q3 (pv 4) Qj (Qo _)) (pv 2) Qd) Qc)))) (QY Z (Qh (Y' 5 Zp.nd) (Qh (Y' 1 Zp.nd) QE))))
   (Qg (Qr (QG (Qa (pv 2) (Qa (pv 3) (Qa (pv 4) (Qa (pv 5) (Qa (pv 1) Qc)))))))))),?_⟩
  refine⟨_,Z,_,Z,p,rs,rows,b,Z,R,hb,λpl many bi b2 fT h2 q2 H2 S2 g2=>⟨q2,_,Z,ai.of g2,Z,_,_,Z,_,_,Z,_,_,Z,_,_,Z,Z,?_⟩⟩;refine⟨_,Z,_,Z,_,Z,Z,_,Z,?_⟩;refine Js (λx H'=>x=.str (tx (if bi=0 then pl else[57]))/\H'=H2) (λz rest=>?_) (λz rest=>?_) ?_
  ·rw[Xb]at z;have hn:bi=0:=by have:=yap z;lia
   rw[yaf hn]at rest;exact⟨_,Z,rest _ _ ⟨Z,Z⟩⟩
  ·rw[Xb]at z;have hn:bi≠0:=by have:=yav z;lia
   rw[yac hn]at rest;exact rest _ _ ⟨by rw[YJ],Z⟩
  rintro x H' ⟨rfl,rfl⟩;refine⟨p,rs,rows,b2,_,Z,R.same S2,fT,λo b3 o8 h3 q3 Fm=>⟨q3,_,Z,ai.of Qe,Z,_,_,Z,_,_,Z,Z,?_⟩⟩;have S3:=S2.trans (Qu.new (o:=.tup [oV o,.int (b3:Nat)]) Fm);generalize upd H' q3 (.tup [oV o,.int (b3:Nat)])=H3 at S3;refine⟨_,Z,_,Z,_,Z,_,Z,_,Z,Ig,λq4 Oo=>?_⟩;exact k pl many bi b2 b3 o o8 h2 h3 q4 _ (S3.trans (Qu.new Oo)) Qe
theorem VD(F:az K "edited_facts" "edited_facts" Xg f fd)(O:Own mg)(T:Txt K mg tk c kr)(md:Def P w K mg M 2 "lead_of" ["rows"] (jB K))(me:Def P w K mg M 3 "body_of" ["rows","at"] (jD K))(mf:Def P w K mg M 1 "tail_of" ["rows","at"] (jC K)):
  af P w K mg M (ak P w) 4 f fd ["rows"] (Zq K Ju):=by
 refine okN F QP (λvs H Q E h=>?_) (λad A L s H vs Q E hr h=>?_)
 ·obtain⟨p,rs,rows,rfl,_⟩:=h;rfl
 ·obtain⟨p,rs,rows,rfl,R,k⟩:=h;have hz:=zza
  refine⟨_,(Qb (Jc (md.pq hr Qy (Qa (pv 0) Qc)) (QY Z (Qh (Y' 1 QP.nd) (Qh (Y' 2 QP.nd) QE))))
   (Qb (Jc (me.pq hr Qy (Qa (pv 0) (Qa (pv 2) Qc))) (QY Z (Qh (Y' 3 QP.nd) (Qh (Y' 4 QP.nd) (Qh (Y' 5 QP.nd) (Qh (Y' 6 QP.nd) (Qh (Y' 7 QP.nd) QE)))))))
   (Qb (Z' 8 QP.nd (mf.pq hr Qy (Qa (pv 0) (Qa (pv 7) Qc))))
   (Qb (QL (PW.pt (Xa (Ql Q3 (pv 3) Qd (Qo _)) (Xa (Z0 (Km (pv 6))) (Zf (Z0 (Km (pv 8))))))) (Qg (Qr Za)) Qs)
   (Qb (Z' 9 QP.nd (JR Jf (pv 3) (QD (v:=V.str "+-$") Z T.gG ⟨_,Z⟩) (by with_unfolding_all rfl)))
   (Qb (QL (PW.pt (Je (Q7 (pv 9) (λ_=>rfl)) (Q6 (Ql KS (pv 4) Qj (Qo _))))) (Qg (Qr Za)) Qs)
   (Qb (W3 (NB:=[".0","part"]) (iy:=10) Z ⟨Z,by decide+kernel,by decide+kernel,by decide+kernel⟩ (ji (QG (Qa (QT JT (pv 1) Jl (QV Qj)) (Qa (pv 3) (Qa (pv 8) Qc))))) (λ_ _ _=>(Qk (i:=1) (show([".0","part"]:List Str).Nodup by decide+kernel) Z (Or.inl Z))) (λ_ _ _=>(XO (Ql (zw (K0:=K) Z) (pv 1) (QD (v:=V.ref (kr 1)) Z T.nM Z) (by with_unfolding_all rfl)))) (λ_ _ _=>(pv 1)) QP.nd Z (Or.inl Z) Z)
   (Qb (QL (Ql KU (Qq QR Z O.len yaK (Qa (pv 10) Qc)) Qj (Qo _)) (Qg (Qr Za)) Qs)
   (Qb (Z' 11 QP.nd (Qt Zg (Qt JA (pv 4) (pv 5)) (QC (Q7 (pv 9) (λ_=>rfl)) Qj Qj)))
   (Qb (QL (Ql KU (Qt JA (pv 11) (pv 6)) (QD (v:=V.int 18) Z T.gy ⟨_,Z⟩) (Qo _)) (Qg (Qr Za)) Qs)
   (Qg (Qr (QG (Qa Qd (Qa (JR Q3 (Qq QR Z O.len yaK (Qa (pv 10) Qc)) Qj (Qo _)) (Qa (pv 11) (Qa (pv 6) Qc))))))))))))))))),?_⟩
  refine⟨_,Z,p,rs,rows,Z,R,λld b hb SC h1 q1 H1 S1 g1=>⟨q1,_,Z,ai.of g1,Z,_,_,Z,_,_,Z,Z,?_⟩⟩;refine⟨_,Z,_,Z,p,rs,rows,b,Z,R.same S1,hb,λpl many bi b2 b3 o o8 h2 h3 q2 H3 S2 g2=>⟨q2,_,Z,ai.of g2,Z,_,_,Z,_,_,Z,_,_,Z,_,_,Z,_,_,Z,Z,?_⟩⟩;have S3:=S1.trans S2;clear g1 g2 S1 S2;have ee:=kc h1 h2 h3;have cq:=ke (rows.drop b);rw[h2]at cq;refine⟨_,Z,_,Z,p,rs,rows,b3,Z,R.same S3,o8,λH4 S4=>?_⟩;have j':=S3.trans S4;generalize Kp (rows.drop b3)=tl at ee;rw[ee]at k;clear ee h1 h2 h3 S3 S4;refine⟨_,Z,Z,_,Z,?_⟩;rw[WQ,Xv];rcases cq with hp|⟨place,hp⟩
  ·have ii:pl=[]:=hp;subst ii;rw[ly rfl];exact QX (QX (k .aw H4 j' Z))
  have ii:pl=[place]:=hp;subst ii;rw[lx (by simp)];refine QQ ⟨_,Z,_,Z,?_⟩;cases o with
  |none=>exact QX (QX (k .aw H4 j' Z))
  |some behind=>
  refine QQ ⟨_,Z,_,Z,?_⟩;cases tl with
  |none=>exact QX (k .aw H4 j' Z)
  |some tail=>
  refine QQ ⟨_,Z,_,_,Z,Z,?_⟩;rw[vt,Jw];generalize ev:([43,45,36]:List Nat).contains place=fl;have ek:X0 ld [place] many bi (some behind) (some tail)=if(fl&&decide (many<2))=true then none else if([ld.take 1,[place],tail].filter (JV.contains ·)).length>1 then none else if many+bi-(if fl=true then 1 else 0)+behind>18 then none else some ⟨3,([ld.take 1,[place],tail].filter (JV.contains ·)).length==1,many+bi-(if fl=true then 1 else 0),behind⟩:=by
   rw[←ev];rfl
  rw[ek]at k;clear ek;dsimp only;refine JN (λσ' H'=>σ'=[some (.ref p),some (.str (tx ld)),some (.int (b:Nat)),some (.str (tx [place])),some (.int (many:Nat)),some (.int (bi:Nat)),some (.int (behind:Nat)),some (.int (b3:Nat)),some (.str (tx tail)),some (.bl fl),none,none]/\H'=H4/\¬ (fl&&decide (many<2))=true) ?_ (λrest=>?_)
  ·rintro σ' H' ⟨rfl,rfl,eY⟩;rw[yac eY]at k;have Oq:fl=true->2<=many:=λz=>by
    rcases ybc many 2 with q|q
    ·exact absurd (by rw[z,ly q];rfl) eY
    ·exact q
   dsimp only[Wg,Wi];refine qH (ls:=[ld.take 1,[place],tail]) T rfl (by simp) (λR r=>⟨_,Z,_,Z,tx ld,Z,by rw[Qi];lia,_,Z,_,Z,Ak,λp5 DB=>r p5 _ (Qu.new DB) (by rw[Qe,UN];rfl)⟩) λq5 H5 S5 BK=>?_;have S6:=(j'.trans S5).trans (Qu.new (o:=.lst (([ld.take 1,[place],tail].filter (JV.contains ·)).map λl=>V.str (tx l))) BK);have g6:upd H5 q5 (.lst (([ld.take 1,[place],tail].filter (JV.contains ·)).map λl=>V.str (tx l))) q5=some (.lst (([ld.take 1,[place],tail].filter (JV.contains ·)).map λl=>V.str (tx l))):=Qe;generalize upd H5 q5 (.lst (([ld.take 1,[place],tail].filter (JV.contains ·)).map λl=>V.str (tx l)))=H6 at S6 g6;generalize [ld.take 1,[place],tail].filter (JV.contains ·)=sh at g6 k;refine⟨_,Z,q5,_,Z,.inl (ay.of g6),_,_,Z,Z,_,Z,?_⟩;rw[lu]
   by_cases h7:sh.length>1
   ·rw[ly (by lia)];rw[yaf h7]at k;exact QX (k .aw H6 S6 Z)
   ·rw[lx (by lia)];rw[yac h7]at k;refine QQ ⟨_,Z,_,Z,_,_,Z,Z,_,Z,fl,Z,?_⟩;have Ot:((many:Nat):Int)+(bi:Nat)-(if fl=true then 1 else 0)=((many+bi-(if fl=true then 1 else 0):Nat):Int):=by
     cases fl with
     |true=>have:=Oq rfl;simp;lia
     |false=>simp
    refine Js (λx H'=>x=.int (if fl=true then 1 else 0)/\H'=H6) (λz rest=>rest _ _ ⟨by rw[yaf z],Z⟩) (λz rest=>rest _ _ ⟨by rw[yac (by rw[z];decide)],Z⟩) ?_;rintro x H7 ⟨rfl,rfl⟩;refine⟨_,_,Z,Z,?_⟩;dsimp only[Jz];rw[Ot];generalize many+bi-(if fl=true then 1 else 0)=before at k;refine⟨_,Z,_,Z,_,_,Z,Z,_,_,Z,Z,_,Z,?_⟩
    by_cases h8:before+behind>18
    ·rw[ly (by lia)];rw[yaf h8]at k;exact QX (k .aw H7 S6 Z)
    ·rw[lx (by lia)];rw[yac h8]at k;refine QQ ⟨_,Z,q5,_,Z,.inl (ay.of g6),Z,_,Z,_,Z,eR,λq9 Ou=>?_⟩;refine k _ _ (S6.trans (Qu.new Ou)) ⟨q9,Z,?_⟩;rw[Qe,lu,Xb];have e9:decide ((sh.length:Int)=1)=(sh.length==1):=by
      by_cases z:sh.length=1
      ·rw[z];rfl
      ·rw[lx (by lia)];exact(yaB.mpr z).symm
     rw[e9];rfl
  ·refine⟨_,Z,fl,Z,?_⟩;cases fl with
   |false=>
    exact QQ (QQ (rest _ _ ⟨Z,Z,by simp⟩))
   |true=>
    refine QX ⟨_,Z,_,_,Z,Z,_,Z,?_⟩
    by_cases h6:many<2
    ·rw[ly (by lia)];refine QX (k .aw H4 j' ?_);rw[ly h6];rfl
    ·rw[lx (by lia)];exact QQ (rest _ _ ⟨Z,Z,by rw[lx h6];decide⟩)
theorem FV.BL(h:FV o v H):decide (v=.aw)= !o.isSome:=by
 cases o with
 |none=>rw[show v=.aw from h];rfl
 |some x=>obtain⟨q,h1,h2⟩:=h;rw[h1];rfl
theorem qI(F:az K "facts_of" "facts_of" Ws f fd)(mi:Def P w K mg M 1 "number_facts" ["rows"] (Zq K Q1))(mG:Def P w K mg M 1 "plain_facts" ["rows"] (Zq K JB))(mj:Def P w K mg M 4 "edited_facts" ["rows"] (Zq K Ju)):
  af P w K mg M (ak P w) 5 f fd ["rows"] (Zq K JW):=by
 refine okN F Xy (λvs H Q E h=>?_) (λad A L s H vs Q E hr h=>?_)
 ·obtain⟨p,rs,rows,rfl,_⟩:=h;rfl
 ·obtain⟨p,rs,rows,rfl,R,k⟩:=h;refine⟨_,(Qb (Z' 1 Xy.nd (mi.pq hr Qy (Qa (pv 0) Qc)))
   (Qb (QL (Z0 (Km (pv 1))) (Qg (Z' 1 Xy.nd (mG.pq hr Qy (Qa (pv 0) Qc)))) Qs)
   (Qb (QL (Z0 (Km (pv 1))) (Qg (Z' 1 Xy.nd (mj.pq hr Qy (Qa (pv 0) Qc)))) Qs)
   (Qg (Qr (pv 1)))))),?_⟩
  refine⟨_,Z,p,rs,rows,Z,R,λv1 H1 S1 f1=>?_⟩;refine⟨_,Z,_,Z,?_⟩;rw[f1.BL];cases e1:Q1 rows with
  |some x=>
   rw[e1]at f1;have ef:JW rows=some x:=by unfold JW;rw[e1]
   refine QQ ⟨_,Z,_,Z,?_⟩;rw[f1.BL];refine QQ ⟨_,Z,k v1 H1 S1 ?_⟩;rw[ef];exact f1
  |none=>
   refine QX ⟨_,Z,p,rs,rows,Z,R.same S1,λv2 H2 S2 f2=>?_⟩;refine⟨_,Z,_,Z,?_⟩;rw[f2.BL];cases e2:JB rows with
   |some x=>
    rw[e2]at f2;have ef:JW rows=some x:=by unfold JW;rw[e1,e2]
    refine QQ ⟨_,Z,k v2 H2 (S1.trans S2) ?_⟩;rw[ef];exact f2
   |none=>
    have ef:JW rows=Ju rows:=by unfold JW;rw[e1,e2]
    refine QX ⟨_,Z,p,rs,rows,Z,(R.same S1).same S2,λv3 H3 S3 f3=>⟨_,Z,k v3 H3 ((S1.trans S2).trans S3) ?_⟩⟩;rw[ef];exact f3
def VE(K:Frag)(c:Nat->Addr):Sp:=λvs H Q E=>∃l:List Nat,vs=[.str (tx l)]/\l.length<=500/\(Q2 l=none->∀H',Qu H H'->E (.ref (c 1)) none H')/\
 (∀x,Q2 l=some x->∀q p rs r H',Qu H H'->H' q=some (.tup [.ref p,.ref r])->H' r=some (fO x)->aj K H' p rs (rowsOf l)->Q (.ref q) H')
theorem YQ(F:az K "understood" "understood" Z5 f fd)(T:Txt K mg tk c kr)(mh:Def P w K mg M 4 "rows_of" ["thing"] (jA K))(gP:Def P w K mg M 5 "facts_of" ["rows"] (Zq K JW)):
  af P w K mg M (ak P w) 6 f fd ["picture"] (VE K c):=by
 refine cO F Xw (λvs H Q E h=>?_) (λad A L s H vs Q E hr h=>?_)
 ·obtain⟨l,rfl,_⟩:=h;rfl
 ·obtain⟨l,rfl,hl,k1,k2⟩:=h;have hz:=zza
  have fr:=Zn (P:=P) (w:=w) (K:=K) (mg:=mg) (M:=M) (N:=["picture","rows","facts"]) (qual:="understood") (scope:=Qf Z5) (f:=f) (cd:=ad) (A:=A) (L:=L) (s:=s) (H:=H) (E:=E);have ht:=J5 fr;have hx:=Q4 fr;refine⟨_,(Qb (Z' 1 Xw.nd (mh.pq hr hx (Qa (pv 0) Qc)))
   (Qb (Z' 2 Xw.nd (gP.pq hr hx (Qa (pv 1) Qc)))
   (Qb (QL (Z0 (Km (pv 2))) (Qg (Zs ht Z Z T.ph T.pO (Qa Qd Qc))) Qs)
   (Qg (Qr (QG (Qa (pv 1) (Qa (pv 2) Qc)))))))),?_⟩
  refine⟨_,Z,_,rowsOf l,Z,.inl ⟨l,Z,hl,Z⟩,λp rs H1 S1 R1=>⟨_,Z,p,rs,rowsOf l,Z,R1,λv2 H2 S2 f2=>?_⟩⟩;refine⟨_,Z,_,Z,?_⟩;rw[f2.BL];cases e:JW (rowsOf l)with
  |none=>exact QX ⟨bK,k1 e _ (S1.trans S2)⟩
  |some x=>
   rw[e]at f2;obtain⟨r,rfl,g⟩:=f2;refine QQ ⟨_,Z,_,Z,bw,λq hq=>?_⟩;have S3:=Qu.new (o:=.tup [.ref p,.ref r]) hq;exact k2 x e q p rs r _ ((S1.trans S2).trans S3) Qe (S3 _ _ g) ((R1.same S2).same S3)
end
end Lw
namespace aK
open PySem PySem.NumText aW
theorem Im(t:List Nat):(Jh t).2.length<=t.length:=by
 unfold Jh
 split
 ·split
  ·show(List.drop _ _).length<=_;rw[lJ,lD];lia
  ·exact lA _
 ·exact lA _
theorem Ov(h:t.head?≠some 40):Jh t=(1,t):=by
 unfold Jh
 split
 ·exact absurd rfl h
 ·rfl
theorem Ow:∀(k k':Nat)(l:List Nat)(rows:List Rw),l.length<=k->l.length<=k'->WL k l rows=WL k' l rows:=by
 intro k
 induction k with
 |zero=>
  intro k' l rows h h';cases l with
  |nil=>cases k'<;>rfl
  |cons a r=>simp at h
 |succ k ih=>
  intro k' l rows h h';cases l with
  |nil=>cases k'<;>rfl
  |cons c t=>
   cases k' with
   |zero=>simp at h'
   |succ k'=>
    have:=Im t;rw[lD]at h h';exact ih k' _ _ (by lia) (by lia)
noncomputable def run(l:List Nat)(rows:List Rw):List Rw:=WL l.length l rows
theorem Ox(rows:List Rw):run [] rows=rows:=rfl
theorem jE(c:Nat)(t:List Nat)(rows:List Rw):run (c::t) rows=run (Jh t).2 (Q0 rows c (Jh t).1):=by
 show WL t.length (Jh t).2 (Q0 rows c (Jh t).1)=_;exact Ow _ _ _ _ (Im t) (lA _)
theorem run_plain(rows:List Rw)(h:t.head?≠some 40):run (c::t) rows=run t (Q0 rows c 1):=by
 rw[jE,Ov h]
noncomputable def aq(rows:List Rw)(l:List Nat):List Rw:=l.foldl (λr c=>Q0 r c 1) rows
theorem qJ(rows:List Rw)(a b:List Nat):aq rows (a++b)=aq (aq rows a) b:=List.foldl_append
theorem Oy(hc:c≠40)(h:t.head?≠some 40):∀(m:Nat)(rows:List Rw),run (replicate m c++t) rows=run t (aq rows (replicate m c)):=by
 intro m
 induction m with
 |zero=>intro rows;rfl
 |succ m ih=>
  intro rows;rw[yaC,lQ,run_plain,ih]
  ·rfl
  ·cases m with
   |zero=>exact h
   |succ m=>rw[yaC,lQ,ydt];exact λz=>hc (lB z)
theorem JD(rows:List Rw):rows=[]\/∃r c m,rows=r++[(c,m)]:=by
 rcases List.eq_nil_or_concat rows with h|⟨r,x,h⟩
 ·exact .inl h
 ·exact .inr ⟨r,x.1,x.2,by rw[h,List.concat_eq_append]⟩
theorem WM(c n:Nat):Q0 [] c n=[(c,n)]:=rfl
theorem J4(rows:List Rw)(c n m:Nat):Q0 (rows++[(c,m)]) c n=rows++[(c,n+m)]:=by
 unfold Q0;rw[ybp];simp
theorem JO{rows:List Rw}(h:c'≠c):Q0 (rows++[(c',m)]) c n=(rows++[(c',m)])++[(c,n)]:=by
 unfold Q0;rw[ybp];simp[h]
theorem Oz(rows:List Rw)(c a b:Nat):Q0 (Q0 rows c a) c b=Q0 rows c (b+a):=by
 rcases JD rows with rfl|⟨r,c',m,rfl⟩
 ·rw[WM,WM];exact J4 [] c b a
 ·by_cases h:c'=c
  ·subst h;rw[J4,J4,J4,yez]
  ·rw[JO h,JO h,J4]
theorem qK(c:Nat):∀(m:Nat)(rows:List Rw),aq rows (replicate (m+1) c)=Q0 rows c (m+1):=by
 intro m
 induction m with
 |zero=>intro rows;rfl
 |succ m ih=>
  intro rows;rw[yaC];show aq (Q0 rows c 1) (replicate (m+1) c)=_;rw[ih,Oz]
theorem OA{c:Nat}(h:∀x∈a,p x=true) (hc:p c=false):(a++c::t).takeWhile p=a:=by
 induction a with
 |nil=>simp[hc]
 |cons x r ih=>
  rw[lQ,ybU,h x lH,yaf rfl,ih λy hy=>h y (lG _ hy)]
def Num(d:List Nat)(n:Nat):Prop:=d≠[]/\AllDigits d/\d.head?≠some 48/\digitsVal d=n
theorem OB(h:Num d n)(t:List Nat):Jh (40::(d++41::t))=(n,t):=by
 have e:(d++41::t).takeWhile (· !=41)=d:=OA (λx hx=>by have:=h.2.1 x hx;simp;lia) (by simp);show(if 41∈(d++41::t)/\_/\_/\_ then _ else _)=_;rw[e,yaf ⟨by simp,h.1,h.2.1,h.2.2.1⟩,h.2.2.2]
 congr 1
 rw[←ycW,List.drop_left];rfl
theorem OC(rows:List Rw)(h:Num d n):run (c::40::(d++41::t)) rows=run t (Q0 rows c n):=by
 rw[jE,OB h]
inductive Sh:List Nat->List Nat->Prop
 |nil:Sh [] []
 |out {a b:List Nat} {c:Nat} (m:Nat):Sh a b->c≠40->Sh (a++replicate (m+1) c) (b++replicate (m+1) c)
 |brk {a b d:List Nat} {c:Nat} (m:Nat):Sh a b->c≠40->Num d (m+1)->Sh (a++replicate (m+1) c) (b++(c::40::(d++[41])))
theorem Sh.rows(h:Sh a b):∀(t:List Nat)(rows:List Rw),t.head?≠some 40->run (b++t) rows=run t (aq rows a):=by
 induction h with
 |nil=>intro t rows _;rfl
 |@out a b c m _ hc ih=>
  intro t rows ht;rw[lP,ih _ _ (by rw[yaC,lQ,ydt];exact λz=>hc (lB z)),Oy hc ht,qJ]
 |@brk a b d c m _ hc hd ih=>
  intro t rows ht;have e:(c::40::(d++[41]))++t=c::40::(d++41::t):=by simp
  rw[lP,ih _ _ (by rw[lQ,ydt];exact λz=>hc (lB z)),e,OC _ hd,qJ,qK]
theorem UO(h:Sh a b):rowsOf b=aq [] a:=by
 have:=h.rows [] [] (by simp);rw[lS,Ox]at this;exact this
theorem kg:∀(a:List Nat),40∉a->Sh a a:=by
 have key:∀(l a:List Nat),40∉l->Sh a a->Sh (a++l) (a++l):=by
  intro l
  induction l with
  |nil=>intro a _ h;rw[lS];exact h
  |cons c t ih=>
   intro a hl h;have e:a++c::t=(a++replicate (0+1) c)++t:=by simp
   rw[e];exact ih _ (λz=>hl (lG _ z)) (Sh.out 0 h λz=>hl (by rw[z];exact lH))
 intro a h;exact key a [] h .nil
theorem Ke(h:40∉a):rowsOf a=aq [] a:=UO (kg a h)
theorem Io(rows:List Rw)(c n:Nat):∃r m,Q0 rows c n=r++[(c,m)]:=by
 rcases JD rows with rfl|⟨r,c',m,rfl⟩
 ·exact⟨[],n,Z⟩
 ·by_cases h:c'=c
  ·subst h;exact⟨r,_,J4 r c' n m⟩
  ·exact⟨_,_,JO h⟩
theorem OD(rows r1:List Rw)(c n:Nat)(h:r1≠[]):Q0 (rows++r1) c n=rows++Q0 r1 c n:=by
 rcases JD r1 with rfl|⟨r,c',m,rfl⟩
 ·exact absurd rfl h
 ·rw[←lP]
  by_cases h:c'=c
  ·subst h;rw[J4,J4,lP]
  ·rw[JO h,JO h,lP,lP,lP]
theorem vA(l:List Nat):∀(rows r1:List Rw),r1≠[]->aq (rows++r1) l=rows++aq r1 l:=by
 induction l with
 |nil=>intro rows r1 _;rfl
 |cons c t ih=>
  intro rows r1 h;show aq (Q0 (rows++r1) c 1) t=rows++aq (Q0 r1 c 1) t;rw[OD rows r1 c 1 h,ih];obtain⟨r,m,e⟩:=Io r1 c 1;rw[e];simp
theorem OF{rows:List Rw}(h:∀r x n,rows=r++[(x,n)]->l.head?≠some x):aq rows l=rows++aq [] l:=by
 cases l with
 |nil=>show rows=rows++[];rw[lS]
 |cons c t=>
  have e:Q0 rows c 1=rows++[(c,1)]:=by
   rcases JD rows with rfl|⟨r,c',m,rfl⟩
   ·rfl
   ·exact JO λz=>h r c' m rfl (by rw[z];rfl)
  show aq (Q0 rows c 1) t=rows++aq [(c,1)] t;rw[e,vA t rows [(c,1)] (by simp)]
theorem vB(l:List Nat):∀(rows r:List Rw)(x n:Nat),l≠[]->aq rows l=r++[(x,n)]->l.getLast?=some x:=by
 induction l with
 |nil=>intro rows r x n h;exact absurd rfl h
 |cons c t ih=>
  intro rows r x n _ e;cases t with
  |nil=>
   have e2:Q0 rows c 1=r++[(x,n)]:=e;obtain⟨r',m,e3⟩:=Io rows c 1;rw[e2]at e3;have:=(List.append_inj' e3 Z).2;cases this;rfl
  |cons d t=>exact ih _ r x n (by simp) e
theorem YR(h:∀x,a.getLast?=some x->b.head?≠some x):aq [] (a++b)=aq [] a++aq [] b:=by
 rw[qJ];refine OF λr x n e=>?_;cases a with
 |nil=>cases r<;>cases e
 |cons c t=>exact h x (vB _ _ r x n (by simp) e)
theorem YS(c:Nat)(t:List Nat):∃n r,aq [] (c::t)=(c,n+1)::r:=by
 have key:∀(t:List Nat)(rows r:List Rw)(n:Nat),rows=(c,n+1)::r->∃n r,aq rows t=(c,n+1)::r:=by
  intro t
  induction t with
  |nil=>intro rows r n e;exact⟨n,r,e⟩
  |cons d t ih=>
   intro rows r n e;rcases JD rows with h|⟨r',c',m,h⟩
   ·rw[h]at e;cases e
   ·subst h;cases r' with
    |nil=>
     cases e
     by_cases z:c=d
     ·subst z;exact ih _ [] (1+n) (J4 [] c 1 (n+1))
     ·exact ih _ [(d,1)] n (JO (rows:=[]) z)
    |cons y r'=>
     cases e
     by_cases z:c'=d
     ·subst z;exact ih _ _ n (J4 ((c,n+1)::r') c' 1 m)
     ·exact ih _ _ n (JO (rows:=(c,n+1)::r') z)
 exact key t [(c,1)] [] 0 rfl
noncomputable def cnt(s:Nat)(rows:List Rw):Nat:=(rows.map λx=>if x.1=s then x.2 else 0).sum
theorem qL(s:Nat)(a b:List Rw):cnt s (a++b)=cnt s a+cnt s b:=by
 unfold cnt;rw[lO,List.sum_append]
theorem OG(s:Nat)(rows:List Rw)(c n:Nat):cnt s (Q0 rows c n)=cnt s rows+if c=s then n else 0:=by
 rcases JD rows with rfl|⟨r,c',m,rfl⟩
 ·simp[WM,cnt]
 ·by_cases h:c'=c
  ·subst h;rw[J4,qL,qL];simp only[cnt,lU,ycX,ydS,List.sum_nil]
   split<;>lia
  ·rw[JO h,qL];simp only[cnt,lU,ycX,ydS,List.sum_nil]
   split<;>lia
theorem OH(s:Nat)(l:List Nat):∀rows,cnt s (aq rows l)=cnt s rows+l.count s:=by
 induction l with
 |nil=>intro rows;rfl
 |cons c t ih=>
  intro rows;show cnt s (aq (Q0 rows c 1) t)=_;rw[ih,OG,yej]
  by_cases h:c=s
  ·subst h;simp;lia
  ·have:(c==s)=false:=by simpa using h
   rw[yac h,this];simp
theorem OI{rows:List Rw}(h:x∈Q0 rows c n):x.1=c\/x∈rows:=by
 rcases JD rows with rfl|⟨r,c',m,rfl⟩
 ·exact .inl (by rw[WM]at h;rw[yak.mp h])
 ·by_cases z:c'=c
  ·subst z;rw[J4]at h;rcases yao.mp h with h|h
   ·exact .inr (lF _ h)
   ·exact .inl (by rw[yak.mp h])
  ·rw[JO z]at h;rcases yao.mp h with h|h
   ·exact .inr h
   ·exact .inl (by rw[yak.mp h])
theorem kh(l:List Nat):∀rows,x∈aq rows l->x.1∈l\/x∈rows:=by
 induction l with
 |nil=>intro rows h;exact .inr h
 |cons c t ih=>
  intro rows h;rcases ih _ h with h|h
  ·exact .inl (lG _ h)
  ·rcases OI h with h|h
   ·exact .inl (by rw[h];exact lH)
   ·exact .inr h
theorem Yk{place:Nat}(hR:∀x,R.head?=some x->x.1≠place/\ins x.1=false):∀(W:List Rw)(m:Nat),(∀x∈W,x.1=place\/ins x.1=true)->QW place (W++R) m=(m+cnt place W,R):=by
 intro W
 induction W with
 |nil=>
  intro m _;show QW place R m=_;cases R with
  |nil=>rfl
  |cons x r=>
   obtain⟨c,n⟩:=x;have:=hR (c,n) rfl;show(if c=place then _ else if ins c=true then _ else _)=_;rw[yac this.1,yac (by rw[this.2];decide)];rfl
 |cons x r ih=>
  intro m h;obtain⟨c,n⟩:=x;have e:cnt place ((c,n)::r)=(if c=place then n else 0)+cnt place r:=by simp[cnt]
  show(if c=place then QW place (r++R) (m+n)else if ins c=true then QW place (r++R) m else(m,(c,n)::(r++R)))=_;rw[e]
  by_cases z:c=place
  ·rw[yaf z,yaf z,ih _ λy hy=>h y (lG _ hy),yez]
  ·rw[yac z,yac z,yaf ((h _ lH).resolve_left z),ih _ λy hy=>h y (lG _ hy),ybd]
structure bH(s most:Nat)(l:List Nat):Prop where
 hd:l.head?=some s
 all:∀x∈l,x=s\/ins x=true
 cn:l.count s<=most
theorem bH.rows{s most:Nat}(h:bH s most l):∃n r,aq [] l=(s,n+1)::r/\(∀x∈aq [] l,x.1=s\/ins x.1=true)/\cnt s (aq [] l)=l.count s:=by
 cases l with
 |nil=>cases h.hd
 |cons c t=>
  have e:c=s:=lB h.hd;subst e;obtain⟨n,r,e⟩:=YS c t;refine⟨n,r,e,λx hx=>?_,by rw[OH];exact ybd _⟩;rcases kh _ _ hx with z|z
  ·exact h.all _ z
  ·cases z
theorem bH.last{s most:Nat}(h:bH s most l)(e:l.getLast?=some x):x=s\/ins x=true:=h.all x (ydc e)
theorem OJ(l:List Nat):∀rows:List Rw,(x∈l\/∃y∈rows,y.1=x)->∃y∈aq rows l,y.1=x:=by
 have keep:∀(rows:List Rw)(c:Nat),(x=c\/∃y∈rows,y.1=x)->∃y∈Q0 rows c 1,y.1=x:=by
  intro rows c h;rcases JD rows with rfl|⟨r,c',m,rfl⟩
  ·rcases h with h|⟨y,hy,_⟩
   ·exact⟨(c,1),yak.mpr rfl,h.symm⟩
   ·cases hy
  ·by_cases z:c'=c
   ·subst z;rw[J4];rcases h with h|⟨y,hy,e⟩
    ·exact⟨_,lE _ (yak.mpr Z),h.symm⟩
    ·rcases yao.mp hy with hy|hy
     ·exact⟨y,lF _ hy,e⟩
     ·rw[yak.mp hy]at e;exact⟨_,lE _ (yak.mpr Z),e⟩
   ·rw[JO z];rcases h with h|⟨y,hy,e⟩
    ·exact⟨_,lE _ (yak.mpr Z),h.symm⟩
    ·exact⟨y,lF _ hy,e⟩
 induction l with
 |nil=>intro rows h;exact h.resolve_left (by simp)
 |cons c t ih=>
  intro rows h;refine ih _ ?_;rcases h with h|h
  ·rcases yag.mp h with h|h
   ·exact .inr (keep rows c (.inl h))
   ·exact .inl h
  ·exact .inr (keep rows c (.inr h))
structure Ed(Y:List Nat)(first:Nat)(W N ac tail:List Nat):Prop where
 w:bH first 5 W
 n:N=[]\/(first≠57/\bH 57 3 N)
 f:first∈([57,90,42,43,45,36]:List Nat)
 fl:first∈([43,45,36]:List Nat)->2<=W.count first
 br:ac=[]\/∃k b,k<3/\ac=replicate (k+1) b/\(b=57\/(b=first/\(first=90\/first=42)/\N=[]))
 ld:Y∈([[],[43],[45],[36],[43,36],[45,36]]:List (List Nat))
 l1:first=43\/first=45->Y=[]\/Y=[36]
 l2:first=36->Y=[]\/Y=[43]\/Y=[45]
 tl:tail∈([[],[43],[45],[67,82],[68,66]]:List (List Nat))
 ts:tail≠[]->(first≠43/\first≠45)/\(Y=[]\/Y=[36])
 nn:¬ (first=57/\(∀x∈W,x=57)/\Y=[]/\ac=[]/\tail=[])
noncomputable def Qm(ac:List Nat):List Nat:=if ac=[]then[]else 46::ac
noncomputable def QO(Y W N ac tail:List Nat):List Nat:=Y++(W++(N++(Qm ac++tail)))
noncomputable def sgn(Y:List Nat)(first:Nat)(tail:List Nat):Bool:=(Y.head?==some 43||Y.head?==some 45)||(first==43||first==45)|| !tail.isEmpty
theorem vC:∀first∈([57,90,42,43,45,36]:List Nat),∀Y∈([[],[43],[45],[36],[43,36],[45,36]]:List (List Nat)),∀tail∈([[],[43],[45],[67,82],[68,66]]:List (List Nat)),
  (first=43\/first=45->Y=[]\/Y=[36])->(tail≠[]->(first≠43/\first≠45)/\(Y=[]\/Y=[36]))->
   ([Y.take 1,[first],tail].filter (JV.contains ·)).length<=1/\(([Y.take 1,[first],tail].filter (JV.contains ·)).length==1)=sgn Y first tail:=by decide
theorem kj:∀first∈([57,90,42,43,45,36]:List Nat),ins first=false/\first≠46/\first≠40/\first≠88/\first≠65:=by decide
section
variable {ac tail:List Nat}{first:Nat}
theorem vD(hs:ins s=false)(R:List Rw):∀r:List Rw,(∀x∈r,x.1=s\/ins x.1=true)->1<=cnt s r->∃m r',(r++R).dropWhile (λx=>ins x.1)=(s,m)::r':=by
 intro r
 induction r with
 |nil=>intro _ h;exact absurd h (by simp[cnt])
 |cons x r ih=>
  intro h1 h2;obtain⟨c,n⟩:=x
  by_cases z:c=s
  ·subst z;exact⟨n,r++R,by rw[lQ,ybW,yac (by show ¬ ins c=true;rw[hs];decide)]⟩
  ·have hi:ins c=true:=(h1 _ lH).resolve_left z;have hc:cnt s ((c,n)::r)=cnt s r:=by simp[cnt,z]
   rw[hc]at h2;obtain⟨m,r',e⟩:=ih (λy hy=>h1 y (lG _ hy)) h2;exact⟨m,r',by rw[lQ,ybW,yaf (show ins c=true from hi),e]⟩
theorem kl{s n:Nat}{r:List Rw}(hs:ins s=false)(R:List Rw)(h1:∀x∈(s,n+1)::r,x.1=s\/ins x.1=true) (h2:2<=cnt s ((s,n+1)::r)):JK ((s,n+1)::(r++R))=true:=by
 show(decide (n+1>1)||_)=true;cases n with
 |succ n=>rw[ly (by lia)];rfl
 |zero=>
  have hc:cnt s ((s,0+1)::r)=1+cnt s r:=by simp[cnt]
  rw[hc]at h2;obtain⟨m,r',e⟩:=vD hs R r (λy hy=>h1 y (lG _ hy)) (by lia);rw[e];simp
theorem Yl(hs:ins s=false)(r:List Rw)(h:s≠c):JK ((c,1)::(s,m)::r)=false:=by
 show(decide (1>1)||_)=false;rw[ybW,yac (show ¬ ins s=true by rw[hs];decide)];simp[h]
theorem OK(h:b≠46):aq [] (46::replicate (k+1) b)=[(46,1),(b,k+1)]:=by
 show aq [(46,1)] (replicate (k+1) b)=_;rw[qK];exact JO (rows:=[]) (Ne.symm h)
theorem X1:∀tail∈([[],[43],[45],[67,82],[68,66]]:List (List Nat)),Kp (aq [] tail)=some tail/\(∀x,(aq [] tail).head?=some x->x.1∈([43,45,67,68]:List Nat))/\(aq [] tail=[]->tail=[])/\(∀x,tail.head?=some x->x∈([43,45,67,68]:List Nat)):=by
 intro tail h;simp only[yag,yay,ybk]at h;rcases h with rfl|rfl|rfl|rfl|rfl
 ·exact⟨by decide,(by intro x hx;cases hx),by decide,(by intro x hx;cases hx)⟩
 all_goals exact⟨by decide,(by intro x hx;cases hx;decide),by decide,(by intro x hx;cases hx;decide)⟩
theorem km:∀Y∈([[],[43],[45],[36],[43,36],[45,36]]:List (List Nat)),aq [] Y=Y.map λc=>(c,1):=by decide
theorem Ed.behind(E:Ed Y first W N ac tail):∀x,(Qm ac++tail).head?=some x->x≠57/\ins x=false/\x≠first/\x∈([46,43,45,67,68]:List Nat):=by
 intro x hx;have hf:=kj first E.f;unfold Qm at hx
 by_cases hb:ac=[]
 ·rw[yaf hb,lR]at hx;have ht:=(X1 tail E.tl).2.2.2 x hx;have hn:tail≠[]:=λz=>by rw[z]at hx;cases hx
  have hs:=E.ts hn;have Ip:first≠67/\first≠68:=by
   have:∀f∈([57,90,42,43,45,36]:List Nat),f≠67/\f≠68:=by decide
   exact this first E.f
  simp only[yag,yay,ybk]at ht;rcases ht with rfl|rfl|rfl|rfl
  ·exact⟨by decide,by decide,Ne.symm hs.1.1,by decide⟩
  ·exact⟨by decide,by decide,Ne.symm hs.1.2,by decide⟩
  ·exact⟨by decide,by decide,Ne.symm Ip.1,by decide⟩
  ·exact⟨by decide,by decide,Ne.symm Ip.2,by decide⟩
 ·rw[yac hb]at hx;cases hx;exact⟨by decide,by decide,Ne.symm hf.2.1,by decide⟩
theorem Ed.ko(E:Ed Y first W N ac tail):∀x,(N++(Qm ac++tail)).head?=some x->x≠first/\ins x=false:=by
 intro x hx;rcases E.n with rfl|⟨h1,h2⟩
 ·rw[lR]at hx;exact⟨(E.behind x hx).2.2.1,(E.behind x hx).2.1⟩
 ·rw[ycn,h2.hd]at hx;cases hx;exact⟨Ne.symm h1,by decide⟩
theorem Ed.zL(E:Ed Y first W N ac tail)(R:List Nat):(W++R).head?=some first:=by rw[ycn,E.w.hd];rfl
theorem Ed.rows(E:Ed Y first W N ac tail):aq [] (QO Y W N ac tail)=(Y.map λc=>(c,1))++(aq [] W++(aq [] N++(aq [] (Qm ac)++aq [] tail))):=by
 have hf:=kj first E.f;unfold QO;rw[YR,km Y E.ld,YR,YR,YR]
 ·intro x hx gt;unfold Qm at hx;have ht:=(X1 tail E.tl).2.2.2 x gt;rcases E.br with rfl|⟨k,b,hk,rfl,hb⟩
  ·cases hx
  ·rw[yac (by simp)]at hx;have OM:x=b:=by
    rw[List.getLast?_cons,List.getLast?_replicate]at hx;simp at hx;exact hx.symm
   subst OM;have:x=57\/x=90\/x=42:=by
    rcases hb with h|⟨h,h2|h2,_⟩
    ·exact .inl h
    ·exact .inr (.inl (h.trans h2))
    ·exact .inr (.inr (h.trans h2))
   rcases this with rfl|rfl|rfl<;>exact absurd ht (by decide)
 ·intro x hx gt;have hb:=E.behind x gt;rcases E.n with rfl|⟨h1,h2⟩
  ·cases hx
  ·rcases h2.last hx with z|z
   ·exact hb.1 z
   ·rw[hb.2.1]at z;cases z
 ·intro x hx gt;have hb:=E.ko x gt;rcases E.w.last hx with z|z
  ·exact hb.1 z
  ·rw[hb.2]at z;cases z
 ·intro x hx gt;rw[E.zL]at gt;cases gt;have hl:=E.ld;simp only[yag,yay,ybk]at hl;have a1:Y=[43]\/Y=[45]\/Y=[36]\/Y=[43,36]\/Y=[45,36]\/Y=[]:=by rcases hl with h|h|h|h|h|h<;>simp[h]
  rcases a1 with rfl|rfl|rfl|rfl|rfl|rfl
  ·cases hx;exact absurd (E.l1 (.inl Z)) (by decide)
  ·cases hx;exact absurd (E.l1 (.inr Z)) (by decide)
  ·cases hx;exact absurd (E.l2 Z) (by decide)
  ·cases hx;exact absurd (E.l2 Z) (by decide)
  ·cases hx;exact absurd (E.l2 Z) (by decide)
  ·cases hx
theorem Ed.Iq(E:Ed Y first W N ac tail)(R:List Rw):ZQ ((Y.map λc=>(c,1))++(aq [] W++R))=(Y,aq [] W++R):=by
 have hf:=kj first E.f;obtain⟨n,r,e,ol,Fs⟩:=E.w.rows;have ev:first∈([43,45,36]:List Nat)->JK ((first,n+1)::(r++R))=true:=λh=>by
  have h2:=E.fl h;rw[←Fs,e]at h2;rw[e]at ol;exact kl hf.1 R ol h2
 rw[e,lQ];have g2:∀ld:List Nat,(first=36->JK ((first,n+1)::(r++R))=true)->Zm [[36]] ((first,n+1)::(r++R)) ld=(ld,(first,n+1)::(r++R)):=λld h=>by
  show(if(([36]:List Nat).contains first&& !JK ((first,n+1)::(r++R)))=true then _ else _)=_
  by_cases z:first=36
  ·rw[h z];simp;rfl
  ·have:([36]:List Nat).contains first=false:=by simpa using z
   rw[this];rfl
 have g1:∀ld:List Nat,Zm [[43,45],[36]] ((first,n+1)::(r++R)) ld=(ld,(first,n+1)::(r++R)):=λld=>by
  show(if(([43,45]:List Nat).contains first&& !JK ((first,n+1)::(r++R)))=true then _ else _)=_;rw[yac]
  ·exact g2 ld λz=>ev (by rw[z];decide)
  ·by_cases z:first=43\/first=45
   ·rw[ev (by rcases z with z|z<;>rw[z]<;>decide)];simp
   ·have:([43,45]:List Nat).contains first=false:=by simpa using z
    rw[this,yct]
    decide
 have hl:=E.ld;simp only[yag,yay,ybk]at hl;have Ir:first=36->JK ((first,n+1)::(r++R))=true:=λz=>ev (by rw[z];decide);have eZ:∀(ld:List Nat),first≠36->Zm [[36]] ((36,1)::(first,n+1)::(r++R)) ld=(ld++[36],(first,n+1)::(r++R)):=λld h=>by
  show(if(([36]:List Nat).contains 36&& !JK ((36,1)::(first,n+1)::(r++R)))=true then _ else _)=_;rw[Yl hf.1 _ h];rfl
 have cV:∀(c:Nat)(s m:Nat)(r':List Rw),(c=43\/c=45)->ins s=false->s≠c->Zm [[43,45],[36]] ((c,1)::(s,m)::r') []=Zm [[36]] ((s,m)::r') [c]:=λc s m r' hc hs h=>by
  show(if(([43,45]:List Nat).contains c&& !JK ((c,1)::(s,m)::r'))=true then _ else _)=_;rw[Yl hs _ h];rcases hc with rfl|rfl<;>rfl
 rcases hl with rfl|rfl|rfl|rfl|rfl|rfl
 ·exact g1 []
 ·show Zm [[43,45],[36]] ((43,1)::(first,n+1)::(r++R)) []=_;rw[cV 43 _ _ _ (.inl Z) hf.1 (λz=>absurd (E.l1 (.inl z)) (by decide))];exact g2 _ Ir
 ·show Zm [[43,45],[36]] ((45,1)::(first,n+1)::(r++R)) []=_;rw[cV 45 _ _ _ (.inr Z) hf.1 (λz=>absurd (E.l1 (.inr z)) (by decide))];exact g2 _ Ir
 ·show Zm [[36]] ((36,1)::(first,n+1)::(r++R)) []=_;exact eZ [] λz=>absurd (E.l2 z) (by decide)
 ·show Zm [[43,45],[36]] ((43,1)::(36,1)::(first,n+1)::(r++R)) []=_;rw[cV 43 _ _ _ (.inl Z) (by decide) (by decide)];exact eZ [43] λz=>absurd (E.l2 z) (by decide)
 ·show Zm [[43,45],[36]] ((45,1)::(36,1)::(first,n+1)::(r++R)) []=_;rw[cV 45 _ _ _ (.inr Z) (by decide) (by decide)];exact eZ [45] λz=>absurd (E.l2 z) (by decide)
theorem vE(h:(aq [] l).head?=some x):l.head?=some x.1:=by
 cases l with
 |nil=>cases h
 |cons c t=>
  obtain⟨n,r,e⟩:=YS c t;rw[e]at h;cases h;rfl
theorem UP(h:(aq [] a++aq [] b).head?=some x):(a++b).head?=some x.1:=by
 cases a with
 |nil=>exact vE h
 |cons c t=>
  obtain⟨n,r,e⟩:=YS c t;rw[e]at h;cases h;rfl
theorem Ed.whole(E:Ed Y first W N ac tail):Ja (aq [] W++(aq [] N++(aq [] (Qm ac)++aq [] tail)))=([first],W.count first,N.count 57,aq [] (Qm ac)++aq [] tail):=by
 have hf:=kj first E.f;obtain⟨n,r,e,ol,Fs⟩:=E.w.rows;have h1:QW first (aq [] W++(aq [] N++(aq [] (Qm ac)++aq [] tail))) 0=(W.count first,aq [] N++(aq [] (Qm ac)++aq [] tail)):=by
  rw[Yk _ _ _ ol,Fs,ybd];intro x hx;refine E.ko x.1 ?_;rcases E.n with rfl|⟨_,h2⟩
  ·rw[lR];exact UP (a:=Qm ac) (b:=tail) hx
  ·obtain⟨n',r',e',_⟩:=h2.rows;rw[e']at hx;cases hx;rw[ycn,h2.hd];rfl
 have h2:QW 57 (aq [] N++(aq [] (Qm ac)++aq [] tail)) 0=(N.count 57,aq [] (Qm ac)++aq [] tail):=by
  have hN:(∀x∈aq [] N,x.1=57\/ins x.1=true)/\cnt 57 (aq [] N)=N.count 57:=by
   rcases E.n with rfl|⟨_,h2⟩
   ·exact⟨(λx hx=>nomatch hx),Z⟩
   ·obtain⟨n',r',e',ha,hc⟩:=h2.rows;exact⟨ha,hc⟩
  rw[Yk _ _ _ hN.1,hN.2,ybd];intro x hx;have:=E.behind x.1 (UP hx);exact⟨this.1,this.2.1⟩
 have hc:([57,90,42,43,45,36]:List Nat).contains first=true:=yai.mpr E.f;rw[e,lQ];rw[e,lQ]at h1;show(if([57,90,42,43,45,36]:List Nat).contains first=true then _ else _)=_;rw[yaf hc];show([first],(QW first _ 0).1,(QW 57 (QW first _ 0).2 0).1,(QW 57 (QW first _ 0).2 0).2)=_;rw[h1];show([first],W.count first,(QW 57 _ 0).1,(QW 57 _ 0).2)=_;rw[h2]
theorem Ed.kq(E:Ed Y first W N ac tail):Jq (aq [] (Qm ac)++aq [] tail) (if N.count 57=0 then[first]else[57])=(some ac.length,aq [] tail):=by
 rcases E.br with rfl|⟨k,b,hk,rfl,hb⟩
 ·show Jq (aq [] tail) _=_;have ht:=(X1 tail E.tl).2.1;cases e:aq [] tail with
  |nil=>rfl
  |cons x r=>
   obtain⟨c,n⟩:=x;have:=ht (c,n) (by rw[e];rfl);unfold Jq
   split
   ·rename_i heq;cases heq;exact absurd (show(46:Nat)∈([43,45,67,68]:List Nat)from this) (by decide)
   ·rfl
 ·have Ao:b≠46:=by
   rcases hb with h|⟨h,h2|h2,_⟩
   ·rw[h];decide
   ·rw[h,h2];decide
   ·rw[h,h2];decide
  unfold Qm;rw[yac (by simp),OK Ao];have e:∀pl:List Nat,Jq ([(46,1),(b,k+1)]++aq [] tail) pl=if(1>1\/(b,k+1)::aq [] tail=[])then(none,[(46,1),(b,k+1)]++aq [] tail)else(if b≠57/\([b]≠pl\/([43,45,36]:List Nat).contains b=true)then(none,[(46,1),(b,k+1)]++aq [] tail)else(some (k+1),aq [] tail)):=λpl=>rfl;rw[e];rw[yac (by simp),yac,lN];rintro⟨z1,z2⟩;rcases hb with h|⟨h,h2,h3⟩
  ·exact z1 h
  ·subst h3;rw[yaf List.count_nil,h]at z2;rcases z2 with z2|z2
   ·exact z2 rfl
   ·rcases h2 with h2|h2<;>rw[h2]at z2<;>exact absurd z2 (by decide)
noncomputable def ar(first:Nat):Bool:=([43,45,36]:List Nat).contains first
theorem Ed.ON(E:Ed Y first W N ac tail):Ju (aq [] (QO Y W N ac tail))=some ⟨3,sgn Y first tail,W.count first+N.count 57-(if ar first=true then 1 else 0),ac.length⟩:=by
 have h1:=E.Iq (aq [] N++(aq [] (Qm ac)++aq [] tail));rw[←E.rows]at h1;have h4:=(X1 tail E.tl).1;have hs:=vC first E.f Y E.ld tail E.tl E.l1 E.ts;have hm:¬ (ar first&&decide (W.count first<2))=true:=by
  intro z;rw[yaO]at z;have:=E.fl (yai.mp z.1);have:=yap z.2;lia
 have ST:¬ (W.count first+N.count 57-(if ar first=true then 1 else 0)+ac.length>18):=by
  have a:=E.w.cn;have b:N.count 57<=3:=by
   rcases E.n with rfl|⟨_,h⟩
   ·simp
   ·exact h.cn
  have c:ac.length<=3:=by
   rcases E.br with rfl|⟨k,b,hk,rfl,_⟩
   ·simp
   ·rw[lN];lia
  lia
 unfold Ju;rw[h1];dsimp only;rw[E.whole];dsimp only;rw[E.kq];dsimp only;rw[h4];show(if(ar first&&decide (W.count first<2))=true then none else if([Y.take 1,[first],tail].filter (JV.contains ·)).length>1 then none else if W.count first+N.count 57-(if ar first=true then 1 else 0)+ac.length>18 then none else some (⟨3,(([Y.take 1,[first],tail].filter (JV.contains ·)).length==1),W.count first+N.count 57-(if ar first=true then 1 else 0),ac.length⟩:Facts))=_;rw[yac hm,yac (by lia),yac ST,hs.2]
noncomputable def yO:List Nat:=[43,45,36,57,90,42,44,66,48,47,46,67,82,68]
theorem jF(h:ins x=true):x∈yO:=(by decide:∀x∈([44,66,48,47]:List Nat),x∈yO) x (yai.mp h)
theorem Ed.sym(E:Ed Y first W N ac tail):∀x∈QO Y W N ac tail,x∈yO:=by
 intro x hx;have l0:first∈yO:=by have h:∀f∈([57,90,42,43,45,36]:List Nat),f∈yO:=(by decide);exact h first E.f
 unfold QO at hx;rcases yao.mp hx with hx|hx
 ·have h:∀l∈([[],[43],[45],[36],[43,36],[45,36]]:List (List Nat)),∀x∈l,x∈yO:=by decide
  exact h Y E.ld x hx
 rcases yao.mp hx with hx|hx
 ·rcases E.w.all x hx with h|h
  ·rw[h];exact l0
  ·exact jF h
 rcases yao.mp hx with hx|hx
 ·rcases E.n with rfl|⟨_,h2⟩
  ·cases hx
  ·rcases h2.all x hx with h|h
   ·rw[h];decide
   ·exact jF h
 rcases yao.mp hx with hx|hx
 ·unfold Qm at hx;rcases E.br with rfl|⟨k,b,hk,rfl,hb⟩
  ·cases hx
  ·rw[yac (by simp)]at hx;rcases yag.mp hx with rfl|hx
   ·decide
   ·rw[yaw hx];rcases hb with h|⟨h,_⟩
    ·rw[h];decide
    ·rw[h];exact l0
 ·have h:∀l∈([[],[43],[45],[67,82],[68,66]]:List (List Nat)),∀x∈l,x∈yO:=by decide
  exact h tail E.tl x hx
theorem vF:∀f∈zy,∀x∈f,x=57\/x=83\/x=86:=by decide
theorem Ed.vG(E:Ed Y first W N ac tail):Q1 (aq [] (QO Y W N ac tail))=none:=by
 have key:∃x∈QO Y W N ac tail,x≠57:=by
  unfold QO
  by_cases z:∃x∈Y++(W++(N++(Qm ac++tail))),x≠57
  ·exact z
  ·exfalso;have all:∀x∈Y++(W++(N++(Qm ac++tail))),x=57:=λx hx=>ydH λq=>z ⟨x,hx,q⟩;have hl:Y=[]:=by
    cases e:Y with
    |nil=>rfl
    |cons a r=>
     have h:∀l∈([[],[43],[45],[36],[43,36],[45,36]]:List (List Nat)),∀x∈l,x≠57:=by decide
     have:=all a (lF _ (by rw[e];exact lH));exact absurd this (h Y E.ld a (by rw[e];exact lH))
   have hW:∀x∈W,x=57:=λx hx=>all x (lE _ (lF _ hx));have hf:first=57:=hW first (yaW E.w.hd);have hD:∀x∈Qm ac++tail,x=57:=λx hx=>all x (lE _ (lE _ (lE _ hx)));have hb:ac=[]:=by
    cases e:ac with
    |nil=>rfl
    |cons a r=>
     have:=hD 46 (lF _ (by unfold Qm;rw[yac (by rw[e];simp)];exact lH));cases this
   have ht:tail=[]:=by
    cases e:tail with
    |nil=>rfl
    |cons a r=>
     have h:∀l∈([[],[43],[45],[67,82],[68,66]]:List (List Nat)),∀x∈l,x≠57:=by decide
     have:=hD a (lE _ (by rw[e];exact lH));exact absurd this (h tail E.tl a (by rw[e];exact lH))
   exact E.nn ⟨hf,hW,hl,hb,ht⟩
 obtain⟨x,hx,ul⟩:=key;have ha:=E.sym x hx;obtain⟨y,hy,e⟩:=OJ _ [] (.inl hx);unfold Q1;rw[yac];intro z;have:=vF _ (yai.mp z) x (by rw[←e];exact List.mem_map_of_mem hy);rcases this with h|h|h
 ·exact ul h
 ·rw[h]at ha;exact absurd ha (by decide)
 ·rw[h]at ha;exact absurd ha (by decide)
theorem Ed.OO(E:Ed Y first W N ac tail):JB (aq [] (QO Y W N ac tail))=none:=by
 unfold JB
 split
 ·rename_i c n heq;have hm:c∈QO Y W N ac tail:=by
   have:=kh (x:=(c,n)) (QO Y W N ac tail) [] (by rw[heq];exact yak.mpr Z);exact this.resolve_right (by simp)
  have ha:=E.sym c hm;rw[yaf];refine .inl ⟨λz=>?_,λz=>?_⟩
  ·rw[z]at ha;exact absurd ha (by decide)
  ·rw[z]at ha;exact absurd ha (by decide)
 ·rfl
theorem Ed.DC(E:Ed Y first W N ac tail):40∉QO Y W N ac tail:=λz=>absurd (E.sym 40 z) (by decide)
theorem Ed.BM(E:Ed Y first W N ac tail):Q2 (QO Y W N ac tail)=some ⟨3,sgn Y first tail,W.count first+N.count 57-(if ar first=true then 1 else 0),ac.length⟩:=by
 unfold Q2;rw[Ke E.DC];unfold JW;rw[E.vG,E.OO,E.ON]
end
theorem vH(h:c≠40):40∉replicate m c:=λz=>h (yaw z).symm
theorem ku(hc:c=88\/c=65)(hm:m<60):Q2 (replicate (m+1) c)=some ⟨if c=88 then 0 else 1,false,0,0⟩:=by
 unfold Q2;rw[Ke (vH (by rcases hc with h|h<;>rw[h]<;>decide)),qK,WM];unfold JW;have h1:Q1 [(c,m+1)]=none:=by
  unfold Q1;rw[yac];show ¬ zy.contains [c]=true;rcases hc with h|h<;>rw[h]<;>decide
 have h2:JB [(c,m+1)]=some ⟨if c=88 then 0 else 1,false,0,0⟩:=by
  show(if(c≠88/\c≠65)\/m+1>60 then none else some (⟨if c=88 then 0 else 1,false,0,0⟩:Facts))=_;rw[yac];rintro(⟨a,b⟩|a)
  ·rcases hc with h|h
   ·exact a h
   ·exact b h
  ·lia
 rw[h1,h2]
noncomputable def ZU(s:Bool)(a b:Nat):List Nat:=(if s then[83]else[])++replicate a 57++(if b=0 then[]else 86::replicate b 57)
theorem OP:∀(s:Bool)(a b:Nat),a<6->b<4->a+b≠0->Q2 (ZU s a b)=some ⟨2,s,a,b⟩/\40∉ZU s a b:=by
 intro s a b ha hb h;have key:∀s:Bool,∀a<6,∀b<4,a+b≠0->Q2 (ZU s a b)=some ⟨2,s,a,b⟩/\40∉ZU s a b:=by decide
 exact key s a ha b hb h
open aW PySem.NumText
noncomputable def un(rows:List Rw):List Nat:=rows.flatMap λx=>replicate x.2 x.1
theorem UQ(a b:List Rw):un (a++b)=un a++un b:=List.flatMap_append
theorem jG(c n:Nat):un [(c,n)]=replicate n c:=by simp[un]
theorem OQ(rows:List Rw)(c n:Nat):un (Q0 rows c n)=un rows++replicate n c:=by
 rcases JD rows with rfl|⟨r,c',m,rfl⟩
 ·rw[WM,jG];rfl
 ·by_cases h:c'=c
  ·subst h;rw[J4,UQ,UQ,jG,jG,lP,List.replicate_append_replicate,yeE]
  ·rw[JO h,UQ (r++[(c',m)]),jG]
theorem OR(l:List Nat):∀rows,un (aq rows l)=un rows++l:=by
 induction l with
 |nil=>intro rows;show un rows=_;rw[lS]
 |cons c t ih=>
  intro rows;show un (aq (Q0 rows c 1) t)=_;rw[ih,OQ,lP];rfl
theorem qM(l:List Nat):un (aq [] l)=l:=by rw[OR];rfl
noncomputable def qN(c:Nat):Bool:= !([83,86]:List Nat).contains c
noncomputable def cu(rows:List Rw):Nat:=((rows.filter λx=>qN x.1).map (·.2)).sum
theorem qO(a b:List Rw):cu (a++b)=cu a+cu b:=by simp[cu]
theorem YT(c n:Nat):cu [(c,n)]=if qN c=true then n else 0:=by
 unfold cu;rw[yaF]
 split<;>simp
theorem OS(rows:List Rw)(c n:Nat):cu (Q0 rows c n)=cu rows+if qN c=true then n else 0:=by
 rcases JD rows with rfl|⟨r,c',m,rfl⟩
 ·rw[WM,YT];simp[cu]
 ·by_cases h:c'=c
  ·subst h;rw[J4,qO,qO,YT,YT]
   split<;>lia
  ·rw[JO h,qO (r++[(c',m)]),YT]
theorem OT(l:List Nat):∀rows,cu (aq rows l)=cu rows+(l.filter qN).length:=by
 induction l with
 |nil=>intro rows;rfl
 |cons c t ih=>
  intro rows;show cu (aq (Q0 rows c 1) t)=_;rw[ih,OS,yaF]
  split<;>simp<;>lia
theorem vI(l:List Nat):cu (aq [] l)=(l.filter qN).length:=by rw[OT];simp[cu]
def Pos(n:Nat)(rows:List Rw):Prop:=∀x∈rows,1<=x.2/\x.2<=n/\x.1≠40
theorem OU{rows:List Rw}(hp:Pos n rows)(hc:c≠40):Pos (n+1) (Q0 rows c 1):=by
 rcases JD rows with rfl|⟨r,c',m,rfl⟩
 ·rw[WM];intro x hx;rw[yak.mp hx];exact⟨lA _,by simp,hc⟩
 ·by_cases h:c'=c
  ·subst h;rw[J4];intro x hx;rcases yao.mp hx with hx|hx
   ·obtain⟨h1,h2,h3⟩:=hp x (lF _ hx);exact⟨h1,by lia,h3⟩
   ·rw[yak.mp hx];obtain⟨h1,h2,h3⟩:=hp (c',m) (by simp);exact⟨by simp,by simp at h2 ⊢;lia,hc⟩
  ·rw[JO h];intro x hx;rcases yao.mp hx with hx|hx
   ·obtain⟨h1,h2,h3⟩:=hp x hx;exact⟨h1,by lia,h3⟩
   ·rw[yak.mp hx];exact⟨lA _,by simp,hc⟩
theorem OV(l:List Nat):∀(n:Nat)(rows:List Rw),Pos n rows->40∉l->Pos (n+l.length) (aq rows l):=by
 induction l with
 |nil=>intro n rows h _;exact h
 |cons c t ih=>
  intro n rows h Iu;have:=ih (n+1) (Q0 rows c 1) (OU h λz=>Iu (by rw[z];exact lH)) λz=>Iu (lG _ z);have e:n+(c::t).length=n+1+t.length:=by simp;lia
  rw[e];exact this
theorem vJ(h:40∉l):Pos l.length (aq [] l):=by
 have:=OV l 0 [] (λx hx=>absurd hx (by simp)) h;rw[ybd]at this;exact this
end aK
namespace L2
open PySem PySem.Spec PyProof.Rows
open Builtin Builtin.Str
section
theorem kw:cN X "str.count" (Dx (λ_ _=>True) λz y=>.int (Txt.count z y)):=by
 intro U s σ H x vs v us Q I rx rv h;obtain⟨z,y,rfl,rfl,_,q⟩:=h;obtain⟨t,rfl⟩:=rx;obtain⟨u,rfl,t',rfl⟩:=vals1 rv;exact ycm F.slot_str_count F.entry_str_count (F.args_str_count_2 _ _) (gives_str_count z y t t') ⟨.int _,H,I.tok _,⟨_,Z⟩,q⟩
end
structure aM(K:Frag)(H:Hp)(a t r:Addr)(ns:List Int)(c:Int):Prop where
 sq:ay K H a (ns.map V.int)
 tw:∃rs,aD H t r c rs
 nat:a≠t
 bV:a≠r
 ln:ns.length<=63
section
variable {K:Frag}{H H':Hp}{a t r:Addr}{ns:List Int}{c c':Int}
theorem aM.drawn(B:aM K H a t r ns c)(A:Apart t r H H'){rs:List (Key × V)}(T:aD H' t r c' rs):aM K H' a t r ns c':=
 ⟨A.seq B.sq B.nat B.bV,⟨rs,T⟩,B.nat,B.bV,B.ln⟩
theorem aM.same(B:aM K H a t r ns c)(e:Qu H H'):aM K H' a t r ns c:=by
 obtain⟨rs,T⟩:=B.tw;exact⟨(Apart.of e).seq B.sq B.nat B.bV,⟨rs,T.same e⟩,B.nat,B.bV,B.ln⟩
theorem av.Ft(S:av H a t r Pa q ns c):aM K H a t r ns c:=⟨S.sq,S.tw,S.nat,S.bV,S.ln⟩
theorem aM.draw(B:aM K H a t r ns c)(hi:σ[i]? =some (some (.ref a)))(hj:σ[j]? =some (some (.ref t)))(hn:∀R:VK,R (.int n) H->tn σ H R) (h0:0<n) (h1:n<1000000) (hc:c<100000)
  (k:∀(d:Nat)(H':Hp),(d:Int)<n->aM K H' a t r ns (c+1)->Apart t r H H'->Q (.int d) H'):Wk (ZP K) [] E (Jp (ZB i) (Jp (ZB j) (Jp tn WI))) σ H Q:=by
 obtain⟨rs,T⟩:=B.tw;refine⟨_,hi,_,hj,hn _ ⟨a,t,r,ns,c,n,rs,Z,B.sq,T,B.nat,B.bV,B.ln,hc,h0,h1,λv T0 H' v0 v1 T' A'=>?_⟩⟩;obtain⟨d,rfl⟩:=ybt v0;exact k d H' v1 (B.drawn A' T') A'
theorem aM.keep(B:aM K H a t r ns c)(A:Apart t r H H')(e:H b=some o)(n:∀al,o≠ .dK al):H' b=some o:=by
 obtain⟨rs,T⟩:=B.tw;refine A b o e (λz=>?_) λz=>?_
 ·rw[z,T.tw]at e;cases e;exact n _ rfl
 ·rw[z,T.rt]at e;cases e;exact n _ rfl
theorem aM.free(B:aM K H a t r ns c)(B':aM K H' a t r ns c')(A:Apart t r H H')(h:H' q=none):H q=none:=by
 obtain⟨T0,T'⟩:=B'.tw;cases e:H q with
 |none=>rfl
 |some o=>
  by_cases z1:q=t
  ·rw[z1,T'.tw]at h;cases h
  ·by_cases z2:q=r
   ·rw[z2,T'.rt]at h;cases h
   ·rw[A q o e z1 z2]at h;cases h
theorem aM.pick{xs:List V}(B:aM K H a t r ns c)(hi:σ[i]? =some (some (.ref a)))(hj:σ[j]? =some (some (.ref t)))(lv:∀R:List V->Hp->Prop,R xs H->ta σ H R) (hn:n=(xs.length:Int)) (h0:0<n) (h1:n<1000) (hc:c<100000)
  (k:∀(d:Nat)(x:V)(H':Hp),xs[d]? =some x->aM K H' a t r ns (c+1)->Apart t r H H'->Q x H'):ba (Ag K) (Er ta) (Wk (ZP K) [] E (Jp (ZB i) (Jp (ZB j) (Jp (tC (.int n)) WI)))) σ H Q:=by
 have hz:=zza
 refine lv _ ⟨by lia,λp hp=>?_⟩;have S:=Qu.new (o:=.lst xs) hp;refine(B.same S).draw hi hj (λR h=>h) h0 (by lia) hc λd H' hd B' A'=>?_;obtain⟨x,hx⟩:∃x,xs[d]? =some x:=⟨_,yah (by lia)⟩;have Fu:H' p=some (.lst xs):=(B.same S).keep A' Qe λ_ z=>nomatch z;exact⟨p,xs,d,x,Z,Z,.inl (.inl Fu),J2 hx,k d x H' hx B' (λb o e n1 n2=>A' b o (S _ _ e) n1 n2)⟩
end
noncomputable def BN(z:Str):It:=⟨λi _=>i<z.cps.size,λi H x H'=>H'=H/\∃c,z.cps[i]? =some c/\x=.str ⟨#[c]⟩,λi _=>z.cps.size<=i⟩
theorem vK{P:Program}{w:World}{K:Frag}{tg:Expr}(it:Addr)(z:Str)(t:Tok):Turn P w K tg (BN z) [it] it (λi h=>h.IsStrIter it "str_ascii_iterator" z t i) where
 mem:=by simp
 obj:=λi h st b hb=>by
  have e:b=it:=by simpa using hb
  subst e;obtain⟨o,e,c,d⟩:=st;exact⟨o,e,λv z=>by rw[d]at z;cases z⟩
 keep:=λi h h' st k=>by
  obtain⟨o,e,c,d⟩:=st;exact⟨o,k it (by simp) o e,c,d⟩
 item:=by
  intro X hP hw hK hc i U s σ H E I hf st hg;subst hP hw hK;obtain⟨f0,f1,f2,f3,f4,f5⟩:=hf it (by simp);have e8:i<z.cps.size:=hg;obtain⟨c,oJ⟩:∃c,z.cps[i]? =some c:=⟨z.cps[i],by simp[e8]⟩;refine wpAny_pyNext_ascii_item st oJ λh' Tk sb=>?_;have I1:Inv X U σ H {s with heap:=h',toks:=s.toks+1}:=I.turned (λb o hb e=>(sb.2 b hb).trans e) f0 f1 f3 f4 f5;obtain⟨o,e,cc,d⟩:=id Tk;exact⟨_,Z,xf (s:={s with heap:=h',toks:=s.toks+1}) e cc d (by decide) ⟨.str ⟨#[c]⟩,H,I1,⟨_,Z⟩,⟨Z,c,oJ,Z⟩,Tk,λb hb=>(hf b hb).1⟩⟩
 done:=by
  intro X hP hw hK hc i U s σ H E I hf st hg;subst hP hw hK;obtain⟨f0,f1,f2,f3,f4,f5⟩:=hf it (by simp);have e8:z.cps.size<=i:=hg;exact wpAny_pyNext_ascii_end (I.ok.hd hc) st (by simp[e8]) λh' eb=>⟨Z,I.turned (t':=s.toks) (λb o hb e=>eb b o hb e) f0 f1 f3 f4 f5⟩
 self:=λ_ _ _ _ _ st h=>wpAny_pyIter_striter_ascii st h
section
def BO(tl:TE):TI:=λσ H R=>tl σ H λx H1=>∃z:Str,x=.str z/\z.cps.all (· <128)=true/\R (BN z) H1
theorem Kq(hl:PE X l tl):PI X tg l (BO tl):=by
 intro U s σ H R I h;refine au (hl U s σ H _ I h) λv s1⟨x,H1,I1,r1,q1⟩=>?_;obtain⟨z,e,ha,q⟩:=q1;subst e;obtain⟨t,rfl⟩:=r1;refine ycM ha ?_;refine⟨s1.heap.objs.size,[s1.heap.objs.size],_,_,H1,Z,I1.kept (t':=s1.toks) λb o e=>yaa _ e,vK _ z t,⟨_,yam _ rfl,Z,Z⟩,λb hb=>?_,q⟩;have e:b=s1.heap.objs.size:=by simpa using hb
 subst e;exact I1.wC (lA _) (I1.ag.fresh (lA _))
end
theorem Kf{tt:TT}(Pv:Nat->List V->Hp->Prop)(h:∀R:VK,R (.str z) H->tl σ H R) (ha:z.cps.all (· <128)=true) (h0:Pv 0 [] H) (hl:∀i vs H,i<=z.cps.size->Pv i vs H->vs.length<=i)
  (hs:∀i c vs H,z.cps[i]? =some c->Pv i vs H->g (.str ⟨#[c]⟩) (replicate NB.length none) H λσ2 H2=>tt σ2 H2 λb H3=>if b=true then te σ2 H3 λv H4=>Pv (i+1) (vs++[v]) H4 else Pv (i+1) vs H3)
  (hd:∀vs H,Pv z.cps.size vs H->∀p,H p=none->Q (.ref p) (upd H p (.lst vs))) (hz:z.cps.size<sizeLine):V0 NB (BO tl) g tt te σ H Q:=by
 refine h _ ⟨z,Z,ha,?_⟩;refine⟨λi m vs H=>m=z.cps.size-i/\i<=z.cps.size/\Pv i vs H,⟨z.cps.size,by simp,lX _,h0⟩,?_⟩;rintro i m vs H ⟨rfl,hi,p⟩;have hv:=hl i vs H hi p
 by_cases bn:i<z.cps.size
 ·refine .inr ⟨bn,by lia,Pv (i+1),λCh H' p'=>⟨z.cps.size-(i+1),by lia,Z,bn,p'⟩,λx H' y=>?_⟩;obtain⟨e,c,hc,e2⟩:=y;subst e e2;exact hs i c vs _ hc p
 ·have e:i=z.cps.size:=by lia
  subst e;exact .inl ⟨lA _,hd vs H p⟩
section
theorem kx:cN X "str.index" (λx vs H Q=>∃(z y:Str)(i:Nat)(r:List Nat),x=.str z/\vs=[.str y]/\occurrences z y 0 z.length 1=i::r/\Q (.int i) H):=by
 intro U s σ H x vs v us Q I rx rv h;obtain⟨z,y,i,r,rfl,rfl,ho,q⟩:=h;obtain⟨t,rfl⟩:=rx;obtain⟨u,rfl,t',rfl⟩:=vals1 rv;exact ycm F.slot_str_index F.entry_str_index (F.args_str_index_2 _ _) (gives_str_index z y t t' i r ho) ⟨.int _,H,I.tok _,⟨_,Z⟩,q⟩
theorem qP(hu:X.A.units+1+n<cLine):aS X (compareOp .NotEq) (λx y H Q=>∃a b xs ys k,x=.ref a/\y=.ref b/\ay X.K H a xs/\ay X.K H b ys/\((bE X.K H n xs ys/\k=false)\/(xs.length≠ys.length/\k=true))/\Q (.bl k) H):=by
 intro U s σ H x y v u Q I rx ry h;obtain⟨a,b,xs,ys,k,e1,e2,ha,hb,lk,q⟩:=h;rcases lk with⟨lk,rfl⟩|⟨ln,rfl⟩
 ·exact NP hu U s σ H x y v u Q I rx ry ⟨a,b,xs,ys,e1,e2,ha,hb,lk,q⟩
 ·subst e1 e2;obtain rfl:v=Value.ref a:=rx;obtain rfl:u=Value.ref b:=ry;obtain⟨ap,r1,p1,_⟩:=I.list ha;obtain⟨Da,r2,p2,_⟩:=I.list hb;have l1:=r1.length;have l2:=r2.length;refine SeqAt.RcNeAt.lists_lengths p1.isList p2.isList (by rw[lW,lW];simp;lia) (by lia) _ _ _ _ ?_;exact⟨.bl true,H,I,Z,q⟩
end
noncomputable def ky(scope:Scope)(env:Env)(C:Addr):Env:=
 {scope:=relabel scope env,locals:=C,globals:=env.globals,cells:=Zh env.cells scope.names [],qual:=env.qual,func:=none,code:=env.code,frame:=env.frame,builtins:=env.builtins}
noncomputable abbrev ZV(X:Cx)(NB:List Str)(scope:Scope)(s:Shared)(H:Hp)(ex:List Addr):Cx:=
 {X with N:=NB,s₀:=s,H₀:=H,env:=ky scope X.env s.heap.objs.size,L:=X.stack,ex:=ex,fn:=λ_=>false,pn:=[],xe:=λ_ _=>False}
structure dk(NB FR:List Str)(scope:Scope):Prop where
 kind:scope.kind=.function
 nd:(NB++FR).Nodup
 fb:∀y∈scope.names,y.2≠ .cell
 loc:∀y∈scope.names,y.2=.local->scope.names.lookup y.1=some .local
 OW:(scope.names.map (·.1)).Nodup
 fr:∀y∈FR,(y,NameKind.free)∈scope.names
def yP(n:Nat)(fi:List Nat)(wi:TI)(g:TG)(tt:TT)(te:TE):TE:=λσ H Q=>wi σ H λJ H1=>∃fv:List V,fi.map (λi=>σ[i]?)=fv.map (λv=>some (some v))/\∃W:Nat->Nat->List V->Hp->Prop,(∃m,W 0 m [] H1)/\∀i m vs H,W i m vs H->
 (J.stop i H/\∀p,H p=none->Q (.ref p) (upd H p (.lst vs)))\/(J.go i H/\vs.length<sizeLine/\∃N:List V->Hp->Prop,(∀Ch H',N Ch H'->∃m',m'<m/\W (i+1) m' Ch H')/\
  ∀x H',J.cK i H x H'->g x (replicate n none++fv.map some) H' λσ2 H2=>σ2.drop n=fv.map some/\tt σ2 H2 λb H3=>if b=true then te σ2 H3 λv H4=>N (vs++[v]) H4 else N vs H3)
noncomputable def ir(env:Env)(x:Str × NameKind):Str × NameKind:=if(x.2==NameKind.free&&env.scope.kind==.function&&env.kindOf x.1==some .cell)then(x.1,NameKind.cell)else(x.1,x.2)
theorem jH(env:Env)(h:y≠x.1)(l:List (Str × NameKind)):(ir env x::l).lookup y=l.lookup y:=by
 have hb:(y==x.1)=false:=yaB.mpr h;unfold ir
 split<;>rw[ybm,hb]
theorem UR{env:Env}{scope:Scope}(nd:(scope.names.map (·.1)).Nodup)(h:(y,NameKind.free)∈scope.names)(hk:(env.scope.kind==.function)=true)(hc:env.scope.names.lookup y=some .cell):(relabel scope env).names.lookup y=some .cell:=by
 have key:∀l:List (Str × NameKind),(l.map (·.1)).Nodup->(y,NameKind.free)∈l->(l.map (ir env)).lookup y=some .cell:=by
  intro l
  induction l with
  |nil=>intro _ h;cases h
  |cons z r ih=>
   intro nd h;rw[lU,ycG]at nd;rw[lU];rcases yag.mp h with h|h
   ·subst h;have e:(env.kindOf y==some NameKind.cell)=true:=by rw[show env.kindOf y=env.scope.names.lookup y from rfl,hc];rfl
    have e2:ir env (y,NameKind.free)=(y,NameKind.cell):=by unfold ir;rw[yaf (by rw[hk,e];rfl)]
    rw[e2,ybm,ydb]
   ·have ul:y≠z.1:=λq=>nd.1 (by rw[←q];exact ybS.mpr ⟨_,h,Z⟩);rw[jH env ul];exact ih nd.2 h
 exact key scope.names nd h
theorem US{env:Env}{scope:Scope}(nc:∀y∈scope.names,y.2≠ .cell) (h:(relabel scope env).names.lookup y=some .cell\/(relabel scope env).names.lookup y=some .free):(y,NameKind.free)∈scope.names:=by
 have key:∀l:List (Str × NameKind),(∀y∈l,y.2≠ .cell)->((l.map (ir env)).lookup y=some .cell\/(l.map (ir env)).lookup y=some .free)->(y,NameKind.free)∈l:=by
  intro l
  induction l with
  |nil=>intro _ h;rcases h with h|h<;>simp at h
  |cons z r ih=>
   intro nc h;have hk:z.2≠ .cell:=nc z lH;rw[lU]at h
   by_cases hn:y=z.1
   ·obtain⟨n,k⟩:=z;have hn:y=n:=hn;subst hn;have hf:k=.free:=by
     cases k with
     |cell=>exact absurd rfl hk
     |free=>rfl
     |_=>
      have e2:∀q:NameKind,(q==NameKind.free)=false->ir env (y,q)=(y,q):=λq hq=>by unfold ir;rw[yac (by rw[show((y,q).2==NameKind.free)=false from hq];simp)]
      rw[e2 _ rfl,ybm,ydb]at h;rcases h with h|h<;>cases h
    rw[hf];exact lH
   ·rw[jH env hn]at h;exact lG _ (ih (λy hy=>nc y (lG _ hy)) h)
 exact key scope.names nc h
theorem Kr:∀(l:List (Str × NameKind))(n:Nat)(acc:List (Str × Addr)),(∀y∈l,y.2≠ .cell)->cellsFrom n l acc=acc
 |[],_,_,_=>rfl
 |(x,k)::r,n,acc,h=>by
  have hk:(k==NameKind.cell)=false:=yaB.mpr (h (x,k) lH);unfold cellsFrom;rw[hk];exact Kr r n acc λy hy=>h y (lG _ hy)
theorem Ks:∀(l:List (Str × NameKind))(h:Heap),(∀y∈l,y.2≠ .cell)->pushCells h l=h
 |[],_,_=>rfl
 |(x,k)::r,h,hn=>by
  have hk:(k==NameKind.cell)=false:=yaB.mpr (hn (x,k) lH);unfold pushCells;rw[hk];exact Ks r h λy hy=>hn y (lG _ hy)
theorem VF{scope:Scope}{globals:Addr}{qual:Str}{env:Env}{cl:List (Str × Addr)}(hk:scope.kind=.function)(hn:∀y∈scope.names,y.2≠ .cell)
  (hQ:∀PP s',PP={scope:=scope,locals:=s.heap.objs.size,globals:=globals,cells:=cl,qual:=qual,func:=none,code:=env.code,frame:=env.frame,builtins:=env.builtins}->
   InCall s s.heap.objs.size (λ_=>none) s'->Q PP s'):
  wpAny qMa A (newFunctionEnv scope globals cl [] qual none .none (some env)) Q E s:=by
 simp only[newFunctionEnv,ydC,ybM];refine yab (wpAny_alloc ?_);refine yab (wpAny_layCells _ (λname kind cells=>by cases E7:kind==NameKind.cell<;>simp[E7]) _ _ _ _ ?_);rw[Kr _ _ _ hn,Ks _ _ hn];refine yab (yan (yan (hQ _ _ Z ?_)));exact⟨⟨_,_,Z⟩,Heap.Ns.new s.heap (.type "dict"),λb o e=>yaa _ e,lA _⟩
section
theorem UT{elt tg iter:Expr}{ifs:List Expr}{scope:Scope}{pos:Pos}{tt:TT}(hc:X.calm=true)(S:dk NB FR scope)(cI:xH scope X.env.scope=true)(Ap:fi.map (λi=>X.N[i]?)=FR.map some) (hi:PI X tg iter wi)
  (hg:∀s H ex,PG (ZV X (NB++FR) scope s H ex) tg g) (ht:∀s H ex,Bd (ZV X (NB++FR) scope s H ex) ifs tt) (he:∀s H ex,PE (ZV X (NB++FR) scope s H ex) elt te)
  (hs:∀x,foldedSetIterable iter X.env x=pure x:=by intro _;rfl):PE X (.ListComp elt [⟨tg,iter,ifs,0⟩] scope pos) (yP NB.length fi wi g tt te):=by
 intro U s σ H Q I h;have DD:∀y∈scope.names,y.2=.free->X.env.scope.names.lookup y.1=some .cell:=Uz cI;have BP:∀y∈scope.names,y.2=.free->∃c,X.env.cells.lookup y.1=some c:=λy hy e=>I.ok.has y.1 (.inl (DD y hy e));have cW:∀y c,(Zh X.env.cells scope.names []).lookup y=some c->X.env.cells.lookup y=some c:=λy c e=>Vl scope.names [] BP (λz=>nomatch z) e;rw[eval_ListComp];refine ycC (use:=none) (cl:=Zh X.env.cells scope.names []) rfl hs (Xr BP) S.kind S.loc (au (hi U s σ H _ I h) λv s1 h1=>au h1 λAQ s2 h2=>?_);obtain⟨it,fp,tn,J,H2,e,I2,T,fK,f2,fv,DE,W,⟨m0,w0⟩,turn⟩:=h2;subst e;refine yaX ?_;have cR:∀b o,s2.heap.get? b=some o->(s2.heap.push {cls:=.type "list",data:=.seq ([]:List Value).toArray}).get? b=some o:=λb o e=>yaa _ e;have I3:Inv X U σ H2 {s2 with heap:=s2.heap.push {cls:=.type "list",data:=.seq ([]:List Value).toArray}}:=I2.kept (t':=s2.toks) cR;have dQ:tn 0 (s2.heap.push {cls:=.type "list",data:=.seq ([]:List Value).toArray}):=T.keep _ _ _ fK λb _ o e=>cR b o e;have cS:(s2.heap.push {cls:=.type "list",data:=.seq ([]:List Value).toArray}).get? s2.heap.objs.size=some (Kk []):=yam _ rfl;have iX:H2 s2.heap.objs.size=none:=I2.ag.fresh (lA _);have P3:∀b o,s2.heap.get? b=some o->b≠s2.heap.objs.size:=λb o e=>yal (yae e);have iY:∀b∈fp,∃o,s2.heap.get? b=some o:=λb hb=>let ⟨o,e,_⟩:=T.obj _ _ fK b hb;⟨o,e⟩;have ss:X.s₀.heap.objs.size<=s2.heap.objs.size:=I2.sz;have ei:s2.heap.objs.size≠X.env.locals:=ybA I2.lt;have dH:∀x c,X.env.cells.lookup x=some c->c≠s2.heap.objs.size:=λx c e=>let ⟨v,o,e1,_⟩:=I2.cell x c e;P3 c o e1;have eu:∀p∈X.pn++U,p.1≠s2.heap.objs.size:=λp hp=>P3 p.1 _ (I2.pin p hp).1;have eB:s2.heap.objs.size∉aI X.stack:=λz=>let ⟨o,e,_⟩:=(I2.stack.mem z).2;P3 _ o e rfl;generalize Be:({s2 with heap:=s2.heap.push {cls:=.type "list",data:=.seq ([]:List Value).toArray}}:Shared)=s3 at I3 ⊢;have Bf:s3.heap=s2.heap.push {cls:=.type "list",data:=.seq ([]:List Value).toArray}:=by rw[←Be]
 rw[←Bf]at dQ cS cR;generalize s2.heap.objs.size=D at cS iX P3 ss ei dH eu eB ⊢;refine VF S.kind S.fb λPP s4 eC x4=>?_;subst eC;have eE:∀b o,s3.heap.get? b=some o->b<s3.heap.objs.size:=λb o e=>yae e;have fP:∀b∈fp,b<s3.heap.objs.size:=λb hb=>let ⟨o,e⟩:=iY b hb;eE b o (cR b o e);have IR:D<s3.heap.objs.size:=eE D _ cS;have Re:∀b∈fp,b≠D:=λb hb=>let ⟨o,e⟩:=iY b hb;P3 b o e;obtain⟨h4,ip,rfl,Ty⟩:=x4.done;have Bg:∀b o,X.M.get? b=some o->b∉D::fp:=λb o e hb=>by
  rcases yag.mp hb with rfl|hb
  ·exact absurd (yad (yae (I2.ok.bs b o e).1) ss) (lY _)
  ·obtain⟨_,_,_,f3,_⟩:=f2 b hb;rcases f3 with z|z
   ·exact I2.ok.bF b o e z
   ·exact absurd (yad (yae (I2.ok.bs b o e).1) z) (lY _)
 have iZ:∀b∈D::fp,b∉aI X.stack:=λb hb hf=>by
  rcases yag.mp hb with rfl|hb
  ·exact eB hf
  ·obtain⟨_,f1,Bh,_⟩:=f2 b hb;rcases yag.mp (I2.KR b hf)with z|z
   ·exact f1 z
   ·exact Bh z
 have Aq:∀y c,(Zh X.env.cells scope.names []).lookup y=some c->(∃v,s3.heap.IsCell c v)/\H2 c=none/\c≠D/\∀b∈fp,c≠b:=λy c e=>by
  have e':=cW y c e;exact⟨I3.cell y c e',I3.aB y c e',dH y c e',λb hb=>(f2 b hb).2.2.2.2.1 y c e'⟩
 have clt:∀y c,(Zh X.env.cells scope.names []).lookup y=some c->c<s3.heap.objs.size:=λy c e=>let ⟨⟨v,o,ho,_⟩,_⟩:=Aq y c e;eE c o ho;have cp:∀b∈D::fp,b<s3.heap.objs.size:=λb hb=>by
  rcases yag.mp hb with rfl|hb
  ·exact IR
  ·exact fP b hb
 have Bi:(ZV X (NB++FR) scope s3 H2 (D::fp)).Ok:=by
  refine⟨I3.ok.mod,S.kind,I3.ok.glob,I3.ok.blt,lA _,λy z c h1 h2=>?_,λy hy=>?_,(λy c z _=>nomatch z),I3.ok.hd,I3.ok.frames,.inl rfl,λb hb=>⟨yal (cp b hb),λy c e z=>?_⟩,I3.bs,yas I3.ok.cH I3.sz,Bg,iZ,I3.stack,I3.Ku⟩
  ·exact I3.ok.inj y z c (cW y c h1) (cW z c h2)
  ·exact K3 scope.names [] (.inr (US S.fb hy))
  ·obtain⟨_,_,n1,n2⟩:=Aq y c e;rcases yag.mp hb with q|q
   ·exact n1 (z.trans q)
   ·exact n2 b q z
 have l4:(replicate NB.length (none:Option V)++fv.map some).length=(NB++FR).length:=by
  have h1:=yaI List.length DE;have h2:=yaI List.length Ap;simp only[lu]at h1 h2;rw[lq,lq,lN,lu];lia
 have rep:∀(j:Nat)(v:V),(replicate NB.length (none:Option V)++fv.map some)[j]? =some (some v)->∃k,j=NB.length+k/\fv[k]? =some v:=λj v z=>by
  rw[List.getElem?_append]at z
  split at z
  ·rw[ybq]at z
   split at z<;>cases z
  ·rename_i hj;rw[lN]at hj z;refine⟨j-NB.length,by lia,?_⟩;rw[lK]at z;cases e:fv[j-NB.length]? with
   |none=>rw[e]at z;cases z
   |some y=>rw[e]at z;exact yaI some (lB (lB z))
 have Fv:∀(k:Nat)(v:V)(y:Str),fv[k]? =some v->FR[k]? =some y->∃i,X.N[i]? =some y/\σ[i]? =some (some v):=λk v y h1 h2=>by
  have a1:=yaI (λl=>l[k]?) DE;have a2:=yaI (λl=>l[k]?) Ap;simp only[lK,h1,h2]at a1 a2;cases e:fi[k]? with
  |none=>rw[e]at a1;cases a1
  |some i=>
   rw[e]at a1 a2;exact⟨i,lB a2,lB a1⟩
 have IB:Inv (ZV X (NB++FR) scope s3 H2 (D::fp)) [(D,Kk [])] (replicate NB.length none++fv.map some) H2 {s3 with heap:=h4,toks:=ip}:=by
  refine⟨Bi,Z,I3.bare,Un.kept Ty,⟨_,x4.ns,λi y v h1 h2 h3=>?_⟩,λy c h=>let ⟨⟨v,o,ho,hd⟩,_⟩:=Aq y c h;⟨v,o,Ty _ _ ho,hd⟩,I3.ag.fresh (lA _),λy c h=>(Aq y c h).2.1,λp hp=>?_,I3.ag.kept Ty,l4⟩
  ·obtain⟨k,rfl,hk⟩:=rep i v h2;have hy:FR[k]? =some y:=by
    have h1:(NB++FR)[NB.length+k]? =some y:=h1;rw[ycp (ycy _ _),Nat.add_sub_cancel_left]at h1;exact h1
   obtain⟨io,hN,hσ⟩:=Fv k v y hk hy;have ij:(y,NameKind.free)∈scope.names:=S.fr y (lM hy);obtain⟨m,_,hl⟩:=I3.loc;obtain⟨u,r,l⟩:=hl io y v hN hσ (.inr (.inl (DD _ ij Z)));refine⟨u,r,.inr ⟨.inl ?_,?_⟩⟩
   ·exact UR S.OW ij (by show(X.env.scope.kind==.function)=true;rw[I3.ok.kind];rfl) (DD _ ij Z)
   ·obtain⟨c,iu⟩:=K3 (cells:=X.env.cells) (x:=y) scope.names [] (.inr ij);refine⟨c,iu,?_⟩;have l5:=cW y c iu;rcases l with⟨hk,_⟩|⟨_,c',cJ,o,ho,hd⟩
    ·have e1:=DD _ ij rfl;rw[show X.env.kindOf y=X.env.scope.names.lookup y from rfl]at hk;rw[hk]at e1;cases e1
    ·rw[l5]at cJ;cases cJ;exact⟨o,Ty _ _ ho,hd⟩
  obtain rfl:p=(D,Kk []):=by simpa using hp
  exact⟨Ty _ _ cS,iX,yal IR,eB,λv z=>nomatch z⟩
 have on:∀{H':Hp}{ys:List Value},(∀b∈fp,H' b=none)->∀b∈fp,xc (ZV X (NB++FR) scope s3 H2 (D::fp)) [(D,Kk ys)] H' b:=λhn b hb=>
  ⟨hn b hb,yal (fP b hb),iZ b (lG _ hb),.inl (lG _ hb),λy c e z=>(Aq y c e).2.2.2 b hb z,λp hp=>by
    obtain rfl:p=(D,_):=by simpa using hp
    exact(Re b hb).symm⟩
 have i0:tn 0 h4:=T.keep _ _ _ dQ λb _ o e=>Ty b o e;have Bj:∀b∈fp,H2 b=none:=λb hb=>(f2 b hb).1;have dG:(ZV X (NB++FR) scope s3 H2 (D::fp)).calm=true:=hc;have loop:codeAny (model X.prog X.w) X.A (.compLoop (.ListComp elt [⟨tg,iter,ifs,0⟩] scope pos) 0 (.ref it) (.ref D) (ky scope X.env s3.heap.objs.size))
   (compPost (model X.prog X.w) X.A X.xe none (EP X U σ Q) (.ref D) s3.heap.objs.size) {s3 with heap:=h4,toks:=ip}:=by
  refine Vm (λn s'=>∃i vs ys H',Inv (ZV X (NB++FR) scope s3 H2 (D::fp)) [(D,Kk ys)] (replicate NB.length none++fv.map some) H' s'/\Vals vs ys/\vs.length<=sizeLine/\tn i s'.heap/\(∀b∈fp,H' b=none)/\W i n vs H') ?_ m0 ⟨0,[],[],H2,IB,.nil,lX _,i0,Bj,w0⟩;rintro n s5 ⟨i,vs,ys,H5,I5,rv,eG,dD,fL,w5⟩;rcases turn i n vs H5 w5 with⟨stop,qn⟩|⟨go,bn,N,hN,step⟩
  ·refine yaA (T.done (ZV X (NB++FR) scope s3 H2 (D::fp)) Z Z Z dG i _ s5 _ H5 (λ_ _=>False) I5 (on fL) dD stop) (λr s6⟨hr,I6⟩=>?_) (λ_ _ z=>z.elim);subst hr;obtain⟨m6,Bk,_⟩:=id I6.loc;refine⟨m6,Bk,λh7 E8=>?_⟩;have eI:∀b o,b≠s3.heap.objs.size->s6.heap.get? b=some o->h7.get? b=some o:=λb o hb e=>(E8.2 b hb).trans e;have o4:H5 s3.heap.objs.size=none:=I6.free;have Bl:Un (aI X.stack) (D::fp) H2 H5 s3.heap h7:=by
    have u:=I6.M;refine⟨λb o e n hb hx=>eI b o (yal (yae e)) (u.keep b o e n hb hx),λb o e n hb hx=>?_,u.free,λb o e hx=>?_,u.bq,u.bc,u.bf⟩
    ·obtain⟨sl,q⟩:=u.slot b o e n hb hx;exact⟨sl,eI b _ (yal (yae e)) q⟩
    ·obtain⟨o',q⟩:=u.there b o e hx;exact⟨o',eI b _ (yal (yae e)) q⟩
   have o6:aV X.prog X.w H5 h7:=λb u e=>(I6.ag b u e).KQ (λc w' dC q=>eI c w' (by
    rintro rfl;rcases dC with rfl|dC
    ·rw[o4]at e;cases e
    ·rw[o4]at dC;cases dC) q) (λ_ q=>q) λ_ _ q=>q
   have I7:Inv X U σ H5 {s6 with heap:=h7}:=I3.z8 (s':={s6 with heap:=h7}) I6.os Bl o6 I6.bare λb hb=>by
    rcases yag.mp hb with rfl|hb
    ·exact⟨.inr ss,ei,dH,eu⟩
    ·obtain⟨_,f1,_,f3,f4,f5⟩:=f2 b hb;exact⟨f3,f1,f4,f5⟩
   obtain⟨eD,nD,_⟩:=I6.pin (D,Kk ys) (by simp);have i4:H5 D=none:=nD;have Bm:h7.get? D=some (Kk ys):=eI D _ (yal IR) eD;have Bn:X.s₀.heap.get? D=none:=by
    cases q:X.s₀.heap.get? D with
    |none=>rfl
    |some o=>exact absurd (yad (yae q) ss) (lY _)
   exact⟨.ref D,upd H5 D (.lst vs),I7.wV i4 Bn ei dH eu ⟨eG,ys,ys.length,rv,Bm⟩,Z,qn D i4⟩
  ·refine yaA (T.item (ZV X (NB++FR) scope s3 H2 (D::fp)) Z Z Z dG i _ s5 _ H5 (λ_ _=>False) I5 (on fL) dD go) (λr s6⟨u,hr,h6⟩=>?_) (λ_ _ z=>z.elim);subst hr;refine yaA h6 (λ_ s7⟨x,H7,I7,r7,y7,eJ,Bo⟩=>?_) (λ_ _ z=>z.elim);have Bp:=I7.pinned (on Bo) (T.obj _ _ eJ);refine yaA (hg s3 H2 (D::fp) _ s7 _ H7 x u _ Bp r7 (step x H7 y7)) (λ_ s8⟨σ8,H8,I8,OX,q8⟩=>?_) (λ_ _ z=>z.elim);refine yaA (ht s3 H2 (D::fp) _ s8 σ8 H8 _ I8 q8) (λok s9⟨H9,I9,q9⟩=>?_) (λ_ _ z=>z.elim);have i5:∀{σ':St}{H':Hp}{s':Shared},Inv (ZV X (NB++FR) scope s3 H2 (D::fp)) ([(D,Kk ys)]++Vb fp s7.heap) σ' H' s'->tn (i+1) s'.heap/\∀b∈fp,H' b=none:=λJ=>
    ⟨T.keep _ _ _ eJ λb hb o e=>(J.pin (b,o) (lE _ (lE _ (Zb hb e)))).1,λb hb=>by
     obtain⟨o,e,d⟩:=T.obj _ _ eJ b hb;exact(J.pin (b,o) (lE _ (lE _ (Zb hb e)))).2.1⟩
   have wk:∀{H':Hp}{s':Shared}{pl:List (Addr × Obj)},Inv (ZV X (NB++FR) scope s3 H2 (D::fp)) pl σ8 H' s'->Inv (ZV X (NB++FR) scope s3 H2 (D::fp)) pl (replicate NB.length none++fv.map some) H' s':=λJ=>
    J.weak (l4.trans J.len.symm) λj v z=>by
     obtain⟨k,rfl,hk⟩:=rep j v z;have:=yaI (λl=>l[k]?) OX;simp only[ycb,lK,hk]at this;exact this
   cases ok with
   |false=>
    rw[yac (by decide)]at q9;rw[yac (by decide)];obtain⟨m',hm,w9⟩:=hN vs H9 q9;obtain⟨t9,f9⟩:=i5 I9;exact⟨m',hm,i+1,vs,ys,H9,wk I9.ZG,rv,eG,t9,f9,w9⟩
   |true=>
    rw[yaf rfl]at q9;rw[yaf rfl];refine yaA (he s3 H2 (D::fp) _ s9 σ8 H9 _ I9 q9) (λy cT⟨v,LE,eK,eM,Bq⟩=>?_) (λ_ _ z=>z.elim);obtain⟨eD,nD,_,nf,_⟩:=eK.pin (D,Kk ys) (by simp);have Br:=rv.length;refine append_at (hsz:=by show ys.toArray.size<=sizeLine;rw[lW, ←Br];exact eG) eD λi6 eN eO=>?_;obtain⟨m',hm,Bs⟩:=hN (vs++[v]) LE Bq;obtain⟨oQ,Bt⟩:=i5 eK;have eP:=eK.ZG;have i7:∀b o,b≠D->cT.heap.get? b=some o->i6.get? b=some o:=λb o hb e=>(eN.2 b hb).trans e;have IE:Inv (ZV X (NB++FR) scope s3 H2 (D::fp)) [] σ8 LE cT:=eP.XG λp hp=>nomatch hp;have Bu:Inv (ZV X (NB++FR) scope s3 H2 (D::fp)) [] σ8 LE {cT with heap:=i6}:=IE.turned (t':=cT.toks) i7 nD (yal IR) (.inl lH) (λy' c e z=>(Aq y' c e).2.2.1 z) (λp hp=>absurd (show p∈([]:List (Addr × Obj))from hp) (by simp));have eL:({cls:=.type "list",data:=.seq (ys.toArray.push y) (ys.length+1)}:Obj)=Kk (ys++[y]):=by
     show({cls:=.type "list",data:=.seq (ys.toArray.push y) (ys.length+1)}:Obj)={cls:=.type "list",data:=.seq (ys++[y]).toArray (ys++[y]).length};rw[lq,lC,ydL]
    refine⟨m',hm,i+1,vs++[v],ys++[y],LE,wk (Bu.XG λp hp=>?_),rv.append (.cons eM .nil),by rw[lq,lC];exact bn,T.keep _ _ _ oQ λb hb o e=>i7 b o (Re b hb) e,Bt,Bs⟩;obtain rfl:p=(D,Kk (ys++[y])):=by simpa using hp
    exact⟨by rw[←eL];exact eO,nD,yal IR,nf,λv z=>nomatch z⟩
 exact ycQ loop (T.self _ 0 _ _ _ i0 loop)
end
section
theorem Inv.kz{ch:List Addr}(I:Inv X U σ H s)(hf:∀b∈ch,xc X U H b) (k:∀b o,b∉ch->s.heap.get? b=some o->h'.get? b=some o):Inv X U σ H {s with heap:=h',toks:=t'}:=by
 have iP:∀b u,H b=some u->b∉ch:=λb u e z=>by rw[(hf b z).1]at e;cases e
 refine I.step (g':=s.gens) (d':=s.drawn) (ch:=ch) (λb hb=>?_) (λb o _ _ hc e _=>k b o hc e) (λb o _ _ hc e _=>⟨o.slots,k b o hc e⟩) (λ_ _ _ _ n=>n) (λb o hc e=>⟨o,k b o hc e⟩) (λ_ _ e=>e) (λ_ _ _ e=>e) (λb ps e=>⟨#[],by rw[e];simp⟩) (λm hm=>?_) (λb u e=>?_) I.bare
 ·obtain⟨_,f1,_,f3,f4,f5⟩:=hf b hb;exact⟨f3,f1,f4,f5⟩
 ·obtain⟨o,es,ep,ho,r⟩:=hm;exact⟨o,es,ep,k _ o (λz=>(hf _ z).2.1 Z) ho,r⟩
 ·refine(I.ag b u e).KQ (λc v hc q=>k c v ?_ q) (λ_ q=>q) λ_ _ q=>q;rcases hc with z|z
  ·rw[z];exact iP b u e
  ·exact iP c _ z
theorem Inv.kA{t':Nat}{ch:List Addr}{T:Addr}{xs:List V}(I:Inv X U σ H s)(hf:∀b∈ch,xc X U H b) (k:∀b o,b∉ch->s.heap.get? b=some o->h'.get? b=some o) (hT:s.heap.objs.size<=T)
  (new:JU X.prog X.w (upd H T (.tup xs)) h' T (.tup xs)):Inv X U σ (upd H T (.tup xs)) {s with heap:=h',toks:=t'}:=by
 have hn:=I.ag.fresh hT;have iP:∀b u,H b=some u->b∉ch:=λb u e z=>by rw[(hf b z).1]at e;cases e
 have nT:∀b o,H b=some o->upd H T (.tup xs) b=some o:=λb o e=>by rw[Qx (Qz e hn)];exact e
 refine I.step (g':=s.gens) (d':=s.drawn) (ch:=ch) (λb hb=>?_) (λb o _ _ hc e _=>k b o hc e) (λb o _ _ hc e _=>⟨o.slots,k b o hc e⟩) (λb o _ e n=>?_) (λb o hc e=>⟨o,k b o hc e⟩) (λb ys e=>nT b _ e) (λb o u e=>nT b _ e) (λb ps e=>⟨#[],by rw[nT b _ e];simp⟩) (λm hm=>?_) (λb u e=>?_) I.bare
 ·obtain⟨_,f1,_,f3,f4,f5⟩:=hf b hb;exact⟨f3,f1,f4,f5⟩
 ·rw[Qx (λz=>absurd (yae e) (by rw[z];exact yeC.mpr hT))];exact n
 ·obtain⟨o,es,ep,ho,r⟩:=hm;exact⟨o,es,ep,k _ o (λz=>(hf _ z).2.1 Z) ho,r⟩
 ·by_cases hb:b=T
  ·subst hb;rw[Qe]at e;cases e;exact new
  ·rw[Qx hb]at e;refine(I.ag b u e).KQ (λc v hc q=>k c v ?_ q) (λc q=>nT c _ q) λc ys q=>nT c _ q;rcases hc with z|z
   ·rw[z];exact iP b u e
   ·exact iP c _ z
end
noncomputable def BQ(z:Str):It:=⟨λi _=>i<z.cps.size,λi H x H'=>∃p c,H p=none/\z.cps[i]? =some c/\x=.ref p/\H'=upd H p (.tup [.int (i:Nat),.str ⟨#[c]⟩]),λi _=>z.cps.size<=i⟩
theorem zM{P:Program}{w:World}{K:Frag}{es:List Expr}{k:Nat}{pos:Pos}(e it:Addr)(Fw:e≠it)(z:Str)(t:Tok):
  Turn P w K (.Tuple es k pos) (BQ z) [e,it] e (λi h=>(∃old,IsEnum h e it (i:Nat) old)/\h.IsStrIter it "str_ascii_iterator" z t (min i z.cps.size)) where
 mem:=by simp
 obj:=λi h st b hb=>by
  obtain⟨⟨old,he⟩,o,ho,hc,hd⟩:=st;rcases yag.mp hb with rfl|hb
  ·exact⟨_,he,λv q=>nomatch (show Data.fields _=Data.cell v from q)⟩
  ·obtain rfl:b=it:=by simpa using hb
   exact⟨o,ho,λv q=>by rw[hd]at q;cases q⟩
 keep:=λi h h' st kk=>by
  obtain⟨⟨old,he⟩,o,ho,r⟩:=st;exact⟨⟨old,kk e (by simp) _ he⟩,o,kk it (by simp) o ho,r⟩
 item:=by
  intro X hP hw hK hc i U s σ H E I hf st hg;subst hP hw hK;obtain⟨⟨old,he⟩,ge⟩:=st;have e8:i<z.cps.size:=hg;rw[ybb (ybi e8)]at ge;have D:=ycv (prog:=X.prog) (w:=X.w) (A:=X.A.in1) (I.ok.hd hc) it z t;refine wpAny_pyNext_enum_itemD D he ge e8 Fw (by simpa using Fw) λx h1 tk hx ho OY hT hsz hk=>⟨_,Z,?_⟩;obtain⟨c,u,oJ,rfl⟩:=hx;refine wpAny_letOwnedTupleGo_enum ho λh2 Fx fV=>?_;have O0:s.heap.objs.size≠e:=λq=>absurd (yae he) (by rw[←q];exact lY _);refine⟨.ref s.heap.objs.size,upd H s.heap.objs.size (.tup [.int (i:Nat),.str ⟨#[c]⟩]),I.kA (ch:=[e,it]) hf (λb o hb q=>?_) (lA _) ?_,Z,⟨_,c,I.ag.fresh (lA _),oJ,Z,Z⟩,⟨⟨_,Fx⟩,?_⟩,λb hb=>?_⟩
  ·simp only[yag,yay,ybk,not_or]at hb;exact(fV.2 b hb.1).trans (hk b o hb.1 hb.2 q)
  ·exact⟨by show 2<=sizeLine;decide,[.int (i:Nat) tk,.str ⟨#[c]⟩ u],.cons ⟨_,Z⟩ (.cons ⟨_,Z⟩ .nil),⟨_,(fV.2 _ O0).trans hT,Z,_,Z,Z⟩⟩
  ·rw[ybb (show i+1<=z.cps.size from e8)];obtain⟨o,Ai,r1⟩:=OY;exact⟨o,(fV.2 it Fw.symm).trans Ai,r1⟩
  ·have bn:b<s.heap.objs.size:=by
    rcases yag.mp hb with q|q
    ·rw[q];exact yae he
    ·obtain⟨o,Ai,_⟩:=ge;rw[show b=it by simpa using q];exact yae Ai
   rw[Qx (yal bn)];exact(hf b hb).1
 done:=by
  intro X hP hw hK hc i U s σ H E I hf st hg;subst hP hw hK;obtain⟨⟨old,he⟩,ge⟩:=st;have e8:z.cps.size<=i:=hg;rw[ydX e8]at ge;have D:=ycv (prog:=X.prog) (w:=X.w) (A:=X.A.in1) (I.ok.hd hc) it z t;exact wpAny_pyNext_enum_endD D he ge λh1 eb=>⟨Z,I.kz (t':=s.toks) (ch:=[e,it]) hf λb o hb q=>eb b o (λr=>hb (by simp[r])) q⟩
 self:=λ_ _ _ _ _ st h=>let ⟨⟨_,he⟩,_⟩:=st;wpAny_pyIter_enum he h
section
def O1(ta:TA):TI:=λσ H R=>ta σ H λvs H1=>∃z:Str,vs=[.str z]/\z.cps.all (· <128)=true/\R (BQ z) H1
theorem YU{p pos:Pos}(hg:Gl X "enumerate")(hm:X.mg "enumerate"=none)(ha:PA X [a] ta)(hs:starEach [a] X.env=[(false,eval a X.env)]:=by rfl):
  PI X (.Tuple es k tp) (.Call (.Name "enumerate" p) [a] [] pos) (O1 ta):=by
 intro U s σ H R I h;refine Call_ (WF I hg hm boot_enumerate (yaT (au (ha pos U s σ H _ I h) λus s1⟨vs,H1,I1,r1,z,e,hz,q⟩=>?_) hs Z));subst e;obtain⟨u,rfl,t,rfl⟩:=vals1 r1;refine call_enumerate_str λh1 he ge hsz hk=>?_;rw[show strIterType z="str_ascii_iterator" by unfold strIterType;rw[hz];rfl]at ge;refine wpAny_pyIter_enum (s:={s1 with heap:=h1}) he ?_;refine⟨_,[s1.heap.objs.size+1,s1.heap.objs.size],_,_,H1,Z,I1.kept (t':=s1.toks) hk,zM _ _ (Nat.succ_ne_self _) z t,⟨⟨_,he⟩,by simpa using ge⟩,λb hb=>?_,q⟩;have fT:s1.heap.objs.size<=b:=by
  simp only[yag,yay,ybk]at hb;rcases hb with rfl|rfl
  ·exact Nat.le_succ _
  ·exact lA _
 exact I1.wC fT (I1.ag.fresh fT)
end
section
variable {prog:Program}
theorem vM(h:Q false s):wpAny (model prog w) A (Builtin.List.listLengthHint (.str z t)) Q E s:=by
 unfold Builtin.List.listLengthHint;refine yab (ydq (ybY _ _ _) F.slot_str_len.lookup ?_);generalize aO:("str.__len__":String)=Dy
 wp_delta
 rw[show splitId Dy=some ("str","__len__")from by subst aO;decide+kernel];subst aO;refine yab (ydU (T:="str") (b:=true) (ybY _ _ _) (by rw[isSubtype_type];kernel_rfl) ?_);refine yek (λOp=>absurd Op (by decide)) (λ_=>yek (λ_=>?_) (λOp=>absurd (by decide+kernel) Op));exact yab (ydA (T:="str") (ybY _ _ _) (yan h))
theorem vN(hh:A.handled=none)(ha:z.cps.all (· <128)=true)(hlen:z.cps.size<=sizeLine)(S:Addr)(hS:s.heap.get? S=some {cls:=.type "list",data:=.seq #[]})
  (hR:∀h' tk Ps c',(∀b o,b≠S->s.heap.get? b=some o->h'.get? b=some o)->h'.get? S=some {cls:=.type "list",dict:=none,data:=.seq Ps c',slots:= #[]}->ItemsOf (SignAt z) Ps z.cps.size->R (.ok (.ret .none)) {s with heap:=h',toks:=tk}):
  wpAny (model prog w) A.in1 (Builtin.«list.__init__» ⟨[.ref S,.str z t],[]⟩) (λfin s'=>match fin with| .done f=>R (.ok f) s'| .again c'=>c'.quiet=true/\codeAny (model prog w) A c' R s') (λe s'=>R (.error e) s') s:=by
 show wpAny _ _ (do let old←Builtin.List.listItems (.ref S);Builtin.List.listUpdate (.ref S) (λ_=> #[]);letGo old.toList.reverse;Builtin.List.listExtendWith (.ref S) (.str z t) .none) _ _ s;refine yab ?_;unfold Builtin.List.listItems;refine yab (ybZ hS Z (yan ?_));show wpAny _ _ (updateSeq S (λ_=> #[])>>=λ_=>letGo (#[]:Array Value).toList.reverse>>=λ_=>Builtin.List.listExtendWith (.ref S) (.str z t) .none) _ _ s;refine yab (wpAny_updateSeq hS Z (yab (yex ?_)));have g2:=Heap.get?_update_self (Obj.mapSeq (λ_=>(#[]:Array Value))) hS rfl;have Fy:∀b o,b≠S->s.heap.get? b=some o->(s.heap.update S (Obj.mapSeq (λ_=>(#[]:Array Value)))).get? b=some o:=λb o hb e=>(ycP _ _ (Ne.symm hb)).trans e;generalize s.heap.update S (Obj.mapSeq (λ_=>(#[]:Array Value)))=hp at g2 Fy;have Fz:S<hp.objs.size:=yae g2;have Fb:S≠hp.objs.size:=yal Fz;unfold Builtin.List.listExtendWith;refine yab (ydA (T:="str") (ybY _ _ _) ?_);have h1:Builtin.List.listSameRef (.ref S) (.str z t)=false:=rfl;have h2:(Value.type "str"==Value.type "list")=false:=by decide
 have h3:(Value.type "str"==Value.type "tuple")=false:=by decide
 simp only[h1,h2,h3,ydf,ycJ,ycw];refine yab (ycM ha (yab (ycE (vM ?_))));refine yek (λOp=>absurd Op (by decide+kernel)) (λ_=>yan ⟨plainId_quiet F.plain_extend_loop _,?_⟩);have W:=(Walks.strAscii (prog:=prog) (w:=w) (A:=A.in1) hh hp.objs.size z t).toS;refine codeAny_extend_loopS W hlen S (λhm=>Fb (yak.mp hm)) .none z.cps.size 0 _ #[] _ rfl (lX _) ⟨_,yam _ rfl,Z,Z⟩ (yaa _ g2) (ItemsOf.nil _) λs' Ps c' hm Fc Sc=>?_;rw[Moved.eq_with hm];refine hR s'.heap s'.toks Ps c' (λb o hb e=>hm.heap b o (λsd=>?_) (yaa _ (Fy b o hb e))) Fc Sc;rcases yag.mp sd with e'|sd
 ·exact hb e'
 ·exact absurd (yae (Fy b o hb e)) (by rw[yak.mp sd];exact lY _)
end
noncomputable def Ym(z:Str):List V:=z.cps.toList.map λc=>.str ⟨#[c]⟩
theorem zN{acc:Array Value}(h:ItemsOf (SignAt z) acc z.cps.size):Vals (Ym z) acc.toList:=by
 have key:∀(l:List Nat)(us:List Value),us.length=l.length->(∀(j:Nat)(v:Value),us[j]? =some v->∃c u,l[j]? =some c/\v=Value.str ⟨#[c]⟩ u)->Vals (l.map λc=>V.str ⟨#[c]⟩) us:=by
  intro l
  induction l with
  |nil=>intro us hl _;rw[yaH.mp hl];exact .nil
  |cons c r ih=>
   intro us hl hv;cases us with
   |nil=>cases hl
   |cons v us=>
    obtain⟨c',u,e1,e2⟩:=hv 0 v rfl;cases e1;exact .cons ⟨u,e2⟩ (ih us (by simpa using hl) λj v hj=>hv (j+1) v hj)
 refine key z.cps.toList acc.toList (by rw[lV,lV];exact h.1) λj v hj=>?_;obtain⟨c,u,e1,e2⟩:=h.2 j v (by rw[←hj,yce]);exact⟨c,u,by rw[←e1,yce],e2⟩
section
theorem call_list_str(hc:X.calm=true):Wj X (.type "list") (λxs H Q=>∃z:Str,xs=[.str z]/\z.cps.all (· <128)=true/\z.cps.size<=sizeLine/\∀l,H l=none->Q (.ref l) (upd H l (.lst (Ym z)))):=by
 intro U s σ H xs us Q I r h;obtain⟨z,rfl,ha,hlen,q⟩:=h;obtain⟨u,rfl,t,rfl⟩:=vals1 r;refine callType_codes (Q₁:=λobj s₁=>obj=.ref s.heap.objs.size/\s₁={s with heap:=s.heap.push {cls:=.type "list",data:=.seq #[]}}) F.called_list (F.typeCall_list_1 _) F.entry_list_init (code_list_new _ ⟨Z,Z⟩) λobj s₁ h₁=>?_;obtain⟨rfl,rfl⟩:=h₁;have g1:(s.heap.push {cls:=.type "list",data:=.seq #[]}).get? s.heap.objs.size=some {cls:=.type "list",data:=.seq #[]}:=yam _ rfl;refine⟨⟨_,g1,Z⟩,F.args_list_init_2 _ _,vN (A:=X.A.in1) (I.ok.hd hc) ha hlen _ g1 λh' tk acc c' hk hS Sc=>⟨Z,?_⟩⟩;have rv:=zN Sc;refine⟨.ref s.heap.objs.size,_,I.laid (t':=tk) (λb o e=>hk b o (yal (yae e)) (yaa _ e)) (lA _) (show JU X.prog X.w _ h' _ (.lst (Ym z))from⟨?_,acc.toList,c',rv,by rw[Array.toArray_toList];exact hS⟩),Z,q _ (I.ag.fresh (lA _))⟩;unfold Ym;rw[lu,lV];exact hlen
end
inductive bP (w:World):List DictEntry->List (Key × V)->Prop where
 |nil:bP w [] []
 |cons {h:Int} {x y:Str} {t u:Tok} {es:List DictEntry} {al:List (Key × V)} (e:h=oB w (.inr x)) (r:bP w es al):bP w (⟨h,.str x t,.str y u⟩::es) ((Sum.inr x,.str y)::al)
theorem bP.pairs{al:List (Key × V)}(h:bP w es al):∃vs,KV al vs/\Pairs (Jr P w) es vs/\vs.map (·.1)=al.map (·.1)/\∀e∈es,∃k,(Jr P w).is k e.key=true/\e.hash=oB w k:=by
 induction h with
 |nil=>exact⟨[],.nil,.nil,Z,λe he=>by cases he⟩
 |@cons hh x y t u es al e r ih=>
  obtain⟨vs,h1,h2,h3,h4⟩:=ih;refine⟨(Sum.inr x,.str y u)::vs,.cons ⟨Z,_,Z⟩ h1,.cons (JJ P w x t) rfl h2,by rw[lU,lU,h3],λq hq=>?_⟩;rcases yag.mp hq with rfl|hq
  ·exact⟨_,JJ P w x t,e⟩
  ·exact h4 q hq
theorem kB{K:Frag}{n:Nat}{al:List (Key × V)}(ne:(a==sysModules)=false)(l:K.lookup a=some ⟨.type "dict",none,.dict es n, #[]⟩)(h:bP w es.toList al)(nd:(al.map (·.1)).Nodup):aA P w K a al:=by
 obtain⟨vs,h1,h2,h3,h4⟩:=h.pairs (P:=P);exact⟨ne,λhp KX=>⟨vs,h1,_,_,_,KX a _ l,⟨Z,Z,Z⟩,Z,λe he=>h4 e (by simpa using he),h2,by rw[h3];exact nd⟩⟩
section
variable {ty:TE}{al:List (Key × V)}
def O2(a:Addr)(al:List (Key × V))(ty td:TE):TE:=λσ H Q=>ty σ H λy H1=>td σ H1 λx H2=>∃k,x=.ref a/\y=kV k/\Q (.bl (Wm al k).isSome) H2
theorem O3(D:aA X.prog X.w X.K a al)(hi:PE X i ty)(ho:PE X o td):PC X .In i o (O2 a al ty td):=by
 intro U s σ H Q I h;refine au (hi U s σ H _ I h) λiv s1⟨y,H1,I1,ry,q1⟩=>au (ho U s1 σ H1 _ I1 q1) λu s2⟨x,H2,I2,rx,k,ex,ey,q2⟩=>?_;subst ex ey;obtain rfl:u=Value.ref a:=rx;obtain⟨vs,rel,dd⟩:=D.ok s2.heap I2.bt;refine wpAny_in_of (Ur ry) D.ne dd.mapOf ?_;rw[←(rel.val k).Vg];exact⟨.bl _,H2,I2.tok _,Z,q2⟩
end
end L2
namespace aW
open PySem PySem.NumText Builtin Builtin.Str StrLaws
theorem O4(lo:Option Int)(k n:Nat)(hk:1<=k):strSliceIndices lo (some (-(k:Int))) 1 n=strSliceIndices lo (some ((n-k:Nat):Int)) 1 n:=by
 unfold strSliceIndices;have h1:(-(k:Int)<0):=by lia
 have h2:¬ (((n-k:Nat):Int)<0):=by lia
 have h3:max (0:Int) (min (-(k:Int)+n) n)=max (0:Int) (min ((n-k:Nat):Int) n):=by lia
 simp only[h1,h2,ybM,ycw,h3,show((1:Int)>0)=True from by simp]
theorem O5(hi:Option Int)(k n:Nat)(hk:1<=k):strSliceIndices (some (-(k:Int))) hi 1 n=strSliceIndices (some ((n-k:Nat):Int)) hi 1 n:=by
 unfold strSliceIndices;have h1:(-(k:Int)<0):=by lia
 have h2:¬ (((n-k:Nat):Int)<0):=by lia
 have h3:max (0:Int) (min (-(k:Int)+n) n)=max (0:Int) (min ((n-k:Nat):Int) n):=by lia
 simp only[h1,h2,ybM,ycw,h3,show((1:Int)>0)=True from by simp]
theorem UU(l:List Nat){k:Nat}(hk:1<=k):sliceText (tx l) none (some (-(k:Int)))=tx (l.take (l.length-k)):=by
 have e:sliceText (tx l) none (some (-(k:Int)))=sliceText (tx l) none (some ((l.length-k:Nat):Int)):=by
  unfold sliceText;rw[O4 none k _ hk,Qi]
 rw[e,Kd l (by lia)]
theorem X2(l:List Nat){k:Nat}(hk:1<=k):sliceText (tx l) (some (-(k:Int))) none=tx (l.drop (l.length-k)):=by
 have e:sliceText (tx l) (some (-(k:Int))) none=sliceText (tx l) (some ((l.length-k:Nat):Int)) none:=by
  unfold sliceText;rw[O5 none k _ hk,Qi]
 rw[e,JY]
theorem Kg(l:List Nat):sliceText (tx l) none (some (-1))=tx l.dropLast:=by
 have:=UU l (k:=1) (lA _);rw[List.dropLast_eq_take];exact this
theorem Zr{l:List Nat}(h:l≠[]):∃d,l=l.dropLast++[d]/\l.getLast?=some d:=⟨l.getLast h,(List.dropLast_concat_getLast h).symm,List.getLast?_eq_some_getLast h⟩
noncomputable def pad(n k:Nat):List Nat:=replicate (k-(dec n).length) 48++dec n
theorem X3(n k:Nat):AllDigits (pad n k):=xQ (xR _) (qB n)
theorem YV(n k:Nat):digitsVal (pad n k)=n:=by unfold pad;rw[Xc,qD,xP,yeH,ybd]
theorem kC(n k:Nat):pad n k≠[]:=λz=>by
 have h:=yaI List.length z;unfold pad at h;have h2:=yL n;rw[lq,ybw]at h;lia
theorem dec_lt(h:n<10^k)(hk:1<=k):(dec n).length<=k:=by
 rcases ybc k (dec n).length with q|q
 ·exfalso
  by_cases h0:n=0
  ·subst h0;have:(dec 0).length=1:=by decide
   lia
  ·have h1:(Nat.toDigits 10 n).length<=k:=(Nat.length_toDigits_le_iff (by decide) hk).mpr h;unfold dec at q;rw[lu]at q;lia
 ·exact q
theorem Xn(h:n<10^k)(hk:1<=k):(pad n k).length=k:=by
 have:=dec_lt h hk;unfold pad;rw[lq,lN];lia
theorem VG(n:Nat){k:Nat}(hk:1<=k):Txt.zfill (tx (dec n)) (k:Int)=tx (pad n k):=by
 obtain⟨o,rfl⟩:∃o,k=o+1:=⟨k-1,by lia⟩;have:=xS n o;push_cast;rw[this];rfl
theorem yQ:∀d:Nat,48<=d->d<=57->("pqrstuvwxy":Str).cps.toList[d-48]? =some (d+64):=by
 intro d h1 h2;have key:∀k:Nat,k<10->("pqrstuvwxy":Str).cps.toList[k]? =some (k+112):=by decide+kernel
 have:=key (d-48) (by lia);rw[this]
 congr 1
 lia
theorem O6:("pqrstuvwxy":Str)=tx [112,113,114,115,116,117,118,119,120,121]:=by decide+kernel
theorem O7(h:AllDigits [d]):digitsVal [d]=d-48:=by simp[digitsVal]
theorem UV(cs:Str)(l:List Nat):decide (Txt.stripChars (tx l) cs=(Str.empty:Str))=decide (∀c∈l,cs.cps.contains c=true):=by
 unfold Txt.stripChars Txt.stripBy stripSame stripped stripLo stripHi;simp only[ybM,Qi];generalize hp:(cs.cps.contains:Nat->Bool)=p
 by_cases h:∀c∈l,p c=true
 ·rw[ly h,ly];have e1:(tx l).cps.toList.takeWhile p=l:=takeWhile_all λc hc=>h c hc;rw[e1];have e2:(tx l).cps.toList.drop l.length=[]:=yaz (lA _);rw[e2];show(if(l.length==0&&l.length==l.length)=true then tx l else strSub (tx l) l.length l.length)=Str.empty
  by_cases hz:(l.length==0&&l.length==l.length)=true
  ·rw[yaf hz];have:l.length=0:=by
    simp only[yaO,yck]at hz;exact hz.1
   rw[yaH.mp this];rfl
  ·rw[yac hz,V1 (strSub _ _ _),strSub_toList,yeI,yeu];rfl
 ·rw[lx h,lx];have bn:((tx l).cps.toList.takeWhile p).length<l.length:=by
   have hle:((tx l).cps.toList.takeWhile p).length<=l.length:=ybV (yaU p);rcases ybc ((tx l).cps.toList.takeWhile p).length l.length with z|z
   ·exact z
   ·refine absurd (λc hc=>?_) h;have e:(tx l).cps.toList.takeWhile p=l:=ybn (yaU p) z;rw[←e]at hc;exact UE hc
  generalize Db:((tx l).cps.toList.takeWhile p).length=lo at bn;have eQ:∃a r,l.drop lo=a::r/\p a=false:=by
   have hd:l.dropWhile p=l.drop lo:=by
    have:=ybP (p:=p) (l:=l);have e3:l.drop lo=((l.takeWhile p)++l.dropWhile p).drop lo:=by rw[this]
    rw[e3,ybo (by rw[←Db];exact lA _),yaz (by rw[←Db];exact lA _),lR]
   cases hx:l.drop lo with
   |nil=>
    have:=yaI List.length hx;rw[lJ,ybw]at this;lia
   |cons a r=>
    refine⟨a,r,Z,?_⟩;rw[hx]at hd;have:=ydO (p:=p) (l:=l);rw[hd]at this;simpa using this
  obtain⟨a,r,hx,iq⟩:=eQ;have f8:(tx l).cps.toList.drop lo=a::r:=hx;rw[f8];have i8:r.length+1=l.length-lo:=by
   have:=yaI List.length hx;rw[lJ,lD]at this;lia
  have hk:((a::r).reverse.takeWhile p).length<=r.length:=by
   rw[List.reverse_cons];have hle:((r.reverse++[a]).takeWhile p).length<=r.length:=by
    by_cases ol:∀c∈r.reverse,p c=true
    ·rw[ydj ol,ybU,iq];simp
    ·have:((r.reverse++[a]).takeWhile p).length<(r.reverse++[a]).length:=by
      have hle:((r.reverse++[a]).takeWhile p).length<=(r.reverse++[a]).length:=ybV (yaU p);rcases ybc ((r.reverse++[a]).takeWhile p).length (r.reverse++[a]).length with z|z
      ·exact z
      ·have e:(r.reverse++[a]).takeWhile p=r.reverse++[a]:=ybn (yaU p) z;have:p a=true:=UE (l:=r.reverse++[a]) (by rw[e];simp);rw[iq]at this;cases this
     rw[lq,yds,lC]at this;lia
   exact hle
  split
  ·intro z;have:=yaI (λz:Str=>z.cps.toList.length) z;have e0:l.length=0:=this;lia
  ·intro z;have:=yaI (λz:Str=>z.cps.toList.length) z;have e0:(strSub (tx l) lo (l.length-((a::r).reverse.takeWhile p).length)).cps.toList.length=0:=this;rw[strSub_toList,lI,Jt,hx,lD]at e0;lia
theorem Wu(hd:AllDigits l):decide (L2.V.str (Txt.stripChars (tx l) "0")=L2.V.str "")=decide (digitsVal l=0):=by
 have e:("":Str)=Str.empty:=by decide+kernel
 have h:=UV "0" l;have e0:∀c,("0":Str).cps.contains c=true↔c=48:=λc=>by
  have e1:("0":Str).cps= #[48]:=by decide+kernel
  rw[e1];simp
 have hv:(∀c∈l,("0":Str).cps.contains c=true)↔digitsVal l=0:=by
  constructor
  ·intro h;have:l=replicate l.length 48:=yel.mpr ⟨Z,λb hb=>(e0 b).mp (h b hb)⟩;rw[this,qD]
  ·intro h c hc;rw[e0];obtain⟨a,b,rfl⟩:=List.append_of_mem hc;have hb:=hd c hc;rw[Xc]at h;have h2:digitsVal (c::b)=0:=by lia
   have h3:digitsVal (c::b)=digitsVal [c]*10^b.length+digitsVal b:=Xc [c] b;have h4:digitsVal [c]=c-48:=by simp[digitsVal]
   rw[h4]at h3;have h5:0<10^b.length:=ycz (by decide);have h6:(c-48)*10^b.length=0:=by lia
   rcases Nat.mul_eq_zero.mp h6 with z|z
   ·lia
   ·lia
 by_cases hz:digitsVal l=0
 ·rw[ly hz];rw[ly (hv.mpr hz)]at h;rw[ly];rw[yap h,e]
 ·rw[lx hz];rw[lx λz=>hz (hv.mp z)]at h;rw[lx];intro q;exact yav h (by rw[L2.V.str.inj q,e])
theorem O8:∀(n:Nat)(a b:List Nat),a.length=n->b.length=n->AllDigits a->AllDigits b->digitsVal a=digitsVal b->a=b:=by
 intro n
 induction n with
 |zero=>
  intro a b ha hb _ _ _;rw[yaH.mp ha,yaH.mp hb]
 |succ n ih=>
  intro a b ha hb da db hv;obtain⟨x,hx,_⟩:=Zr (l:=a) (λz=>by rw[z]at ha;cases ha);obtain⟨y,hy,_⟩:=Zr (l:=b) (λz=>by rw[z]at hb;cases hb);have de:digitsVal [x]=x-48:=by simp[digitsVal]
  have FA:digitsVal [y]=y-48:=by simp[digitsVal]
  have dx:=da x (by rw[hx];exact lE _ (yak.mpr Z));have dy:=db y (by rw[hy];exact lE _ (yak.mpr Z));have la:a.dropLast.length=n:=by rw[yaN];lia
  have lb:b.dropLast.length=n:=by rw[yaN];lia
  have pa:AllDigits a.dropLast:=λc hc=>da c (ybJ _ hc);have pb:AllDigits b.dropLast:=λc hc=>db c (ybJ _ hc);rw[hx,hy,Xc,Xc,de,FA]at hv;simp only[lC,Nat.pow_one]at hv;have h1:digitsVal a.dropLast=digitsVal b.dropLast:=by lia
  have h2:x=y:=by lia
  rw[hx,hy,ih _ _ la lb pa pb h1,h2]
theorem jI(n:Nat)(hk:1<=k):(replicate k 48++dec n).drop ((replicate k 48++dec n).length-k)=pad (n % 10^k) k:=by
 generalize hL:replicate k 48++dec n=qLa;have dL:AllDigits qLa:=by rw[←hL];exact xQ (xR _) (qB n)
 have lL:k<=qLa.length:=by rw[←hL,lq,lN];lia
 have vL:digitsVal qLa=n:=by rw[←hL,Xc,qD,xP,yeH,ybd]
 have dd:AllDigits (qLa.drop (qLa.length-k)):=λc hc=>dL c (yaY hc);have ld:(qLa.drop (qLa.length-k)).length=k:=by rw[lJ];lia
 have hm:n % 10^k<10^k:=Nat.mod_lt _ (ycz (by decide));refine O8 k _ _ ld (Xn hm hk) dd (X3 _ _) ?_;rw[YV];have hv:=Xc (qLa.take (qLa.length-k)) (qLa.drop (qLa.length-k));rw[yem,vL,ld]at hv;have bn:=XQ dd;rw[ld]at bn;rw[hv,ydB,Nat.mul_add_mod,Nat.mod_eq_of_lt bn]
theorem vO(l:List Nat)(h:l[i]? =some d)(hn:∀j,j<i->l[j]? ≠some d):∃r,Builtin.Str.occurrences (tx l) (tx [d]) 0 (tx l).length 1=i::r:=by
 rcases occ_head (tx l) (tx [d]) 1 (lA _)with⟨h1,h2⟩|⟨j,t,h1,h2,h3⟩
 ·exact absurd ((subAt_one (tx l) d i).mpr h) (h2 i)
 ·refine⟨t,?_⟩;rw[h1];have hj:l[j]? =some d:=(subAt_one (tx l) d j).mp h2;have e:j=i:=by
   rcases Nat.lt_trichotomy j i with z|z|z
   ·exact absurd hj (hn j z)
   ·exact z
   ·exact absurd ((subAt_one (tx l) d i).mpr h) (h3 i z)
  rw[e]
end aW
namespace bS
open aW aK PySem.NumText
noncomputable def fit(u o:Int)(a b:Nat):Int:=if aE.zx u o b<0 then-(aE.Kc (aE.zx u o b) % aE.aP ((a:Int)+b))else aE.Kc (aE.zx u o b) % aE.aP ((a:Int)+b)
noncomputable def Wv(l:List Nat):List Nat:=l.dropLast++[l.getLast?.getD 48+64]
noncomputable def cont(s:Bool)(a b:Nat)(u o:Int):List Nat:=if s=true/\fit u o a b<0 then Wv (pad (fit u o a b).natAbs (a+b))else pad (fit u o a b).natAbs (a+b)
noncomputable def JP(s:Bool)(l:List Nat):Bool:=s&&(([112,113,114,115,116,117,118,119,120,121]:List Nat).contains (l.getLast?.getD 0))
noncomputable def Jk(s:Bool)(l:List Nat):List Nat:=if JP s l=true then l.dropLast++[l.getLast?.getD 0-64]else l
noncomputable def Jb(s:Bool)(l:List Nat):Int:=if JP s l=true then-(digitsVal (Jk s l):Int)else(digitsVal (Jk s l):Int)
def VH(s:Bool)(a b:Nat)(l:List Nat):Prop:=l.length=a+b/\AllDigits (Jk s l)
noncomputable instance (s:Bool)(a b:Nat)(l:List Nat):Decidable (VH s a b l):=inferInstanceAs (Decidable (_/\_))
theorem UW(u o:Int)(a b:Nat):(fit u o a b).natAbs<10^(a+b):=by
 have h1:=ybx (aE.Kc (aE.zx u o b)) (ybR (aE.J3 ((a:Int)+b)));have h2:=ybe (aE.Kc (aE.zx u o b)) (aE.J3 ((a:Int)+b));have h3:aE.aP ((a:Int)+b)=((10^(a+b):Nat):Int):=by
  unfold aE.aP;have:((a:Int)+b).toNat=a+b:=by lia
  rw[this];push_cast;rfl
 rw[h3]at h1 h2;unfold fit;rw[h3]
 split<;>lia
end bS
namespace Lw
open PySem PySem.Spec PyProof.Rows L2 aW aK bS
open Builtin Builtin.Str StrLaws
theorem vP:∀ls:List (List Nat),Txt.join "" (ls.map tx)=tx ls.flatten:=by
 intro ls;show Builtin.Str.glued _ _=_;rw[yda];have e:("":Str)=tx []:=by decide+kernel
 rw[e]
 induction ls with
 |nil=>rfl
 |cons a r ih=>
  cases r with
  |nil=>simp[PySem.Str.join]
  |cons b r=>
   show tx a++tx []++PySem.Str.join (tx []) ((b::r).map tx)=_;rw[ih,QM,QM,ybv (l:=a),lS]
theorem kD:∀(ls:List (List Nat))(n:Nat),(ls.map tx).foldl (λ(m:Nat)(s:Str)=>m+s.length+("":Str).length) n=n+ls.flatten.length:=by
 have e:("":Str).length=0:=by decide+kernel
 intro ls
 induction ls with
 |nil=>intro n;rfl
 |cons a r ih=>
  intro n;show(r.map tx).foldl _ (n+(tx a).length+("":Str).length)=_;rw[ih,e,Qi,ybv,lq];lia
theorem vQ{ls:List (List Nat)}(h:ls.flatten.length<=1000):JoinOk "" (ls.map tx)=true:=by
 unfold JoinOk;rw[←Array.foldl_toList,List.toList_toArray,kD];unfold tooLong;have hz:=zza
 rw[lx (by lia)];rfl
theorem J7(ch k:Nat):L2.VX (tx [ch]) k=tx (replicate k ch):=by
 rw[V1 (L2.VX (tx [ch]) k)]
 congr 1
 unfold L2.VX;have:∀(l:List (Array Nat))(acc:Array Nat),(l.foldl (· ++ ·) acc).toList=acc.toList++(l.map (·.toList)).flatten:=by
  intro l
  induction l with
  |nil=>intro acc;simp
  |cons a r ih=>intro acc;rw[ycI,ih];simp
 rw[this];simp only[List.map_replicate]
 induction k with
 |zero=>rfl
 |succ k ih=>simp[yaC]at ih ⊢
section
variable {P:Program}{w:World}{K:Frag}{mg:Str->Option Value}{M:Heap}{f:Addr}{fd:FuncData}{tk:Nat->Tok}{c kr:Nat->Addr}
def kF:Sp:=λvs H Q _=>∃a b:Int,vs=[.int a,.int b]/\b≠0/\b.natAbs<2^2000/\Q (.int (aE.yK a b)) H
theorem kG(h:b.natAbs<n):(if b<0 then-b else b).natAbs<n:=by split<;>lia
theorem O9(h:b≠0):0<(if b<0 then-b else b):=by split<;>lia
theorem VI(F:az K "quotient_cut" "quotient_cut" Xd f fd)(O:Own mg):af P w K mg M (ak P w) 1 f fd ["number","by"] kF:=by
 refine okN F XV (λvs H Q E h=>?_) (λad A L s H vs Q E hr h=>?_)
 ·obtain⟨a,b,rfl,_⟩:=h;rfl
 ·obtain⟨a,b,rfl,h1,h2,k⟩:=h;refine⟨_,(Qb (Z' 2 XV.nd (Qt Yz (Qq ZH Z O.abs ydE (Qa (pv 0) Qc)) (Qq ZH Z O.abs ydE (Qa (pv 1) Qc))))
   (Qg (Qr (QC (Ql ZZ (JR KS (pv 0) Qj (Qo _)) (JR KS (pv 1) Qj (Qo _)) (Qo _)) (Kw ZN (pv 2)) (pv 2))))),?_⟩
  refine⟨_,Z,a,Z,_,Z,b,Z,_,_,Z,Z,⟨O9 h1,kG h2⟩,?_⟩;refine⟨_,Z,_,_,Z,Z,_,Z,_,_,Z,Z,Z,_,Z,?_⟩;refine aF (λz=>?_) (λz=>?_)
  ·refine⟨_,Z,_,Z,?_⟩;have e:aE.yK a b= -(aE.Kc a/aE.Kc b):=by unfold aE.yK;rw[yaf (by rw[←HY];exact z)]
   rw[e]at k;exact k
  ·refine⟨_,Z,?_⟩;have e:aE.yK a b=aE.Kc a/aE.Kc b:=by unfold aE.yK;rw[yac (by rw[←HY];exact λq=>Bool.noConfusion (z.symm.trans q))]
   rw[e]at k;exact k
structure l6(K:Frag)(H:Hp)(a:Addr)(u o:Int):Prop where
 sq:ai K H a [.int u,.int o]
 bd:u.natAbs<2^200
 lo:0<=o
 hi:o<=18
theorem l6.same{u o:Int}(A:l6 K H a u o)(e:Qu H H'):l6 K H' a u o:=⟨A.sq.same e,A.bd,A.lo,A.hi⟩
def FC(K:Frag):Sp:=λvs H Q _=>∃(a:Addr)(u o p:Int),vs=[.ref a,.int p]/\l6 K H a u o/\0<=p/\p<=18/\∀q,H q=none->Q (.ref q) (upd H q (.tup [.int (aE.zx u o p),.int p]))
theorem O'(F:az K "cut" "cut" Fi f fd)(O:Own mg)(gA:Def P w K mg M 1 "ten_to" ["many"] zC)(ml:Def P w K mg M 1 "quotient_cut" ["number","by"] kF):af P w K mg M (ak P w) 2 f fd ["amount","places"] (FC K):=by
 refine okN F xU (λvs H Q E h=>?_) (λad A L s H vs Q E hr h=>?_)
 ·obtain⟨a,u,o,p,rfl,_⟩:=h;rfl
 ·obtain⟨a,u,o,p,rfl,qMa,h1,h2,k⟩:=h;have b1:=qMa.lo;have b2:=qMa.hi;refine⟨_,(Qb (Jc (pv 0) (QY Z (Qh (Y' 2 xU.nd) (Qh (Y' 3 xU.nd) QE))))
   (Qg (Qr (QG (Qa (ml.pq hr Qy (Qa (Qt Yy (pv 2) (gA.pq hr Qy (Qa (Qt Zg (pv 1) (pv 3)) Qc))) (Qa (gA.pq hr Qy (Qa (Qt Zg (pv 3) (pv 1)) Qc)) Qc))) (Qa (pv 1) Qc)))))),?_⟩
  refine⟨_,Z,a,_,Z,qMa.sq,Z,_,_,Z,_,_,Z,Z,?_⟩;refine⟨_,Z,_,Z,_,Z,_,_,Z,Z,_,Z,by lia,by lia,_,_,Z,Z,⟨big qMa.bd,big (Vy (by lia))⟩,?_⟩;refine⟨_,Z,_,Z,_,_,Z,Z,_,Z,by lia,by lia,?_⟩;refine⟨_,_,Z,ybR (aE.J3 _),big (Vy (by lia)),?_⟩;exact⟨_,Z,by show 2<=sizeLine;decide,k⟩
def vR(K:Frag):Sp:=λvs H Q _=>∃(p:Addr)(u o:Int)(a b:Nat),vs=[.ref p,.int (a:Nat),.int (b:Nat)]/\l6 K H p u o/\a+b<=18/\∀H',Qu H H'->Q (.int (fit u o a b)) H'
theorem kH(F:az K "fitted" "fitted" YF f fd)(O:Own mg)(gA:Def P w K mg M 1 "ten_to" ["many"] zC)(r9:Def P w K mg M 2 "cut" ["amount","places"] (FC K)):af P w K mg M (ak P w) 3 f fd ["amount","before","behind"] (vR K):=by
 refine okN F Vo (λvs H Q E h=>?_) (λad A L s H vs Q E hr h=>?_)
 ·obtain⟨p,u,o,a,b,rfl,_⟩:=h;rfl
 ·obtain⟨p,u,o,a,b,rfl,qMa,Op,k⟩:=h;refine⟨_,(Qb (Z' 3 Vo.nd (QN Jd (r9.pq hr Qy (Qa (pv 0) (Qa (pv 2) Qc))) Qj (λ_ _=>rfl)))
   (Qb (Z' 4 Vo.nd (Qt Vc (Qq ZH Z O.abs ydE (Qa (pv 3) Qc)) (gA.pq hr Qy (Qa (Qt JA (pv 1) (pv 2)) Qc))))
   (Qg (Qr (QC (Ql KS (pv 3) Qj (Qo _)) (Kw ZN (pv 4)) (pv 4)))))),?_⟩
  refine⟨_,Z,_,Z,p,u,o,(b:Int),Z,qMa,by lia,by lia,λq hq=>⟨q,_,_,_,Z,Z,ai.of Qe,Z,?_⟩⟩;have S1:=Qu.new (o:=.tup [.int (aE.zx u o b),.int (b:Int)]) hq;refine⟨_,Z,_,Z,_,Z,_,Z,_,_,Z,Z,(a:Int)+b,Z,by lia,by lia,_,_,Z,Z,aE.J3 _,?_⟩;refine⟨_,Z,_,_,Z,Z,_,Z,?_⟩;have k:=k _ S1;refine aF (λz=>?_) (λz=>?_)
  ·refine⟨_,Z,_,Z,?_⟩;have e:fit u o a b= -(aE.Kc (aE.zx u o b) % aE.aP ((a:Int)+b)):=by unfold fit;rw[yaf (yap z)]
   rw[e]at k;exact k
  ·refine⟨_,Z,?_⟩;have e:fit u o a b=aE.Kc (aE.zx u o b) % aE.aP ((a:Int)+b):=by unfold fit;rw[yac (yav z)]
   rw[e]at k;exact k
def UX:Sp:=λvs H Q _=>∃n:Nat,vs=[.int n]/\n<10^18/\∀H',Qu H H'->Q (.str (tx (dec n))) H'
theorem YW(F:az K "figures_of" "figures_of" XU f fd)(O:Own mg)(T:Txt K mg tk c kr)(gA:Def P w K mg M 1 "ten_to" ["many"] zC):af P w K mg M (ak P w) 2 f fd ["number"] UX:=by
 refine okN F Zk (λvs H Q E h=>?_) (λad A L s H vs Q E hr h=>?_)
 ·obtain⟨n,rfl,_⟩:=h;rfl
 ·obtain⟨n,rfl,hn,k⟩:=h;refine⟨_,(Qb (Z' 1 Zk.nd (gA.pq hr Qy (Qa (QD (v:=V.int 18) Z T.nt ⟨_,Z⟩) Qc)))
   (Qb (Z' 2 Zk.nd (JG Qc))
   (Qb (WU yaG (Ql j9 (pv 0) (pv 1) (Qo _)) (Qb (Jc (Qq qi Z O.divmod boot_divmod (Qa (pv 0) (Qa (pv 1) Qc))) (QY Z (Qh (Y' 0 Zk.nd) (Qh (Y' 3 Zk.nd) QE))))
   (Qg (XI (JF yaV yaP yaQ Zv (pv 2) (Qa (JF yau ydI ydJ W1 (Q9 Zc Z O.str yep (Qa (pv 3) Qc)) (Qa (QD (v:=V.int 18) Z T.nt ⟨_,Z⟩) Qc)) Qc))))))
   (Qb (XI (JF yaV yaP yaQ Zv (pv 2) (Qa (Q9 Zc Z O.str yep (Qa (pv 0) Qc)) Qc)))
   (Qg (Qr (zt Z Z O.reversed Qd (pv 2)))))))),?_⟩
  refine⟨18,Z,by decide,by decide,by show 0<=sizeLine;decide,λp hp=>?_⟩;have S1:=Qu.new (o:=.lst []) hp;refine⟨λm σ H2=>σ=[some (.int (n:Int)),some (.int (aE.aP 18)),some (.ref p),none]/\H2=upd H p (.lst []),⟨0,Z,Z⟩,?_⟩;rintro m σ H2 ⟨rfl,rfl⟩;refine⟨_,Z,_,Z,_,_,Z,Z,_,Z,?_⟩;have ST:aE.aP 18=10^18:=by decide
  refine aF (λq=>absurd (yap q) (by rw[ST];lia)) (λ_=>?_);have FD:(n:Int).natAbs.log2<1920:=by
   rw[yaR]
   by_cases h0:n=0
   ·rw[h0];decide
   ·exact(ydr h0).mpr (yaD hn (by decide))
  refine⟨_,Z,.inl ⟨Z,_,.inl (.inl Qe)⟩,_,Z,(n:Int),Z,FD,p,[],_,Z,Z,Qe,by show 0<sizeLine;decide,?_⟩;rw[aW.XM];have S2:Qu H (upd (upd H p (.lst [])) p (.lst ([]++[.str (tx (dec n))]))):=λb o e=>by
   have hb:=Qz e hp;rw[Qx hb,Qx hb];exact e
  have lm:=qC (n:=n) (yaD hn (by decide));refine⟨"",Z,_,Z,p,[tx (dec n)],Z,Qe,?_,?_⟩
  ·have FE:=Qi (dec n);show(!Builtin.Str.tooLong (0+(tx (dec n)).length+("":Str).length))=true;rw[FE];have he:("":Str).length=0:=by decide+kernel
   rw[he];unfold Builtin.Str.tooLong;have hz:=zza
   rw[lx (by lia)];rfl
  ·have ej:Txt.join "" [tx (dec n)].reverse=tx (dec n):=by
    show Builtin.Str.glued _ _=_;rw[yda];rfl
   rw[ej];exact k _ S2
theorem ZW(h0:0<=i)(h1:i<=1000):PadOk i=true:=by
 obtain⟨n,rfl⟩:=ybt h0;have:n<=1000:=by lia
 have key:∀m:Nat,m<=1000->PadOk ((m:Nat):Int)=true:=by
  intro m hm;unfold PadOk fitsSsize;have e1:Builtin.Str.tooLong ((m:Nat):Int).toNat=false:=by
   unfold Builtin.Str.tooLong;have hz:=zza
   rw[lZ];exact lx (by lia)
  rw[e1];simp;lia
 exact key n this
def Ww(K:Frag)(c:Nat->Addr):Sp:=λvs H Q E=>∃(l:List Nat)(k:Nat),vs=[.str (kindS k),.str (tx l)]/\l.length<=500/\k<=3/\((∀x,Q2 l=some x->x.kind<=3/\x.kind≠k)->∀H',Qu H H'->E (.ref (c 2)) none H')/\
 (∀x,Q2 l=some x->x.kind=k->∀q p rs r H',Qu H H'->H' q=some (.tup [.ref p,.ref r])->H' r=some (.tup [.bl x.signed,.int (x.before:Nat),.int (x.behind:Nat)])->aj K H' p rs (rowsOf l)->Q (.ref q) H')
theorem JQ:∀a≤3,∀b≤3,decide (V.str (kindS a)=V.str (kindS b))=decide (a=b):=by decide+kernel
theorem vS{ld pl:List Nat}{many bi:Nat}(h:X0 ld pl many bi o tl=some x):x.kind<=3:=by
 unfold X0 at h
 split at h
 ·dsimp only at h
  repeat' (split at h)
  all_goals first
   |(cases h;done)
   |(have:=lB h;rw[←this];exact lA _)
 ·cases h
theorem Pb{rows:List Rw}(h:Ju rows=some x):x.kind<=3:=by
 have e:Ju rows=X0 (ZQ rows).1 (Ja (ZQ rows).2).1 (Ja (ZQ rows).2).2.1 (Ja (ZQ rows).2).2.2.1 (Jq (Ja (ZQ rows).2).2.2.2 (if(Ja (ZQ rows).2).2.2.1=0 then(Ja (ZQ rows).2).1 else[57])).1
  (Kp (Jq (Ja (ZQ rows).2).2.2.2 (if(Ja (ZQ rows).2).2.2.1=0 then(Ja (ZQ rows).2).1 else[57])).2):=rfl
 rw[e]at h;exact vS h
theorem jJ(h:Q2 l=some x):x.kind<=3:=by
 unfold Q2 JW at h;cases e1:Q1 (rowsOf l)with
 |some y=>
  rw[e1]at h;have e:y=x:=lB h;subst e;unfold Q1 at e1
  split at e1
  ·split at e1
   ·split at e1
    ·cases e1
    ·cases e1;exact(show(2:Nat)<=3 by decide)
   ·cases e1
  ·cases e1
 |none=>
  rw[e1]at h;cases e2:JB (rowsOf l)with
  |some y=>
   rw[e2]at h;have e:y=x:=lB h;subst e;unfold JB at e2
   split at e2
   ·split at e2
    ·cases e2
    ·cases e2;show(if _ then 0 else 1)<=3;split<;>decide
   ·cases e2
  |none=>
   rw[e2]at h;exact Pb h
theorem WR(F:az K "understood_as" "understood_as" Zl f fd)(T:Txt K mg tk c kr)(mh:Def P w K mg M 4 "rows_of" ["thing"] (jA K))(gP:Def P w K mg M 5 "facts_of" ["rows"] (Zq K JW)):
  af P w K mg M (ak P w) 6 f fd ["kind","picture"] (Ww K c):=by
 refine cO F ZC (λvs H Q E h=>?_) (λad A L s H vs Q E hr h=>?_)
 ·obtain⟨l,k,rfl,_⟩:=h;rfl
 ·obtain⟨l,kd,rfl,hl,BR,k1,k2⟩:=h;have hz:=zza
  have fr:=Zn (P:=P) (w:=w) (K:=K) (mg:=mg) (M:=M) (N:=["kind","picture","rows","facts"]) (qual:="understood_as") (scope:=Qf Zl) (f:=f) (cd:=ad) (A:=A) (L:=L) (s:=s) (H:=H) (E:=E);have ht:=J5 fr;have hx:=Q4 fr;refine⟨_,(Qb (Z' 2 ZC.nd (mh.pq hr hx (Qa (pv 1) Qc)))
   (Qb (Z' 3 ZC.nd (gP.pq hr hx (Qa (pv 2) Qc)))
   (Qb (QL (PW.pt (Xa (Z0 (Km (pv 3))) (Zf (Ql ZZ (QN Jd (pv 3) Qj (λ_ _=>rfl)) (pv 0) (Qo _))))) (Qg (Zs ht Z Z T.pk T.pP (Qa Qd Qc))) Qs)
   (Qg (Qr (QG (Qa (pv 2) (Qa (QT Mk (pv 3) (QV Qj) Jl) Qc)))))))),?_⟩
  refine⟨_,Z,_,rowsOf l,Z,.inl ⟨l,Z,hl,Z⟩,λp rs H1 S1 R1=>⟨_,Z,p,rs,rowsOf l,Z,R1,λv2 H2 S2 f2=>?_⟩⟩;refine⟨_,Z,_,Z,?_⟩;rw[f2.BL];have Fa:Q2 l=JW (rowsOf l):=rfl;cases e:JW (rowsOf l)with
  |none=>exact QX (QX ⟨bK,k1 (λx h=>by rw[Fa,e]at h;cases h) _ (S1.trans S2)⟩)
  |some x=>
   rw[e]at f2 Fa;have FF:=jJ Fa;obtain⟨r,rfl,g⟩:=f2;refine QQ ⟨_,Z,r,_,_,_,Z,Z,ai.of g,Z,_,Z,Z,_,Z,?_⟩;rw[JQ _ FF _ BR]
   by_cases DF:x.kind=kd
   ·rw[ly DF];refine QQ ⟨_,Z,_,Z,_,Z,r,_,Z,ai.of g,(λz=>absurd (show HT.aH 4 0 (some 1)=0 from z.1) (by decide)),λq5 BK=>?_⟩;have S5:=Qu.new (o:=.tup [.bl x.signed,.int (x.before:Nat),.int (x.behind:Nat)]) BK;have g5:upd H2 q5 (.tup [.bl x.signed,.int (x.before:Nat),.int (x.behind:Nat)]) q5=some (.tup [.bl x.signed,.int (x.before:Nat),.int (x.behind:Nat)]):=Qe;refine⟨bw,λq6 Fq=>?_⟩;have S6:=Qu.new (o:=.tup [.ref p,.ref q5]) Fq;exact k2 x Fa DF q6 p rs q5 _ (((S1.trans S2).trans S5).trans S6) Qe (S6 _ _ g5) (((R1.same S2).same S5).same S6)
   ·rw[lx DF];exact QX ⟨bK,k1 (λy h=>by rw[Fa]at h;cases h;exact⟨FF,DF⟩) _ (S1.trans S2)⟩
theorem Yn{rs:List Addr}{rows:List Rw}{tt:TT}(val:Rw->V)(ok:Rw->Bool)(dj:NB.length=3)(hn:n=2)(hσ:σ[i]? =some (some (.ref p)))(R:aj K H p rs rows)
  (l7:∀x∈rows,∀(H1:Hp)(R:Bool->Hp->Prop),R (ok x) H1->tt [none,some (.str (tx [x.1])),some (.int (x.2:Nat))] H1 R)
  (eV:∀x∈rows,∀(H1:Hp)(Q:VK),(∀H2,Qu H1 H2->Q (val x) H2)->te [none,some (.str (tx [x.1])),some (.int (x.2:Nat))] H1 Q)
  (hd:∀q H1,Qu H H1->H1 q=none->Q (.ref q) (upd H1 q (.lst ((rows.filter ok).map val)))):
  V0 NB (wK K (ZB i)) (Ad K n (Yt (Jz 1) (Yt (Jz 2) AO))) tt te σ H Q:=by
 have hz:=zza
 have hl:=R.le;have hlen:=R.len;refine⟨_,hσ,p,Z,⟨_,R.sq⟩,?_⟩;refine VB (xs:=rs.map V.ref) (λi vs H2=>Qu H H2/\vs=((rows.take i).filter ok).map val) ⟨Qu.refl H,Z⟩ ?_ ?_ ?_ (by lia)
 ·rintro i vs H2 hi ⟨S,rfl⟩;exact⟨(R.same S).sq,by rw[lu];exact yas (yaL _ _) (by rw[lI];lia)⟩
 ·rintro i x vs H2 hx ⟨S,rfl⟩;rw[lK]at hx;obtain⟨r,hr,rfl⟩:=yaS.mp hx;obtain⟨y,hy,g⟩:=(R.same S).rw.at' hr;subst hn;rw[dj];have hm:=lM hy;have re:(rows.take (i+1)).filter ok=(rows.take i).filter ok++if ok y=true then[y]else[]:=by
   rw[yaE,hy,ybj]
   congr 1
   show List.filter ok [y]=_;rw[yaF];rfl
  refine⟨r,_,Z,ai.of g,Z,_,_,Z,_,_,Z,Z,?_⟩;refine l7 y hm _ _ ?_;rw[re];cases ok y with
  |true=>exact QX (eV y hm _ _ λH3 S3=>⟨S.trans S3,by simp⟩)
  |false=>exact QQ ⟨S,by simp⟩
 ·rintro vs H2 ⟨S,rfl⟩ q hq;rw[yaq (by lia)];exact hd q H2 S hq
def FG(K:Frag):Sp:=λvs H Q _=>∃(p:Addr)(rs:List Addr)(rows:List Rw),vs=[.ref p]/\aj K H p rs rows/\Pos 100 rows/\(un rows).length<=1000/\∀H',Qu H H'->Q (.str (tx (un rows))) H'
theorem vT(rows:List Rw):rows.filter (λ_=>true)=rows:=by simp
theorem V6(F:az K "written_out" "written_out" Xx f fd)(O:Own mg):af P w K mg M (ak P w) 1 f fd ["rows"] (FG K):=by
 refine okN F V2 (λvs H Q E h=>?_) (λad A L s H vs Q E hr h=>?_)
 ·obtain⟨p,rs,rows,rfl,_⟩:=h;rfl
 ·obtain⟨p,rs,rows,rfl,R,hp,hl,k⟩:=h;have hz:=zza
  refine⟨_,(Qg (Qr (JF yau ybr ybs Xu Qd (Qa (Zi (NB:=[".0","symbol","many"]) Z ⟨Z,by decide+kernel,by decide+kernel,by decide+kernel⟩ (Kv (pv 0)) (λ_ _ _=>(KO (K0:=K) (n:=2) Z Z (Qh (Qk (i:=1) (show([".0","symbol","many"]:List Str).Nodup by decide+kernel) Z (Or.inl Z) (Or.inr Z)) (Qh (Qk (i:=2) (show([".0","symbol","many"]:List Str).Nodup by decide+kernel) Z (Or.inl Z) (Or.inr Z)) QE)))) (λ_ _ _=>Xt) (λ_ _ _=>(Qt QB (pv 1) (pv 2)))) Qc)))),?_⟩;refine⟨Z,?_⟩;refine Yn (p:=p) (rs:=rs) (rows:=rows) (λx=>.str (tx (replicate x.2 x.1))) (λ_=>true) rfl rfl rfl R (λx hx H1 R h=>h) (λx hx H1 Q h=>?_) (λq H1 S hq=>?_)
  ·obtain⟨h1,h2,h3⟩:=hp x hx;refine⟨_,Z,_,Z,tx [x.1],(x.2:Int),Z,Z,by lia,by rw[Qi,lZ,lC];lia,by lia,?_⟩;rw[lZ,J7];exact h _ (Qu.refl _)
  ·rw[vT];have em:(rows.map λx=>V.str (tx (replicate x.2 x.1)))=((rows.map λx=>replicate x.2 x.1).map tx).map V.str:=by rw[lT,lT];rfl
   have ef:(rows.map λx=>replicate x.2 x.1).flatten=un rows:=by rw[un,List.flatMap_def]
   rw[em];refine⟨"",q,_,Z,Z,ay.of Qe,vQ (by rw[ef];exact hl),?_⟩;rw[vP,ef];exact k _ (S.trans (Qu.new hq))
structure b7(a l:List Nat)(x:Facts):Prop where
 pc:Q2 l=some x
 sh:Sh a l
 no:40∉a
 la:a.length<=100
 ll:l.length<=500
def kI(c:Nat->Addr):Sp:=λvs H Q E=>∃(l:List Nat)(x:Facts),vs=[.str (tx l)]/\Q2 l=some x/\l.length<=500/\(x.kind<=1->∀H',Qu H H'->E (.ref (c 2)) none H')/\(2<=x.kind->x.kind<=3->∀q H',Qu H H'->H q=none->H' q=some (.tup [.bl x.signed,.int (x.before:Nat),.int (x.behind:Nat)])->Q (.ref q) H')
theorem JX(S:Qu H H')(h:H' q=none):H q=none:=by
 cases e:H q with
 |none=>rfl
 |some o=>rw[S _ _ e]at h;cases h
theorem Pc(F:az K "room" "room" jy f fd)(T:Txt K mg tk c kr)(gv:Def P w K mg M 6 "understood" ["picture"] (VE K c)):af P w K mg M (ak P w) 7 f fd ["picture"] (kI c):=by
 refine cO F KC (λvs H Q E h=>?_) (λad A L s H vs Q E hr h=>?_)
 ·obtain⟨l,x,rfl,_⟩:=h;rfl
 ·obtain⟨l,x,rfl,hp,hl,k1,k2⟩:=h;have hz:=zza
  have fr:=Zn (P:=P) (w:=w) (K:=K) (mg:=mg) (M:=M) (N:=["picture","rows","facts","kind","signed","before","behind"]) (qual:="room") (scope:=Qf jy) (f:=f) (cd:=ad) (A:=A) (L:=L) (s:=s) (H:=H) (E:=E);have ht:=J5 fr;have hx:=Q4 fr;refine⟨_,(Qb (Jc (gv.pq hr hx (Qa (pv 0) Qc)) (QY Z (Qh (Y' 1 KC.nd) (Qh (Y' 2 KC.nd) QE))))
   (Qb (Jc (pv 2) (QY Z (Qh (Y' 3 KC.nd) (Qh (Y' 4 KC.nd) (Qh (Y' 5 KC.nd) (Qh (Y' 6 KC.nd) QE))))))
   (Qb (QL (PW.pt (Xa (Ql Q3 (pv 3) Qd (Qo _)) (Zf (Ql Q3 (pv 3) Qd (Qo _))))) (Qg (Zs ht Z Z T.pk T.pP (Qa Qd Qc))) Qs)
   (Qg (Qr (QG (Qa (pv 4) (Qa (pv 5) (Qa (pv 6) Qc))))))))),?_⟩
  refine⟨_,Z,l,Z,hl,(λz=>by rw[hp]at z;cases z),λx2 e q p rs r H1 S1 g1 g2 R1=>?_⟩;obtain rfl:x=x2:=by rw[hp]at e;exact lB e
  refine⟨q,_,Z,ai.of g1,Z,_,_,Z,_,_,Z,Z,?_⟩;refine⟨_,Z,r,_,Z,ai.of g2,Z,_,_,Z,_,_,Z,_,_,Z,_,_,Z,Z,?_⟩;have BR:x.kind<=3:=jJ hp;refine⟨_,Z,Z,_,Z,?_⟩;rw[show V.str "text"=V.str (kindS 0)from rfl,JQ _ BR 0 (by decide)]
  by_cases h0:x.kind=0
  ·rw[ly h0];exact QX (QX ⟨bK,k1 (by lia) _ S1⟩)
  ·rw[lx h0];refine QQ ⟨_,Z,Z,_,Z,?_⟩;rw[show V.str "letters"=V.str (kindS 1)from rfl,JQ _ BR 1 (by decide)]
   by_cases h1:x.kind=1
   ·rw[ly h1];exact QX ⟨bK,k1 (by lia) _ S1⟩
   ·rw[lx h1];refine QQ ⟨_,Z,_,Z,_,Z,Ak,λq2 Ev=>?_⟩;exact k2 (by lia) BR q2 _ (S1.trans (Qu.new Ev)) (JX S1 Ev) Qe
def kJ:Sp:=λvs H Q _=>∃(a l:List Nat)(x:Facts),vs=[.str (tx l)]/\b7 a l x/\∀H',Qu H H'->Q (.int ((a.filter qN).length:Nat)) H'
theorem zO(F:az K "size_of" "size_of" K7 f fd)(O:Own mg)(gv:Def P w K mg M 6 "understood" ["picture"] (VE K c)):af P w K mg M (ak P w) 7 f fd ["picture"] kJ:=by
 refine cO F Wq (λvs H Q E h=>?_) (λad A L s H vs Q E hr h=>?_)
 ·obtain⟨a,l,x,rfl,_⟩:=h;rfl
 ·obtain⟨a,l,x,rfl,hp,k⟩:=h;have fr:=Zn (P:=P) (w:=w) (K:=K) (mg:=mg) (M:=M) (N:=["picture","rows","facts"]) (qual:="size_of") (scope:=Qf K7) (f:=f) (cd:=ad) (A:=A) (L:=L) (s:=s) (H:=H) (E:=E);have hx:=Q4 fr;have hla:=hp.la;have Fp:("S":Str)=tx [83]:=by decide+kernel
  have Pd:("V":Str)=tx [86]:=by decide+kernel
  refine⟨_,(Qb (Jc (gv.pq hr hx (Qa (pv 0) Qc)) (QY Z (Qh (Y' 1 Wq.nd) (Qh (Y' 2 Wq.nd) QE))))
   (Qg (Qr (Qq (jw Z) Z O.sum L2.boot_sum (Qa (Zi (NB:=[".0","symbol","many"]) Z ⟨Z,by decide+kernel,by decide+kernel,by decide+kernel⟩ (Kv (pv 1)) (λ_ _ _=>(KO (K0:=K) (n:=2) Z Z (Qh (Qk (i:=1) (show([".0","symbol","many"]:List Str).Nodup by decide+kernel) Z (Or.inl Z) (Or.inr Z)) (Qh (Qk (i:=2) (show([".0","symbol","many"]:List Str).Nodup by decide+kernel) Z (Or.inl Z) (Or.inr Z)) QE)))) (λ_ _ _=>(XO (PW.pt (Je (Ql ZZ (pv 1) Qd (Qo _)) (Q6 (Ql ZZ (pv 1) Qd (Qo _))))))) (λ_ _ _=>(pv 2))) Qc))))),?_⟩
  refine⟨_,Z,l,Z,hp.ll,(λz=>by rw[hp.pc]at z;cases z),λx2 e q p rs r H1 S1 g1 g2 R1=>?_⟩;refine⟨q,_,Z,ai.of g1,Z,_,_,Z,_,_,Z,Z,?_⟩;dsimp only[CZ,oI,Jp,WI];refine Yn (p:=p) (rs:=rs) (rows:=rowsOf l) (λx=>.int (x.2:Nat)) (λx=>qN x.1) rfl rfl rfl R1 (λx hx H1 R h=>?_) (λx hx H1 Q h=>⟨_,Z,h _ (Qu.refl _)⟩) (λq H2 S hq=>?_)
  ·have hd:qN x.1=(!decide (x.1=83)&& !decide (x.1=86)):=by
    unfold qN
    by_cases z1:x.1=83<;>by_cases z2:x.1=86<;>simp[z1,z2]
   rw[hd]at h;refine⟨_,Z,Z,_,Z,?_⟩;rw[Fp,Jm];cases h1:decide (x.1=83)with
   |true=>rw[h1]at h;exact QQ h
   |false=>
    rw[h1]at h;refine QX ⟨_,Z,Z,_,Z,?_⟩;rw[Pd,Jm];exact h
  ·have em:(((rowsOf l).filter λx=>qN x.1).map λx=>V.int (x.2:Nat))=(((rowsOf l).filter λx=>qN x.1).map λx=>((x.2:Nat):Int)).map V.int:=by rw[lT];rfl
   have es:∀rows:List Rw,(rows.map λx=>((x.2:Nat):Int)).sum=(((rows.map (·.2)).sum:Nat):Int):=by
    intro rows
    induction rows with
    |nil=>rfl
    |cons y r ih=>rw[lU,ydS,ih,lU,ydS];push_cast;rfl
   rw[em];refine⟨q,_,Z,ay.of Qe,?_⟩;rw[es];have:=vI a;rw[←UO hp.sh]at this;unfold cu at this;rw[this];exact k _ (S1.trans (S.trans (Qu.new hq)))
end
end Lw
namespace aZ
open aW aK PySem.NumText
noncomputable def bz(c:Nat):Option Nat:=if c=44 then some 44 else if c=66 then some 32 else if c=48 then some 48 else if c=47 then some 47 else if c=46 then some 46 else none
noncomputable def aJ(b:Bool)(c:Nat):Nat:=if c=36 then 36 else if c=43 then(if b then 45 else 43)else if c=45 then(if b then 45 else 32)else if b then c else 32
noncomputable def aN:List Nat->List Nat->List Nat
 |[],_=>[]
 |c::r,fs=>match bz c with
  |some d=>d::aN r fs
  |none=>fs.headD 48::aN r fs.tail
noncomputable def aO:List Nat->List Nat->Nat
 |[],_=>0
 |c::r,s=>if c=57\/(ins c=false/\s.headD 0≠48)then 0 else aO r s.tail+1
noncomputable def place(c:Nat):Bool:=(bz c).isNone
noncomputable def many(l:List Nat):Nat:=(l.filter place).length
noncomputable def WS(body:List Nat)(u:Nat)(b:Bool):List Nat:=
 if ar (body.headD 0)=true then replicate (aO body (aN body (pad u (many body)))-1) 32++[aJ b (body.headD 0)]++(aN body (pad u (many body))).drop (aO body (aN body (pad u (many body))))
 else replicate (aO body (aN body (pad u (many body)))) (if body.headD 0=42 then 42 else 32)++(aN body (pad u (many body))).drop (aO body (aN body (pad u (many body))))
noncomputable def X4(l:List Nat):List Nat:=if 42∈l then l.map (λc=>if c=46 then 46 else 42)else replicate l.length 32
noncomputable def bL(Y body tail:List Nat)(f:Int):List Nat:=
 if f=0/\57∉body/\ar (body.headD 0)=false then X4 (Y++body++tail)
 else Y.map (aJ (decide (f<0)))++WS body f.natAbs (decide (f<0))++tail.map (aJ (decide (f<0)))
noncomputable def yR(c:Nat):Nat:=if c=66 then 32 else c
noncomputable def lr(fl:Bool):Bool->List Nat->List Nat->List Nat
 |_,[],_=>[]
 |a,c::r,fs=>if ins c=true then yR c::lr fl false r fs else if(fl&&a)=true then 32::lr fl false r fs else fs.headD 48::lr fl false r fs.tail
noncomputable def ls(fl:Bool):Bool->List Nat->List Nat->Option Nat
 |_,[],_=>none
 |a,c::r,fs=>if ins c=true then(ls fl false r fs).map (· +1)else if(fl&&a)=true then(ls fl false r fs).map (· +1)else if c=57\/fs.headD 48≠48 then some 0 else(ls fl false r fs.tail).map (· +1)
def se(c:Nat):Prop:=c∈([57,90,42,43,45,36]:List Nat)
theorem ZX(h:se c):bz c=none/\ins c=false/\c≠46:=by
 have:∀c∈([57,90,42,43,45,36]:List Nat),bz c=none/\ins c=false/\c≠46:=by decide
 exact this c h
theorem Wx(h:ins c=true):bz c=some (yR c)/\c≠57:=by
 have:∀c∈([44,66,48,47]:List Nat),bz c=some (yR c)/\c≠57:=by decide
 exact this c (yai.mp h)
def Wh(l:List Nat):Prop:=∀c∈l,se c\/ins c=true
theorem kK(fl:Bool):∀(l:List Nat)(a:Bool)(fs:List Nat),(lr fl a l fs).length=l.length:=by
 intro l
 induction l with
 |nil=>intro a fs;rfl
 |cons c r ih=>
  intro a fs;unfold lr
  split
  ·rw[lD,lD,ih]
  ·split<;>rw[lD,lD,ih]
theorem ZL(a b:List Nat):many (a++b)=many a+many b:=by simp[many]
theorem JE(c:Nat)(r:List Nat):many (c::r)=(if bz c=none then 1 else 0)+many r:=by
 unfold many place;rw[yaF];cases bz c<;>simp<;>lia
theorem Z9{r fs:List Nat}(h:bz c=none):aN (c::r) fs=fs.headD 48::aN r fs.tail:=by rw[aN,h]
theorem Kh{r fs:List Nat}(h:bz c=some d):aN (c::r) fs=d::aN r fs:=by rw[aN,h]
theorem VJ{r fs:List Nat}(h:ins c=true):lr fl a (c::r) fs=yR c::lr fl false r fs:=by rw[lr,yaf h]
theorem qQ{r fs:List Nat}(h:ins c=false)(ha:(fl&&a)=false):lr fl a (c::r) fs=fs.headD 48::lr fl false r fs.tail:=by rw[lr,yac (by rw[h];decide),yac (by rw[ha];decide)]
theorem Iv{r fs:List Nat}(h:ins c=false)(ha:(fl&&a)=true):lr fl a (c::r) fs=32::lr fl false r fs:=by rw[lr,yac (by rw[h];decide),yaf ha]
theorem Yo{r fs:List Nat}(h:ins c=true):ls fl a (c::r) fs=(ls fl false r fs).map (· +1):=by rw[ls,yaf h]
theorem qR{r fs:List Nat}(h:ins c=false)(ha:(fl&&a)=false):ls fl a (c::r) fs=if c=57\/fs.headD 48≠48 then some 0 else(ls fl false r fs.tail).map (· +1):=by rw[ls,yac (by rw[h];decide),yac (by rw[ha];decide)]
theorem FH{r fs:List Nat}(h:ins c=false)(ha:(fl&&a)=true):ls fl a (c::r) fs=(ls fl false r fs).map (· +1):=by rw[ls,yac (by rw[h];decide),yaf ha]
theorem yS(fl:Bool)(R:List Nat):∀(l fs:List Nat),Wh l->aN (l++R) fs=lr fl false l fs++aN R (fs.drop (many l)):=by
 intro l
 induction l with
 |nil=>intro fs _;rfl
 |cons c r ih=>
  intro fs h;have hr:Wh r:=λx hx=>h x (lG _ hx);rcases h c lH with hp|hi
  ·obtain⟨h1,h2,h3⟩:=ZX hp;show aN (c::(r++R)) fs=_;rw[JE,yaf h1,Z9 h1,qQ h2 (by simp),ih _ hr,lQ, ←ycW,List.drop_one]
  ·obtain⟨h1,_⟩:=Wx hi;show aN (c::(r++R)) fs=_;rw[JE,yac (by rw[h1];simp),ybd];rw[Kh h1,VJ hi,ih _ hr];rfl
def Iw(R:List Nat):Prop:=R=[]\/∃t,R=46::t
theorem yT(fl:Bool)(R:List Nat)(hR:Iw R):∀(l fs T:List Nat),Wh l->(R=[]\/∃t,T=46::t)->aO (l++R) (lr fl false l fs++T)=(ls fl false l fs).getD l.length:=by
 intro l
 induction l with
 |nil=>
  intro fs T _ hT;rcases hR with rfl|⟨t,rfl⟩
  ·rfl
  ·rcases hT with hT|⟨t',rfl⟩
   ·cases hT
   ·show aO (46::t) (46::t')=0;unfold aO;rw[yaf (.inr ⟨by decide,by simp⟩)]
 |cons c r ih=>
  intro fs T h hT;have hr:Wh r:=λx hx=>h x (lG _ hx);have gm:∀(o:Option Nat),(o.map (· +1)).getD (r.length+1)=o.getD r.length+1:=λo=>by cases o<;>rfl
  rcases h c lH with hp|hi
  ·obtain⟨h1,h2,h3⟩:=ZX hp;show aO (c::(r++R)) _=_;rw[qQ h2 (by simp),qR h2 (by simp),lQ,aO]
   by_cases hs:c=57\/fs.headD 48≠48
   ·rw[yaf hs,yaf (by rcases hs with q|q;exact .inl q;exact .inr ⟨h2,q⟩)];rfl
   ·rw[yac hs,yac (by rintro(q|⟨_,q⟩);exact hs (.inl q);exact hs (.inr q)),lD,gm];show aO (r++R) (lr fl false r fs.tail++T)+1=_;rw[ih _ _ hr hT]
  ·obtain⟨h1,h9⟩:=Wx hi;show aO (c::(r++R)) _=_;rw[VJ hi,Yo hi,lQ,lD,gm,aO];rw[yac (by rintro(q|⟨q,_⟩);exact h9 q;rw[hi]at q;cases q)];show aO (r++R) (lr fl false r fs++T)+1=_;rw[ih _ _ hr hT]
theorem Pe:∀(l gs:List Nat),(∀c∈l,bz c=none)->l.length<=gs.length->aN l gs=gs.take l.length:=by
 intro l
 induction l with
 |nil=>intro gs _ _;simp[aN]
 |cons c r ih=>
  intro gs h hl;cases gs with
  |nil=>simp at hl
  |cons g gs=>
   rw[Z9 (h c lH)];show g::aN r gs=_;rw[ih gs (λx hx=>h x (lG _ hx)) (by simpa using hl)];rfl
theorem jK(h:u<10^k)(hk:1<=k):pad u (k+1)=48::pad u k:=by
 have:=dec_lt h hk;unfold pad;rw[show k+1-(dec u).length=(k-(dec u).length)+1 by lia,yaC,lQ]
theorem jL(a b:Bool)(l fs:List Nat):lr false a l fs=lr false b l fs:=by
 cases l with
 |nil=>rfl
 |cons c r=>
  cases h:ins c with
  |true=>rw[VJ h,VJ h]
  |false=>rw[qQ h (by simp),qQ h (by simp)]
theorem vU(a b:Bool)(l fs:List Nat):ls false a l fs=ls false b l fs:=by
 cases l with
 |nil=>rfl
 |cons c r=>
  cases h:ins c with
  |true=>rw[Yo h,Yo h]
  |false=>rw[qR h (by simp),qR h (by simp)]
theorem kL(fs:List Nat)(n:Nat):(fs.take (n+1)).tail=fs.tail.take n:=by cases fs<;>simp
theorem kM(fs:List Nat)(n d:Nat):(fs.take (n+1)).headD d=fs.headD d:=by cases fs<;>simp
theorem qS(fl:Bool):∀(l fs:List Nat)(n:Nat),Wh l->many l<=n->lr fl false l (fs.take n)=lr fl false l fs/\ls fl false l (fs.take n)=ls fl false l fs:=by
 intro l
 induction l with
 |nil=>intro fs n _ _;exact⟨Z,Z⟩
 |cons c r ih=>
  intro fs n h hn;have hr:Wh r:=λx hx=>h x (lG _ hx);rcases h c lH with hp|hi
  ·obtain⟨h1,h2,h3⟩:=ZX hp;rw[JE,yaf h1]at hn;obtain⟨m,rfl⟩:∃m,n=m+1:=⟨n-1,by lia⟩;obtain⟨i1,i2⟩:=ih fs.tail m hr (by lia);rw[qQ h2 (by simp),qQ h2 (by simp),qR h2 (by simp),qR h2 (by simp),kL,kM,i1,i2];exact⟨Z,Z⟩
  ·obtain⟨h1,_⟩:=Wx hi;rw[JE,yac (by rw[h1];simp),ybd]at hn;obtain⟨i1,i2⟩:=ih fs n hr hn;rw[VJ hi,VJ hi,Yo hi,Yo hi,i1,i2];exact⟨Z,Z⟩
theorem vV(fl:Bool):∀(l:List Nat)(a:Bool)(fs:List Nat),(ls fl a l fs).getD l.length<=l.length:=by
 have gm:∀(o:Option Nat)(n:Nat),(o.map (· +1)).getD (n+1)=o.getD n+1:=λo n=>by cases o<;>rfl
 intro l
 induction l with
 |nil=>intro a fs;exact lA _
 |cons c r ih=>
  intro a fs;rw[lD];unfold ls
  split
  ·rw[gm];exact ybX (ih _ _)
  ·split
   ·rw[gm];exact ybX (ih _ _)
   ·split
    ·exact lX _
    ·rw[gm];exact ybX (ih _ _)
theorem FI:se 57:=by unfold se;decide
theorem jM(hs:se s)(h:bH s m l):many l=l.count s:=by
 have key:∀l:List Nat,(∀x∈l,x=s\/ins x=true)->many l=l.count s:=by
  intro l
  induction l with
  |nil=>intro _;rfl
  |cons a r ih=>
   intro ha;have hr:=ih λx hx=>ha x (lG _ hx);rw[JE,yej,hr];rcases ha a lH with rfl|hi
   ·rw[yaf (ZX hs).1];simp;lia
   ·have ul:a≠s:=λz=>by rw[z,(ZX hs).2.1]at hi;cases hi
    rw[yac (by rw[(Wx hi).1];simp)];have:(a==s)=false:=by simpa using ul
    rw[this];simp
 exact key l h.all
section
variable {first:Nat}{ac tail:List Nat}
theorem _root_.aK.Ed.wh(E:Ed Y first W N ac tail):Wh (W++N):=λc hc=>by
 rcases yao.mp hc with h|h
 ·rcases E.w.all c h with rfl|h
  ·exact .inl E.f
  ·exact .inr h
 ·rcases E.n with hn|⟨_,hn⟩
  ·rw[hn]at h;cases h
  ·rcases hn.all c h with rfl|h
   ·exact .inl FI
   ·exact .inr h
theorem _root_.aK.Ed.many(E:Ed Y first W N ac tail):many (W++N)=W.count first+N.count 57:=by
 rw[ZL,jM E.f E.w];rcases E.n with hn|⟨_,hn⟩
 ·rw[hn];rfl
 ·rw[jM FI hn]
theorem _root_.aK.Ed.brk(E:Ed Y first W N ac tail):∀c∈ac,bz c=none/\c≠46:=λc hc=>by
 rcases E.br with h|⟨k,b,_,h,hb⟩
 ·rw[h]at hc;cases hc
 ·rw[h]at hc;rw[yaw hc];rcases hb with rfl|⟨rfl,_⟩
  ·decide
  ·exact⟨(ZX E.f).1,(ZX E.f).2.2⟩
theorem vW(h:∀c∈l,bz c=none):many l=l.length:=by
 unfold aZ.many place;rw[List.filter_eq_self.mpr λc hc=>by rw[h c hc];rfl]
theorem _root_.aK.Ed.zP(E:Ed Y first W N ac tail):many (Qm ac)=ac.length:=by
 unfold Qm
 split
 ·rename_i h;rw[h];rfl
 ·rw[JE,yac (by decide),ybd,vW λc hc=>(E.brk c hc).1]
theorem _root_.aK.Ed.Iy(E:Ed Y first W N ac tail)(h:gs.length=ac.length):aN (Qm ac) gs=if ac=[]then[]else 46::gs:=by
 unfold Qm
 split
 ·rfl
 ·rw[Kh (show bz 46=some 46 by decide),Pe ac gs (λc hc=>(E.brk c hc).1) (by lia),yaq (by lia)]
noncomputable def wD(first:Nat)(whole fs:List Nat):List Nat:=lr (ar first) true whole fs
noncomputable def KP(first:Nat)(whole fs:List Nat):Nat:=(ls (ar first) true whole fs).getD whole.length
noncomputable def Ar(first:Nat)(whole fs:List Nat):List Nat:=if first≠57 then replicate (KP first whole fs) (if first=42 then 42 else 32)++(wD first whole fs).drop (KP first whole fs)else wD first whole fs
noncomputable def jN(first:Nat)(whole fs:List Nat)(b:Bool):List Nat:=if ar first=true then(Ar first whole fs).set (KP first whole fs-1) (aJ b first)else Ar first whole fs
noncomputable def ax(first:Nat)(W N:List Nat):Nat:=W.count first+N.count 57-(if ar first=true then 1 else 0)
theorem Pf(n x:Nat)(l:List Nat):(replicate (n+1) 32++l).set n x=replicate n 32++[x]++l:=by
 rw[List.replicate_succ',lP,List.set_append];simp
theorem _root_.aK.Ed.body(E:Ed Y first W N ac tail)(b:Bool)(h1:1<=ax first W N)(hY:qYa<10^(ax first W N+ac.length)):
  WS (W++N++Qm ac) qYa b=jN first (W++N) ((pad qYa (ax first W N+ac.length)).take (ax first W N)) b++(if ac=[]then[]else 46::(pad qYa (ax first W N+ac.length)).drop (ax first W N)):=by
 have hw:=E.wh;have BS:=E.many;have Pg:=E.zP;obtain⟨r,hr⟩:∃r,W++N=first::r:=by
  have:=E.zL N;cases hh:W++N with
  |nil=>rw[hh]at this;cases this
  |cons a r=>rw[hh]at this;exact⟨r,by rw[lB this]⟩
 have mo:=ZX E.f;have eY:E.f=E.f:=rfl;have hlen:(pad qYa (ax first W N+ac.length)).length=ax first W N+ac.length:=Xn hY (by lia);have lm:((pad qYa (ax first W N+ac.length)).drop (ax first W N)).length=ac.length:=by rw[lJ,hlen];lia
 have Ph:(W++N++Qm ac).headD 0=first:=by rw[hr];rfl
 have BU:Iw (Qm ac):=by unfold Qm;split;exact .inl rfl;exact .inr ⟨_,Z⟩
 have hT:Qm ac=[]\/∃t,(if ac=[]then([]:List Nat)else 46::(pad qYa (ax first W N+ac.length)).drop (ax first W N))=46::t:=by
  by_cases hb:ac=[]
  ·exact .inl (by unfold Qm;rw[yaf hb])
  ·exact .inr ⟨_,by rw[yac hb]⟩
 unfold WS;rw[Ph,ZL,BS,Pg];cases ev:ar first with
 |false=>
  have sK:ax first W N=W.count first+N.count 57:=by unfold ax;rw[ev];rfl
  rw[←sK];have hs:aN (W++N++Qm ac) (pad qYa (ax first W N+ac.length))=wD first (W++N) ((pad qYa (ax first W N+ac.length)).take (ax first W N))++(if ac=[]then[]else 46::(pad qYa (ax first W N+ac.length)).drop (ax first W N)):=by
   unfold wD;rw[yS false _ _ _ hw,BS, ←sK,E.Iy lm,ev,jL true false,(qS false _ _ _ hw (by lia)).1]
  have hh:aO (W++N++Qm ac) (aN (W++N++Qm ac) (pad qYa (ax first W N+ac.length)))=KP first (W++N) ((pad qYa (ax first W N+ac.length)).take (ax first W N)):=by
   rw[hs];unfold wD KP;rw[ev,jL true false,vU true false,yT false _ BU _ _ _ hw hT]
  rw[hh,hs,yac (by decide)];unfold jN Ar;rw[yac (show ¬ (ar first=true) by rw[ev];decide)];have hle:KP first (W++N) ((pad qYa (ax first W N+ac.length)).take (ax first W N))<=(wD first (W++N) ((pad qYa (ax first W N+ac.length)).take (ax first W N))).length:=by
   unfold KP wD;rw[kK];exact vV _ _ _ _
  rw[ybo hle]
  by_cases Ix:first=57
  ·have h0:KP first (W++N) ((pad qYa (ax first W N+ac.length)).take (ax first W N))=0:=by
    unfold KP;rw[hr,ev,qR mo.2.1 (by simp),yaf (.inl Ix)];rfl
   rw[h0,yac (show ¬ (first≠57)from λz=>z Ix)];simp
  ·rw[yaf Ix,lP]
 |true=>
  have Ix:first≠57:=λz=>by rw[z]at ev;cases ev
  have Pj:first≠42:=λz=>by rw[z]at ev;cases ev
  have sK:ax first W N+1=W.count first+N.count 57:=by
   have hp:1<=W.count first:=ydF.mpr (yaW E.w.hd);unfold ax;rw[ev,yaf rfl];lia
  rw[←sK,show ax first W N+1+ac.length=(ax first W N+ac.length)+1 by lia,jK hY (by lia)];have DG:Wh r:=λx hx=>hw x (by rw[hr];exact lG _ hx);have Pk:aZ.many r=ax first W N:=by
   have:=BS;rw[hr,JE,yaf mo.1]at this;lia
  generalize Pl:pad qYa (ax first W N+ac.length)=am at*;have hs:aN (W++N++Qm ac) (48::am)=48::(lr true false r am++(if ac=[]then[]else 46::am.drop (ax first W N))):=by
   rw[hr,lQ,Z9 mo.1];show 48::aN (r++Qm ac) am=_;rw[yS true _ _ _ DG,Pk,E.Iy lm]
  have ge:KP first (W++N) (am.take (ax first W N))=(ls true false r am).getD r.length+1:=by
   unfold KP;rw[hr,ev,FH mo.2.1 rfl,(qS true _ _ _ DG (by lia)).2,lD];cases ls true false r am<;>rfl
  have hh:aO (W++N++Qm ac) (aN (W++N++Qm ac) (48::am))=(ls true false r am).getD r.length+1:=by
   rw[hs,hr,lQ,aO,yac (by rintro(q|⟨_,q⟩);exact Ix q;exact q Z)];show aO (r++Qm ac) (lr true false r am++_)+1=_;rw[yT true _ BU _ _ _ DG hT]
  have Al:wD first (W++N) (am.take (ax first W N))=32::lr true false r am:=by
   unfold wD;rw[hr,ev,Iv mo.2.1 rfl,(qS true _ _ _ DG (by lia)).1]
  rw[hh,hs,yaf rfl];unfold jN Ar;rw[yaf ev,yaf Ix,yac Pj,ge,Al,Nat.add_sub_cancel];rw[show List.drop ((ls true false r am).getD r.length+1) (32::lr true false r am)=(lr true false r am).drop ((ls true false r am).getD r.length)from rfl,Pf];show _++List.drop ((ls true false r am).getD r.length) (lr true false r am++_)=_;rw[ybo (by rw[kK];exact vV _ _ _ _),lP,lP,lP]
end
end aZ
namespace L2
open PySem PySem.Spec PyProof.Rows
theorem Pm{z:Str}{g:TG}{tb:TS}{D:Ends}{σ:St}{H:Hp}(Pv:Nat->St->Hp->Prop)(h0:Pv 0 σ H)
  (hs:∀i c σ H,z.cps[i]? =some c->Pv i σ H->g (.str ⟨#[c]⟩) σ H λσ2 H2=>tb {D with nx:=Pv (i+1),ct:=Pv (i+1),bk:=D.nx} σ2 H2) (hd:∀σ H,Pv z.cps.size σ H->D.nx σ H):
  ∃W:Nat->Nat->St->Hp->Prop,(∃m,W 0 m σ H)/\∀i m σ H,W i m σ H->
   ((BN z).stop i H/\D.nx σ H)\/((BN z).go i H/\∃N:St->Hp->Prop,(∀σ' H',N σ' H'->∃m',m'<m/\W (i+1) m' σ' H')/\∀x H',(BN z).cK i H x H'->g x σ H' λσ2 H2=>tb {D with nx:=N,ct:=N,bk:=D.nx} σ2 H2):=by
 refine⟨λi m σ H=>m=z.cps.size-i/\i<=z.cps.size/\Pv i σ H,⟨z.cps.size,by simp,lX _,h0⟩,?_⟩;rintro i m σ H ⟨rfl,hi,p⟩
 by_cases bn:i<z.cps.size
 ·refine .inr ⟨bn,Pv (i+1),λσ' H' p'=>⟨z.cps.size-(i+1),by lia,Z,bn,p'⟩,λx H' y=>?_⟩;obtain⟨e,c,hc,e2⟩:=y;subst e e2;exact hs i c σ _ hc p
 ·have e:i=z.cps.size:=by lia
  subst e;exact .inl ⟨lA _,hd σ H p⟩
theorem VL{z:Str}{g:TG}{tb:TS}{D:Ends}{σ:St}{H:Hp}(Pv:Nat->St->Hp->Prop)(h0:Pv 0 σ H)
  (hs:∀i c σ H p,z.cps[i]? =some c->Pv i σ H->H p=none->g (.ref p) σ (upd H p (.tup [.int (i:Nat),.str ⟨#[c]⟩])) λσ2 H2=>tb {D with nx:=Pv (i+1),ct:=Pv (i+1),bk:=D.nx} σ2 H2) (hd:∀σ H,Pv z.cps.size σ H->D.nx σ H):
  ∃W:Nat->Nat->St->Hp->Prop,(∃m,W 0 m σ H)/\∀i m σ H,W i m σ H->
   ((BQ z).stop i H/\D.nx σ H)\/((BQ z).go i H/\∃N:St->Hp->Prop,(∀σ' H',N σ' H'->∃m',m'<m/\W (i+1) m' σ' H')/\∀x H',(BQ z).cK i H x H'->g x σ H' λσ2 H2=>tb {D with nx:=N,ct:=N,bk:=D.nx} σ2 H2):=by
 refine⟨λi m σ H=>m=z.cps.size-i/\i<=z.cps.size/\Pv i σ H,⟨z.cps.size,by simp,lX _,h0⟩,?_⟩;rintro i m σ H ⟨rfl,hi,p⟩
 by_cases bn:i<z.cps.size
 ·refine .inr ⟨bn,Pv (i+1),λσ' H' p'=>⟨z.cps.size-(i+1),by lia,Z,bn,p'⟩,λx H' y=>?_⟩;obtain⟨q,c,hq,hc,e,e2⟩:=y;subst e e2;exact hs i c σ _ q hc p hq
 ·have e:i=z.cps.size:=by lia
  subst e;exact .inl ⟨lA _,hd σ H p⟩
theorem UY{z:Str}{n:Nat}{fi:List Nat}{fv:List V}{tt:TT}(Pv:Nat->List V->Hp->Prop)(h:∀R:VK,R (.str z) H->tl σ H R) (ha:z.cps.all (· <128)=true) (DE:fi.map (λi=>σ[i]?)=fv.map (λv=>some (some v))) (h0:Pv 0 [] H) (hl:∀i vs H,i<=z.cps.size->Pv i vs H->vs.length<=i)
  (hs:∀i c vs H,z.cps[i]? =some c->Pv i vs H->g (.str ⟨#[c]⟩) (replicate n none++fv.map some) H λσ2 H2=>σ2.drop n=fv.map some/\tt σ2 H2 λb H3=>if b=true then te σ2 H3 λv H4=>Pv (i+1) (vs++[v]) H4 else Pv (i+1) vs H3)
  (hd:∀vs H,Pv z.cps.size vs H->∀p,H p=none->Q (.ref p) (upd H p (.lst vs))) (hz:z.cps.size<sizeLine):yP n fi (BO tl) g tt te σ H Q:=by
 refine h _ ⟨z,Z,ha,fv,DE,?_⟩;refine⟨λi m vs H=>m=z.cps.size-i/\i<=z.cps.size/\Pv i vs H,⟨z.cps.size,by simp,lX _,h0⟩,?_⟩;rintro i m vs H ⟨rfl,hi,p⟩;have hv:=hl i vs H hi p
 by_cases bn:i<z.cps.size
 ·refine .inr ⟨bn,by lia,Pv (i+1),λCh H' p'=>⟨z.cps.size-(i+1),by lia,Z,bn,p'⟩,λx H' y=>?_⟩;obtain⟨e,c,hc,e2⟩:=y;subst e e2;exact hs i c vs _ hc p
 ·have e:i=z.cps.size:=by lia
  subst e;exact .inl ⟨lA _,hd vs H p⟩
theorem kN(hK:X.K=K0)(ha:PE X a ta)(he:∀whole,isTrue a X.env whole=(do let v←whole;standAt a.pos;holding [v] (truthy v))):PT X a (λσ H Q=>ta σ H λx H'=>∃k,Df K0 x H' k/\Q k H'):=by
 subst hK;exact Q7 ha he
end L2
namespace Lw
open PySem PySem.Spec PyProof.Rows L2 aW aK bS aZ
open Builtin Builtin.Str StrLaws
noncomputable def dv(ps:List (Nat × Nat)):List (Key × V):=ps.map λx=>(Sum.inr (tx [x.1]),V.str (tx [x.2]))
theorem FJ(c:Nat):∀ps:List (Nat × Nat),Wm (dv ps) (Sum.inr (tx [c]):Key)=(ps.lookup c).map λd=>V.str (tx [d]):=by
 intro ps
 induction ps with
 |nil=>rfl
 |cons x r ih=>
  obtain⟨a,b⟩:=x;unfold Wm dv at ih ⊢;rw[lU,ybN,ybm]
  by_cases h:a=c
  ·subst h;simp
  ·have n1:decide ((Sum.inr (tx [a]):Key)=Sum.inr (tx [c]))=false:=lx λz=>h (ycL (UD (ydm z))).1;have n2:(c==a)=false:=yaB.mpr λz=>h z.symm;rw[n1,n2];exact ih
noncomputable def Iz:List (Nat × Nat):=[(44,44),(66,32),(48,48),(47,47),(46,46)]
noncomputable def IA:List (Nat × Nat):=[(36,36),(43,43),(45,32),(67,32),(82,32),(68,32),(66,32)]
noncomputable def IC:List (Nat × Nat):=[(36,36),(43,45),(45,45),(67,67),(82,82),(68,68),(66,66)]
noncomputable def As:List (Key × V):=[(Sum.inr ",",.str ","),(Sum.inr "B",.str " "),(Sum.inr "0",.str "0"),(Sum.inr "/",.str "/"),(Sum.inr ".",.str ".")]
noncomputable def BV:List (Key × V):=[(Sum.inr "$",.str "$"),(Sum.inr "+",.str "+"),(Sum.inr "-",.str " "),(Sum.inr "C",.str " "),(Sum.inr "R",.str " "),(Sum.inr "D",.str " "),(Sum.inr "B",.str " ")]
noncomputable def BW:List (Key × V):=[(Sum.inr "$",.str "$"),(Sum.inr "+",.str "-"),(Sum.inr "-",.str "-"),(Sum.inr "C",.str "C"),(Sum.inr "R",.str "R"),(Sum.inr "D",.str "D"),(Sum.inr "B",.str "B")]
theorem Pn:As=dv Iz:=by decide+kernel
theorem Po:BV=dv IA:=by decide+kernel
theorem Pp:BW=dv IC:=by decide+kernel
theorem jO(c:Nat):Wm As (Sum.inr (tx [c]):Key)=(bz c).map λd=>V.str (tx [d]):=by
 rw[Pn,FJ]
 congr 1
 unfold Iz bz
 by_cases h1:c=44
 ·subst h1;rfl
 ·by_cases h2:c=66
  ·subst h2;rfl
  ·by_cases h3:c=48
   ·subst h3;rfl
   ·by_cases h4:c=47
    ·subst h4;rfl
    ·by_cases h5:c=46
     ·subst h5;rfl
     ·have e:∀a:Nat,c≠a->(c==a)=false:=λa h=>yaB.mpr h;simp[ybm,h1,h2,h3,h4,h5,e 44 h1,e 66 h2,e 48 h3,e 47 h4,e 46 h5]
noncomputable def cw:List Nat:=[36,43,45,67,82,68,66]
theorem Pq(h:c∈cw):Wm BV (Sum.inr (tx [c]):Key)=some (.str (tx [aJ false c])):=by
 rw[Po,FJ];have:∀c∈cw,IA.lookup c=some (aJ false c):=by decide
 rw[this c h];rfl
theorem Pt(h:c∈cw):Wm BW (Sum.inr (tx [c]):Key)=some (.str (tx [aJ true c])):=by
 rw[Pp,FJ];have:∀c∈cw,IC.lookup c=some (aJ true c):=by decide
 rw[this c h];rfl
theorem J8(h:∀x∈l,x<128):(tx l).cps.all (· <128)=true:=by
 rw[Array.all_eq_true'];intro x hx;have:x∈l:=by simpa using hx
 simpa using h x this
theorem yU(h:c∈cw):c<128:=by
 have:∀c∈cw,c<128:=by decide
 exact this c h
theorem jP:("*":Str)=tx [42]:=by decide+kernel
theorem X5:(" ":Str)=tx [32]:=by decide+kernel
theorem FK:(".":Str)=tx [46]:=by decide+kernel
theorem Wa:("0":Str)=tx [48]:=by decide+kernel
theorem UZ:("9":Str)=tx [57]:=by decide+kernel
theorem qT:("+-$":Str)=tx [43,45,36]:=by decide+kernel
theorem yV:(",B0/":Str)=tx [44,66,48,47]:=by decide+kernel
section
variable {P:Program}{w:World}{K:Frag}{mg:Str->Option Value}{M:Heap}{f:Addr}{fd:FuncData}{tk:Nat->Tok}{c kr:Nat->Addr}
theorem len_signs{tt:TT}(ok:Nat->Bool)(dj:NB.length=2)(ha:∀x∈l,x<128) (hl:l.length<=900) (h:∀R:VK,R (.str (tx l)) H->tl σ H R)
  (l7:∀(y:Nat)(H1:Hp)(R:Bool->Hp->Prop),R (ok y) H1->tt [none,some (.str (tx [y]))] H1 R) (k:∀H',Qu H H'->Q (.int ((l.filter ok).length:Nat)) H'):
  oI (λxs H Q=>∃p ys,xs=[.ref p]/\(ay K H p ys\/ai K H p ys)/\Q (.int (ys.length:Nat)) H) (Jp (V0 NB (BO tl) (Jz 1) tt (ZB 1)) WI) σ H Q:=by
 have hz:=zza
 have ce:=Qi l;dsimp only[oI,Jp,WI];refine Kf (z:=tx l) (λm vs H2=>vs=((l.take m).filter ok).map (λc=>V.str (tx [c]))/\H2=H) h (J8 ha) ⟨Z,Z⟩ (λm vs H hm⟨e,_⟩=>?_) ?_ ?_ (by show(tx l).length<sizeLine;lia)
 ·rw[e,lu];exact yas (yaL _ _) (by rw[lI];lia)
 ·rintro m cc vs H1 hx ⟨rfl,rfl⟩;have f8:l[m]? =some cc:=by simpa using hx
  have re:l.take (m+1)=l.take m++[cc]:=by rw[yaE,f8];rfl
  rw[show(⟨#[cc]⟩:Str)=tx [cc]from rfl,dj];refine l7 cc _ _ ?_;rw[re,ybj];cases hn:ok cc with
  |true=>
   refine QX ⟨_,Z,?_,Z⟩;rw[yaF,yaf hn];simp
  |false=>
   refine QQ ⟨?_,Z⟩;rw[yaF,yac (by rw[hn];decide)];simp
 ·rintro vs H1 ⟨rfl,rfl⟩ pv Pu;rw[yaq (show l.length<=(tx l).cps.size by simp)];refine⟨pv,_,Z,.inl (ay.of Qe),?_⟩;rw[lu];exact k _ (Qu.new Pu)
def jQ:Sp:=λvs H Q _=>∃(l:List Nat)(b:Bool),vs=[.str (tx l),.bl b]/\l.length<=100/\(∀x∈l,x∈cw)/\∀H',Qu H H'->Q (.str (tx (l.map (aJ b)))) H'
theorem U0(F:az K "sign_text" "sign_text" KH f fd)(T:Txt K mg tk c kr)(KN:aA P w K (kr 4) BV)(KW:aA P w K (kr 5) BW):af P w K mg M (ak P w) 1 f fd ["symbols","is_below"] jQ:=by
 refine okN F UG (λvs H Q E h=>?_) (λad A L s H vs Q E hr h=>?_)
 ·obtain⟨l,b,rfl,_⟩:=h;rfl
 ·obtain⟨l,b,rfl,hl,hs,k⟩:=h;have hz:=zza
  have ce:=Qi l;refine⟨_,(Qg (Qr (JF yau ybr ybs Xu Qd (Qa (UT (NB:=[".0","symbol"]) (FR:=["is_below"]) (fi:=[1]) Z ⟨Z,by decide+kernel,by decide+kernel,by decide+kernel,by decide+kernel,by decide+kernel⟩ Z Z (Kq (pv 0)) (λ_ _ _=>(Qk (i:=1) (show([".0","symbol","is_below"]:List Str).Nodup by decide+kernel) Z (Or.inl Z))) (λ_ _ _=>Xt) (λ_ _ _=>(QC (kN (K0:=K) Z (pv 2) (λ_=>rfl)) (K4 KW (QD (v:=V.ref (kr 5)) Z T.nV Z) (pv 1) (λ_ _=>rfl)) (K4 KN (QD (v:=V.ref (kr 4)) Z T.gX Z) (pv 1) (λ_ _=>rfl))))) Qc)))),?_⟩;refine⟨Z,?_⟩;refine UY (z:=tx l) (fv:=[.bl b]) (λm vs H2=>vs=((l.take m).map (aJ b)).map (λc=>V.str (tx [c]))/\H2=H) (λR h=>⟨_,Z,h⟩) (J8 λx hx=>yU (hs x hx)) rfl ⟨Z,Z⟩ (λm vs H hm⟨e,_⟩=>?_) ?_ ?_ (by show(tx l).length<sizeLine;lia)
  ·rw[e,lu,lu,lI];lia
  ·rintro m cc vs H1 hx ⟨rfl,rfl⟩;have f8:l[m]? =some cc:=by simpa using hx
   have hm:=hs cc (lM f8);have re:l.take (m+1)=l.take m++[cc]:=by rw[yaE,f8];rfl
   rw[show(⟨#[cc]⟩:Str)=tx [cc]from rfl];refine⟨Z,?_⟩;dsimp only[ve];refine QX ⟨_,Z,b,Z,?_⟩;have fin:∀bb:Bool,bb=b->((l.take m).map (aJ b)).map (λc=>V.str (tx [c]))++[.str (tx [aJ bb cc])]=((l.take (m+1)).map (aJ b)).map (λc=>V.str (tx [c])):=λbb e=>by rw[re,e];simp
   cases b with
   |true=>exact QX ⟨_,Z,Sum.inr (tx [cc]),_,Z,Z,Pt hm,fin true rfl,Z⟩
   |false=>exact QQ ⟨_,Z,Sum.inr (tx [cc]),_,Z,Z,Pq hm,fin false rfl,Z⟩
  ·rintro vs H1 ⟨rfl,rfl⟩ q hq;rw[yaq (show l.length<=(tx l).cps.size by simp)];refine⟨"",q,(l.map (aJ b)).map λc=>tx [c],Z,Z,ay.of (by rw[Qe,lT (f:=λc=>tx [c])];rfl),XS (by rw[lu];lia),?_⟩;rw[Zw];exact k _ (Qu.new hq)
def qU:Sp:=λvs H Q _=>∃(d:Nat)(r:List Nat),vs=[.str (tx (d::r))]/\r.length<=200/\Q (.bl (!(d::r).contains 57&& !ar d)) H
theorem VM(F:az K "hides_nought" "hides_nought" Xj f fd)(T:Txt K mg tk c kr):af P w K mg M (ak P w) 1 f fd ["body"] qU:=by
 refine okN F Vt (λvs H Q E h=>?_) (λad A L s H vs Q E hr h=>?_)
 ·obtain⟨d,r,rfl,_⟩:=h;rfl
 ·obtain⟨d,r,rfl,hl,k⟩:=h;have hz:=zza
  refine⟨_,(Qg (Qr (Ug (JR Jg Qd (pv 0) (by with_unfolding_all rfl)) (Uf (JR Jg (QN ZO (pv 0) Qj (λ_ _=>rfl)) (QD (v:=V.str "+-$") Z T.gG ⟨_,Z⟩) (by with_unfolding_all rfl)))))),?_⟩;refine⟨_,Z,_,_,Z,Z,_,Z,?_⟩;rw[UZ,Jw];cases h1:(d::r).contains 57 with
  |true=>rw[h1]at k;exact QQ k
  |false=>
   rw[h1]at k;have h0:(d::r)[0]? =some d:=rfl;refine QX ⟨_,Z,tx (d::r),(0:Int),d,Z,Z,by rw[Qi,lD];lia,J2 h0,_,_,Z,Z,?_⟩;rw[show(⟨#[d]⟩:Str)=tx [d]from rfl,qT,Jw];exact k
def YX:Sp:=λvs H Q _=>∃l:List Nat,vs=[.str (tx l)]/\l.length<=200/\(∀x∈l,x<128)/\∀H',Qu H H'->Q (.str (tx (X4 l))) H'
theorem V7(F:az K "nought_text" "nought_text" XB f fd)(O:Own mg):af P w K mg M (ak P w) 1 f fd ["symbols"] YX:=by
 refine okN F V3 (λvs H Q E h=>?_) (λad A L s H vs Q E hr h=>?_)
 ·obtain⟨l,rfl,_⟩:=h;rfl
 ·obtain⟨l,rfl,hl,ha,k⟩:=h;have hz:=zza
  have ce:=Qi l;refine⟨_,(Qb (QL (Ql Jg Qd (pv 0) (by with_unfolding_all rfl)) (Qg (Qr (Qt QB Qd (Qq QF Z O.len yaK (Qa (pv 0) Qc))))) Qs)
   (Qg (Qr (JF yau ybr ybs Xu Qd (Qa (Zi (NB:=[".0","symbol"]) Z ⟨Z,by decide+kernel,by decide+kernel,by decide+kernel⟩ (Kq (pv 0)) (λ_ _ _=>(Qk (i:=1) (show([".0","symbol"]:List Str).Nodup by decide+kernel) Z (Or.inl Z))) (λ_ _ _=>Xt) (λ_ _ _=>(QC (Ql Q3 (pv 1) Qd (Qo _)) Qd Qd))) Qc))))),?_⟩
  refine⟨_,Z,_,_,Z,Z,_,Z,?_⟩;rw[jP,Jw];cases ge:l.contains 42 with
  |false=>
   have hn:X4 l=replicate l.length 32:=by unfold X4;rw[yac (λz=>by rw[yai.mpr z]at ge;cases ge)]
   rw[hn]at k;refine QX ⟨_,Z,tx l,Z,by lia,?_⟩;rw[X5];refine⟨tx [32],((tx l).length:Int),Z,Z,by lia,by rw[Qi,lZ,lC];lia,by lia,?_⟩;rw[lZ,J7,ce];exact k _ (Qu.refl _)
  |true=>
   have hn:X4 l=l.map (λc=>if c=46 then 46 else 42):=by unfold X4;rw[yaf (yai.mp ge)]
   rw[hn]at k;refine QQ ⟨Z,?_⟩;refine Kf (z:=tx l) (λm vs H2=>vs=((l.take m).map (λc=>if c=46 then 46 else 42)).map (λc=>V.str (tx [c]))/\H2=H) (λR h=>⟨_,Z,h⟩) (J8 ha) ⟨Z,Z⟩ (λm vs H hm⟨e,_⟩=>?_) ?_ ?_ (by show(tx l).length<sizeLine;lia)
   ·rw[e,lu,lu,lI];lia
   ·rintro m cc vs H1 hx ⟨rfl,rfl⟩;have f8:l[m]? =some cc:=by simpa using hx
    have re:l.take (m+1)=l.take m++[cc]:=by rw[yaE,f8];rfl
    rw[show(⟨#[cc]⟩:Str)=tx [cc]from rfl,FK];dsimp only[Jz,ve];refine QX ⟨_,Z,Z,_,Z,?_⟩;rw[Jm]
    by_cases Ao:cc=46
    ·rw[ly Ao];exact QX ⟨by rw[re];simp[Ao],Z⟩
    ·rw[lx Ao];exact QQ ⟨by rw[re];simp[Ao],Z⟩
   ·rintro vs H1 ⟨rfl,rfl⟩ q hq;rw[yaq (show l.length<=(tx l).cps.size by simp)];refine⟨"",q,(l.map (λc=>if c=46 then 46 else 42)).map λc=>tx [c],Z,Z,ay.of (by rw[Qe,lT (f:=λc=>tx [c])];rfl),XS (by rw[lu];lia),?_⟩;rw[Zw];exact k _ (Qu.new hq)
end
end Lw
namespace aZ
open aW aK PySem.NumText
theorem kO:∀(l fs:List Nat),(aN l fs).length=l.length:=by
 intro l
 induction l with
 |nil=>intro fs;rfl
 |cons c r ih=>
  intro fs;cases h:bz c with
  |none=>rw[Z9 h,lD,lD,ih]
  |some d=>rw[Kh h,lD,lD,ih]
theorem kP{l:List Nat}{i c:Nat}(h:l[i]? =some c):many (l.take (i+1))=many (l.take i)+(if bz c=none then 1 else 0):=by
 rw[yaE,h,ZL];show _+many [c]=_;rw[JE];rfl
theorem Pw(l:List Nat)(i:Nat):many (l.take i)+many (l.drop i)=many l:=by rw[←ZL,yem]
theorem jR{fs:List Nat}(h:fs[k]? =some x)(d:Nat):(fs.drop k).headD d=x/\(fs.drop k).tail=fs.drop (k+1):=by
 have hk:=(yaj.mp h).1;rw[yaM hk];have:fs[k]=x:=(yaj.mp h).2;exact⟨this,Z⟩
theorem yW:∀(l s:List Nat),aO l s<=l.length:=by
 intro l
 induction l with
 |nil=>intro s;exact lA _
 |cons c r ih=>
  intro s;rw[aO,lD]
  split
  ·exact lX _
  ·exact ybX (ih _)
theorem Px(h:bz c=some d):d<128:=by
 unfold bz at h
 repeat' (split at h)
 all_goals first|(cases h;decide)|cases h
theorem Py:∀(l fs:List Nat),(∀x∈fs,x<128)->∀y∈aN l fs,y<128:=by
 intro l
 induction l with
 |nil=>intro fs _ y hy;cases hy
 |cons c r ih=>
  intro fs hf y hy;cases h:bz c with
  |none=>
   rw[Z9 h]at hy;rcases yag.mp hy with rfl|hy
   ·cases fs with
    |nil=>decide
    |cons a fs=>exact hf a lH
   ·exact ih _ (λx hx=>hf x (List.mem_of_mem_tail hx)) y hy
  |some d=>
   rw[Kh h]at hy;rcases yag.mp hy with rfl|hy
   ·exact Px h
   ·exact ih _ hf y hy
theorem kR(u k:Nat):∀x∈pad u k,x<128:=λx hx=>by
 have h:=X3 u k x hx;lia
end aZ
namespace Lw
open PySem PySem.Spec PyProof.Rows L2 aW aK bS aZ
open Builtin Builtin.Str StrLaws
section
variable {P:Program}{w:World}{K:Frag}{mg:Str->Option Value}{M:Heap}{f:Addr}{fd:FuncData}{tk:Nat->Tok}{c kr:Nat->Addr}
def YY:Sp:=λvs H Q _=>∃(body:List Nat)(u:Nat),vs=[.str (tx body),.int (u:Nat)]/\body.length<=200/\(∀x∈body,x<128)/\u<10^18/\1<=many body/\u<10^many body/\∀H',Qu H H'->Q (.str (tx (aN body (pad u (many body))))) H'
theorem kS(F:az K "spread" "spread" YG f fd)(O:Own mg)(T:Txt K mg tk c kr)(KB:aA P w K (kr 3) As)(gx:Def P w K mg M 2 "figures_of" ["number"] UX):af P w K mg M (ak P w) 3 f fd ["body","units"] YY:=by
 refine okN F ZR (λvs H Q E h=>?_) (λad A L s H vs Q E hr h=>?_)
 ·obtain⟨body,u,rfl,_⟩:=h;rfl
 ·obtain⟨body,u,rfl,hl,ha,hu,sf,iw,k⟩:=h;have hz:=zza
  have ce:=Qi body;have FL:many body<=body.length:=by unfold many;exact yaL _ _
  refine⟨_,(Qb (Z' 3 ZR.nd (Qq QR Z O.len yaK (Qa (Zi (NB:=[".0","symbol"]) Z ⟨Z,by decide+kernel,by decide+kernel,by decide+kernel⟩ (Kq (pv 0)) (λ_ _ _=>(Qk (i:=1) (show([".0","symbol"]:List Str).Nodup by decide+kernel) Z (Or.inl Z))) (λ_ _ _=>(XO (Z0 (Wn KB (pv 1) (QD (v:=V.ref (kr 3)) Z T.gW Z)) (by with_unfolding_all rfl)))) (λ_ _ _=>(pv 1))) Qc)))
   (Qb (Z' 4 ZR.nd (JF yau ydI ydJ W1 (gx.pq hr Qy (Qa (pv 1) Qc)) (Qa (pv 3) Qc)))
   (Qb (Z' 5 ZR.nd (JG Qc))
   (Qb (Z' 6 ZR.nd Qj)
   (Qb (Z1 yaG Z (Kq (pv 0)) (Y' 2 ZR.nd) (Qg (QL (Z0 (O3 KB (pv 2) (QD (v:=V.ref (kr 3)) Z T.gW Z)) (by with_unfolding_all rfl)) (Qg (XI (JF yaV yaP yaQ Zv (pv 5) (Qa (K4 KB (QD (v:=V.ref (kr 3)) Z T.gW Z) (pv 2) (λ_ _=>rfl)) Qc)))) (Qb (XI (JF yaV yaP yaQ Zv (pv 5) (Qa (QN ZO (pv 4) (pv 6) (λ_ _=>rfl)) Qc)))
   (Qg (Va (i:=6) ZR.nd Z (Or.inl Z) Qj Yc))))))
   (Qg (Qr (JF yau ybr ybs Xu Qd (Qa (pv 5) Qc))))))))),?_⟩
  dsimp only[Jz,Wi,Wg,qf];refine len_signs (l:=body) place rfl ha (by lia) (λR h=>⟨_,Z,h⟩) (λy H1 R h=>?_) λH1 S1=>?_
  ·refine⟨_,Z,Sum.inr (tx [y]),Z,Z,_,Z,?_⟩;rw[jO];unfold place at h;cases e:bz y<;>rw[e]at h<;>exact h
  have IN:(body.filter place).length=many body:=rfl;rw[IN];refine⟨_,Z,u,Z,hu,λH2 S2=>⟨Z,_,Z,tx (dec u),(many body:Nat),Z,Z,ZW (by lia) (by lia),?_⟩⟩;rw[VG u sf];have ev:=Xn iw sf;generalize BE:pad u (many body)=am at*;have si:=Qi am;refine⟨Aj,λp hp=>?_⟩;have S03:Qu H (upd H2 p (.lst [])):=(S1.trans S2).trans (Qu.new hp);have ID:=S1.trans S2;refine⟨_,Z,tx body,Z,J8 ha,Pm (z:=tx body) (λi σ H3=>∃x2 done,σ=[some (.str (tx body)),some (.int (u:Nat)),x2,some (.int (many body:Nat)),some (.str (tx am)),some (.ref p),some (.int (many (body.take i):Nat))]/\H3=upd H2 p (.lst (done.map λc=>.str (tx [c])))/\done.length=i/\done++aN (body.drop i) (am.drop (many (body.take i)))=aN body am)
   ⟨none,[],Z,Z,Z,Z⟩ ?_ ?_⟩
  ·rintro i cc σ H3 hx ⟨x2,done,rfl,rfl,lm,hinv⟩;have f8:body[i]? =some cc:=by simpa using hx
   have hi:=(yaj.mp f8).1;have dh:body.drop i=cc::body.drop (i+1):=by
    rw[yaM hi]
    congr 1
    exact(yaj.mp f8).2
   have BX:=kP f8;rw[show(⟨#[cc]⟩:Str)=tx [cc]from rfl];refine⟨_,Z,Sum.inr (tx [cc]),Z,Z,_,Z,?_⟩;rw[jO];have app:∀d:Nat,upd (upd H2 p (.lst (done.map λc=>V.str (tx [c])))) p (.lst ((done.map λc=>V.str (tx [c]))++[.str (tx [d])]))=upd H2 p (.lst ((done++[d]).map λc=>V.str (tx [c]))):=λd=>by
    funext b
    by_cases hb:b=p
    ·subst hb;rw[Qe,Qe];simp
    ·rw[Qx hb,Qx hb,Qx hb]
   cases sK:bz cc with
   |some d=>
    rw[dh,Kh sK]at hinv;refine QX ⟨_,Z,.inl ⟨Z,_,.inl (.inl Qe)⟩,_,Z,Sum.inr (tx [cc]),_,Z,Z,by rw[jO,sK];rfl,p,_,_,Z,Z,Qe,by rw[lu];lia,?_⟩;rw[app d];refine⟨some (.str (tx [cc])),done++[d],?_,Z,by rw[lq,lm];rfl,?_⟩
    ·rw[BX,yac (by rw[sK];simp)];rfl
    ·rw[BX,yac (by rw[sK];simp),lP];exact hinv
   |none=>
    have bn:many (body.take i)<am.length:=by
     have:=Pw body (i+1);rw[BX,yaf sK]at this;lia
    obtain⟨g,hg⟩:∃g,am[many (body.take i)]? =some g:=⟨_,yah bn⟩;obtain⟨e1,e2⟩:=jR hg 48;rw[dh,Z9 sK,e1,e2]at hinv;refine QQ ⟨_,Z,.inl ⟨Z,_,.inl (.inl Qe)⟩,_,Z,_,Z,tx am,_,g,Z,Z,by lia,J2 hg,p,_,_,Z,Z,Qe,by rw[lu];lia,?_⟩;rw[show(⟨#[g]⟩:Str)=tx [g]from rfl,app g];refine⟨_,Z,_,_,Z,Z,some (.str (tx [cc])),done++[g],?_,Z,by rw[lq,lm];rfl,?_⟩
    ·rw[BX,yaf sK];rfl
    ·rw[BX,yaf sK,lP];exact hinv
  ·rintro σ H3 ⟨x2,done,rfl,rfl,lm,hinv⟩;have hsz:(tx body).cps.size=body.length:=by simp
   rw[hsz]at hinv lm;rw[ycR (lA _)]at hinv;have hd2:done=aN body am:=by rw[←hinv];simp[aN]
   refine⟨Z,_,Z,"",p,done.map λc=>tx [c],Z,Z,ay.of (by rw[Qe,lT];rfl),XS (by lia),?_⟩;rw[Zw,hd2];exact k _ (λb o e=>by rw[Qx (Qz (ID _ _ e) hp)];exact ID _ _ e)
def YZ:Sp:=λvs H Q _=>∃body sg:List Nat,vs=[.str (tx body),.str (tx sg)]/\body.length<=200/\(∀x∈body,x<128)/\sg.length=body.length/\∀H',Qu H H'->Q (.int (aO body sg:Nat)) H'
theorem U1(F:az K "hidden_in" "hidden_in" KJ f fd)(O:Own mg)(OE:mg "enumerate"=none)(T:Txt K mg tk c kr):af P w K mg M (ak P w) 1 f fd ["body","signs"] YZ:=by
 refine okN F XX (λvs H Q E h=>?_) (λad A L s H vs Q E hr h=>?_)
 ·obtain⟨body,sg,rfl,_⟩:=h;rfl
 ·obtain⟨body,sg,rfl,hl,ha,Au,k⟩:=h;have hz:=zza
  have ce:=Qi body;have ix:=Qi sg;refine⟨_,(Qb (Z1 yaG Z (YU Z OE (Qa (pv 0) Qc)) (QY Z (Qh (Y' 2 XX.nd) (Qh (Y' 3 XX.nd) QE))) (Qg (QL (PW.pt (Xa (Ql Q3 (pv 3) Qd (Qo _)) (Zf (PW.pt (Je (Ql Jg (pv 3) (QD (v:=V.str ",B0/") Z T.gL ⟨_,Z⟩) (by with_unfolding_all rfl)) (Q6 (Ql ZZ (QN ZO (pv 1) (pv 2) (λ_ _=>rfl)) Qd (Qo _)))))))) (Qg (Qr (pv 2))) Qs)))
   (Qg (Qr (Qq QF Z O.len yaK (Qa (pv 0) Qc))))),?_⟩
  refine⟨_,Z,tx body,Z,J8 ha,VL (z:=tx body) (λi σ H2=>∃x2 x3,σ=[some (.str (tx body)),some (.str (tx sg)),x2,x3]/\Qu H H2/\aO body sg=i+aO (body.drop i) (sg.drop i)) ⟨none,none,Z,Qu.refl H,by simp⟩ ?_ ?_⟩
  ·rintro i cc σ H2 p hx ⟨x2,x3,rfl,S2,hinv⟩ hp;have f8:body[i]? =some cc:=by simpa using hx
   have hi:=(yaj.mp f8).1;have dh:body.drop i=cc::body.drop (i+1):=by
    rw[yaM hi]
    congr 1
    exact(yaj.mp f8).2
   obtain⟨g,hg⟩:∃g,sg[i]? =some g:=⟨_,yah (by lia)⟩;obtain⟨e1,e2⟩:=jR hg 0;have S3:=S2.trans (Qu.new (o:=.tup [.int (i:Nat),.str ⟨#[cc]⟩]) hp);rw[dh,aO,e1,e2]at hinv;refine⟨p,_,Z,ai.of Qe,Z,_,_,Z,_,_,Z,Z,?_⟩;generalize upd H2 p (.tup [.int (i:Nat),.str ⟨#[cc]⟩])=H3 at S3;rw[show(⟨#[cc]⟩:Str)=tx [cc]from rfl];refine⟨_,Z,Z,_,Z,?_⟩;rw[UZ,Jm]
   by_cases h9:cc=57
   ·rw[ly h9];rw[yaf (.inl h9)]at hinv;refine QX (QX ⟨_,Z,?_⟩);have:=k H3 S3;rw[hinv]at this;exact this
   ·rw[lx h9];refine QQ ⟨_,Z,_,_,Z,Z,_,Z,?_⟩;rw[yV,Jw];cases No:([44,66,48,47]:List Nat).contains cc with
    |true=>
     rw[yac (by rintro(q|⟨q,_⟩);exact h9 q;rw[show ins cc=true from No]at q;cases q)]at hinv;exact QQ (QQ ⟨_,_,Z,S3,by lia⟩)
    |false=>
     refine QX ⟨_,Z,_,Z,tx sg,_,g,Z,Z,by lia,J2 hg,Z,_,Z,?_⟩;rw[show(⟨#[g]⟩:Str)=tx [g]from rfl,Wa,Jm]
     by_cases iz:g=48
     ·rw[ly iz];rw[yac (by rintro(q|⟨_,q⟩);exact h9 q;exact q iz)]at hinv;exact QQ ⟨_,_,Z,S3,by lia⟩
     ·rw[lx iz];rw[yaf (.inr ⟨No,iz⟩)]at hinv;refine QX ⟨_,Z,?_⟩;have:=k H3 S3;rw[hinv]at this;exact this
  ·rintro σ H2 ⟨x2,x3,rfl,S2,hinv⟩;have hsz:(tx body).cps.size=body.length:=by simp
   rw[hsz,ycR (lA _)]at hinv;refine⟨_,Z,tx body,Z,by lia,?_⟩;have:=k H2 S2;rw[hinv]at this;rw[ce];exact this
def qV:Sp:=λvs H Q _=>∃(d:Nat)(r:List Nat)(u:Nat)(b:Bool),vs=[.str (tx (d::r)),.int (u:Nat),.bl b]/\r.length<=190/\(∀x∈d::r,x<128)/\u<10^18/\1<=many (d::r)/\u<10^many (d::r)/\∀H',Qu H H'->Q (.str (tx (WS (d::r) u b))) H'
theorem U2(F:az K "body_text" "body_text" KI f fd)(T:Txt K mg tk c kr)(pA:Def P w K mg M 3 "spread" ["body","units"] YY)(ny:Def P w K mg M 1 "hidden_in" ["body","signs"] YZ)(gI:Def P w K mg M 1 "sign_text" ["symbols","is_below"] jQ):
  af P w K mg M (ak P w) 4 f fd ["body","units","is_below"] qV:=by
 refine okN F Z7 (λvs H Q E h=>?_) (λad A L s H vs Q E hr h=>?_)
 ·obtain⟨d,r,u,b,rfl,_⟩:=h;rfl
 ·obtain⟨d,r,u,b,rfl,hl,ha,hu,sf,iw,k⟩:=h;have hz:=zza
  have h0:(d::r)[0]? =some d:=rfl;have fW:=Qi (d::r);rw[lD]at fW;refine⟨_,(Qb (Z' 3 Z7.nd (pA.pq hr Qy (Qa (pv 0) (Qa (pv 1) Qc))))
   (Qb (Z' 4 Z7.nd (ny.pq hr Qy (Qa (pv 0) (Qa (pv 3) Qc))))
   (Qb (Z' 5 Z7.nd (QN ZO (pv 0) Qj (λ_ _=>rfl)))
   (Qb (QL (Ql Jf (pv 5) (QD (v:=V.str "+-$") Z T.gG ⟨_,Z⟩) (by with_unfolding_all rfl)) (Qg (Qr (Qt Qp (Qt Qp (Qt QB Qd (Qt Zg (pv 4) Qj)) (gI.pq hr Qy (Qa (pv 5) (Qa (pv 2) Qc)))) (QT JT (pv 3) (QV (pv 4)) Jl)))) Qs)
   (Qg (Qr (Qt Qp (Qt QB (QC (Ql Q3 (pv 5) Qd (Qo _)) Qd Qd) (pv 4)) (QT JT (pv 3) (QV (pv 4)) Jl)))))))),?_⟩
  refine⟨_,Z,_,Z,d::r,u,Z,by rw[lD];lia,ha,hu,sf,iw,λH1 S1=>?_⟩;have dc:=kO (d::r) (pad u (many (d::r)));have FN:=yW (d::r) (aN (d::r) (pad u (many (d::r))));unfold WS at k;generalize aN (d::r) (pad u (many (d::r)))=sg at dc FN k;have htg:=Qi sg;refine⟨_,Z,_,Z,d::r,sg,Z,by rw[lD];lia,ha,dc,λH2 S2=>?_⟩;generalize aO (d::r) sg=hi at FN k;rw[lD]at dc FN;refine⟨_,Z,tx (d::r),(0:Int),d,Z,Z,by lia,J2 h0,?_⟩;rw[show(⟨#[d]⟩:Str)=tx [d]from rfl];refine⟨_,Z,_,_,Z,Z,_,Z,?_⟩;rw[qT,Jw];rw[show(d::r).headD 0=d from rfl]at k;have iA:=Qi (sg.drop hi);rw[lJ]at iA;cases ev:([43,45,36]:List Nat).contains d with
  |true=>
   rw[yaf (show ar d=true from ev)]at k;have FO:d∈cw:=by
    have:∀d∈([43,45,36]:List Nat),d∈cw:=by decide
    exact this d (yai.mp ev)
   rw[X5];refine QX ⟨_,Z,_,_,Z,Z,tx [32],(hi:Int)-1,Z,Z,by lia,by rw[Qi,lC];lia,by lia,?_⟩;rw[J7];refine⟨_,Z,_,Z,[d],b,Z,by simp,λx hx=>by rw[yak.mp hx];exact FO,λH3 S3=>?_⟩;refine⟨_,_,Z,Z,by rw[Qi,Qi,lN,lu,lC];lia,?_⟩;rw[QM];refine⟨_,Z,_,Z,_,Z,tx sg,Z,by lia,?_⟩;rw[JY];refine⟨_,_,Z,Z,by rw[Qi,iA,lq,lN,lu,lC];lia,?_⟩;rw[QM,show((hi:Int)-1).toNat=hi-1 by lia];exact k _ ((S1.trans S2).trans S3)
  |false=>
   rw[yac (by rw[show ar d=false from ev];decide)]at k;refine QQ ?_;refine⟨_,Z,Z,_,Z,?_⟩;rw[jP,Jm];refine Js (λv H'=>v=.str (tx [if d=42 then 42 else 32])/\H'=H2) (λz rest=>rest _ _ ⟨by rw[yaf (yap z)],Z⟩) (λz rest=>rest _ _ ⟨by rw[X5,yac (yav z)],Z⟩) ?_;rintro v H' ⟨rfl,rfl⟩;refine⟨_,Z,tx [if d=42 then 42 else 32],(hi:Int),Z,Z,by lia,by rw[Qi,lZ,lC];lia,by lia,?_⟩;rw[lZ,J7];refine⟨_,Z,_,Z,_,Z,tx sg,Z,by lia,?_⟩;rw[JY];refine⟨_,_,Z,Z,by rw[Qi,iA,lN];lia,?_⟩;rw[QM];exact k _ (S1.trans S2)
end
theorem bx.tk{rs:List Addr}{rows:List Rw}(h:bx H rs rows):∀k,bx H (rs.take k) (rows.take k):=by
 induction h with
 |nil=>intro k;rw[yeB,yeB];exact .nil
 |cons a _ ih=>
  intro k;cases k with
  |zero=>exact .nil
  |succ k=>exact .cons a (ih k)
theorem Pz(rs:List Addr)(h:a<=b)(hb:b<=rs.length):zY (rs.map V.ref) (some (a:Int)) (some (b:Int))=((rs.drop a).take (b-a)).map V.ref:=by
 unfold zY;rw[HT.Yv,HT.Yv,lu,ybb (yas h hb),ybb hb,List.map_take,yeA]
theorem Y0:∀l∈([[],[43],[45],[36],[43,36],[45,36]]:List (List Nat)),(∀x∈l,x∈cw)/\l.length<=2:=by decide
theorem qW:∀l∈([[],[43],[45],[67,82],[68,66]]:List (List Nat)),(∀x∈l,x∈cw)/\l.length<=2:=by decide
theorem Wb:∀x∈yO,x<128:=by decide
theorem Ki{Y W N ac tail:List Nat}(h:Y.length+(W.length+N.length)+ac.length+tail.length<=60):(QO Y W N ac tail).length<=61:=by
 have lm:(Qm ac).length<=ac.length+1:=by unfold Qm;split<;>simp
 unfold QO;rw[lq,lq,lq,lq];lia
theorem X6(Y W N ac tail:List Nat):QO Y W N ac tail=Y++(W++N++Qm ac)++tail:=by unfold QO;simp[lP]
section
variable {P:Program}{w:World}{K:Frag}{mg:Str->Option Value}{M:Heap}{f:Addr}{fd:FuncData}{tk:Nat->Tok}{c:Nat->Addr}
def Y1(K:Frag):Sp:=λvs H Q _=>∃(p:Addr)(rs:List Addr)(Y:List Nat)(first:Nat)(W N ac tail:List Nat),vs=[.ref p]/\aj K H p rs (aq [] (QO Y W N ac tail))/\Ed Y first W N ac tail/\Y.length+(W.length+N.length)+ac.length+tail.length<=60/\
 ∀q H',Qu H H'->H' q=some (.tup [.str (tx Y),.str (tx (W++N++Qm ac)),.str (tx tail)])->Q (.ref q) H'
theorem VN(F:az K "edited_parts" "edited_parts" Xh f fd)(md:Def P w K mg M 2 "lead_of" ["rows"] (jB K))(me:Def P w K mg M 3 "body_of" ["rows","at"] (jD K))(mH:Def P w K mg M 1 "written_out" ["rows"] (FG K))(mf:Def P w K mg M 1 "tail_of" ["rows","at"] (jC K)):
  af P w K mg M (ak P w) 4 f fd ["rows"] (Y1 K):=by
 refine okN F Jj (λvs H Q E h=>?_) (λad A L s H vs Q E hr h=>?_)
 ·obtain⟨p,rs,Y,first,W,N,ac,tail,rfl,_⟩:=h;rfl
 ·obtain⟨p,rs,Y,first,W,N,ac,tail,rfl,R,Ee,hl,k⟩:=h;have hz:=zza
  have SC:=Ki hl;have dZ:=vJ Ee.DC;have PB:=Ee.rows;have Fk:=Ee.Iq (aq [] N++(aq [] (Qm ac)++aq [] tail));rw[←PB]at Fk;generalize IF:aq [] (QO Y W N ac tail)=rows at*;have i8:rs.length=rows.length:=R.rw.len;have hle:=R.le;refine⟨_,(Qb (Jc (md.pq hr Qy (Qa (pv 0) Qc)) (QY Z (Qh (Y' 1 Jj.nd) (Qh (Y' 2 Jj.nd) QE))))
   (Qb (Jc (me.pq hr Qy (Qa (pv 0) (Qa (pv 2) Qc))) (QY Z (Qh (Y' 3 Jj.nd) (Qh (Y' 4 Jj.nd) (Qh (Y' 5 Jj.nd) (Qh (Y' 6 Jj.nd) (Qh (Y' 7 Jj.nd) QE)))))))
   (Qg (Qr (QG (Qa (pv 1) (Qa (mH.pq hr Qy (Qa (QT Yx (pv 0) (QV (pv 2)) (QV (pv 7))) Qc)) (Qa (mf.pq hr Qy (Qa (pv 0) (Qa (pv 7) Qc))) Qc)))))))),?_⟩
  refine⟨_,Z,p,rs,rows,Z,R,λld b hb PD h1 q1 H1 S1 g1=>⟨q1,_,Z,ai.of g1,Z,_,_,Z,_,_,Z,Z,?_⟩⟩;rw[Fk]at h1;obtain⟨rfl,FP⟩:Y=ld/\_:=by injection h1 with a1 a2;exact⟨a1,a2⟩
  refine⟨_,Z,_,Z,p,rs,rows,b,Z,R.same S1,hb,λpl many bi b2 b3 o o8 h2 h3 q2 H2 S2 g2=>⟨q2,_,Z,ai.of g2,Z,_,_,Z,_,_,Z,_,_,Z,_,_,Z,_,_,Z,Z,?_⟩⟩;rw[←FP,Ee.whole]at h2;obtain⟨rfl,rfl,rfl,PF⟩:[first]=pl/\W.count first=many/\N.count 57=bi/\_:=by injection h2 with a1 a2;injection a2 with a2 a3;injection a3 with a3 a4;exact⟨a1,a2,a3,a4⟩
  rw[←PF,Ee.kq]at h3;have IG:aq [] tail=rows.drop b3:=by injection h3
  have PH:=yaI List.length FP;have PJ:=yaI List.length IG;simp only[lq,lJ]at PH PJ;have EX:b<=b3:=by lia
  have BY:(rows.drop b).take (b3-b)=aq [] W++(aq [] N++aq [] (Qm ac)):=by
   rw[←FP];have e:aq [] W++(aq [] N++(aq [] (Qm ac)++aq [] tail))=(aq [] W++(aq [] N++aq [] (Qm ac)))++aq [] tail:=by simp[lP]
   rw[e,List.take_append_of_le_length (by simp only[lq];lia),yaq (by simp only[lq];lia)]
  have AC:=S1.trans S2;refine⟨_,Z,_,Z,_,Z,_,Z,_,Z,_,Z,p,_,Z,(R.same AC).sq,λp2 ii=>?_⟩;rw[Pz rs EX (by lia)];have S3:=Qu.new (o:=.lst (((rs.drop b).take (b3-b)).map V.ref)) ii;have R2:aj K (upd H2 p2 (.lst (((rs.drop b).take (b3-b)).map V.ref))) p2 ((rs.drop b).take (b3-b)) (aq [] W++(aq [] N++aq [] (Qm ac))):=by
   rw[←BY];exact⟨ay.of Qe,(((R.same AC).rw.dr b).tk (b3-b)).keep λx xs h=>S3 _ _ h,by rw[lI,lJ];lia⟩
  have dI:un (aq [] W++(aq [] N++aq [] (Qm ac)))=W++N++Qm ac:=by rw[UQ,UQ,qM,qM,qM,lP]
  have lm:(Qm ac).length<=ac.length+1:=by unfold Qm;split<;>simp
  refine⟨p2,_,_,Z,R2,λx hx=>?_,by rw[dI,lq,lq];lia,λH4 S4=>?_⟩
  ·have gt:x∈rows:=yaY (i:=b) (ybf (i:=b3-b) (by rw[BY];exact hx));obtain⟨y1,y2,y3⟩:=dZ x gt;exact⟨y1,by lia,y3⟩
  rw[dI];have j':=(AC.trans S3).trans S4;refine⟨_,Z,_,Z,p,rs,rows,b3,Z,R.same j',o8,λH5 S5=>?_⟩;have ce:Kp (rows.drop b3)=some tail:=by rw[←IG];exact(X1 tail Ee.tl).1
  rw[ce];refine⟨Ak,λq hq=>?_⟩;exact k q _ ((j'.trans S5).trans (Qu.new hq)) Qe
def W5(K:Frag)(c:Nat->Addr):Sp:=λvs H Q E=>∃(l:List Nat)(p:Addr)(u:Int)(o:Nat),vs=[.str (tx l),.ref p]/\l.length<=500/\l6 K H p u o/\
 (((∀x,Q2 l=some x->x.kind<=3/\x.kind≠3)/\∀H',Qu H H'->E (.ref (c 2)) none H')\/
  ∃(Y:List Nat)(first:Nat)(W N ac tail:List Nat),Ed Y first W N ac tail/\Y.length+(W.length+N.length)+ac.length+tail.length<=60/\l=QO Y W N ac tail/\∀H',Qu H H'->Q (.str (tx (bL Y (W++N++Qm ac) tail (fit u o (ax first W N) ac.length)))) H')
theorem _root_.aK.Ed.small{Y:List Nat}{first:Nat}{W N ac tail:List Nat}(E:Ed Y first W N ac tail):1<=ax first W N/\ax first W N+ac.length<=11/\W.count first+N.count 57=ax first W N+(if ar first=true then 1 else 0):=by
 have h1:=E.w.cn;have h2:N.count 57<=3:=by
  rcases E.n with h|⟨_,h⟩
  ·rw[h];decide
  ·exact h.cn
 have h3:ac.length<=3:=by
  rcases E.br with h|⟨k,b,hk,h,_⟩
  ·rw[h];decide
  ·rw[h,lN];lia
 have hp:1<=W.count first:=ydF.mpr (yaW E.w.hd);unfold ax
 split
 ·rename_i hf;have h4:=E.fl (yai.mp hf);exact⟨by lia,by lia,by lia⟩
 ·exact⟨by lia,by lia,by lia⟩
theorem Y2(u:Int):(if u<0 then-u else u)=((u.natAbs:Nat):Int):=by split<;>lia
theorem kT(F:az K "edited" "edited" W4 f fd)(O:Own mg)(hV:Def P w K mg M 6 "understood_as" ["kind","picture"] (Ww K c))(gB:Def P w K mg M 4 "edited_parts" ["rows"] (Y1 K))(mS:Def P w K mg M 3 "fitted" ["amount","before","behind"] (vR K))(mn:Def P w K mg M 1 "hides_nought" ["body"] qU)(mI:Def P w K mg M 1 "nought_text" ["symbols"] YX)(gI:Def P w K mg M 1 "sign_text" ["symbols","is_below"] jQ)(nz:Def P w K mg M 4 "body_text" ["body","units","is_below"] qV):
  af P w K mg M (ak P w) 7 f fd ["picture","amount"] (W5 K c):=by
 refine cO F J6 (λvs H Q E h=>?_) (λad A L s H vs Q E hr h=>?_)
 ·obtain⟨l,p,u,o,rfl,_⟩:=h;rfl
 ·obtain⟨l,pa,u,o,rfl,hl,qMa,hw⟩:=h;have hz:=zza
  have fr:=Zn (P:=P) (w:=w) (K:=K) (mg:=mg) (M:=M) (N:=["picture","amount","rows","signed","before","behind","lead","body","tail","units","is_below"]) (qual:="edited") (scope:=Qf W4) (f:=f) (cd:=ad) (A:=A) (L:=L) (s:=s) (H:=H) (E:=E);have ht:=J5 fr;have hx:=Q4 fr;refine⟨_,(Qb (Jc (hV.pq hr hx (Qa Qd (Qa (pv 0) Qc))) (QY Z (Qh (Y' 2 J6.nd) (Qh (QY Z (Qh (Y' 3 J6.nd) (Qh (Y' 4 J6.nd) (Qh (Y' 5 J6.nd) QE)))) QE))))
   (Qb (Jc (gB.pq hr hx (Qa (pv 2) Qc)) (QY Z (Qh (Y' 6 J6.nd) (Qh (Y' 7 J6.nd) (Qh (Y' 8 J6.nd) QE)))))
   (Qb (Z' 9 J6.nd (mS.pq hr hx (Qa (pv 1) (Qa (pv 4) (Qa (pv 5) Qc)))))
   (Qb (QL (PW.pt (Je (Ql Q3 (pv 9) Qj (Qo _)) (Q6 (WG (mn.pq hr hx (Qa (pv 7) Qc)))))) (Qg (Qr (mI.pq hr hx (Qa (Qt Qp (Qt Qp (pv 6) (pv 7)) (pv 8)) Qc)))) Qs)
   (Qb (Z' 10 J6.nd (JR KS (pv 9) Qj (Qo _)))
   (Qg (Qr (Qt Qp (Qt Qp (gI.pq hr hx (Qa (pv 6) (Qa (pv 10) Qc))) (nz.pq hr hx (Qa (pv 7) (Qa (Qq ZH Z O.abs ydE (Qa (pv 9) Qc)) (Qa (pv 10) Qc))))) (gI.pq hr hx (Qa (pv 8) (Qa (pv 10) Qc))))))))))),?_⟩
  refine⟨_,Z,l,3,Z,hl,by decide,λh=>?_,λx BZ FQ q p rs r H1 S1 g1 g2 R1=>?_⟩
  ·rcases hw with⟨_,k1⟩|⟨Y,first,W,N,ac,tail,Ee,_,rfl,_⟩
   ·exact k1
   ·exact absurd rfl (h _ Ee.BM).2
  rcases hw with⟨cZ,_⟩|⟨Y,first,W,N,ac,tail,Ee,hsz,rfl,k⟩
  ·exact absurd FQ (cZ x BZ).2
  obtain rfl:=lB (Ee.BM.symm.trans BZ);obtain⟨BG,iB,Fr⟩:=Ee.small;refine⟨q,_,Z,ai.of g1,Z,_,_,Z,_,_,Z,r,_,Z,ai.of g2,Z,_,_,Z,_,_,Z,_,_,Z,Z,Z,?_⟩;rw[Ke Ee.DC]at R1;refine⟨_,Z,p,rs,Y,first,W,N,ac,tail,Z,R1,Ee,hsz,λq2 H2 S2 g3=>⟨q2,_,Z,ai.of g3,Z,_,_,Z,_,_,Z,_,_,Z,Z,?_⟩⟩;have AC:=S1.trans S2;refine⟨_,Z,_,Z,_,Z,pa,u,o,ax first W N,ac.length,Z,qMa.same AC,by lia,λH3 S3=>?_⟩;have TD:=AC.trans S3;have bn:=UW u o (ax first W N) ac.length;generalize fit u o (ax first W N) ac.length=ft at*;obtain⟨rr,fc⟩:∃rr,W++N++Qm ac=first::rr:=by
   have:=Ee.zL (N++Qm ac);cases hh:W++(N++Qm ac)with
   |nil=>rw[hh]at this;cases this
   |cons a r=>rw[hh]at this;exact⟨r,by rw[lP,hh,lB this]⟩
  have IN:many (W++N++Qm ac)=ax first W N+(if ar first=true then 1 else 0)+ac.length:=by rw[ZL,Ee.many,Ee.zP,Fr]
  have lm:(Qm ac).length<=ac.length+1:=by unfold Qm;split<;>simp
  have fW:(W++N++Qm ac).length<=61:=by rw[lq,lq];lia
  have FB:∀x∈Y++(W++N++Qm ac)++tail,x<128:=λx hx=>Wb x (Ee.sym x (by rw[X6];exact hx));obtain⟨B0,SC⟩:=Y0 Y Ee.ld;obtain⟨ix,ce⟩:=qW tail Ee.tl;have Ca:bL Y (W++N++Qm ac) tail ft=if ft=0/\57∉(W++N++Qm ac)/\ar first=false then X4 (Y++(W++N++Qm ac)++tail)else Y.map (aJ (decide (ft<0)))++WS (W++N++Qm ac) ft.natAbs (decide (ft<0))++tail.map (aJ (decide (ft<0))):=by
   unfold bL;rw[show(W++N++Qm ac).headD 0=first by rw[fc];rfl]
  rw[Ca]at k;clear Ca g1 g2 g3 R1 qMa;generalize bv:W++N++Qm ac=body at*;have FT:ft.natAbs<10^many body:=by
   rw[IN];exact yad bn (yat (by decide) (by lia))
  have ST:ft.natAbs<10^18:=yad bn (yat (by decide) (by lia));have sf:1<=many body:=by lia
  subst fc;dsimp only[Jz,Wi,Wg];refine JN (λσ' H4=>(∃y0 y1 y2 y3 y4 y5,σ'=[y0,y1,y2,y3,y4,y5,some (.str (tx Y)),some (.str (tx (first::rr))),some (.str (tx tail)),some (.int ft),none])/\Qu H H4/\¬ (ft=0/\57∉(first::rr)/\ar first=false)) ?_ (λrest=>?_)
  ·rintro σ' H4 ⟨⟨y0,y1,y2,y3,y4,y5,rfl⟩,S4,hn⟩;rw[yac hn]at k;refine⟨_,Z,_,_,Z,Z,?_⟩;refine⟨_,Z,_,Z,Y,decide (ft<0),Z,by lia,B0,λH5 S5=>?_⟩;refine⟨_,Z,_,Z,ft,Z,_,Z,first,rr,ft.natAbs,decide (ft<0),by rw[Y2];rfl,by rw[lD]at fW;lia,λx hx=>FB x (lF _ (lE _ hx)),ST,sf,FT,λH6 S6=>?_⟩;have Cb:(WS (first::rr) ft.natAbs (decide (ft<0))).length<=300:=by
    have e1:=kO (first::rr) (pad ft.natAbs (many (first::rr)));have e2:=yW (first::rr) (aN (first::rr) (pad ft.natAbs (many (first::rr))));unfold WS
    split
    ·simp only[lq,lN,lJ,lC];lia
    ·simp only[lq,lN,lJ];lia
   refine⟨_,_,Z,Z,by rw[Qi,Qi,lu];lia,?_⟩;rw[QM];refine⟨_,Z,_,Z,tail,decide (ft<0),Z,by lia,ix,λH7 S7=>?_⟩;refine⟨_,_,Z,Z,by rw[Qi,Qi,lq,lu,lu];lia,?_⟩;rw[QM];exact k _ (((S4.trans S5).trans S6).trans S7)
  ·refine⟨_,Z,Z,_,Z,?_⟩;rw[Xb]
   by_cases h0:ft=0
   ·rw[ly h0];refine QX ⟨_,Z,first,rr,Z,by rw[lD]at fW;lia,_,Z,?_⟩
    by_cases hc:57∉(first::rr)/\ar first=false
    ·have e:(!(first::rr).contains 57&& !ar first)=true:=by
      rw[hc.2,yaO];refine⟨?_,Z⟩;cases q:(first::rr).contains 57 with
      |true=>exact absurd (yai.mp q) hc.1
      |false=>rfl
     rw[e];rw[yaf ⟨h0,hc⟩]at k;refine QX ⟨_,Z,_,Z,_,_,Z,Z,by rw[Qi,Qi];lia,?_⟩;rw[QM];refine⟨_,Z,_,_,Z,Z,by rw[Qi,Qi,lq];lia,?_⟩;rw[QM];exact⟨_,Z,by rw[lq,lq];lia,FB,λH4 S4=>k _ (TD.trans S4)⟩
    ·have e:(!(first::rr).contains 57&& !ar first)=false:=by
      cases q:(first::rr).contains 57 with
      |true=>rfl
      |false=>
       cases q2:ar first with
       |true=>rfl
       |false=>exact absurd ⟨λz=>(by rw[yai.mpr z]at q;cases q),q2⟩ hc
     rw[e];exact QQ (rest _ _ ⟨⟨_,_,_,_,_,_,Z⟩,TD,λz=>hc z.2⟩)
   ·rw[lx h0];exact QQ (QQ (rest _ _ ⟨⟨_,_,_,_,_,_,Z⟩,TD,λz=>h0 z.1⟩))
end
end Lw
namespace aZ
open aW aK PySem.NumText
section
variable {first:Nat}{ac tail:List Nat}
theorem vX:∀{l:List Nat},(∀c∈l,c≠46)->l.map (λc=>if c=46 then 46 else 42)=replicate l.length 42:=by
 intro l
 induction l with
 |nil=>intro _;rfl
 |cons a r ih=>
  intro h;rw[lU,ih λc hc=>h c (lG _ hc),yac (h a lH),lD,yaC]
theorem PL:∀l∈([[],[43],[45],[36],[43,36],[45,36]]:List (List Nat)),∀c∈l,c≠46/\c≠42:=by decide
theorem PM:∀l∈([[],[43],[45],[67,82],[68,66]]:List (List Nat)),∀c∈l,c≠46/\c≠42:=by decide
theorem yX(h:ins c=true):c≠46/\c≠42:=by
 have:∀c∈([44,66,48,47]:List Nat),c≠46/\c≠42:=by decide
 exact this c (yai.mp h)
noncomputable def qb(Y:List Nat)(first:Nat)(W N ac tail:List Nat):List Nat:=
 if first=90 then replicate (QO Y W N ac tail).length 32
 else replicate (Y++(W++N)).length 42++(if ac=[]then replicate ((QO Y W N ac tail).length-(Y++(W++N)).length) 42 else 46::replicate ((QO Y W N ac tail).length-(Y++(W++N)).length-1) 42)
theorem _root_.aK.Ed.hidden(E:Ed Y first W N ac tail)(Ix:57∉W++N++ac)(ev:ar first=false):X4 (Y++(W++N++Qm ac)++tail)=qb Y first W N ac tail:=by
 have FU:first≠57:=λz=>Ix (by
  rw[←z];exact lF _ (lF _ (yaW E.w.hd)))
 have hf:first=90\/first=42:=by
  have:∀c∈([57,90,42,43,45,36]:List Nat),ar c=false->c≠57->c=90\/c=42:=by decide
  exact this first E.f ev FU
 have hN:N=[]:=by
  rcases E.n with h|⟨_,h⟩
  ·exact h
  ·exact absurd (lF _ (lE _ (yaW h.hd))) Ix
 have Av:∀c∈ac,c=first:=λc hc=>by
  rcases E.br with h|⟨k,b,_,h,hb⟩
  ·rw[h]at hc;cases hc
  ·rw[h]at hc;have PN:=yaw hc;rcases hb with rfl|⟨rfl,_⟩
   ·exact absurd (lE _ (by rw[h];exact List.mem_replicate.mpr ⟨by simp,Z⟩)) Ix
   ·exact PN
 have hl:=PL Y E.ld;have ht:=PM tail E.tl;have hW:∀c∈W,c=first\/ins c=true:=E.w.all;have tz:QO Y W N ac tail=Y++(W++N++Qm ac)++tail:=by unfold QO;simp[lP]
 subst hN;unfold X4 qb;rw[tz];rcases hf with rfl|rfl
 ·rw[yaf rfl,yac];intro z;rcases yao.mp z with z|z
  ·rcases yao.mp z with z|z
   ·exact(hl _ z).2 rfl
   ·rcases yao.mp z with z|z
    ·rw[lS]at z;rcases hW _ z with q|q
     ·cases q
     ·exact(yX q).2 rfl
    ·unfold Qm at z
     split at z
     ·cases z
     ·rcases yag.mp z with q|q
      ·cases q
      ·have:=Av _ q;cases this
  ·exact(ht _ z).2 rfl
 ·have No:42∈Y++(W++[]++Qm ac)++tail:=lF _ (lE _ (lF _ (lF _ (yaW E.w.hd))));rw[yaf No,yac (by decide)];have h1:∀c∈Y++(W++[]),c≠46:=λc hc=>by
   rcases yao.mp hc with q|q
   ·exact(hl _ q).1
   ·rw[lS]at q;rcases hW _ q with q|q
    ·rw[q];decide
    ·exact(yX q).1
  have h2:∀c∈ac++tail,c≠46:=λc hc=>by
   rcases yao.mp hc with q|q
   ·rw[Av _ q];decide
   ·exact(ht _ q).1
  by_cases hb:ac=[]
  ·subst hb;have e:Y++(W++[]++Qm [])++tail=(Y++(W++[]))++([]++tail):=by unfold Qm;simp
   rw[yaf rfl,e,lO,vX h1,vX h2]
   congr 2
   simp
   try lia
  ·have e:Y++(W++[]++Qm ac)++tail=(Y++(W++[]))++46::(ac++tail):=by unfold Qm;rw[yac hb];simp
   rw[yac hb,e,lO,lU,vX h1,vX h2,yaf rfl]
   congr 3
   simp
   try lia
theorem _root_.aK.Ed.PQ(E:Ed Y first W N ac tail)(h1:1<=ax first W N)(hf:f.natAbs<10^(ax first W N+ac.length)):
  bL Y (W++N++Qm ac) tail f=if 57∉W++N++ac/\ar first=false/\f=0 then qb Y first W N ac tail
   else Y.map (aJ (decide (f<0)))++(jN first (W++N) ((pad f.natAbs (ax first W N+ac.length)).take (ax first W N)) (decide (f<0))++(if ac=[]then[]else 46::(pad f.natAbs (ax first W N+ac.length)).drop (ax first W N)))++tail.map (aJ (decide (f<0))):=by
 have hd:(57∉W++N++Qm ac)↔57∉W++N++ac:=by
  unfold Qm
  split
  ·rename_i h;rw[h]
  ·simp
 have hh:(W++N++Qm ac).headD 0=first:=by
  have:=E.zL (N++Qm ac);rw[lP];cases hx:W++(N++Qm ac)with
  |nil=>rw[hx]at this;cases this
  |cons a r=>rw[hx]at this;exact lB this
 unfold bL;rw[hh]
 by_cases hc:57∉W++N++ac/\ar first=false/\f=0
 ·rw[yaf hc,yaf ⟨hc.2.2,hd.mpr hc.1,hc.2.1⟩,E.hidden hc.1 hc.2.1]
 ·rw[yac hc,yac (λz=>hc ⟨hd.mp z.2.1,z.2.2,z.1⟩),E.body _ h1 hf]
end
noncomputable def dg(c:Nat):Nat:=if 48<=c/\c<=57 then c else 48
noncomputable def bW(body t:List Nat):List Nat:=((body.zip t).filter (λx=>place x.1)).map (λx=>dg x.2)
noncomputable def dJ(Y body t:List Nat):Nat:=digitsVal (bW body (t.drop Y.length))
theorem Wc(c d:Nat)(r t:List Nat):bW (c::r) (d::t)=if place c=true then dg d::bW r t else bW r t:=by
 unfold bW;rw[List.zip_cons_cons,yaF]
 split<;>rfl
theorem PU(h:c≠57)(hs:s.headD 0=48):1<=aO (c::r) s:=by
 rw[aO,yac]
 ·lia
 ·rintro(q|⟨_,q⟩)
  ·exact h q
  ·exact q hs
theorem PV:∀(l fs:List Nat),(aN l fs).length=l.length:=by
 intro l
 induction l with
 |nil=>intro fs;rfl
 |cons c r ih=>
  intro fs;cases h:bz c with
  |none=>rw[Z9 h,lD,lD,ih]
  |some d=>rw[Kh h,lD,lD,ih]
theorem IH:∀c∈([43,45,36]:List Nat),∀b,dg (aJ b c)=48:=by decide
section
variable {first:Nat}{ac tail:List Nat}
theorem _root_.aK.Ed.cnt(E:Ed Y first W N ac tail):W.count first+N.count 57=ax first W N+(if ar first=true then 1 else 0):=by
 unfold ax
 split
 ·rename_i hf;have h4:=E.fl (yai.mp hf);lia
 ·lia
theorem _root_.aK.Ed.bM(E:Ed Y first W N ac tail):∃rr,W++N++Qm ac=first::rr:=by
 have:=E.zL (N++Qm ac);cases hh:W++(N++Qm ac)with
 |nil=>rw[hh]at this;cases this
 |cons a r=>rw[hh]at this;exact⟨r,by rw[lP,hh,lB this]⟩
theorem _root_.aK.Ed.shape(E:Ed Y first W N ac tail)(b:Bool)(h1:1<=ax first W N)(hu:u<10^(ax first W N+ac.length)):
  ∃s pre:List Nat,s=aN (W++N++Qm ac) (pad u (many (W++N++Qm ac)))/\WS (W++N++Qm ac) u b=pre++s.drop (aO (W++N++Qm ac) s)/\pre.length=aO (W++N++Qm ac) s/\(∀x∈pre,dg x=48)/\s.length=(W++N++Qm ac).length/\(pad u (many (W++N++Qm ac))).length=many (W++N++Qm ac)/\
   pre=if ar first=true then replicate (aO (W++N++Qm ac) s-1) 32++[aJ b first]else replicate (aO (W++N++Qm ac) s) (if first=42 then 42 else 32):=by
 have hm:many (W++N++Qm ac)=ax first W N+(if ar first=true then 1 else 0)+ac.length:=by rw[ZL,E.many,E.zP,E.cnt]
 have iw:u<10^many (W++N++Qm ac):=yad hu (yat (by decide) (by lia));have mo:=Xn iw (by lia);obtain⟨rr,fc⟩:=E.bM;refine⟨_,if ar first=true then replicate (aO (W++N++Qm ac) (aN (W++N++Qm ac) (pad u (many (W++N++Qm ac))))-1) 32++[aJ b first]else replicate (aO (W++N++Qm ac) (aN (W++N++Qm ac) (pad u (many (W++N++Qm ac))))) (if first=42 then 42 else 32),Z,?_,?_,?_,PV _ _,mo,Z⟩
 ·unfold WS;rw[show(W++N++Qm ac).headD 0=first by rw[fc];rfl]
  split<;>rfl
 ·split
  ·rename_i hf;rw[hf,yaf rfl]at hm;have hh:1<=aO (W++N++Qm ac) (aN (W++N++Qm ac) (pad u (many (W++N++Qm ac)))):=by
    have eY:=yai.mp hf;have e:pad u (many (W++N++Qm ac))=48::pad u (ax first W N+ac.length):=by
     rw[hm,show ax first W N+1+ac.length=ax first W N+ac.length+1 by lia,jK hu (by lia)]
    rw[e,fc];refine PU (λq=>by rw[q]at eY;exact absurd eY (by decide)) ?_;rw[Z9 (ZX E.f).1];rfl
   rw[lq,lN,lC];lia
  ·rw[lN]
 ·split
  ·rename_i hf;intro x hx;rcases yao.mp hx with h|h
   ·rw[yaw h];rfl
   ·rw[yak.mp h];exact IH first (yai.mp hf) b
  ·intro x hx;rw[yaw hx]
   split<;>rfl
end
end aZ
namespace L2
open PySem PySem.Spec PyProof.Rows
open Builtin Builtin.Str
abbrev sj(z TI TO i1 i2:Addr):Prop:=ZipApart z TI TO i1 i2 TI TI
section
variable {prog:Program}{TI TO:Addr}
theorem Wy(D:Draws prog w A i [i] n P S)(st:S k h)(e:Heap.ExtBut c h h')(ne:i≠c):S k h':=
 D.frame _ _ _ st λb hb o q=>by
  obtain rfl:b=i:=by simpa using hb
  exact e _ _ ne q
theorem kU{Q:Value->Shared->Prop}(D:sj z TI TO i1 i2)(D1:Draws prog w A i1 [i1] n1 P1 S1)(D2:Draws prog w A i2 [i2] n2 P2 S2)
  (hz:IsZip s.heap z TI TO .none) (sm:IsPair s.heap TI (.ref i1) (.ref i2)) (sr:IsPair s.heap TO a b) (h1:S1 k s.heap) (h2:S2 k s.heap) (hx:k<n1) (hy:k<n2)
  (hQ:∀x y h' tk,P1 k x->P2 k y->IsZip h' z TI TO (rawInt s.heap.objs.size)->IsPair h' TO x y->S1 (k+1) h'->S2 (k+1) h'->IsPair h' s.heap.objs.size x y->(∀c o,c≠z->c≠TO->c≠i1->c≠i2->s.heap.get? c=some o->h'.get? c=some o)->Q (.ref s.heap.objs.size) {s with heap:=h',toks:=tk}):
  wpAny (model prog w) A (Builtin.«zip.__next__» ⟨[.ref z],[]⟩) (λfin s'=>∃v,fin=.done (.ret v)/\Q v s') E s:=by
 show wpAny _ _ (field (.ref z) 2>>=_) _ _ _;refine yab (ybD hz Z (x:=.bool false) Z ?_);show wpAny _ _ (field (.ref z) 3>>=_) _ _ _;refine yab (ybD hz Z (x:=.ref TI) Z (yab (ybZ sm Z ?_)));show wpAny _ _ (Builtin.SmallTypes.ownedTupleIsFree (.ref z)>>=_) _ _ _;refine yab ?_;unfold Builtin.SmallTypes.ownedTupleIsFree;refine yab (ybD hz Z (x:=.none) Z (yan ?_));simp only[ybM];refine yab (wpAny_rule (yab (ybD hz Z (x:=.ref TO) Z (yab (ybC hz (by simp) λh₁ l9 dM=>?_)))))
 replace l9:IsZip h₁ z TI TO .ellipsis:=l9;refine yab ?_
 simp only[List.zipIdx_cons,List.zipIdx_nil,yeh,List.forIn_nil];refine yab (yab (ydi ?_));show wpAny _ _ (Builtin.SmallTypes.nextOf (.ref i1)>>=_) _ _ _;refine yab (D1.item k _ _ _ hx (Wy D1 h1 dM.extBut D.i1z) λx h₂ PX px II dm=>yan ?_);have fe:IsPair h₂ TO a b:=dm.extBut _ _ D.TOi1 (dM.extBut _ _ D.TOz sr);refine yab (ybZ fe Z (yab (ydd fe λh₃ iC dN=>?_)))
 replace iC:IsPair h₃ TO x b:=iC;refine yab (yex (yan (yab (yab (ydi ?_)))))
 show wpAny _ _ (Builtin.SmallTypes.nextOf (.ref i2)>>=_) _ _ _;have e2:S2 k h₃:=Wy D2 (Wy D2 (Wy D2 h2 dM.extBut D.i2z) dm.extBut D.i12.symm) dN.extBut D.TOi2.symm;refine yab (D2.item k _ _ _ hy e2 λy h₄ ip py PY l'=>yan ?_);have Cc:IsPair h₄ TO x b:=l'.extBut _ _ D.TOi2 iC;refine yab (ybZ Cc Z (yab (ydd Cc λh₅ iD oa=>?_)))
 replace iD:IsPair h₅ TO x y:=iD;refine yab (yex (yan (yan (yab (ybZ iD Z (yab (wpAny_newTuple ?_)))))))
 have Cd:=dM.1;have fV:=dm.1;have PZ:=dN.1;have P0:=l'.1;have P4:=oa.1;have hsz:h₅.objs.size=s.heap.objs.size:=P4.trans (P0.trans (PZ.trans (fV.trans Cd)));have IJ:IsZip h₅ z TI TO .ellipsis:=oa.extBut _ _ D.TOz.symm (l'.extBut _ _ D.i2z.symm (dN.extBut _ _ D.TOz.symm (dm.extBut _ _ D.i1z.symm l9)));have P5:∀c o,c≠z->c≠TO->c≠i1->c≠i2->s.heap.get? c=some o->h₅.get? c=some o:=λc o c1 c2 c3 c4 e=>oa.extBut _ _ c2 (l'.extBut _ _ c4 (dN.extBut _ _ c2 (dm.extBut _ _ c3 (dM.extBut _ _ c1 e))));have g1:S1 (k+1) h₅:=Wy D1 (Wy D1 (Wy D1 II dN.extBut D.TOi1.symm) l'.extBut D.i12) oa.extBut D.TOi1.symm;have g2:S2 (k+1) h₅:=Wy D2 PY oa.extBut D.TOi2.symm;have Ce:z<h₅.objs.size:=yae IJ;show wpAny _ _ (Builtin.SmallTypes.ownedTupleHandOut (.ref z) (.ref h₅.objs.size)>>=_) _ _ _;refine yab ?_;unfold Builtin.SmallTypes.ownedTupleHandOut;have P6:IsZip (h₅.push {cls:=.type "tuple",data:=.seq #[x,y]}) z TI TO .ellipsis:=yaa _ IJ;refine yab (ybC P6 (by simp) λh₇ FW IK=>?_);replace FW:IsZip h₇ z TI TO (rawInt h₅.objs.size):=FW;refine ybC FW (by simp) λh₈ DH IL=>?_;replace DH:IsZip h₈ z TI TO (rawInt h₅.objs.size):=DH;have up:∀c o,c≠z->h₅.get? c=some o->h₈.get? c=some o:=λc o c1 e=>IL.extBut _ _ c1 (IK.extBut _ _ c1 (yaa _ e));have IM:IsPair h₈ h₅.objs.size x y:=IL.extBut _ _ (ybA Ce) (IK.extBut _ _ (ybA Ce) (yam _ Z));rw[hsz]at DH IM;refine yan ⟨_,Z,?_⟩;show Q (.ref h₅.objs.size) _;rw[hsz];exact hQ x y h₈ _ px py DH (up _ _ D.TOz iD) (D1.frame _ _ _ g1 λb hb o q=>up _ _ (by rw[show b=i1 by simpa using hb];exact D.i1z) q) (D2.frame _ _ _ g2 λb hb o q=>up _ _ (by rw[show b=i2 by simpa using hb];exact D.i2z) q) IM λc o c1 c2 c3 c4 e=>up c o c1 (P5 c o c1 c2 c3 c4 e)
theorem vY(D:sj z TI TO i1 i2)(D1:Draws prog w A i1 [i1] n1 P1 S1)(D2:Draws prog w A i2 [i2] n2 P2 S2)
  (hz:IsZip s.heap z TI TO .none) (sm:IsPair s.heap TI (.ref i1) (.ref i2)) (sr:IsPair s.heap TO a b) (h1:S1 k s.heap) (h2:S2 k s.heap) (hx:k=n1\/(k<n1/\k=n2))
  (hE:∀h' e tk,(∀c o,c≠z->c≠TO->c≠i1->c≠i2->s.heap.get? c=some o->h'.get? c=some o)->(∃o,h'.get? e=some o/\o.cls=.type "StopIteration")->E (.ref e) {s with heap:=h',toks:=tk}):
  wpAny (model prog w) A (Builtin.«zip.__next__» ⟨[.ref z],[]⟩) Q E s:=by
 show wpAny _ _ (field (.ref z) 2>>=_) _ _ _;refine yab (ybD hz Z (x:=.bool false) Z ?_);show wpAny _ _ (field (.ref z) 3>>=_) _ _ _;refine yab (ybD hz Z (x:=.ref TI) Z (yab (ybZ sm Z ?_)));show wpAny _ _ (Builtin.SmallTypes.ownedTupleIsFree (.ref z)>>=_) _ _ _;refine yab ?_;unfold Builtin.SmallTypes.ownedTupleIsFree;refine yab (ybD hz Z (x:=.none) Z (yan ?_));simp only[ybM];refine yab (wpAny_rule (yab (ybD hz Z (x:=.ref TO) Z (yab (ybC hz (by simp) λh₁ l9 dM=>?_)))))
 replace l9:IsZip h₁ z TI TO .ellipsis:=l9;refine yab ?_
 simp only[List.zipIdx_cons,List.zipIdx_nil,yeh,List.forIn_nil];refine yab (yab (ydi ?_));show wpAny _ _ (Builtin.SmallTypes.nextOf (.ref i1)>>=_) _ _ _;rcases hx with e|⟨hx,e⟩
 ·refine yab (D1.done _ _ _ (by rw[←e];exact Wy D1 h1 dM.extBut D.i1z) λh₂ e dm he=>?_);obtain⟨oe,su,eC⟩:=he;have IP:IsZip h₂ z TI TO .ellipsis:=dm _ _ D.i1z.symm l9;have FX:e≠z:=λx=>by subst x;rw[IP]at su;cases su;simp at eC
  exact ybC IP (by simp) λh₃ _ dN=>hE h₃ e _ (λc o c1 _ c3 _ x=>dN.extBut _ _ c1 (dm _ _ c3 (dM.extBut _ _ c1 x))) ⟨oe,dN.extBut _ _ FX su,eC⟩
 ·refine yab (D1.item k _ _ _ hx (Wy D1 h1 dM.extBut D.i1z) λx h₂ PX px II dm=>yan ?_);have fe:IsPair h₂ TO a b:=dm.extBut _ _ D.TOi1 (dM.extBut _ _ D.TOz sr);refine yab (ybZ fe Z (yab (ydd fe λh₃ iC dN=>yab (yex (yan (yab (yab (ydi ?_))))))));show wpAny _ _ (Builtin.SmallTypes.nextOf (.ref i2)>>=_) _ _ _;have e2:S2 k h₃:=Wy D2 (Wy D2 (Wy D2 h2 dM.extBut D.i2z) dm.extBut D.i12.symm) dN.extBut D.TOi2.symm;refine yab (D2.done _ _ _ (by rw[←e];exact e2) λh₄ e l' he=>?_);obtain⟨oe,su,eC⟩:=he;have IQ:IsZip h₄ z TI TO .ellipsis:=l' _ _ D.i2z.symm (dN.extBut _ _ D.TOz.symm (dm.extBut _ _ D.i1z.symm l9));have FX:e≠z:=λx=>by subst x;rw[IQ]at su;cases su;simp at eC
  exact ybC IQ (by simp) λh₅ _ oa=>hE h₅ e _ (λc o c1 c2 c3 c4 x=>oa.extBut _ _ c1 (l' _ _ c4 (dN.extBut _ _ c2 (dm.extBut _ _ c3 (dM.extBut _ _ c1 x))))) ⟨oe,oa.extBut _ _ FX su,eC⟩
theorem kW(D:sj z TI TO i1 i2)(D1:Draws prog w A.in1 i1 [i1] n1 P1 S1)(D2:Draws prog w A.in1 i2 [i2] n2 P2 S2)
  (hz:IsZip s.heap z TI TO .none) (sm:IsPair s.heap TI (.ref i1) (.ref i2)) (sr:IsPair s.heap TO a b) (h1:S1 k s.heap) (h2:S2 k s.heap) (hx:k<n1) (hy:k<n2)
  (hQ:∀x y h' tk,P1 k x->P2 k y->IsZip h' z TI TO (rawInt s.heap.objs.size)->IsPair h' TO x y->S1 (k+1) h'->S2 (k+1) h'->IsPair h' s.heap.objs.size x y->(∀c o,c≠z->c≠TO->c≠i1->c≠i2->s.heap.get? c=some o->h'.get? c=some o)->Q (some (.ref s.heap.objs.size)) {s with heap:=h',toks:=tk}):
  wpAny (model prog w) A (pyNext (.ref z)) Q E s:=by
 have hT:s.TypeIs (.ref z) "zip":=⟨_,hz,Z⟩;unfold pyNext;exact yab (wpAny_attempt (ycH (name:=Str.ofString "__next__") hT ydu (ydT ydu hT F.entry_zip_next (kU D D1 D2 hz sm sr h1 h2 hx hy λx y h' tk a1 a2 a3 a4 a5 a6 a7 a8=>yan (hQ x y h' tk a1 a2 a3 a4 a5 a6 a7 a8)) (F.args_zip_next_1 _))))
theorem vZ(D:sj z TI TO i1 i2)(D1:Draws prog w A.in1 i1 [i1] n1 P1 S1)(D2:Draws prog w A.in1 i2 [i2] n2 P2 S2)
  (hz:IsZip s.heap z TI TO .none) (sm:IsPair s.heap TI (.ref i1) (.ref i2)) (sr:IsPair s.heap TO a b) (h1:S1 k s.heap) (h2:S2 k s.heap) (hx:k=n1\/(k<n1/\k=n2))
  (hQ:∀h' tk,(∀c o,c≠z->c≠TO->c≠i1->c≠i2->s.heap.get? c=some o->h'.get? c=some o)->Q none {s with heap:=h',toks:=tk}):
  wpAny (model prog w) A (pyNext (.ref z)) Q E s:=by
 have hT:s.TypeIs (.ref z) "zip":=⟨_,hz,Z⟩;unfold pyNext;refine yab (wpAny_attempt (ycH (name:=Str.ofString "__next__") hT ydu (ydT ydu hT F.entry_zip_next (vY D D1 D2 hz sm sr h1 h2 hx λh' e tk hk he=>?_) (F.args_zip_next_1 _))));obtain⟨o,ho,hc⟩:=he;refine yab (ydU (T:="StopIteration") (b:=true) ⟨o,ho,hc⟩ isSubtype_stop ?_);exact yan (hQ _ _ hk)
end
noncomputable def IS(x y:Str):It:=⟨λi _=>i<x.cps.size/\i<y.cps.size,λi H v H'=>∃p c d,H p=none/\x.cps[i]? =some c/\y.cps[i]? =some d/\v=.ref p/\H'=upd H p (.tup [.str ⟨#[c]⟩,.str ⟨#[d]⟩]),λi _=>min x.cps.size y.cps.size<=i⟩
def IT(z TI TO i1 i2:Addr)(x y:Str)(t u:Tok)(i:Nat)(h:Heap):Prop:=
 IsZip h z TI TO .none/\IsPair h TI (.ref i1) (.ref i2)/\(∃a b,IsPair h TO a b)/\h.IsStrIter i1 "str_ascii_iterator" x t (min i (min x.cps.size y.cps.size))/\h.IsStrIter i2 "str_ascii_iterator" y u (min i (min x.cps.size y.cps.size))
theorem kX{P:Program}{w:World}{K:Frag}{es:List Expr}{k:Nat}{pos:Pos}{z TI TO i1 i2:Addr}(D:sj z TI TO i1 i2)(x y:Str)(t u:Tok):
  Turn P w K (.Tuple es k pos) (IS x y) [z,TI,TO,i1,i2] z (IT z TI TO i1 i2 x y t u) where
 mem:=by simp
 obj:=λi h st b hb=>by
  obtain⟨hz,hI,⟨a,c,hO⟩,⟨o1,g1,c1,d1⟩,o2,g2,c2,d2⟩:=st;simp only[yag,yay,ybk]at hb;rcases hb with rfl|rfl|rfl|rfl|rfl
  ·exact⟨_,hz,λv q=>nomatch (show Data.fields _=Data.cell v from q)⟩
  ·exact⟨_,hI,λv q=>nomatch (show Data.seq _ _=Data.cell v from q)⟩
  ·exact⟨_,hO,λv q=>nomatch (show Data.seq _ _=Data.cell v from q)⟩
  ·exact⟨o1,g1,λv q=>by rw[d1]at q;cases q⟩
  ·exact⟨o2,g2,λv q=>by rw[d2]at q;cases q⟩
 keep:=λi h h' st kk=>by
  obtain⟨hz,hI,⟨a,c,hO⟩,⟨o1,g1,r1⟩,o2,g2,r2⟩:=st;exact⟨kk _ (by simp) _ hz,kk _ (by simp) _ hI,⟨a,c,kk _ (by simp) _ hO⟩,⟨o1,kk _ (by simp) _ g1,r1⟩,o2,kk _ (by simp) _ g2,r2⟩
 item:=by
  intro X hP hw hK hc i U s σ H E I hf st hg;subst hP hw hK;obtain⟨hz,hI,⟨a,c,hO⟩,s1,s2⟩:=st;obtain⟨l1,l2⟩:i<x.cps.size/\i<y.cps.size:=hg;rw[ybb (ybi (yeD.mpr ⟨l1,l2⟩))]at s1 s2;have D1:=ycv (prog:=X.prog) (w:=X.w) (A:=X.A.in1) (I.ok.hd hc) i1 x t;have D2:=ycv (prog:=X.prog) (w:=X.w) (A:=X.A.in1) (I.ok.hd hc) i2 y u;refine kW D D1 D2 hz hI hO s1 s2 l1 l2 λv1 v2 h1 tk p1 p2 P7 P8 q1 q2 hT hk=>⟨_,Z,?_⟩;obtain⟨c1,u1,e1,rfl⟩:=p1;obtain⟨c2,u2,e2,rfl⟩:=p2;refine wpAny_letOwnedTupleGo_zip P7 λh2 Fo fV=>?_;have up:∀b o,b≠z->h1.get? b=some o->h2.get? b=some o:=λb o hb q=>(fV.2 b hb).trans q;have bn:∀b∈[z,TI,TO,i1,i2],b<s.heap.objs.size:=λb hb=>by
   simp only[yag,yay,ybk]at hb;rcases hb with rfl|rfl|rfl|rfl|rfl
   ·exact yae hz
   ·exact yae hI
   ·exact yae hO
   ·obtain⟨o,g,_⟩:=s1;exact yae g
   ·obtain⟨o,g,_⟩:=s2;exact yae g
  refine⟨.ref s.heap.objs.size,upd H s.heap.objs.size (.tup [.str ⟨#[c1]⟩,.str ⟨#[c2]⟩]),I.kA (ch:=[z,TI,TO,i1,i2]) hf (λb o hb q=>?_) (lA _) ?_,Z,⟨_,c1,c2,I.ag.fresh (lA _),e1,e2,Z,Z⟩,⟨Fo,up _ _ D.TIz (hk _ _ D.TIz D.TITO D.TIi1 D.TIi2 hI),⟨_,_,up _ _ D.TOz P8⟩,?_,?_⟩,λb hb=>?_⟩
  ·simp only[yag,yay,ybk,not_or]at hb;exact up b o hb.1 (hk b o hb.1 hb.2.2.1 hb.2.2.2.1 hb.2.2.2.2 q)
  ·exact⟨by show 2<=sizeLine;decide,[.str ⟨#[c1]⟩ u1,.str ⟨#[c2]⟩ u2],.cons ⟨_,Z⟩ (.cons ⟨_,Z⟩ .nil),⟨_,up _ _ (ybA (bn z (by simp))) hT,Z,_,Z,Z⟩⟩
  ·rw[ybb (Nat.succ_le_of_lt (yeD.mpr ⟨l1,l2⟩))];obtain⟨o,g,r⟩:=q1;exact⟨o,up _ _ D.i1z g,r⟩
  ·rw[ybb (Nat.succ_le_of_lt (yeD.mpr ⟨l1,l2⟩))];obtain⟨o,g,r⟩:=q2;exact⟨o,up _ _ D.i2z g,r⟩
  ·rw[Qx (yal (bn b hb))];exact(hf b hb).1
 done:=by
  intro X hP hw hK hc i U s σ H E I hf st hg;subst hP hw hK;obtain⟨hz,hI,⟨a,c,hO⟩,s1,s2⟩:=st;have e8:min x.cps.size y.cps.size<=i:=hg;rw[ydX e8]at s1 s2;have D1:=ycv (prog:=X.prog) (w:=X.w) (A:=X.A.in1) (I.ok.hd hc) i1 x t;have D2:=ycv (prog:=X.prog) (w:=X.w) (A:=X.A.in1) (I.ok.hd hc) i2 y u;refine vZ D D1 D2 hz hI hO s1 s2 (by lia) λh' tk hk=>⟨Z,I.kz (ch:=[z,TI,TO,i1,i2]) hf λb o hb q=>?_⟩;simp only[yag,yay,ybk,not_or]at hb;exact hk b o hb.1 hb.2.2.1 hb.2.2.2.1 hb.2.2.2.2 q
 self:=λ_ _ _ _ _ st h=>wpAny_pyIter_zip st.1 h
noncomputable abbrev b8(h:Heap)(x:Str)(t:Tok):Heap:=h.push {cls:=.type "str_ascii_iterator",data:=.fields #[.str x t,.int 0 0]}
noncomputable abbrev Aw(h:Heap)(x y:Str)(t u:Tok):Heap:=(b8 (b8 h x t) y u).push {cls:=.type "tuple",data:=.seq #[.ref h.objs.size,.ref (b8 h x t).objs.size]}
noncomputable abbrev Ax(h:Heap)(x y:Str)(t u:Tok):Heap:=(Aw h x y t u).push {cls:=.type "tuple",data:=.seq #[.none,.none]}
noncomputable abbrev Ay(h:Heap)(x y:Str)(t u:Tok):Heap:=(Ax h x y t u).push {cls:=.type "zip",data:=.fields #[.none,.bool false,.bool false,.ref (b8 (b8 h x t) y u).objs.size,.ref (Aw h x y t u).objs.size]}
theorem zQ(x y:Str)(t u:Tok):Meets (Builtin.«zip.__new__» ⟨[.type "zip",.str x t,.str y u],[]⟩) (λ_ R s=>x.cps.all (· <128)=true/\y.cps.all (· <128)=true/\R (.ok (.ret (.ref (Ax s.heap x y t u).objs.size))) {s with heap:=Ay s.heap x y t u}):=
 .of_wp λprog w A R s h=>by
  obtain⟨hp,g,d,tk,os⟩:=s;obtain⟨h1,h2,h⟩:=h;have P9:=sub_zip
  wp_walk using ycM h1,ycM h2
  exact⟨_,Z,h⟩
theorem kY{prog:Program}(h1:x.cps.all (· <128)=true)(h2:y.cps.all (· <128)=true)
  (h:∀h' z TI TO i1 i2,sj z TI TO i1 i2->IT z TI TO i1 i2 x y t u 0 h'->(∀b∈[z,TI,TO,i1,i2],s.heap.objs.size<=b)->(∀c o,s.heap.get? c=some o->h'.get? c=some o)->Q (.ref z) {s with heap:=h'}):
  wpAny (model prog w) A (call (.type "zip") [.str x t,.str y u]) Q E s:=by
 refine callType_new F.called_zip (by decide) (F.typeCall_zip_2 _ _) (F.newCall_zip_2 _ _) (λobj=>F.args_object_init_3 obj _ _) F.entry_zip_new (zQ x y t u) ⟨h1,h2,?_⟩;have z1:(b8 s.heap x t).objs.size=s.heap.objs.size+1:=ybg ..;have z2:(b8 (b8 s.heap x t) y u).objs.size=s.heap.objs.size+2:=(ybg ..).trans (by rw[z1]);have z3:(Aw s.heap x y t u).objs.size=s.heap.objs.size+3:=(ybg ..).trans (by rw[z2]);have z4:(Ax s.heap x y t u).objs.size=s.heap.objs.size+4:=(ybg ..).trans (by rw[z3]);have g5:(Ay s.heap x y t u).get? (Ax s.heap x y t u).objs.size=some _:=yam _ rfl;have g4:(Ay s.heap x y t u).get? (Aw s.heap x y t u).objs.size=some _:=yaa _ (yam _ Z);have g3:(Ay s.heap x y t u).get? (b8 (b8 s.heap x t) y u).objs.size=some _:=yaa _ (yaa _ (yam _ Z));have g2:(Ay s.heap x y t u).get? (b8 s.heap x t).objs.size=some _:=yaa _ (yaa _ (yaa _ (yam _ Z)));have g1:(Ay s.heap x y t u).get? s.heap.objs.size=some _:=yaa _ (yaa _ (yaa _ (yaa _ (yam _ Z))));have D:sj (Ax s.heap x y t u).objs.size (b8 (b8 s.heap x t) y u).objs.size (Aw s.heap x y t u).objs.size s.heap.objs.size (b8 s.heap x t).objs.size:=by
  generalize (Ax s.heap x y t u).objs.size=e4 at z4 ⊢;generalize (Aw s.heap x y t u).objs.size=e3 at z3 ⊢;generalize (b8 (b8 s.heap x t) y u).objs.size=e2 at z2 ⊢;generalize (b8 s.heap x t).objs.size=e1 at z1 ⊢;generalize s.heap.objs.size=e0 at*;constructor<;>(intro q;replace q:@Eq Nat _ _:=q;lia)
 refine⟨⟨_,g5,Z⟩,h _ _ _ _ _ _ D ⟨g5,g3,⟨_,_,g4⟩,?_,?_⟩ ?_ λc o q=>yaa _ (yaa _ (yaa _ (yaa _ (yaa _ q))))⟩
 ·rw[Nat.zero_min];exact⟨_,g1,Z,Z⟩
 ·rw[Nat.zero_min];exact⟨_,g2,Z,Z⟩
 ·intro b hb;simp only[yag,yay,ybk]at hb;rcases hb with q|q|q|q|q
  ·exact yas (ycy _ 4) (ycZ (z4.symm.trans q.symm))
  ·exact yas (ycy _ 2) (ycZ (z2.symm.trans q.symm))
  ·exact yas (ycy _ 3) (ycZ (z3.symm.trans q.symm))
  ·exact ycZ q.symm
  ·exact yas (ycy _ 1) (ycZ (z1.symm.trans q.symm))
section
def IU(ta:TA):TI:=λσ H R=>ta σ H λvs H1=>∃x y:Str,vs=[.str x,.str y]/\x.cps.all (· <128)=true/\y.cps.all (· <128)=true/\R (IS x y) H1
theorem P'{es:List Expr}{k:Nat}{tp:Pos}{ta:TA}{p pos:Pos}(hg:Gl X "zip")(hm:X.mg "zip"=none)(ha:PA X [a,b] ta)(hs:starEach [a,b] X.env=[(false,eval a X.env),(false,eval b X.env)]:=by rfl)(fV:starEach [b] X.env=[(false,eval b X.env)]:=by rfl):
  PI X (.Tuple es k tp) (.Call (.Name "zip" p) [a,b] [] pos) (IU ta):=by
 intro U s σ H R I h;refine Call_ (WF I hg hm boot_zip (yaT (au (ha pos U s σ H _ I h) λus s1⟨vs,H1,I1,r1,x,y,e,hx,hy,q⟩=>?_) (by rw[hs,fV]) (by rw[fV];rfl)));subst e;obtain⟨v,w,rfl,⟨t,rfl⟩,u,rfl⟩:=vals2 r1;refine kY hx hy λh1 z TI TO i1 i2 D st nw hk=>?_;refine wpAny_pyIter_zip (s:={s1 with heap:=h1}) st.1 ?_;exact⟨_,[z,TI,TO,i1,i2],_,_,H1,Z,I1.kept (t':=s1.toks) hk,kX D x y t u,st,λb hb=>I1.wC (nw b hb) (I1.ag.fresh (nw b hb)),q⟩
end
theorem kZ{tt:TT}(Pv:Nat->List V->Hp->Prop)(h:∀R:List V->Hp->Prop,R [.str x,.str y] H->ta σ H R) (hx:x.cps.all (· <128)=true) (hy:y.cps.all (· <128)=true) (h0:Pv 0 [] H) (hl:∀i vs H,i<=min x.cps.size y.cps.size->Pv i vs H->vs.length<=i)
  (hs:∀i c d vs H p,x.cps[i]? =some c->y.cps[i]? =some d->Pv i vs H->H p=none->g (.ref p) (replicate NB.length none) (upd H p (.tup [.str ⟨#[c]⟩,.str ⟨#[d]⟩])) λσ2 H2=>tt σ2 H2 λb H3=>if b=true then te σ2 H3 λv H4=>Pv (i+1) (vs++[v]) H4 else Pv (i+1) vs H3)
  (hd:∀vs H,Pv (min x.cps.size y.cps.size) vs H->∀p,H p=none->Q (.ref p) (upd H p (.lst vs))) (hz:min x.cps.size y.cps.size<sizeLine):V0 NB (IU ta) g tt te σ H Q:=by
 refine h _ ⟨x,y,Z,hx,hy,?_⟩;refine⟨λi m vs H=>m=min x.cps.size y.cps.size-i/\i<=min x.cps.size y.cps.size/\Pv i vs H,⟨min x.cps.size y.cps.size-0,Z,lX _,h0⟩,?_⟩;rintro i m vs H ⟨rfl,hi,p⟩;have hv:=hl i vs H hi p
 by_cases bn:i<min x.cps.size y.cps.size
 ·refine .inr ⟨yeD.mp bn,by lia,Pv (i+1),λCh H' p'=>⟨min x.cps.size y.cps.size-(i+1),by lia,Z,bn,p'⟩,λv H' z=>?_⟩;obtain⟨q,c,d,hq,hc,hd,e,e2⟩:=z;subst e e2;exact hs i c d vs _ q hc hd p hq
 ·have e:i=min x.cps.size y.cps.size:=by lia
  subst e;exact .inl ⟨lA _,hd vs H p⟩
theorem Ra{K:Frag}{M:Heap}{N:List Str}{qual:Str}{scope:Scope}{cd:Value}{L:List Env}{H:Hp}{E:XK}:
  PassesOwn (model (Z2 (ak P w) P w K mg M N qual scope f cd A L s H E).prog (Z2 (ak P w) P w K mg M N qual scope f cd A L s H E).w) (Z2 (ak P w) P w K mg M N qual scope f cd A L s H E).A (Z2 (ak P w) P w K mg M N qual scope f cd A L s H E).env (Z2 (ak P w) P w K mg M N qual scope f cd A L s H E).xe:=by
 dsimp only[Z2]
 passes_own
end L2
namespace aZ
open aW aK bS PySem.NumText
noncomputable def og(Y body tail:List Nat)(a b:Nat)(t:List Nat):Option Int:=
 if bL Y body tail (fit ((dJ Y body t:Nat):Int) b a b)=t then some ((dJ Y body t:Nat):Int)
 else if bL Y body tail (fit (-((dJ Y body t:Nat):Int)) b a b)=t then some (-((dJ Y body t:Nat):Int))else none
theorem VO(l t:List Nat):AllDigits (bW l t):=λy hy=>by
 unfold bW at hy;obtain⟨x,_,rfl⟩:=ybS.mp hy;unfold dg
 split
 ·assumption
 ·lia
theorem Rb(l t:List Nat):(bW l t).length<=l.length:=by
 unfold bW;rw[lu];refine yas (yaL _ _) ?_;rw[yen];exact Nat.min_le_left _ _
theorem W6:∀(l t:List Nat),(bW l t).length<=many l:=by
 intro l
 induction l with
 |nil=>intro t;exact lX _
 |cons c r ih=>
  intro t;cases t with
  |nil=>exact lX _
  |cons d t=>
   have:=ih t;rw[Wc,JE];unfold place;cases h:bz c with
   |none=>rw[yaf (show(none:Option Nat).isNone=true from Z),yaf rfl,lD];lia
   |some x=>rw[yac (by simp),yac (by simp)];lia
theorem k8(d:Nat):(([48,49,50,51,52,53,54,55,56,57]:List Nat).contains d)=decide (48<=d/\d<=57):=by
 by_cases h:48<=d/\d<=57
 ·rw[ly h,yai];simp only[yag,yay,ybk];lia
 ·rw[lx h];cases e:([48,49,50,51,52,53,54,55,56,57]:List Nat).contains d with
  |false=>rfl
  |true=>
   have:=yai.mp e;simp only[yag,yay,ybk]at this;omega
end aZ
namespace Lw
open PySem PySem.Spec PyProof.Rows L2 aW aK bS aZ
open Builtin Builtin.Str StrLaws
inductive cx (H:Hp):List Addr->List (Nat × Nat)->Prop
 |nil:cx H [] []
 |cons {a:Addr} {x:Nat × Nat} {as:List Addr} {xs:List (Nat × Nat)}:H a=some (.tup [.str (tx [x.1]),.str (tx [x.2])])->cx H as xs->cx H (a::as) (x::xs)
theorem cx.keep{as:List Addr}{xs:List (Nat × Nat)}(h:cx H as xs)(S:Qu H H'):cx H' as xs:=by
 induction h with
 |nil=>exact .nil
 |cons e _ ih=>exact .cons (S _ _ e) ih
theorem cx.app{as:List Addr}{xs:List (Nat × Nat)}(h:cx H as xs)(e:H a=some (.tup [.str (tx [x.1]),.str (tx [x.2])])):cx H (as++[a]) (xs++[x]):=by
 induction h with
 |nil=>exact .cons e .nil
 |cons e1 _ ih=>exact .cons e1 ih
theorem cx.len{H:Hp}{as:List Addr}{xs:List (Nat × Nat)}(h:cx H as xs):as.length=xs.length:=by
 induction h with
 |nil=>rfl
 |cons _ _ ih=>rw[lD,lD,ih]
theorem cx.at'{as:List Addr}{xs:List (Nat × Nat)}(h:cx H as xs):∀{i:Nat}{a:Addr},as[i]? =some a->∃x,xs[i]? =some x/\H a=some (.tup [.str (tx [x.1]),.str (tx [x.2])]):=by
 induction h with
 |nil=>intro i a e;cases e
 |cons e1 _ ih=>
  intro i a e;cases i with
  |zero=>cases e;exact⟨_,Z,e1⟩
  |succ i=>exact ih (by simpa using e)
theorem Yp:("0123456789":Str)=tx [48,49,50,51,52,53,54,55,56,57]:=by decide+kernel
section
variable {P:Program}{w:World}{K:Frag}{mg:Str->Option Value}{M:Heap}{f:Addr}{fd:FuncData}{tk:Nat->Tok}{c kr:Nat->Addr}
theorem v6{xs:List (Nat × Nat)}(val:Nat × Nat->Nat)(dj:NB.length=3)(hn:n=2)(hσ:σ[i]? =some (some (.ref p)))(hp:ay K H p (ps.map V.ref))(PR:cx H ps xs)(hl:xs.length<=500)
  (eV:∀x∈xs,∀Q:VK,Q (.str (tx [val x])) H->te [none,some (.str (tx [x.1])),some (.str (tx [x.2]))] H Q)
  (hd:∀q,H q=none->Q (.ref q) (upd H q (.lst (xs.map λx=>.str (tx [val x]))))):
  V0 NB (wK K (ZB i)) (Ad K n (Yt (Jz 1) (Yt (Jz 2) AO))) ve te σ H Q:=by
 have hz:=zza
 have hlen:=PR.len;refine⟨_,hσ,p,Z,⟨_,hp⟩,?_⟩;refine VB (xs:=ps.map V.ref) (λi vs H2=>H2=H/\vs=(xs.take i).map λx=>V.str (tx [val x])) ⟨Z,Z⟩ ?_ ?_ ?_ (by rw[lu];lia)
 ·rintro i vs H2 hi ⟨rfl,rfl⟩;exact⟨hp,by rw[lu,lI];lia⟩
 ·rintro i x vs H2 hx ⟨rfl,rfl⟩;rw[lK]at hx;obtain⟨r,hr,rfl⟩:=yaS.mp hx;obtain⟨y,hy,g⟩:=PR.at' hr;subst hn;rw[dj];refine⟨r,_,Z,ai.of g,Z,_,_,Z,_,_,Z,Z,?_⟩;dsimp only[ve];rw[yaf rfl];refine eV y (lM hy) _ ⟨Z,?_⟩;rw[yaE,hy,lO];rfl
 ·rintro vs H2 ⟨rfl,rfl⟩ q hq;rw[yaq (by rw[lu];lia)];exact hd q hq
def k9(K:Frag)(c:Nat->Addr):Sp:=λvs H Q E=>∃l t:List Nat,vs=[.str (tx l),.str (tx t)]/\l.length<=500/\t.length<=200/\(∀x∈t,x<128)/\
 (((∀x,Q2 l=some x->x.kind<=3/\x.kind≠3)/\∀H',Qu H H'->E (.ref (c 2)) none H')\/
  ∃(Y:List Nat)(first:Nat)(W N ac tail:List Nat),Ed Y first W N ac tail/\Y.length+(W.length+N.length)+ac.length+tail.length<=60/\l=QO Y W N ac tail/\
  (∀v,og Y (W++N++Qm ac) tail (ax first W N) ac.length t=some v->∀q H',Qu H H'->H q=none->H' q=some (.tup [.int v,.int (ac.length:Nat)])->Q (.ref q) H')/\
  (og Y (W++N++Qm ac) tail (ax first W N) ac.length t=none->∀H',Qu H H'->E (.ref (c 5)) none H'))
theorem V8(F:az K "read_edited" "read_edited" ZJ f fd)(O:Own mg)(OZ:mg "zip"=none)(T:Txt K mg tk c kr)(KB:aA P w K (kr 3) As)(gf:Def P w K mg M 2 "number_of" ["text"] zD)(hV:Def P w K mg M 6 "understood_as" ["kind","picture"] (Ww K c))(gB:Def P w K mg M 4 "edited_parts" ["rows"] (Y1 K))(mT:Def P w K mg M 7 "edited" ["picture","amount"] (W5 K c)):
  af P w K mg M (ak P w) 8 f fd ["picture","text"] (k9 K c):=by
 refine cO F QZ (λvs H Q E h=>?_) (λad A L s H vs Q E hr h=>?_)
 ·obtain⟨l,t,rfl,_⟩:=h;rfl
 ·obtain⟨l,t,rfl,hl,ce,lv,hw⟩:=h;have hz:=zza
  have fr:=Zn (P:=P) (w:=w) (K:=K) (mg:=mg) (M:=M) (N:=["picture","text","rows","signed","before","behind","lead","body","tail","pairs","units","choice"]) (qual:="read_edited") (scope:=Qf ZJ) (f:=f) (cd:=ad) (A:=A) (L:=L) (s:=s) (H:=H) (E:=E);have ht:=J5 fr;have hx:=Q4 fr;refine⟨_,(Qb (Jc (hV.pq hr hx (Qa Qd (Qa (pv 0) Qc))) (QY Z (Qh (Y' 2 QZ.nd) (Qh (QY Z (Qh (Y' 3 QZ.nd) (Qh (Y' 4 QZ.nd) (Qh (Y' 5 QZ.nd) QE)))) QE))))
   (Qb (Jc (gB.pq hr hx (Qa (pv 2) Qc)) (QY Z (Qh (Y' 6 QZ.nd) (Qh (Y' 7 QZ.nd) (Qh (Y' 8 QZ.nd) QE)))))
   (Qb (W3 (NB:=[".0","symbol","sign"]) (iy:=9) Z ⟨Z,by decide+kernel,by decide+kernel,by decide+kernel⟩ (P' Z OZ (Qa (pv 7) (Qa (QT JT (pv 1) (QV (Qq QF Z O.len yaK (Qa (pv 6) Qc))) Jl) Qc))) (λ_ _ _=>(KO (K0:=K) (n:=2) Z Z (Qh (Qk (i:=1) (show([".0","symbol","sign"]:List Str).Nodup by decide+kernel) Z (Or.inl Z) (Or.inr Z)) (Qh (Qk (i:=2) (show([".0","symbol","sign"]:List Str).Nodup by decide+kernel) Z (Or.inl Z) (Or.inr Z)) QE)))) (λ_ _ _=>(XO (Z0 (Wn KB (pv 1) (QD (v:=V.ref (kr 3)) Z T.gW Z)) (by with_unfolding_all rfl)))) (λ_ _ _=>(QG (Qa (pv 1) (Qa (pv 2) Qc)))) QZ.nd Z (Or.inl Z) Z)
   (Qb (Z' 10 QZ.nd (gf.pq hr hx (Qa (JF yau ybr ybs Xu Qd (Qa (Zi (NB:=[".0","symbol","sign"]) Z ⟨Z,by decide+kernel,by decide+kernel,by decide+kernel⟩ (Kv (pv 9)) (λ_ _ _=>(KO (K0:=K) (n:=2) Z Z (Qh (Qk (i:=1) (show([".0","symbol","sign"]:List Str).Nodup by decide+kernel) Z (Or.inl Z) (Or.inr Z)) (Qh (Qk (i:=2) (show([".0","symbol","sign"]:List Str).Nodup by decide+kernel) Z (Or.inl Z) (Or.inr Z)) QE)))) (λ_ _ _=>Xt) (λ_ _ _=>(QC (Ql Jf (pv 2) (QD (v:=V.str "0123456789") Z T.gO ⟨_,Z⟩) (by with_unfolding_all rfl)) (pv 2) Qd))) Qc)) Qc)))
   (Qb (Z1 Ra Z (ji (QG (Qa (pv 10) (Qa (Kw ZN (pv 10)) Qc)))) (Y' 11 QZ.nd) (Qg (QL (Ql Q3 (mT.pq hr hx (Qa (pv 0) (Qa (QG (Qa (pv 11) (Qa (pv 5) Qc))) Qc))) (pv 1) (Qo _)) (Qg (Qr (QG (Qa (pv 11) (Qa (pv 5) Qc))))) Qs)))
   (Qg (Zs ht Z Z T.gU T.mD (Qa Qd Qc)))))))),?_⟩
  refine⟨_,Z,l,3,Z,hl,by decide,λh=>?_,λx BZ FQ q p rs r H1 S1 g1 g2 R1=>?_⟩
  ·rcases hw with⟨_,k1⟩|⟨Y,first,W,N,ac,tail,Ee,_,rfl,_⟩
   ·exact k1
   ·exact absurd rfl (h _ Ee.BM).2
  rcases hw with⟨cZ,_⟩|⟨Y,first,W,N,ac,tail,Ee,hsz,rfl,kv,kn⟩
  ·exact absurd FQ (cZ x BZ).2
  obtain rfl:=lB (Ee.BM.symm.trans BZ);obtain⟨BG,iB,Fr⟩:=Ee.small;refine⟨q,_,Z,ai.of g1,Z,_,_,Z,_,_,Z,r,_,Z,ai.of g2,Z,_,_,Z,_,_,Z,_,_,Z,Z,Z,?_⟩;rw[Ke Ee.DC]at R1;refine⟨_,Z,p,rs,Y,first,W,N,ac,tail,Z,R1,Ee,hsz,λq2 H2 S2 g3=>⟨q2,_,Z,ai.of g3,Z,_,_,Z,_,_,Z,_,_,Z,Z,?_⟩⟩;have AC:=S1.trans S2;have lm:(Qm ac).length<=ac.length+1:=by unfold Qm;split<;>simp
  have fW:(W++N++Qm ac).length<=61:=by rw[lq,lq];lia
  have FB:∀x∈W++N++Qm ac,x<128:=λx hx=>Wb x (Ee.sym x (by rw[X6];exact lF _ (lE _ hx)));obtain⟨B0,SC⟩:=Y0 Y Ee.ld;have IN:many (W++N++Qm ac)<=12:=by rw[ZL,Ee.many,Ee.zP,Fr];split<;>lia
  clear g1 g2 g3 R1;generalize bv:W++N++Qm ac=body at*;have bn:=Qi Y;have l7:=Qi t;have Cb:=Qi body;have iA:=Qi (t.drop Y.length);dsimp only[Jz,Wi,Wg,qf];refine kZ (x:=tx body) (y:=tx (t.drop Y.length)) (λi vs H3=>∃ps,vs=ps.map V.ref/\Qu H2 H3/\cx H3 ps (((body.zip (t.drop Y.length)).take i).filter λx=>place x.1)) (λR h=>?_) (J8 FB) (J8 λx hx=>lv x (yaY hx)) ⟨[],Z,Qu.refl _,.nil⟩ ?_ ?_ ?_ ?_
  ·refine⟨_,Z,_,Z,_,Z,tx Y,Z,by lia,_,Z,tx t,Z,by lia,?_⟩;rw[bn,JY];exact h
  ·rintro i vs H3 hi ⟨ps,rfl,S3,PR⟩;rw[lu,PR.len];exact yas (yaL _ _) (by rw[lI];lia)
  ·rintro i cc dd vs H3 pp hc hd ⟨ps,rfl,S3,PR⟩ Fu;have cJ:body[i]? =some cc:=by simpa using hc
   have oD:(t.drop Y.length)[i]? =some dd:=by simpa using hd
   have Rc:(body.zip (t.drop Y.length))[i]? =some (cc,dd):=by rw[List.getElem?_zip_eq_some];exact⟨cJ,oD⟩
   have re:(body.zip (t.drop Y.length)).take (i+1)=(body.zip (t.drop Y.length)).take i++[(cc,dd)]:=by rw[yaE,Rc];rfl
   have S4:=Qu.new (o:=.tup [.str ⟨#[cc]⟩,.str ⟨#[dd]⟩]) Fu;refine⟨pp,_,Z,ai.of Qe,Z,_,_,Z,_,_,Z,Z,?_⟩;generalize upd H3 pp (.tup [.str ⟨#[cc]⟩,.str ⟨#[dd]⟩])=H4 at S4;rw[show(⟨#[cc]⟩:Str)=tx [cc]from rfl,show(⟨#[dd]⟩:Str)=tx [dd]from rfl];refine⟨_,Z,Sum.inr (tx [cc]),Z,Z,_,Z,?_⟩;rw[jO,re,ybj];cases sK:bz cc with
   |some d=>exact QQ ⟨ps,Z,S3.trans S4,by rw[yaF,yac (by show ¬ place cc=true;unfold place;rw[sK];simp)];simpa using PR.keep S4⟩
   |none=>
    refine QX ⟨_,Z,_,Z,bw,λq hq=>?_⟩;have S5:=Qu.new (o:=.tup [.str (tx [cc]),.str (tx [dd])]) hq;refine⟨ps++[q],by simp,(S3.trans S4).trans S5,?_⟩;rw[yaF,yaf (by show place cc=true;unfold place;rw[sK];rfl)];exact(PR.keep (S4.trans S5)).app Qe
  ·rintro vs H3 ⟨ps,rfl,S3,PR⟩ pl mo;have FY:(body.zip (t.drop Y.length)).length<=min (tx body).cps.size (tx (t.drop Y.length)).cps.size:=by rw[yen];simp
   rw[yaq FY]at PR;have S4:=Qu.new (o:=.lst (ps.map V.ref)) mo;have gl:upd H3 pl (.lst (ps.map V.ref)) pl=some (.lst (ps.map V.ref)):=Qe;have FZ:=PR.keep S4;generalize upd H3 pl (.lst (ps.map V.ref))=H4 at S4 gl FZ;have IV:=S3.trans S4;have hzl:((body.zip (t.drop Y.length)).filter λx=>place x.1).length<=61:=yas (yaL _ _) (by rw[yen];lia);refine⟨Z,?_⟩;refine v6 (K:=K) (p:=pl) (λx=>dg x.2) rfl rfl rfl (ay.of gl) FZ (by lia) (λx hx Q h=>?_) (λq hq=>?_)
   ·refine⟨_,Z,_,_,Z,Z,_,Z,?_⟩;rw[Yp,Jw,k8];unfold dg at h
    by_cases hd:48<=x.2/\x.2<=57
    ·rw[yaf hd]at h;rw[ly hd];exact QX ⟨_,Z,h⟩
    ·rw[yac hd]at h;rw[lx hd];rw[←Wa]at h;exact QQ h
   ·have i8:((body.zip (t.drop Y.length)).filter λx=>place x.1).map (λx=>dg x.2)=bW body (t.drop Y.length):=rfl;have Rf:=Rb body (t.drop Y.length);have Dm:=VO body (t.drop Y.length);refine⟨"",q,(bW body (t.drop Y.length)).map λc=>tx [c],Z,Z,ay.of (by rw[Qe, ←i8,lT,lT];rfl),XS (by lia),?_⟩;rw[Zw];have Rg:=Qi (bW body (t.drop Y.length));refine⟨tx (bW body (t.drop Y.length)),Z,Dm,by lia,?_⟩;have S5:=Qu.new (o:=.lst (((body.zip (t.drop Y.length)).filter λx=>place x.1).map λx=>V.str (tx [dg x.2]))) hq;generalize upd H4 q (.lst (((body.zip (t.drop Y.length)).filter λx=>place x.1).map λx=>V.str (tx [dg x.2])))=H5 at S5;have Rh:NumText.digitsVal (tx (bW body (t.drop Y.length))).cps.toList=dJ Y body t:=by rw[Jt];rfl
    rw[Rh];have hrm:=W6 body (t.drop Y.length);have Ri:dJ Y body t<10^12:=yad (XQ Dm) (yat (by decide) (by lia));unfold og at kv kn;generalize Rj:dJ Y body t=u at*;have Rk:=(AC.trans IV).trans S5;clear PR FZ i8 Dm Rf Rg gl S1 S2 S3 S4 IV S5 AC;refine⟨_,Z,_,Z,_,Z,bw,λtt F0=>⟨tt,Z,⟨_,ai.of Qe⟩,?_⟩⟩;have S6:=Qu.new (o:=.tup [.int (u:Nat),.int (-(u:Nat))]) F0;have g6:upd H5 tt (.tup [.int (u:Nat),.int (-(u:Nat))]) tt=some (.tup [.int (u:Nat),.int (-(u:Nat))]):=Qe;generalize upd H5 tt (.tup [.int (u:Nat),.int (-(u:Nat))])=H6 at S6 g6;have IW:=Rk.trans S6;refine qg (xs:=[.int (u:Nat),.int (-(u:Nat))]) (λi σ H7=>(∃sx,σ=[some (.str (tx (QO Y W N ac tail))),some (.str (tx t)),some (.ref p),some (.bl (sgn Y first tail)),some (.int (ax first W N:Nat)),some (.int (ac.length:Nat)),some (.str (tx Y)),some (.str (tx body)),some (.str (tx tail)),some (.ref pl),some (.int (u:Nat)),sx])/\Qu H6 H7/\(1<=i->bL Y body tail (fit ((u:Nat):Int) ac.length (ax first W N) ac.length)≠t)/\(2<=i->bL Y body tail (fit (-((u:Nat):Int)) ac.length (ax first W N) ac.length)≠t)) ⟨⟨none,Z⟩,Qu.refl _,λz=>absurd z (by decide),λz=>absurd z (by decide)⟩ ?_ ?_ ?_
    ·rintro i σ H7 hi ⟨_,S7,_⟩;exact ai.of (S7 _ _ g6)
    ·rintro i x σ H7 hi ⟨⟨sx,rfl⟩,S7,n1,n2⟩;obtain⟨v,rfl,F2,hv⟩:∃v:Int,x=.int v/\v.natAbs<10^12/\(v=(u:Nat)/\i=0\/v= -(u:Nat)/\i=1):=by
      have BJ:i<2:=(yaj.mp hi).1
      match i,hi,BJ with
      |0,hi,_=>exact⟨_,(lB hi).symm,by lia,.inl ⟨Z,Z⟩⟩
      |1,hi,_=>exact⟨_,(lB hi).symm,by lia,.inr ⟨Z,Z⟩⟩
     refine⟨_,Z,_,Z,_,Z,bw,λpa iq=>?_⟩;have S8:=Qu.new (o:=.tup [.int v,.int (ac.length:Nat)]) iq;refine⟨QO Y W N ac tail,pa,v,ac.length,Z,hl,⟨ai.of Qe,yaD F2 (by decide),by lia,by lia⟩,.inr ⟨Y,first,W,N,ac,tail,Ee,hsz,Z,λH9 S9=>?_⟩⟩;rw[bv];refine⟨_,Z,Z,_,Z,?_⟩;rw[Xv];have Az:=((IW.trans S7).trans S8).trans S9
     by_cases he:bL Y body tail (fit v ac.length (ax first W N) ac.length)=t
     ·rw[ly he];refine QX ⟨_,Z,_,Z,bw,λqz Cf=>?_⟩;refine kv v ?_ qz _ (Az.trans (Qu.new Cf)) (JX Az Cf) Qe;rcases hv with⟨rfl,rfl⟩|⟨rfl,rfl⟩
      ·rw[yaf he]
      ·rw[yac (n1 (by decide)),yaf he]
     ·rw[lx he];refine QQ ⟨⟨_,Z⟩,(S7.trans S8).trans S9,λz=>?_,λz=>?_⟩
      ·rcases hv with⟨rfl,rfl⟩|⟨rfl,rfl⟩
       ·exact he
       ·exact n1 (by decide)
      ·rcases hv with⟨rfl,rfl⟩|⟨rfl,rfl⟩
       ·exact absurd z (by decide)
       ·exact he
    ·rintro σ H7 ⟨⟨sx,rfl⟩,S7,n1,n2⟩;exact⟨bK,kn (by rw[yac (n1 (show 1<=2 by decide)),yac (n2 (show 2<=2 by decide))]) _ (IW.trans S7)⟩
  ·show min (tx body).length _<sizeLine;lia
def wa(x:Facts):Prop:=x.kind=2/\1<=x.before+x.behind/\x.before+x.behind<=18
def IX(l:List Nat):Prop:=∀x,Q2 l=some x->x.kind≠2
def wb(K:Frag)(c:Nat->Addr):Sp:=λvs H Q E=>∃(l:List Nat)(p:Addr)(u o:Int),vs=[.str (tx l),.ref p]/\l.length<=500/\l6 K H p u o/\
 ((IX l/\∀H',Qu H H'->E (.ref (c 2)) none H')\/∃x,Q2 l=some x/\wa x/\∀H',Qu H H'->Q (.str (tx (cont x.signed x.before x.behind u o))) H')
theorem F4(h:n<10^k)(hk:k<=18):n<10^18:=yad h (yat (by decide) hk)
theorem Wz(i:Int):(if i<0 then-i else i)=((i.natAbs:Nat):Int):=by split<;>lia
theorem Y3(F:az K "content_of" "content_of" Z8 f fd)(O:Own mg)(T:Txt K mg tk c kr)(hV:Def P w K mg M 6 "understood_as" ["kind","picture"] (Ww K c))(mS:Def P w K mg M 3 "fitted" ["amount","before","behind"] (vR K))(gx:Def P w K mg M 2 "figures_of" ["number"] UX):
  af P w K mg M (ak P w) 7 f fd ["picture","amount"] (wb K c):=by
 refine cO F JL (λvs H Q E h=>?_) (λad A L s H vs Q E hr h=>?_)
 ·obtain⟨l,p,u,o,rfl,_⟩:=h;rfl
 ·obtain⟨l,p,u,o,rfl,hl,qMa,hc⟩:=h;have hz:=zza
  have fr:=Zn (P:=P) (w:=w) (K:=K) (mg:=mg) (M:=M) (N:=["picture","amount","rows","signed","before","behind","units","figures"]) (qual:="content_of") (scope:=Qf Z8) (f:=f) (cd:=ad) (A:=A) (L:=L) (s:=s) (H:=H) (E:=E);have hx:=Q4 fr;refine⟨_,(Qb (Jc (hV.pq hr hx (Qa Qd (Qa (pv 0) Qc))) (QY Z (Qh (Y' 2 JL.nd) (Qh (QY Z (Qh (Y' 3 JL.nd) (Qh (Y' 4 JL.nd) (Qh (Y' 5 JL.nd) QE)))) QE))))
   (Qb (Z' 6 JL.nd (mS.pq hr hx (Qa (pv 1) (Qa (pv 4) (Qa (pv 5) Qc)))))
   (Qb (Z' 7 JL.nd (JF yau ydI ydJ W1 (gx.pq hr hx (Qa (Qq ZH Z O.abs ydE (Qa (pv 6) Qc)) Qc)) (Qa (Qt JA (pv 4) (pv 5)) Qc)))
   (Qb (QL (PW.pt (Je (Q7 (pv 3) (λ_=>rfl)) (Q6 (Ql KS (pv 6) Qj (Qo _))))) (Qg (Qr (Qt Qp (QT JT (pv 7) Jl (QV (Kw ZN Qj))) (QN ZO (QD (v:=V.str "pqrstuvwxy") Z T.gD ⟨_,Z⟩) (Q9 Q8 Z O.int ycV (Qa (QN ZO (pv 7) (Kw ZN Qj) (λ_ _=>rfl)) Qc)) (λ_ _=>rfl))))) Qs)
   (Qg (Qr (pv 7))))))),?_⟩
  rcases hc with⟨cZ,k⟩|⟨x,Fa,⟨oh,h1,ST⟩,k⟩
  ·exact⟨_,Z,l,2,Z,hl,by decide,λ_=>k,λx hp hk=>absurd hk (cZ x hp)⟩
  refine⟨_,Z,l,2,Z,hl,by decide,(λz=>absurd oh (z x Fa).2),λx' hp _ q p1 rs r H1 S1 g1 g2 R1=>?_⟩;obtain rfl:x=x':=lB (Fa.symm.trans hp);refine⟨q,_,Z,ai.of g1,Z,_,_,Z,_,_,Z,r,_,Z,ai.of g2,Z,_,_,Z,_,_,Z,_,_,Z,Z,Z,?_⟩;refine⟨_,Z,_,Z,_,Z,p,u,o,x.before,x.behind,Z,qMa.same S1,ST,λH2 S2=>?_⟩;have iE:=UW u o x.before x.behind;generalize oN:fit u o x.before x.behind=v at iE;have k:∀H',Qu H H'->Q (.str (tx (if x.signed=true/\v<0 then Wv (pad v.natAbs (x.before+x.behind))else pad v.natAbs (x.before+x.behind)))) H':=λH' S=>by
   have:=k H' S;unfold cont at this;rw[oN]at this;exact this
  have sA:x.before+x.behind<=1000:=by lia
  have ms:((x.before:Nat):Int)+((x.behind:Nat):Int)=((x.before+x.behind:Nat):Int):=by lia
  generalize x.before+x.behind=n at h1 ST iE k sA ms;have ut:=Xn iE h1;have li:=X3 v.natAbs n;have dn:=kC v.natAbs n;have Rl:=VG v.natAbs h1;refine⟨_,Z,v,Z,v.natAbs,by rw[Wz];rfl,F4 iE ST,λH3 S3=>⟨Z,_,Z,_,Z,_,_,Z,Z,tx (dec v.natAbs),((x.before:Nat):Int)+((x.behind:Nat):Int),Z,Z,ZW (by lia) (by lia),?_⟩⟩;rw[ms,Rl];generalize pad v.natAbs n=pl at k ut li dn;have TD:=(S1.trans S2).trans S3;have ce:=Qi pl;refine⟨_,Z,x.signed,Z,?_⟩;cases Au:x.signed with
  |false=>
   rw[Au]at k;exact QQ (QQ ⟨_,Z,k _ TD⟩)
  |true=>
   rw[Au]at k;refine QX ⟨_,Z,_,_,Z,Z,_,Z,?_⟩
   by_cases hv:v<0
   ·rw[ly hv];have k:=k H3 TD;rw[yaf ⟨Z,hv⟩]at k;obtain⟨d,bM,hd2⟩:=Zr dn;have oj:NumText.AllDigits [d]:=λz hz=>li z (by rw[bM];exact lE _ hz);have pi:=oj d (yak.mpr Z);refine QX ⟨_,Z,_,Z,_,Z,tx pl,Z,by lia,?_⟩;rw[Kg];have sC:cf pl (-1)=some d:=by
     rw[bM];exact X8 _ _
    refine⟨_,Z,_,Z,tx pl, -1,d,Z,Z,by lia,sC,tx [d],_,Z,ybI oj (by simp) (by rw[Qi];simp),by rw[Qi];simp,?_⟩;refine⟨"pqrstuvwxy",_,d+64,Z,Z,by decide+kernel,?_,_,_,Z,Z,?_,?_⟩
    ·show cf ("pqrstuvwxy":Str).cps.toList ((NumText.digitsVal [d]:Nat):Int)=_;rw[O7 oj];exact J2 (yQ d (by lia) (by lia))
    ·show(tx pl.dropLast).length+(tx [d+64]).length<=sizeLine;rw[Qi,Qi,yaN];simp;lia
    ·show Q (.str (tx pl.dropLast++tx [d+64])) H3;rw[QM];have e:Wv pl=pl.dropLast++[d+64]:=by unfold Wv;rw[hd2];rfl
     rw[e]at k;exact k
   ·rw[lx hv];have k:=k H3 TD;rw[yac (λz=>hv z.2)]at k;exact QQ ⟨_,Z,k⟩
theorem Rm{i:Nat}{c:Bool}(hσ:σ[i]? =some (some (.bl c)))(Good:V->Hp->Prop)(hT:c=true->(∀v H',Good v H'->Q v H')->tb σ H Q) (hF:c=false->Good (.bl false) H) (rest:∀v H',Good v H'->Q v H'):wI (ZB i) tb σ H Q:=by
 refine⟨_,hσ,c,Z,?_⟩;cases c with
 |true=>rw[yaf rfl];exact hT rfl rest
 |false=>rw[yac (by decide)];exact rest _ _ (hF Z)
def Y4(K:Frag)(c:Nat->Addr):Sp:=λvs H Q E=>∃(l t:List Nat),vs=[.str (tx l),.str (tx t)]/\l.length<=500/\t.length<=100/\
 ((IX l/\∀H',Qu H H'->E (.ref (c 2)) none H')\/∃x,Q2 l=some x/\wa x/\
  (¬ VH x.signed x.before x.behind t->∀H',Qu H H'->E (.ref (c 5)) none H')/\(VH x.signed x.before x.behind t->∀q H',Qu H H'->H q=none->H' q=some (.tup [.int (Jb x.signed t),.int (x.behind:Nat)])->Q (.ref q) H'))
theorem v7(h1:112<=d)(h2:d<=121):Txt.find "pqrstuvwxy" (tx [d])=((d-112:Nat):Int):=by
 have key:∀k:Nat,k<10->Txt.find "pqrstuvwxy" (tx [k+112])=((k:Nat):Int):=by decide+kernel
 have:=key (d-112) (by lia);rw[show d-112+112=d by lia]at this;exact this
theorem Rn(h:k<10):("0123456789":Str).cps.toList[k]? =some (k+48):=by
 have key:∀k:Nat,k<10->("0123456789":Str).cps.toList[k]? =some (k+48):=by decide+kernel
 exact key k h
theorem wc(h:([112,113,114,115,116,117,118,119,120,121]:List Nat).contains d=true):112<=d/\d<=121:=(by decide:∀d∈([112,113,114,115,116,117,118,119,120,121]:List Nat),112<=d/\d<=121) d (yai.mp h)
theorem U3(F:az K "amount_in" "amount_in" XC f fd)(O:Own mg)(T:Txt K mg tk c kr)(hV:Def P w K mg M 6 "understood_as" ["kind","picture"] (Ww K c))(gu:Def P w K mg M 1 "is_figures" ["text"] Vz)(gf:Def P w K mg M 2 "number_of" ["text"] zD):
  af P w K mg M (ak P w) 7 f fd ["picture","content"] (Y4 K c):=by
 refine cO F Jx (λvs H Q E h=>?_) (λad A L s H vs Q E hr h=>?_)
 ·obtain⟨l,t,rfl,_⟩:=h;rfl
 ·obtain⟨l,t,rfl,hl,Ro,hc⟩:=h;have hz:=zza
  have fr:=Zn (P:=P) (w:=w) (K:=K) (mg:=mg) (M:=M) (N:=["picture","content","rows","signed","before","behind","last","is_below","figures","units"]) (qual:="amount_in") (scope:=Qf XC) (f:=f) (cd:=ad) (A:=A) (L:=L) (s:=s) (H:=H) (E:=E);have ht:=J5 fr;have hx:=Q4 fr;refine⟨_,(Qb (Jc (hV.pq hr hx (Qa Qd (Qa (pv 0) Qc))) (QY Z (Qh (Y' 2 Jx.nd) (Qh (QY Z (Qh (Y' 3 Jx.nd) (Qh (Y' 4 Jx.nd) (Qh (Y' 5 Jx.nd) QE)))) QE))))
   (Qb (QL (Ql ZZ (Qq QF Z O.len yaK (Qa (pv 1) Qc)) (Qt JA (pv 4) (pv 5)) (Qo _)) (Qg (Zs ht Z Z T.gU T.mD (Qa Qd Qc))) Qs)
   (Qb (Z' 6 Jx.nd (QN ZO (pv 1) (Kw ZN Qj) (λ_ _=>rfl)))
   (Qb (Z' 7 Jx.nd (Ug (pv 3) (Uf (JR Jf (pv 6) (QD (v:=V.str "pqrstuvwxy") Z T.gD ⟨_,Z⟩) (by with_unfolding_all rfl)))))
   (Qb (Z' 8 Jx.nd (QC (Q7 (pv 7) (λ_=>rfl)) (Qt Qp (QT JT (pv 1) Jl (QV (Kw ZN Qj))) (QN ZO (QD (v:=V.str "0123456789") Z T.gO ⟨_,Z⟩) (JF yau slot_str_find type_str_find xJ (QD (v:=V.str "pqrstuvwxy") Z T.gD ⟨_,Z⟩) (Qa (pv 6) Qc)) (λ_ _=>rfl))) (pv 1)))
   (Qb (QL (Kn (WG (gu.pq hr hx (Qa (pv 8) Qc)))) (Qg (Zs ht Z Z T.gU T.mD (Qa Qd Qc))) Qs)
   (Qb (Z' 9 Jx.nd (gf.pq hr hx (Qa (pv 8) Qc)))
   (Qg (Qr (QG (Qa (QC (Q7 (pv 7) (λ_=>rfl)) (Kw ZN (pv 9)) (pv 9)) (Qa (pv 5) Qc)))))))))))),?_⟩
  rcases hc with⟨cZ,k⟩|⟨x,Fa,⟨oh,h1,ST⟩,kE,kQ⟩
  ·exact⟨_,Z,l,2,Z,hl,by decide,λ_=>k,λx hp hk=>absurd hk (cZ x hp)⟩
  refine⟨_,Z,l,2,Z,hl,by decide,(λz=>absurd oh (z x Fa).2),λx' hp _ q p1 rs r H1 S1 g1 g2 R1=>?_⟩;obtain rfl:x=x':=lB (Fa.symm.trans hp);refine⟨q,_,Z,ai.of g1,Z,_,_,Z,_,_,Z,r,_,Z,ai.of g2,Z,_,_,Z,_,_,Z,_,_,Z,Z,Z,?_⟩;have ce:=Qi t;have ms:((x.before:Nat):Int)+((x.behind:Nat):Int)=((x.before+x.behind:Nat):Int):=by lia
  refine⟨_,Z,tx t,Z,by lia,_,Z,_,Z,_,_,Z,Z,Z,_,Z,?_⟩;rw[xF,ce]
  by_cases hlen:t.length=x.before+x.behind
  ·rw[lx (by rw[ms];lia)];have sD:t≠[]:=λz=>by rw[z]at hlen;simp at hlen;lia
   obtain⟨d,bM,hd2⟩:=Zr sD;have sC:cf t (-1)=some d:=by
    rw[bM];exact X8 _ _
   refine QQ ⟨_,Z,_,Z,tx t, -1,d,Z,Z,by lia,sC,?_⟩;have cy:JP x.signed t=(x.signed&&([112,113,114,115,116,117,118,119,120,121]:List Nat).contains d):=by unfold JP;rw[hd2];rfl
   dsimp only[Jz,Wi,Wg];refine Rm (c:=x.signed) rfl (λv H'=>v=.bl (JP x.signed t)/\H'=H1) (λz rest=>?_) (λz=>?_) ?_
   ·refine⟨_,Z,_,_,Z,Z,rest _ _ ⟨?_,Z⟩⟩;rw[show(⟨#[d]⟩:Str)=tx [d]from rfl,O6,Jw,cy,z];rfl
   ·exact⟨by rw[cy,z];rfl,Z⟩
   rintro v H2 ⟨rfl,rfl⟩;refine⟨_,Z,_,Z,?_⟩;have ev:(Jk x.signed t).length=t.length:=by
    unfold Jk
    split
    ·rw[lq,yaN];simp;lia
    ·rfl
   refine Js (λv H'=>v=.str (tx (Jk x.signed t))/\H'=H2) (λz rest=>?_) (λz rest=>?_) ?_
   ·have DI:=wc (d:=d) (by rw[cy]at z;exact(yde.mp z).2);refine⟨_,Z,_,Z,_,Z,tx t,Z,by lia,?_⟩;rw[Kg];refine⟨Z,_,Z,"pqrstuvwxy",tx [d],Z,Z,trivial,?_⟩;refine⟨"0123456789",((d-112:Nat):Int),d-112+48,Z,yaI V.int (v7 DI.1 DI.2),by decide+kernel,J2 (Rn (by lia)),_,_,Z,Z,?_,?_⟩
    ·show(tx t.dropLast).length+(tx [d-112+48]).length<=sizeLine;rw[Qi,Qi,yaN];simp;lia
    ·show _;refine rest _ _ ⟨?_,Z⟩;show V.str (tx t.dropLast++tx [d-112+48])=_;rw[QM];unfold Jk;rw[yaf z,hd2];show V.str (tx (t.dropLast++[d-112+48]))=V.str (tx (t.dropLast++[d-64]));rw[show d-112+48=d-64 by lia]
   ·exact⟨_,Z,rest _ _ ⟨by unfold Jk;rw[yac (by rw[z];decide)],Z⟩⟩
   rintro v H3 ⟨rfl,rfl⟩;have Rp:=Qi (Jk x.signed t);refine⟨_,Z,tx (Jk x.signed t),Z,by lia,_,Z,?_⟩;rw[Jt];have fg:Jk x.signed t≠[]:=λz=>by rw[z]at ev;simp at ev;lia
   by_cases cz:NumText.AllDigits (Jk x.signed t)
   ·rw[ly ⟨fg,cz⟩];refine QQ ⟨_,Z,tx (Jk x.signed t),Z,cz,by lia,?_⟩;rw[Jt];refine⟨_,Z,_,Z,?_⟩;have fin:∀H',H'=H3->Q=Q->(∀q,H' q=none->Q (.ref q) (upd H' q (.tup [.int (Jb x.signed t),.int (x.behind:Nat)]))):=by
     rintro H' rfl _ q hq;refine kQ ⟨hlen,cz⟩ q _ (S1.trans (Qu.new hq)) ?_ Qe;cases e:H q with
     |none=>rfl
     |some o=>rw[S1 _ _ e]at hq;cases hq
    refine Js (λv H'=>v=.int (Jb x.signed t)/\H'=H3) (λz rest=>?_) (λz rest=>?_) ?_
    ·exact⟨_,Z,_,Z,rest _ _ ⟨by unfold Jb;rw[yaf z],Z⟩⟩
    ·exact⟨_,Z,rest _ _ ⟨by unfold Jb;rw[yac (by rw[z];decide)],Z⟩⟩
    rintro v H4 ⟨rfl,rfl⟩;exact⟨_,Z,bw,fin _ rfl rfl⟩
   ·rw[lx λz=>cz z.2];exact QX ⟨bK,kE (λz=>cz z.2) _ S1⟩
  ·rw[ly (by rw[ms];lia)];exact QX ⟨bK,kE (λz=>hlen z.1) _ S1⟩
def U4(c:Nat->Addr):Sp:=λvs H Q E=>∃l:List Nat,vs=[.str (tx l)]/\l.length<=500/\(Q2 l=none->∀H',Qu H H'->E (.ref (c 1)) none H')/\(∀x,Q2 l=some x->∀H',Qu H H'->Q (.str (kindS x.kind)) H')
theorem zR(F:az K "kind_of" "kind_of" K6 f fd)(gv:Def P w K mg M 6 "understood" ["picture"] (VE K c)):af P w K mg M (ak P w) 7 f fd ["picture"] (U4 c):=by
 refine cO F Wp (λvs H Q E h=>?_) (λad A L s H vs Q E hr h=>?_)
 ·obtain⟨l,rfl,_⟩:=h;rfl
 ·obtain⟨l,rfl,hl,k1,k2⟩:=h;have fr:=Zn (P:=P) (w:=w) (K:=K) (mg:=mg) (M:=M) (N:=["picture","rows","facts"]) (qual:="kind_of") (scope:=Qf K6) (f:=f) (cd:=ad) (A:=A) (L:=L) (s:=s) (H:=H) (E:=E);have hx:=Q4 fr;refine⟨_,(Qb (Jc (gv.pq hr hx (Qa (pv 0) Qc)) (QY Z (Qh (Y' 1 Wp.nd) (Qh (Y' 2 Wp.nd) QE))))
   (Qg (Qr (QN Jd (pv 2) Qj (λ_ _=>rfl))))),?_⟩
  refine⟨_,Z,l,Z,hl,k1,λx e q p rs r H1 S1 g1 g2 R1=>?_⟩;exact⟨q,_,Z,ai.of g1,Z,_,_,Z,_,_,Z,Z,_,Z,r,_,_,_,Z,Z,ai.of g2,Z,k2 x e H1 S1⟩
end
end Lw
namespace L2
open PySem PySem.Spec PyProof.Rows
open Builtin Builtin.Str
section
theorem v8:cN X "str.ljust" (λx vs H Q=>∃z i,x=.str z/\vs=[.int i]/\PadOk i=true/\Q (.str (Txt.ljust z i)) H):=by
 intro U s σ H x vs v us Q I rx rv h;obtain⟨z,i,rfl,rfl,hp,q⟩:=h;obtain⟨t,rfl⟩:=rx;obtain⟨u,rfl,t',rfl⟩:=vals1 rv;exact ycm F.slot_str_ljust F.entry_str_ljust (F.args_str_ljust_2 _ _) (gives_str_ljust z i t t' (ycg hp).1 (ycg hp).2) (ycx (fits_padR 32 (ycg hp).2) λt2 k=>⟨.str _,H,I.tok k,⟨t2,Z⟩,q⟩)
theorem ya:cN X "str.rjust" (λx vs H Q=>∃z i,x=.str z/\vs=[.int i]/\PadOk i=true/\Q (.str (Txt.rjust z i)) H):=by
 intro U s σ H x vs v us Q I rx rv h;obtain⟨z,i,rfl,rfl,hp,q⟩:=h;obtain⟨t,rfl⟩:=rx;obtain⟨u,rfl,t',rfl⟩:=vals1 rv;exact ycm F.slot_str_rjust F.entry_str_rjust (F.args_str_rjust_2 _ _) (gives_str_rjust z i t t' (ycg hp).1 (ycg hp).2) (ycx (fits_padL 32 (ycg hp).2) λt2 k=>⟨.str _,H,I.tok k,⟨t2,Z⟩,q⟩)
end
inductive bC (w:World):List DictEntry->List (Key × V)->Prop where
 |nil:bC w [] []
 |cons {h:Int} {x:Str} {a:Addr} {t:Tok} {es:List DictEntry} {al:List (Key × V)} (e:h=oB w (.inr x)) (r:bC w es al):bC w (⟨h,.str x t,.ref a⟩::es) ((Sum.inr x,.ref a)::al)
theorem bC.pairs{al:List (Key × V)}(h:bC w es al):∃vs,KV al vs/\Pairs (Jr P w) es vs/\vs.map (·.1)=al.map (·.1)/\∀e∈es,∃k,(Jr P w).is k e.key=true/\e.hash=oB w k:=by
 induction h with
 |nil=>exact⟨[],.nil,.nil,Z,λe he=>by cases he⟩
 |@cons hh x a t es al e r ih=>
  obtain⟨vs,h1,h2,h3,h4⟩:=ih;refine⟨(Sum.inr x,.ref a)::vs,.cons ⟨Z,Z⟩ h1,.cons (JJ P w x t) rfl h2,by rw[lU,lU,h3],λq hq=>?_⟩;rcases yag.mp hq with rfl|hq
  ·exact⟨_,JJ P w x t,e⟩
  ·exact h4 q hq
theorem wd{K:Frag}{n:Nat}{al:List (Key × V)}(ne:(a==sysModules)=false)(l:K.lookup a=some ⟨.type "dict",none,.dict es n, #[]⟩)(h:bC w es.toList al)(nd:(al.map (·.1)).Nodup):aA P w K a al:=by
 obtain⟨vs,h1,h2,h3,h4⟩:=h.pairs (P:=P);exact⟨ne,λhp KX=>⟨vs,h1,_,_,_,KX a _ l,⟨Z,Z,Z⟩,Z,λe he=>h4 e (by simpa using he),h2,by rw[h3];exact nd⟩⟩
theorem yb{fd:FuncData}{args:Args}{binds:List (Str × Value)}{kd:Addr}{name:Str}(h1:bindArgs fd args=nsGet kd name>>=k)(hn:s.heap.Ns kd m)(hv:m name=some v)(h2:k (some v)=pure binds):BindsTo s fd args binds:=
 λ_ _ _ _ hq=>by
  rw[h1];refine yab (wpAny_nsGet hn ?_);rw[hv,h2];exact yan hq
structure fj(P:Program)(w:World)(K:Frag)(mg:Str->Option Value)(M:Heap)(k:Nat)(x:Str)(ps:List Str)(dv:V)(sp:Sp):Prop where
 ex:∃f fd d,mg x=some (.ref f)/\keepIn K (.ref f)=true/\Binds K fd ps [d]/\RelV dv d/\af P w K mg M (ak P w) k f fd ps sp
noncomputable def om{α:Type}:List α->List α->List α
 |[a,b,c],[d]=>[a,b,c,d]
 |_,_=>[]
theorem Rq{vs zs:List V}{us ws:List Value}(r:Vals vs us)(r2:Vals zs ws):Vals (om vs zs) (om us ws):=by
 match r,r2 with
 | .cons a (.cons b (.cons c .nil)),.cons d .nil=>exact .cons a (.cons b (.cons c (.cons d .nil)))
 | .nil,_=>exact .nil
 | .cons _ .nil,_=>exact .nil
 | .cons _ (.cons _ .nil),_=>exact .nil
 | .cons _ (.cons _ (.cons _ (.cons _ _))),_=>exact .nil
 | .cons _ (.cons _ (.cons _ .nil)),.nil=>exact .nil
 | .cons _ (.cons _ (.cons _ .nil)),.cons _ (.cons _ _)=>exact .nil
theorem Rr{us ws:List α}(h:(om us ws).length=4):∃a b c d,us=[a,b,c]/\ws=[d]:=by
 match us,ws,h with
 |[a,b,c],[d],_=>exact⟨a,b,c,d,Z,Z⟩
structure bI(P:Program)(w:World)(K:Frag)(mg:Str->Option Value)(M:Heap)(k:Nat)(x:Str)(ps ks:List Str)(sp:Sp):Prop where
 ex:∃f fd,mg x=some (.ref f)/\keepIn K (.ref f)=true/\cj K fd ps ks om om/\af P w K mg M (ak P w) k f fd ps sp
section
variable {X:Cx}{k k':Nat}{x:Str}{ps ks:List Str}{dv:V}{sp:Sp}{E:XK}{p pos:Pos}{e:Expr}{es:List Expr}{t tk:TA}{Tl:List Keyword}
theorem fj.pe(D:fj X.prog X.w X.K X.mg X.M k x ps dv sp)(hr:ao k' X.A)(hk:k<=k')(hg:Gl X x)(hx:Passes (ak X.prog X.w) X E)(ha:PA X (e::es) t)(pi:(x==("__debug__":Str))=false:=by decide)
  (he:starEach (e::es) X.env=(false,eval e X.env)::starEach es X.env:=by rfl) (mo:(backTo pos (starEach es X.env)).any (·.1)=false:=by rfl):PE X (.Call (.Name x p) (e::es) [] pos) (Wk sp [dv] E t):=by
 obtain⟨f,fd,d,h1,h2,h3,h5,h4⟩:=D.ex;exact xm h4 (hr.mono hk) hg h1 h2 h3 (.cons h5 .nil) hx ha pi he mo
theorem bI.pe(D:bI X.prog X.w X.K X.mg X.M k x ps ks sp)(hr:ao k' X.A)(hk:k<=k')(hg:Gl X x)(hx:Passes (ak X.prog X.w) X E)(ha:PA X (e::es) t)(Et:PK X Tl tk)
  (ol:(backToKw pos (keywordEach Tl X.env)).all (·.1.isSome)=true:=by rfl) (Eu:(backToKw pos (keywordEach Tl X.env)).filterMap (·.1)=ks:=by rfl)
  (pi:(x==("__debug__":Str))=false:=by decide) (he:starEach (e::es) X.env=(false,eval e X.env)::starEach es X.env:=by rfl)
  (mo:((backTo pos (starEach (e::es) X.env)).any (·.1)||(backToKw pos (keywordEach Tl X.env)).any (·.1.isNone))=false:=by rfl):
  PE X (.Call (.Name x p) (e::es) Tl pos) (jm sp om E t tk):=by
 obtain⟨f,fd,h1,h2,h3,h4⟩:=D.ex;exact wO h4 (hr.mono hk) hg h1 h2 h3 hx ha Et ol Eu pi he mo
end
theorem IY{K:Frag}{x:Str}(X:K.In h)(G:h.Ns N m)(e:nsIn K N x=some (some v)):m x=some v:=by
 obtain⟨o,es,ep,ho,hd,_,hf⟩:=G;unfold nsIn at e
 split at e
 ·rename_i c d es2 n2 sl q;have z:=X _ _ q;rw[ho]at z;cases z;cases hd
  split at e
  ·rename_i en he;cases e;rw[←hf];unfold nsFind findBy;rw[←Array.find?_toList,he];rfl
  ·split at e<;>cases e
 ·cases e
structure aU(K:Frag)(x:Str)(st:Stmt)(nm:Str)(v:Value):Prop where
 ex:∃(f kd:Addr)(oc:Value)(od:Option Addr)(doc pm:Value)(an:Option Addr)(ad ct:Value)(mt:Array (Option Value)),nsIn K mainGlobals x=some (some (.ref f))/\
  K.lookup f=some ⟨oc,od,.func (fnOf x x (JS st) (QI st) (Qf st) .none (.ref kd) doc pm an ad ct),mt⟩/\codeIn K ad x=true/\keepIn K (.ref f)=true/\nsOkIn K kd=true/\nsIn K kd nm=some (some v)
theorem we{K:Frag}{x:Str}{st:Stmt}{nm:Str}{f kd:Addr}{od an:Option Addr}{mt:Array (Option Value)}{doc pm ad ct:Value}(a:nsIn K mainGlobals x=some (some (.ref f)))
  (l:K.lookup f=some ⟨oc,od,.func (fnOf x x (JS st) (QI st) (Qf st) .none (.ref kd) doc pm an ad ct),mt⟩) (c:codeIn K ad x=true) (k:keepIn K (.ref f)=true) (n:nsOkIn K kd=true) (d:nsIn K kd nm=some (some v)):aU K x st nm v:=
 ⟨f,kd,oc,od,doc,pm,an,ad,ct,mt,a,l,c,k,n,d⟩
section
variable {P:Program}{w:World}{K:Frag}{mg:Str->Option Value}{M h:Heap}{x:Str}{st:Stmt}{k:Nat}{sp:Sp}
theorem aU.Rt{v0:Value}(D:aU K x st p4 v0)(X:K.In h)(G:h.Ns mainGlobals mg)(ag:∀f fd,az K x x st f fd->af P w K mg M (ak P w) k f fd [p1,p2,p3,p4] sp)
  (hb:∀(kV doc pm:Value)(an:Option Addr)(ad ct:Value)(u1 u2 u3 v:Value),bindArgs (fnOf x x (JS st) (QI st) (Qf st) .none kV doc pm an ad ct) ⟨[u1,u2,u3],[(p4,v)]⟩=pure [(p1,u1),(p2,u2),(p3,u3),(p4,v)]):bI P w K mg M k x [p1,p2,p3,p4] [p4] sp:=by
 obtain⟨f,kd,oc,od,doc,pm,an,ad,ct,mt,a,l,c,kp,n,d⟩:=D.ex;refine⟨f,_,mg_of X G a,kp,⟨λs us ws _ hl=>?_,Rq⟩,ag f _ ⟨⟨oc,od,.ref kd,doc,pm,an,ad,ct,mt,Z,l,c⟩,kp⟩⟩;obtain⟨u1,u2,u3,v,rfl,rfl⟩:=Rr hl;exact .of_eq (hb (.ref kd) doc pm an ad ct u1 u2 u3 v)
end
end L2
namespace sE
open aW aK bS aZ
noncomputable def aX(t:List Nat)(n:Nat)(b:Bool):List Nat:=if b=true then replicate (n-t.length) 32++t.drop (t.length-n)else t.take n++replicate (n-t.length) 32
inductive Bx
 |num (s:Bool) (a b:Nat)
 |aR (Y:List Nat) (first:Nat) (W N ac tail:List Nat)
 |aG (n:Nat)
 |txt (n:Nat)
noncomputable def kd:Bx->Nat
 | .num .. =>2
 | .aR .. =>3
 | .aG _=>1
 | .txt _=>0
noncomputable instance (s:Bool)(a b:Nat)(l:List Nat):Decidable (VH s a b l):=by unfold VH PySem.NumText.AllDigits;infer_instance
noncomputable def sp(t:List Nat):List Nat:=(PySem.Txt.stripChars (tx t) " ").cps.toList
def zS(t:List Nat):Prop:=t≠[]/\PySem.NumText.AllDigits t/\t.length<=18
noncomputable instance (l:List Nat):Decidable (zS l):=by unfold zS PySem.NumText.AllDigits;infer_instance
noncomputable def Kt:Bx->List Nat->Option (Int × Nat)
 | .num s a b,t=>if VH s a b t then some (Jb s t,b)else none
 | .aR Y first W N ac tail,t=>(og Y (W++N++Qm ac) tail (ax first W N) ac.length t).map λu=>(u,ac.length)
 | .txt _,t=>if zS (sp t)then some ((PySem.NumText.digitsVal (sp t):Nat),0)else none
 | .aG _,_=>none
noncomputable def AA:Bx->Int->Nat->List Nat
 | .num s a b,u,o=>cont s a b u o
 | .aR Y first W N ac tail,u,o=>bL Y (W++N++Qm ac) tail (fit u o (ax first W N) ac.length)
 |_,_,_=>[]
noncomputable def wE:Nat->Nat->Bool
 |2,1=>false
 |3,1=>false
 |1,2=>false
 |1,3=>false
 |_,_=>true
noncomputable def bT(c:Nat):Bool:=c==32||(decide (97<=c)&&decide (c<=122))||(decide (65<=c)&&decide (c<=90))
inductive Rs
 |ok (t:List Nat)
 |er (k:Nat)
noncomputable def sz:Bx->Nat
 | .aG n=>n
 | .txt n=>n
 |_=>0
noncomputable def b9:Bx->List Nat->Rs
 | .num s a b,t=>if 0<b then .er 7 else match Kt (.num s a b) t with|none=>.er 5|some (u,_)=>.ok (pad u.natAbs a)
 |_,t=>.ok t
noncomputable def bD(x y:Bx)(rt:Bool)(t:List Nat):Rs:=
 if wE (kd x) (kd y)=false then .er 7
 else if 2<=kd y then match Kt x t with|none=>.er 5|some (u,o)=>.ok (AA y u o)
 else match b9 x t with
  | .er k=>.er k
  | .ok m=>if kd y=1/\(aX m (sz y) rt).all bT=false then .er 6 else .ok (aX m (sz y) rt)
end sE
namespace Lw
open PySem PySem.Spec PyProof.Rows L2 aW aK bS aZ sE
open Builtin Builtin.Str StrLaws
noncomputable def DJ(r0 r1 r2 r3:Addr):List (Key × V):=[(Sum.inr "number",.ref r0),(Sum.inr "edited",.ref r1),(Sum.inr "text",.ref r2),(Sum.inr "letters",.ref r3)]
theorem Ru(l:List Nat)(n:Nat):Txt.rjust (tx l) (n:Int)=tx (replicate (n-l.length) 32++l):=by
 unfold Txt.rjust;have h:=Qi l
 split
 ·rename_i hc;rw[show n-l.length=0 by lia];rfl
 ·rw[lZ,h];unfold padded tx;simp
theorem Rv(l:List Nat)(n:Nat):Txt.ljust (tx l) (n:Int)=tx (l++replicate (n-l.length) 32):=by
 unfold Txt.ljust;have h:=Qi l
 split
 ·rename_i hc;rw[show n-l.length=0 by lia];simp
 ·rw[lZ,h];unfold padded tx;simp
theorem zT(z:Str)(a b:Nat):(strSub z a b).length<=z.length:=by
 have e:(strSub z a b).length=(strSub z a b).cps.toList.length:=rfl;rw[e,strSub_toList,lI,lJ];have e2:z.length=z.cps.toList.length:=rfl;rw[e2];lia
theorem IZ(t:List Nat):Txt.stripChars (tx t) " "=tx (sp t):=V1 _
theorem wf(t:List Nat):(sp t).length<=t.length:=by
 have e:(sp t).length=(Txt.stripChars (tx t) " ").length:=rfl;rw[e];unfold Txt.stripChars Txt.stripBy stripSame stripped;rw[←Qi t]
 split
 ·exact lA _
 ·exact zT _ _ _
theorem Yq:∀c:Nat,("abcdefghijklmnopqrstuvwxyzABCDEFGHIJKLMNOPQRSTUVWXYZ ":Str).cps.contains c=bT c:=by
 intro c;have key:∀c:Nat,c<128->("abcdefghijklmnopqrstuvwxyzABCDEFGHIJKLMNOPQRSTUVWXYZ ":Str).cps.contains c=bT c:=by decide+kernel
 by_cases h:c<128
 ·exact key c h
 ·have e:bT c=false:=by
   unfold bT;rw[lx (show ¬ c<=122 by lia),lx (show ¬ c<=90 by lia),ybh,ybh,ydf,ydf];exact beq_false_of_ne (by lia)
  rw[e];cases g:("abcdefghijklmnopqrstuvwxyzABCDEFGHIJKLMNOPQRSTUVWXYZ ":Str).cps.contains c with
  |false=>rfl
  |true=>
   exfalso;have all:("abcdefghijklmnopqrstuvwxyzABCDEFGHIJKLMNOPQRSTUVWXYZ ":Str).cps.toList.all (λc=>decide (c<128))=true:=by decide+kernel
   have m:c∈("abcdefghijklmnopqrstuvwxyzABCDEFGHIJKLMNOPQRSTUVWXYZ ":Str).cps.toList:=by
    rw[←yai];simpa using g
   exact h (yap (yby.mp all c m))
theorem Y5(l:List Nat):decide (V.str (Txt.stripChars (tx l) "abcdefghijklmnopqrstuvwxyzABCDEFGHIJKLMNOPQRSTUVWXYZ ")=V.str "")=l.all bT:=by
 have h:=UV "abcdefghijklmnopqrstuvwxyzABCDEFGHIJKLMNOPQRSTUVWXYZ " l;have e:decide (V.str (Txt.stripChars (tx l) "abcdefghijklmnopqrstuvwxyzABCDEFGHIJKLMNOPQRSTUVWXYZ ")=V.str "")=decide (Txt.stripChars (tx l) "abcdefghijklmnopqrstuvwxyzABCDEFGHIJKLMNOPQRSTUVWXYZ "=(Str.empty:Str)):=by
  have:(V.str (Txt.stripChars (tx l) "abcdefghijklmnopqrstuvwxyzABCDEFGHIJKLMNOPQRSTUVWXYZ ")=V.str "")↔Txt.stripChars (tx l) "abcdefghijklmnopqrstuvwxyzABCDEFGHIJKLMNOPQRSTUVWXYZ "=(Str.empty:Str):=⟨λz=>V.str.inj z,λz=>yaI V.str z⟩;exact ydZ.mpr this
 rw[e,h,ycc,decide_eq_true_iff,yby];exact⟨λz c hc=>by rw[←Yq];exact z c hc,λz c hc=>by rw[Yq];exact z c hc⟩
def zZ(l:List Nat):Bx->Prop
 | .num s a b=>Q2 l=some ⟨2,s,a,b⟩/\1<=a+b/\a+b<=18
 | .aR Y first W N ac tail=>Ed Y first W N ac tail/\Y.length+(W.length+N.length)+ac.length+tail.length<=60/\l=QO Y W N ac tail
 | .aG n=>∃(x:Facts)(a:List Nat),x.kind=1/\b7 a l x/\(a.filter qN).length=n/\n<=200
 | .txt n=>∃(x:Facts)(a:List Nat),x.kind=0/\b7 a l x/\(a.filter qN).length=n/\n<=200
theorem zZ.kind(h:zZ l b):∃x,Q2 l=some x/\x.kind=kd b:=by
 cases b with
 |num s a b=>exact⟨_,h.1,Z⟩
 |aR Y first W N ac tail=>obtain⟨E,_,rfl⟩:=h;exact⟨_,E.BM,Z⟩
 |aG n=>obtain⟨x,a,hk,PA,_⟩:=h;exact⟨x,PA.pc,hk⟩
 |txt n=>obtain⟨x,a,hk,PA,_⟩:=h;exact⟨x,PA.pc,hk⟩
theorem zZ.size(h:zZ l b)(hk:kd b<=1):∃x a,b7 a l x/\(a.filter qN).length=sz b/\sz b<=200:=by
 cases b with
 |num s a b=>exact absurd hk (by show ¬ 2<=1;decide)
 |aR Y first W N ac tail=>exact absurd hk (by show ¬ 3<=1;decide)
 |aG n=>obtain⟨x,a,hk,PA,e,z⟩:=h;exact⟨x,a,PA,e,z⟩
 |txt n=>obtain⟨x,a,hk,PA,e,z⟩:=h;exact⟨x,a,PA,e,z⟩
theorem Kj(s:Bool)(t:List Nat):(Jk s t).length=t.length:=by
 unfold Jk
 split
 ·rename_i h;cases t with
  |nil=>unfold JP at h;exact absurd (yde.mp h).2 (by decide)
  |cons a r=>rw[lq,yaN];rfl
 ·rfl
theorem wg(h:VH s a b t)(ST:a+b<=18):(Jb s t).natAbs<10^18:=by
 have h1:=XQ h.2;rw[Kj,h.1]at h1;have h2:=F4 h1 ST;unfold Jb
 split<;>lia
theorem Kl(b:Bx):kd b<=3:=by
 cases b
 ·exact(show 2<=3 by decide)
 ·exact(show 3<=3 by decide)
 ·exact(show 1<=3 by decide)
 ·exact(show 0<=3 by decide)
theorem Wd(Y:List Nat)(first:Nat)(W N ac tail t:List Nat):Kt (.aR Y first W N ac tail) t=(og Y (W++N++Qm ac) tail (ax first W N) ac.length t).map λu=>(u,ac.length):=rfl
section
variable {P:Program}{w:World}{K:Frag}{mg:Str->Option Value}{M:Heap}{f:Addr}{fd:FuncData}{tk:Nat->Tok}{c kr:Nat->Addr}
def F5:Sp:=λvs H Q _=>∃(t:List Nat)(n:Nat)(b:Bool),vs=[.str (tx t),.int (n:Nat),.bl b]/\t.length<=200/\n<=200/\Q (.str (tx (aX t n b))) H
theorem zU(F:az K "as_text" "as_text" Vv f fd)(O:Own mg):af P w K mg M (ak P w) 1 f fd ["text","size","right"] F5:=by
 refine okN F zB (λvs H Q E h=>?_) (λad A L s H vs Q E hr h=>?_)
 ·obtain⟨t,n,b,rfl,_⟩:=h;rfl
 ·obtain⟨t,n,b,rfl,ht,hn,k⟩:=h;have hz:=zza
  have ce:=Qi t;refine⟨_,(Qb (QL (Q7 (pv 2) (λ_=>rfl)) (Qg (Qr (JF yau slot_str_rjust type_str_rjust ya (QT JT (pv 0) (QV (Qq (Ui Z) Z O.max boot_max (Qa (Qt Zg (Qq QF Z O.len yaK (Qa (pv 0) Qc)) (pv 1)) (Qa Qj Qc)))) Jl) (Qa (pv 1) Qc)))) Qs)
   (Qg (Qr (JF yau slot_str_ljust type_str_ljust v8 (QT JT (pv 0) Jl (QV (pv 1))) (Qa (pv 1) Qc))))),?_⟩
  refine⟨_,Z,b,Z,?_⟩;unfold aX at k;refine aF (λhb=>?_) (λhb=>?_)
  ·rw[yaf hb]at k;refine⟨_,Z,_,Z,tx t,Z,by lia,_,Z,_,_,Z,Z,_,_,Z,_,Z,tx t,Z,by lia,?_⟩;have e:(if(0:Int)>((tx t).length:Int)-((n:Nat):Int)then(0:Int)else((tx t).length:Int)-((n:Nat):Int))=((t.length-n:Nat):Int):=by split<;>lia
   rw[e,JY];refine⟨Z,_,Z,tx (t.drop (t.length-n)),(n:Nat),Z,Z,ZW (by lia) (by lia),?_⟩;rw[Ru,lJ,show n-(t.length-(t.length-n))=n-t.length by lia];exact k
  ·rw[yac (by rw[hb];decide)]at k;refine⟨_,Z,_,Z,_,Z,tx t,Z,by lia,?_⟩;have e:StrLaws.sliceText (tx t) none (some ((n:Nat):Int))=tx (t.take n):=by
    have e2:sliceText (tx t) none (some ((n:Nat):Int))=sliceText (tx t) (some ((0:Nat):Int)) (some ((n:Nat):Int)):=by
     unfold sliceText;rw[sliceIdx_none_lo];rfl
    rw[e2,Xp t (lX _) (lX _)];simp
   rw[e];refine⟨Z,_,Z,tx (t.take n),(n:Nat),Z,Z,ZW (by lia) (by lia),?_⟩;rw[Rv,lI,show n-min n t.length=n-t.length by lia];exact k
def yc(K:Frag):Sp:=λvs H Q _=>∃(l:List Nat)(p:Addr)(u:Int)(o:Nat)(y:Bx),vs=[.str (tx l),.ref p]/\l.length<=500/\l6 K H p u o/\zZ l y/\2<=kd y/\∀H',Qu H H'->Q (.str (tx (AA y u o))) H'
theorem Rx(F:az K "put" "put" vo f fd)(gz:Def P w K mg M 7 "kind_of" ["picture"] (U4 c))(mX:Def P w K mg M 7 "content_of" ["picture","amount"] (wb K c))(mT:Def P w K mg M 7 "edited" ["picture","amount"] (W5 K c)):af P w K mg M (ak P w) 8 f fd ["picture","amount"] (yc K):=by
 refine cO F N8 (λvs H Q E h=>?_) (λad A L s H vs Q E hr h=>?_)
 ·obtain⟨l,p,u,o,y,rfl,_⟩:=h;rfl
 ·obtain⟨l,p,u,o,y,rfl,hl,qMa,B,hk,k⟩:=h;have fr:=Zn (P:=P) (w:=w) (K:=K) (mg:=mg) (M:=M) (N:=["picture","amount"]) (qual:="put") (scope:=Qf vo) (f:=f) (cd:=ad) (A:=A) (L:=L) (s:=s) (H:=H) (E:=E);have hx:=Q4 fr;obtain⟨x,hp,cX⟩:=B.kind;refine⟨_,(Qb (QL (Ql Q3 (gz.pq hr hx (Qa (pv 0) Qc)) Qd (Qo _)) (Qg (Qr (mX.pq hr hx (Qa (pv 0) (Qa (pv 1) Qc))))) Qs)
   (Qg (Qr (mT.pq hr hx (Qa (pv 0) (Qa (pv 1) Qc)))))),?_⟩
  refine⟨_,Z,l,Z,hl,(λz=>by rw[hp]at z;cases z),λy' hy H1 S1=>?_⟩;obtain rfl:=lB (hp.symm.trans hy);refine⟨Z,_,Z,?_⟩;rw[cX];cases y with
  |num s a b=>
   rw[show V.str "number"=V.str (kindS 2)from rfl,ly (show V.str (kindS (kd (.num s a b)))=V.str (kindS 2)from Z)];exact QX ⟨_,Z,_,Z,l,p,u,o,Z,hl,qMa.same S1,.inr ⟨_,B.1,⟨Z,B.2.1,B.2.2⟩,λH2 S2=>k _ (S1.trans S2)⟩⟩
  |aR Y first W N ac tail=>
   rw[show kd (Bx.aR Y first W N ac tail)=3 from rfl,show V.str "number"=V.str (kindS 2)from rfl,JQ 3 (by decide) 2 (by decide),lx (by decide)];exact QQ ⟨_,Z,_,Z,_,p,u,o,Z,hl,qMa.same S1,.inr ⟨Y,first,W,N,ac,tail,B.1,B.2.1,B.2.2,λH2 S2=>k _ (S1.trans S2)⟩⟩
  |aG n=>exact absurd hk (by show ¬ 2<=1;decide)
  |txt n=>exact absurd hk (by show ¬ 2<=0;decide)
def jS(c:Nat->Addr):Sp:=λvs H Q E=>∃(t l:List Nat)(y:Bx),vs=[.str (tx t),.str (tx l)]/\l.length<=500/\t.length<=100/\(∀x∈t,x<128)/\zZ l y/\kd y≠1/\
 (Kt y t=none->∀H',Qu H H'->E (.ref (c 5)) none H')/\(∀u o,Kt y t=some (u,o)->∀q H',Qu H H'->H q=none->H' q=some (.tup [.int u,.int (o:Nat)])->Q (.ref q) H')
theorem V9(F:az K "amount_from" "amount_from" ZK f fd)(O:Own mg)(T:Txt K mg tk c kr)(gz:Def P w K mg M 7 "kind_of" ["picture"] (U4 c))(gM:Def P w K mg M 7 "amount_in" ["picture","content"] (Y4 K c))(mJ:Def P w K mg M 8 "read_edited" ["picture","text"] (k9 K c))(gu:Def P w K mg M 1 "is_figures" ["text"] Vz)(gf:Def P w K mg M 2 "number_of" ["text"] zD):af P w K mg M (ak P w) 9 f fd ["content","picture"] (jS c):=by
 refine cO F Xk (λvs H Q E h=>?_) (λad A L s H vs Q E hr h=>?_)
 ·obtain⟨t,l,y,rfl,_⟩:=h;rfl
 ·obtain⟨t,l,y,rfl,hl,ce,lv,B,hk,kE,kQ⟩:=h;have hz:=zza
  have fr:=Zn (P:=P) (w:=w) (K:=K) (mg:=mg) (M:=M) (N:=["content","picture","kind","figures"]) (qual:="amount_from") (scope:=Qf ZK) (f:=f) (cd:=ad) (A:=A) (L:=L) (s:=s) (H:=H) (E:=E);have hx:=Q4 fr;have ht0:=J5 fr;have ht:=J5 fr;obtain⟨x,hp,cX⟩:=B.kind;refine⟨_,(Qb (Z' 2 Xk.nd (gz.pq hr hx (Qa (pv 1) Qc)))
   (Qb (QL (Ql Q3 (pv 2) Qd (Qo _)) (Qg (Qr (gM.pq hr hx (Qa (pv 1) (Qa (pv 0) Qc))))) Qs)
   (Qb (QL (Ql Q3 (pv 2) Qd (Qo _)) (Qg (Qr (mJ.pq hr hx (Qa (pv 1) (Qa (pv 0) Qc))))) Qs)
   (Qb (Z' 3 Xk.nd (JF yau ybF ybG Z4 (pv 0) (Qa Qd Qc)))
   (Qb (QL (PW.pt (Xa (Kn (WG (gu.pq hr hx (Qa (pv 3) Qc)))) (Zf (Ql KU (Qq QF Z O.len yaK (Qa (pv 3) Qc)) (QD (v:=V.int 18) Z T.gy ⟨_,Z⟩) (Qo _))))) (Qg (Zs ht Z Z T.gU T.mD (Qa Qd Qc))) Qs)
   (Qg (Qr (QG (Qa (gf.pq hr hx (Qa (pv 3) Qc)) (Qa Qj Qc)))))))))),?_⟩
  refine⟨_,Z,l,Z,hl,(λz=>by rw[hp]at z;cases z),λy' hy H1 S1=>?_⟩;obtain rfl:=lB (hp.symm.trans hy);refine⟨_,Z,Z,_,Z,?_⟩;rw[cX];cases y with
  |num s a b=>
   rw[show V.str "number"=V.str (kindS 2)from rfl,ly (show V.str (kindS (kd (.num s a b)))=V.str (kindS 2)from Z)];refine QX ⟨_,Z,_,Z,l,t,Z,hl,by lia,.inr ⟨_,B.1,⟨Z,B.2.1,B.2.2⟩,λz=>?_,λz q H2 S2 hq g=>?_⟩⟩
   ·exact λH2 S2=>kE (by unfold Kt;exact yac z) _ (S1.trans S2)
   ·exact kQ _ _ (by unfold Kt;exact yaf z) q H2 (S1.trans S2) (JX S1 hq) g
  |aR Y first W N ac tail=>
   rw[show kd (Bx.aR Y first W N ac tail)=3 from rfl,show V.str "number"=V.str (kindS 2)from rfl,JQ 3 (by decide) 2 (by decide),lx (by decide)];refine QQ ⟨_,Z,Z,_,Z,?_⟩;rw[show V.str "edited"=V.str (kindS 3)from rfl,ly rfl];refine QX ⟨_,Z,_,Z,_,t,Z,hl,by lia,lv,.inr ⟨Y,first,W,N,ac,tail,B.1,B.2.1,B.2.2,λv hv q H2 S2 hq g=>?_,λz=>?_⟩⟩
   ·exact kQ v ac.length (by rw[Wd,hv];rfl) q H2 (S1.trans S2) (JX S1 hq) g
   ·exact λH2 S2=>kE (by rw[Wd,z];rfl) _ (S1.trans S2)
  |aG n=>exact absurd rfl hk
  |txt n=>
   rw[show kd (Bx.txt n)=0 from rfl,show V.str "number"=V.str (kindS 2)from rfl,JQ 0 (by decide) 2 (by decide),lx (by decide)];refine QQ ⟨_,Z,Z,_,Z,?_⟩;rw[show V.str "edited"=V.str (kindS 3)from rfl,JQ 0 (by decide) 3 (by decide),lx (by decide)];have dc:=wf t;have iF:=Qi t;have Ry:=Qi (sp t);refine QQ ⟨_,Z,Z,tx t," ",Z,Z,by show(tx t).length<=sizeLine;lia,?_⟩;dsimp only;rw[show Txt.stripChars (tx t) " "=tx (sp t)from IZ t];refine⟨_,Z,tx (sp t),Z,by lia,_,Z,?_⟩;rw[Jt]
   by_cases h1:sp t≠[]/\NumText.AllDigits (sp t)
   ·rw[ly h1];refine QQ ⟨_,Z,tx (sp t),Z,by lia,_,_,Z,Z,_,Z,?_⟩
    by_cases h2:(sp t).length<=18
    ·rw[lx (show ¬ ((tx (sp t)).length:Int)>18 by lia)];refine QQ ⟨_,Z,tx (sp t),Z,h1.2,by lia,?_⟩;rw[Jt];refine⟨bw,λq hq=>?_⟩;exact kQ _ 0 (by unfold Kt;exact yaf ⟨h1.1,h1.2,h2⟩) q _ (S1.trans (Qu.new hq)) (JX S1 hq) Qe
    ·rw[ly (show((tx (sp t)).length:Int)>18 by lia)];exact QX ⟨bK,kE (by unfold Kt;exact yac λz=>h2 z.2.2) _ S1⟩
   ·rw[lx h1];exact QX (QX ⟨bK,kE (by unfold Kt;exact yac λz=>h1 ⟨z.1,z.2.1⟩) _ S1⟩)
def VP(c:Nat->Addr):Sp:=λvs H Q E=>∃(t l:List Nat)(s:Bool)(a b:Nat),vs=[.str (tx t),.str (tx l)]/\l.length<=500/\t.length<=100/\zZ l (.num s a b)/\
 (∀k,b9 (.num s a b) t=.er k->∀H',Qu H H'->E (.ref (c k)) none H')/\(∀m,b9 (.num s a b) t=.ok m->∀H',Qu H H'->Q (.str (tx m)) H')
theorem VQ(F:az K "figures_from" "figures_from" Zt f fd)(O:Own mg)(T:Txt K mg tk c kr)(pZ:Def P w K mg M 7 "room" ["picture"] (kI c))(gM:Def P w K mg M 7 "amount_in" ["picture","content"] (Y4 K c))(gx:Def P w K mg M 2 "figures_of" ["number"] UX):af P w K mg M (ak P w) 8 f fd ["content","picture"] (VP c):=by
 refine cO F JC (λvs H Q E h=>?_) (λad A L s H vs Q E hr h=>?_)
 ·obtain⟨t,l,s,a,b,rfl,_⟩:=h;rfl
 ·obtain⟨t,l,sg,a,b,rfl,hl,ce,B,kE,kQ⟩:=h;have hz:=zza
  have fr:=Zn (P:=P) (w:=w) (K:=K) (mg:=mg) (M:=M) (N:=["content","picture","signed","before","behind","units","places"]) (qual:="figures_from") (scope:=Qf Zt) (f:=f) (cd:=ad) (A:=A) (L:=L) (s:=s) (H:=H) (E:=E);have hx:=Q4 fr;have ht:=J5 fr;have ST:a+b<=18:=B.2.2;have h1:1<=a+b:=B.2.1;refine⟨_,(Qb (Jc (pZ.pq hr hx (Qa (pv 1) Qc)) (QY Z (Qh (Y' 2 JC.nd) (Qh (Y' 3 JC.nd) (Qh (Y' 4 JC.nd) QE)))))
   (Qb (QL (Ql KU (pv 4) Qj (Qo _)) (Qg (Zs ht Z Z T.pq T.pS (Qa Qd Qc))) Qs)
   (Qb (Jc (gM.pq hr hx (Qa (pv 1) (Qa (pv 0) Qc))) (QY Z (Qh (Y' 5 JC.nd) (Qh (Y' 6 JC.nd) QE))))
   (Qg (Qr (JF yau ydI ydJ W1 (gx.pq hr hx (Qa (Qq ZH Z O.abs ydE (Qa (pv 5) Qc)) Qc)) (Qa (pv 3) Qc))))))),?_⟩
  refine⟨_,Z,l,_,Z,B.1,hl,(λz=>absurd z (by show ¬ (2:Nat)<=1;decide)),λ_ _ q H1 S1 hq g=>?_⟩;refine⟨q,_,Z,ai.of g,Z,_,_,Z,_,_,Z,_,_,Z,Z,?_⟩;refine⟨_,Z,_,_,Z,Z,_,Z,?_⟩
  by_cases hb:0<b
  ·rw[ly (show((b:Nat):Int)>0 by lia)];exact QX ⟨bK,kE 7 (by unfold b9;exact yaf hb) _ S1⟩
  ·rw[lx (show ¬ ((b:Nat):Int)>0 by lia)];have e0:b9 (.num sg a b) t=match Kt (.num sg a b) t with|none=>Rs.er 5|some (u,_)=>Rs.ok (pad u.natAbs a):=by
    show(if 0<b then _ else _)=_;rw[yac hb]
   refine QQ ⟨_,Z,_,Z,l,t,Z,hl,ce,.inr ⟨_,B.1,⟨Z,B.2.1,B.2.2⟩,λz H2 S2=>?_,λz q2 H2 S2 Ev g2=>?_⟩⟩
   ·refine kE 5 ?_ _ (S1.trans S2);rw[e0];have:Kt (.num sg a b) t=none:=yac z;rw[this]
   ·have e1:b9 (.num sg a b) t=.ok (pad (Jb sg t).natAbs a):=by
     rw[e0];have:Kt (.num sg a b) t=some (Jb sg t,b):=yaf z;rw[this]
    refine⟨q2,_,Z,ai.of g2,Z,_,_,Z,_,_,Z,Z,?_⟩;have bn:(Jb sg t).natAbs<10^18:=wg z B.2.2;refine⟨_,Z,Jb sg t,Z,(Jb sg t).natAbs,by rw[Wz];rfl,bn,λH3 S3=>⟨Z,_,Z,tx (dec (Jb sg t).natAbs),((a:Nat):Int),Z,Z,ZW (by lia) (by lia),?_⟩⟩;rw[VG _ (by lia)];exact kQ _ e1 _ ((S1.trans S2).trans S3)
noncomputable def DK:Nat->List V
 |0=>[.str "number",.str "edited",.str "text",.str "letters"]
 |1=>[.str "text",.str "letters"]
 |_=>[.str "number",.str "edited",.str "text"]
theorem Rz(T:Txt K mg tk c kr):∀k≤3,∃ra,Wm (DJ (kr 7) (kr 8) (kr 9) (kr 10)) (Sum.inr (kindS k):Key)=some (.ref ra)/\∀H,ai K H ra (DK k)
 |0,_=>⟨kr 9,Z,T.r6⟩
 |1,_=>⟨kr 10,Z,T.r8⟩
 |2,_=>⟨kr 7,Z,T.rY⟩
 |3,_=>⟨kr 8,Z,T.rZ⟩
theorem RB:∀k,(DK k).all XF=true
 |0=>rfl
 |1=>rfl
 |_+2=>rfl
theorem WA{Y:List Nat}{first:Nat}{W N ac tail:List Nat}(Ee:Ed Y first W N ac tail):many (W++N++Qm ac)<=12:=by
 obtain⟨h1,h2,Fr⟩:=Ee.small;rw[ZL,Ee.many,Ee.zP,Fr]
 split<;>lia
theorem U5(B:zZ l x)(h:Kt x t=some (u,o)):u.natAbs<10^18/\o<=18:=by
 cases x with
 |num s a b=>
  by_cases z:VH s a b t
  ·have e:some (Jb s t,b)=some (u,o):=by rw[←h];exact(yaf z).symm
   have ST:a+b<=18:=B.2.2;have h3:=wg z ST;cases e;exact⟨h3,by lia⟩
  ·have e:Kt (.num s a b) t=none:=yac z;rw[e]at h;cases h
 |aR Y first W N ac tail=>
  rw[Wd]at h;obtain⟨v,hv,e⟩:=yaS.mp h;cases e;have hm:=WA B.1;have h1:dJ Y (W++N++Qm ac) t<10^18:=by
   refine yad (XQ (VO _ _)) (yat (by decide) ?_);exact yas (W6 _ _) (by lia)
  have hb:=B.1.small;refine⟨?_,by lia⟩;unfold og at hv
  split at hv
  ·cases hv;lia
  ·split at hv
   ·cases hv;lia
   ·cases hv
 |aG n=>cases h
 |txt n=>
  by_cases z:zS (sp t)
  ·have e:some (((NumText.digitsVal (sp t):Nat):Int),0)=some (u,o):=by rw[←h];exact(yaf z).symm
   cases e;have:=XQ z.2.1;have:=F4 this z.2.2;exact⟨by lia,by decide⟩
  ·have e:Kt (.txt n) t=none:=yac z;rw[e]at h;cases h
theorem yd:∀a≤3,∀b≤3,(if true=true then !dF (V.str (kindS b)) (DK a)else dF (V.str (kindS b)) (DK a))= !wE a b:=by decide+kernel
theorem wj:∀a≤3,∀b≤3,wE a b=true->2<=b->a≠1:=by decide
theorem RC(B:zZ l (.num s a b))(h:b9 (.num s a b) t=.ok m)(ht:t.length<=200):m.length<=200:=by
 have h1:1<=a+b:=B.2.1;have ST:a+b<=18:=B.2.2;have e0:b9 (.num s a b) t=if 0<b then Rs.er 7 else match Kt (.num s a b) t with|none=>Rs.er 5|some (u,_)=>Rs.ok (pad u.natAbs a):=rfl
 rw[e0]at h
 split at h
 ·cases h
 ·split at h
  ·cases h
  ·rename_i u o hu;cases h;have hs:=U5 B hu;unfold pad;rw[lq,lN];have:=dec_lt hs.1 (by decide);lia
def ZA(c:Nat->Addr):Sp:=λvs H Q E=>∃(t l l2:List Nat)(b:Bool),vs=[.str (tx t),.str (tx l),.str (tx l2),.bl b]/\l.length<=500/\l2.length<=500/\t.length<=100/\(∀x∈t,x<128)/\
 ((Q2 l=none/\∀H',Qu H H'->E (.ref (c 1)) none H')\/((∃x,Q2 l=some x)/\Q2 l2=none/\∀H',Qu H H'->E (.ref (c 1)) none H')\/
  ∃x y:Bx,zZ l x/\zZ l2 y/\(∀k,bD x y b t=.er k->∀H',Qu H H'->E (.ref (c k)) none H')/\(∀r,bD x y b t=.ok r->∀H',Qu H H'->Q (.str (tx r)) H'))
theorem qX(F:az K "move" "move" jz f fd)(T:Txt K mg tk c kr)(KM:aA P w K (kr 6) (DJ (kr 7) (kr 8) (kr 9) (kr 10)))(gz:Def P w K mg M 7 "kind_of" ["picture"] (U4 c))(pV:Def P w K mg M 8 "put" ["picture","amount"] (yc K))(gK:Def P w K mg M 9 "amount_from" ["content","picture"] (jS c))(gJ:Def P w K mg M 8 "figures_from" ["content","picture"] (VP c))(mU:Def P w K mg M 7 "size_of" ["picture"] kJ)(mV:Def P w K mg M 1 "as_text" ["text","size","right"] F5):
  af P w K mg M (ak P w) 10 f fd ["content","picture","other","right"] (ZA c):=by
 refine cO F Vu (λvs H Q E h=>?_) (λad A L s H vs Q E hr h=>?_)
 ·obtain⟨t,l,l2,b,rfl,_⟩:=h;rfl
 ·obtain⟨t,l,l2,b,rfl,hl,oM,ce,lv,D⟩:=h;have hz:=zza
  have fr:=Zn (P:=P) (w:=w) (K:=K) (mg:=mg) (M:=M) (N:=["content","picture","other","right","source","target","text","moved"]) (qual:="move") (scope:=Qf jz) (f:=f) (cd:=ad) (A:=A) (L:=L) (s:=s) (H:=H) (E:=E);have hx:=Q4 fr;have ht:=J5 fr;refine⟨_,(Qb (Z' 4 Vu.nd (gz.pq hr hx (Qa (pv 1) Qc)))
   (Qb (Z' 5 Vu.nd (gz.pq hr hx (Qa (pv 2) Qc)))
   (Qb (QL (Ql Z3 (pv 5) (K4 KM (QD (v:=V.ref (kr 6)) Z T.nW Z) (pv 4) (λ_ _=>rfl)) (by with_unfolding_all rfl)) (Qg (Zs ht Z Z T.pq T.pS (Qa Qd Qc))) Qs)
   (Qb (QL (PW.pt (Xa (Ql Q3 (pv 5) Qd (Qo _)) (Zf (Ql Q3 (pv 5) Qd (Qo _))))) (Qg (Qr (pV.pq hr hx (Qa (pv 2) (Qa (gK.pq hr hx (Qa (pv 0) (Qa (pv 1) Qc))) Qc))))) Qs)
   (Qb (Z' 6 Vu.nd (QC (Ql Q3 (pv 4) Qd (Qo _)) (gJ.pq hr hx (Qa (pv 0) (Qa (pv 1) Qc))) (pv 0)))
   (Qb (Z' 7 Vu.nd (mV.pq hr hx (Qa (pv 6) (Qa (mU.pq hr hx (Qa (pv 2) Qc)) (Qa (pv 3) Qc)))))
   (Qb (QL (PW.pt (Je (Ql Q3 (pv 5) Qd (Qo _)) (Q6 (Ql ZZ (JF yau ybF ybG Z4 (pv 7) (Qa (QD (v:=V.str "abcdefghijklmnopqrstuvwxyzABCDEFGHIJKLMNOPQRSTUVWXYZ ") Z T.gk ⟨_,Z⟩) Qc)) Qd (Qo _))))) (Qg (Zs ht Z Z T.pj T.pR (Qa Qd Qc))) Qs)
   (Qg (Qr (pv 7)))))))))),?_⟩
  rcases D with⟨hp,k⟩|⟨⟨x,hp⟩,ii,k⟩|⟨x,y,B,B2,kE,kQ⟩
  ·exact⟨_,Z,l,Z,hl,λ_=>k,λy hy=>by rw[hp]at hy;cases hy⟩
  ·refine⟨_,Z,l,Z,hl,(λz=>by rw[hp]at z;cases z),λy hy H1 S1=>?_⟩;exact⟨_,Z,l2,Z,oM,λ_ H2 S2=>k _ (S1.trans S2),λy hy=>by rw[ii]at hy;cases hy⟩
  obtain⟨fx,hp,hk⟩:=B.kind;obtain⟨fy,ii,oh⟩:=B2.kind;refine⟨_,Z,l,Z,hl,(λz=>by rw[hp]at z;cases z),λy' hy H1 S1=>?_⟩;obtain rfl:=lB (hp.symm.trans hy);refine⟨_,Z,l2,Z,oM,(λz=>by rw[ii]at z;cases z),λy2 RD H2 S2=>?_⟩;obtain rfl:=lB (ii.symm.trans RD);rw[hk,oh];obtain⟨ra,Ii,RE⟩:=Rz T (kd x) (Kl x);refine⟨_,Z,_,Z,Sum.inr (kindS (kd x)),_,Z,Z,Ii,ra,_,Z,.inr (RE _),Z,RB _,_,Z,?_⟩;have AC:=S1.trans S2;rw[yd _ (Kl x) _ (Kl y)];cases hg:wE (kd x) (kd y)with
  |false=>
   have em:bD x y b t=.er 7:=yaf hg;exact QX ⟨bK,kE 7 em _ AC⟩
  |true=>
  refine QQ ⟨_,Z,Z,_,Z,?_⟩;have AB:bD x y b t=if 2<=kd y then(match Kt x t with|none=>Rs.er 5|some (u,o)=>Rs.ok (AA y u o))else match b9 x t with
   | .er k=>Rs.er k
   | .ok m=>if kd y=1/\(aX m (sz y) b).all bT=false then Rs.er 6 else Rs.ok (aX m (sz y) b):=by
   unfold bD;exact yac (by rw[hg];decide)
  have iG:t.length<=200:=by lia
  by_cases h2:2<=kd y
  ·have em:bD x y b t=match Kt x t with|none=>Rs.er 5|some (u,o)=>Rs.ok (AA y u o):=by rw[AB,yaf h2]
   have go:∀{RR:VK},(∀r,bD x y b t=.ok r->∀H',Qu H H'->RR (.str (tx r)) H')->Wk (yc K) [] E (Jp (ZB 2) (Jp (Wk (jS c) [] E (Jp (ZB 0) (Jp (ZB 1) WI))) WI)) [some (.str (tx t)),some (.str (tx l)),some (.str (tx l2)),some (.bl b),some (.str (kindS (kd x))),some (.str (kindS (kd y))),none,none] H2 RR:=λRF=>
    ⟨_,Z,_,Z,_,Z,t,l,x,Z,hl,ce,lv,B,wj _ (Kl x) _ (Kl y) hg h2,λz H3 S3=>kE 5 (by rw[em,z]) _ (AC.trans S3),λu o hu q H3 S3 hq g=>by
     have hs:=U5 B hu;exact⟨l2,q,u,o,y,Z,oM,⟨ai.of g,yad hs.1 (by decide),by lia,by have:=hs.2;lia⟩,B2,h2,λH4 S4=>RF _ (by rw[em,hu]) _ ((AC.trans S3).trans S4)⟩⟩
   by_cases e2:kd y=2
   ·rw[e2]at go;rw[e2,show V.str "number"=V.str (kindS 2)from rfl,ly rfl];exact QX (QX (go kQ))
   ·have e3:kd y=3:=by have:=Kl y;lia
    rw[e3]at go;rw[e3,show V.str "number"=V.str (kindS 2)from rfl,JQ 3 (by decide) 2 (by decide),lx (by decide)];refine QQ ⟨_,Z,Z,_,Z,?_⟩;rw[show V.str "edited"=V.str (kindS 3)from rfl,ly rfl];exact QX (go kQ)
  ·have em:bD x y b t=match b9 x t with
    | .er k=>Rs.er k
    | .ok m=>if kd y=1/\(aX m (sz y) b).all bT=false then Rs.er 6 else Rs.ok (aX m (sz y) b):=by rw[AB,yac h2]
   obtain⟨fz,a2,PA,hsz,Cg⟩:=B2.size (by lia);rw[show V.str "number"=V.str (kindS 2)from rfl,JQ _ (Kl y) 2 (by decide),lx (show ¬ kd y=2 by lia)];refine QQ ⟨_,Z,Z,_,Z,?_⟩;rw[show V.str "edited"=V.str (kindS 3)from rfl,JQ _ (Kl y) 3 (by decide),lx (show ¬ kd y=3 by lia)];refine QQ ⟨_,Z,Z,_,Z,?_⟩;rw[JQ _ (Kl x) 2 (by decide)];refine Js (λv H'=>∃m,b9 x t=.ok m/\m.length<=200/\v=.str (tx m)/\Qu H H') (λz rest=>?_) (λz rest=>?_) ?_
   ·have ex:kd x=2:=yap z;cases x with
    |num sg a bb=>
     refine⟨_,Z,_,Z,t,l,sg,a,bb,Z,hl,ce,B,λk hk H3 S3=>?_,λm hm H3 S3=>rest _ _ ⟨m,hm,?_,Z,AC.trans S3⟩⟩
     ·exact kE k (by rw[em,hk]) _ (AC.trans S3)
     ·exact RC B hm iG
    |aR Y first W N ac tail=>cases ex
    |aG n=>cases ex
    |txt n=>cases ex
   ·have ex:kd x≠2:=yav z;refine⟨_,Z,rest _ _ ⟨t,?_,iG,Z,AC⟩⟩;cases x with
    |num sg a bb=>exact absurd rfl ex
    |aR Y first W N ac tail=>rfl
    |aG n=>rfl
    |txt n=>rfl
   rintro v H3 ⟨m,hm,FL,rfl,S3⟩;have F6:bD x y b t=if kd y=1/\(aX m (sz y) b).all bT=false then Rs.er 6 else Rs.ok (aX m (sz y) b):=by rw[em,hm]
   refine⟨_,Z,_,Z,a2,l2,fz,Z,PA,λH4 S4=>⟨_,Z,m,sz y,b,by rw[hsz];rfl,FL,Cg,?_⟩⟩;have Fj:(aX m (sz y) b).length<=400:=by
    unfold aX
    split
    ·rw[lq,lN,lJ];lia
    ·rw[lq,lN,lI];lia
   have RG:=Qi (aX m (sz y) b);have F7:=S3.trans S4;refine⟨_,Z,Z,_,Z,?_⟩;rw[show V.str "letters"=V.str (kindS 1)from rfl,JQ _ (Kl y) 1 (by decide)]
   by_cases h1:kd y=1
   ·rw[ly h1];refine QX ⟨_,Z,Z,tx (aX m (sz y) b),_,Z,Z,by show(tx (aX m (sz y) b)).length<=sizeLine;lia,?_⟩;dsimp only;refine⟨Z,_,Z,?_⟩;rw[Y5];cases hL:(aX m (sz y) b).all bT with
    |false=>exact QX ⟨bK,kE 6 (by rw[F6,yaf ⟨h1,hL⟩]) _ F7⟩
    |true=>exact QQ ⟨_,Z,kQ _ (by rw[F6,yac (λz=>by rw[hL]at z;cases z.2)]) _ F7⟩
   ·rw[lx h1];exact QQ (QQ ⟨_,Z,kQ _ (by rw[F6,yac (λz=>h1 z.1)]) _ F7⟩)
end
open PySem PySem.Spec PyProof.Rows L2 aW
section
variable {P:Program}{w:World}{K:Frag}{mg:Str->Option Value}{M:Heap}{f:Addr}{fd:FuncData}{tk:Nat->Tok}
theorem Y6{ns:List Int}(h:ay K H a (ns.map V.int)):Df K (.ref a) H (!ns.isEmpty):=.inl ⟨_,h,by cases ns<;>rfl⟩
theorem U6(F:az K "_law_draw" "_law_draw" KK f fd)(O:Own mg):af P w K mg M (ak P w) 1 f fd ["_law_script","_law_town","_law_many"] (ZP K):=by
 refine okN F Zz (λvs H Q E h=>?_) (λad A L s H vs Q E hr h=>?_)
 ·obtain⟨a,t,r,ns,c,many,rs,rfl,_⟩:=h;rfl
 ·obtain⟨a,t,r,ns,c,many,rs,rfl,hS,T,nat,bV,hl,hc,cA,sf,k⟩:=h;have hu:=xA hr;have T1:aD (upd H t (.dK [(Sum.inr "count",.int (c+1)),(Sum.inr "rests",.ref r)])) t r (c+1) rs:=⟨Qe,by rw[Qx T.ne.symm];exact T.rt,T.vs,by have:=T.c0;lia,by have:=T.ln;lia,T.ne⟩;have Ci:=hS.upd (o:=.dK [(Sum.inr "count",.int (c+1)),(Sum.inr "rests",.ref r)]) nat;have A1:Apart t r H (upd H t (.dK [(Sum.inr "count",.int (c+1)),(Sum.inr "rests",.ref r)])):=λb o e n1 n2=>by rw[Qx n1];exact e
  refine⟨_,(Qb (xv hu (pv 1) Qd (Qt JA (XN hu (pv 1) Qd (λ_ _=>rfl)) Qj) Z)
   (Qb (Z' 3 Zz.nd (QC (Q7 (pv 0) (λ_=>rfl)) (Qt Vc (XN hu (pv 1) Qd (λ_ _=>rfl)) (Qq QR Z O.len yaK (Qa (pv 0) Qc))) Qj))
   (Qb (Z' 4 Zz.nd (wU hu (XN hu (pv 1) Qd (λ_ _=>rfl)) (pv 3) (QC (Q7 (pv 0) (λ_=>rfl)) (QN Q5 (pv 0) (pv 3) (λ_ _=>rfl)) Qj) ⟨Z,Z,Z,Z⟩))
   (Qb (QL (Ql j9 (pv 4) (Qt yB Qj Qj) (Qo _)) (Qb (xv hu (XN hu (pv 1) Qd (λ_ _=>rfl)) (pv 3) (Qt qh (pv 4) (pv 2)) Z)
   (Qg (Qr (Qt Vc (pv 4) (pv 2))))) Qs)
   (Qb (Z' 5 Zz.nd (Qt Vc (Qt JA (pv 4) (Qt jj Qj (XN hu (pv 1) Qd (λ_ _=>rfl)))) Qj))
   (Qb (Z' 5 Zz.nd (Qt Vc (Qt yB (pv 5) Qj) Qj))
   (Qg (Qr (Qt Vc (Qt qh (Qt Vc (Qt JA (Qt jj (Qt qh (pv 5) Qj) Qj) (pv 5)) Qj) Qj) (pv 2)))))))))),?_⟩
  refine⟨_,Z,t,_,Z,Ka T.tw,_,_,Z,Z,_,Z,t,_,Z,zp _ T.tw,?_⟩;refine⟨_,Z,_,Y6 Ci,?_⟩;refine aF (λhz=>?_) (λhz=>?_)
  ·have hp:0<ns.length:=by cases ns with|nil=>cases hz|cons a r=>exact yeG _
   have F8:(0:Int)<((ns.map V.int).length:Int):=by rw[lu];lia
   refine⟨_,Z,t,_,Z,Ka T1.tw,_,Z,a,_,Z,.inl Ci,_,_,Z,Z,F8,?_⟩;have m1:=ybx (c+1) (ybR F8);have m2:=ybe (c+1) F8;obtain⟨j,hj⟩:=ybt m1;have FE:j<ns.length:=by rw[hj,lu]at m2;lia
   refine⟨_,Z,t,_,Z,Kb T1.tw,r,Z,.inl ⟨rs,.inl T1.rt⟩,_,Z,_,Z,_,Y6 Ci,?_⟩;rw[hz];refine QX ⟨_,Z,_,Z,a,_,_,V.int ns[j],Z,Z,Ci,?_,_,zh.k (k:=Sum.inl ((c+1) % ((ns.map V.int).length:Int))) T1.rt,?_⟩
   ·show cf (ns.map V.int) ((c+1) % ((ns.map V.int).length:Int))=_;rw[hj];refine J2 ?_;rw[lK,yah FE];rfl
   obtain⟨z,hz⟩:=Ux T1.vs ((c+1) % ((ns.map V.int).length:Int)) (ns[j]);rw[hz];refine⟨_,Z,_,_,Z,Z,⟨by decide,by decide,by decide⟩,_,_,Z,Z,_,Z,?_⟩;refine aF (λg=>?_) (λg=>?_)
   ·have P2:=Uy T1.vs ((c+1) % ((ns.map V.int).length:Int)) (z/many);refine⟨_,Z,_,Z,_,_,Z,Z,⟨cA,by lia⟩,_,Z,t,_,Z,Kb T1.tw,_,Z,r,_,Z,yH.k (k:=Sum.inl ((c+1) % ((ns.map V.int).length:Int))) T1.rt (yad (m:=100001) (by have:=T.ln;lia) (by decide)),?_⟩;refine⟨_,Z,_,Z,_,_,Z,Z,cA,?_⟩;refine k _ (putK rs (Sum.inl ((c+1) % ((ns.map V.int).length:Int))) (.int (z/many))) _ (ybx _ (ybR cA)) (ybe _ cA) ⟨?_,Qe,P2.1,T1.c0,?_,T.ne⟩ (A1.trans λb o e n1 n2=>by rw[Qx n2];exact e)
    ·rw[Qx T.ne];exact T1.tw
    ·have:=P2.2;have:=T.ln;lia
   ·refine⟨_,Z,_,Z,t,_,Z,Ka T1.tw,_,_,Z,Z,.inl ⟨by decide,by decide⟩,_,_,Z,Z,_,_,Z,Z,(show(0:Int)<4294967291 by decide),?_⟩;have n1:=ybx (z+104729*(c+1)) (show(4294967291:Int)≠0 by decide);have n2:=ybe (z+104729*(c+1)) (show(0:Int)<4294967291 by decide);refine⟨_,Z,_,_,Z,Z,⟨by decide,by decide,by show Int.natAbs _<2^64;lia⟩,_,_,Z,Z,(show(0:Int)<4294967279 by decide),?_⟩;refine⟨_,Z,_,_,Z,Z,⟨by decide,by decide⟩,_,_,Z,Z,.inr ⟨by decide,by decide⟩,_,Z,_,_,Z,Z,_,_,Z,Z,(show(0:Int)<4294967231 by decide),_,_,Z,Z,⟨by decide,by decide⟩,_,Z,_,_,Z,Z,cA,?_⟩;exact k _ rs _ (ybx _ (ybR cA)) (ybe _ cA) T1 A1
  ·refine⟨_,Z,t,_,Z,Kb T1.tw,r,Z,.inl ⟨rs,.inl T1.rt⟩,_,Z,_,Z,_,Y6 Ci,?_⟩;rw[hz];refine QQ ⟨_,zh.k (k:=Sum.inl (0:Int)) T1.rt,?_⟩;obtain⟨z,hz⟩:=Ux T1.vs ((0:Int)) (0);rw[hz];refine⟨_,Z,_,_,Z,Z,⟨by decide,by decide,by decide⟩,_,_,Z,Z,_,Z,?_⟩;refine aF (λg=>?_) (λg=>?_)
   ·have P2:=Uy T1.vs ((0:Int)) (z/many);refine⟨_,Z,_,Z,_,_,Z,Z,⟨cA,by lia⟩,_,Z,t,_,Z,Kb T1.tw,_,Z,r,_,Z,yH.k (k:=Sum.inl ((0:Int))) T1.rt (yad (m:=100001) (by have:=T.ln;lia) (by decide)),?_⟩;refine⟨_,Z,_,Z,_,_,Z,Z,cA,?_⟩;refine k _ (putK rs (Sum.inl ((0:Int))) (.int (z/many))) _ (ybx _ (ybR cA)) (ybe _ cA) ⟨?_,Qe,P2.1,T1.c0,?_,T.ne⟩ (A1.trans λb o e n1 n2=>by rw[Qx n2];exact e)
    ·rw[Qx T.ne];exact T1.tw
    ·have:=P2.2;have:=T.ln;lia
   ·refine⟨_,Z,_,Z,t,_,Z,Ka T1.tw,_,_,Z,Z,.inl ⟨by decide,by decide⟩,_,_,Z,Z,_,_,Z,Z,(show(0:Int)<4294967291 by decide),?_⟩;have n1:=ybx (z+104729*(c+1)) (show(4294967291:Int)≠0 by decide);have n2:=ybe (z+104729*(c+1)) (show(0:Int)<4294967291 by decide);refine⟨_,Z,_,_,Z,Z,⟨by decide,by decide,by show Int.natAbs _<2^64;lia⟩,_,_,Z,Z,(show(0:Int)<4294967279 by decide),?_⟩;refine⟨_,Z,_,_,Z,Z,⟨by decide,by decide⟩,_,_,Z,Z,.inr ⟨by decide,by decide⟩,_,Z,_,_,Z,Z,_,_,Z,Z,(show(0:Int)<4294967231 by decide),_,_,Z,Z,⟨by decide,by decide⟩,_,Z,_,_,Z,Z,cA,?_⟩;exact k _ rs _ (ybx _ (ybR cA)) (ybe _ cA) T1 A1
theorem Y7(F:az K "_law_begun" "_law_begun" XY f fd):af P w K mg M (ak P w) 1 f fd [] qt:=by
 refine Nw F YH (λvs H Q E h=>?_) (λad A L s H vs Q E hr h=>?_)
 ·obtain⟨rfl,_⟩:=h;rfl
 ·obtain⟨rfl,k⟩:=h;refine⟨_,zo,?_⟩;intro p hp d hd;have Cj:d≠p:=λz=>by rw[z,Qe]at hd;cases hd
  have I0:H d=none:=by rw[Qx Cj]at hd;exact hd
  refine⟨by rw[Qx Cj.symm,Qe],[(Sum.inr "count",.int 0),(Sum.inr "rests",.ref d)],Z,ycf rfl,?_⟩;have e:WJ [] [((Sum.inr "count":Key),V.int 0),((Sum.inr "rests":Key),V.ref d)]=[((Sum.inr "count":Key),V.int 0),((Sum.inr "rests":Key),V.ref d)]:=by
   have h:¬ ((Sum.inr "count":Key)=(Sum.inr "rests":Key)):=xG;unfold WJ putK;simp[h]
  rw[e];refine k p d _ hp I0 ⟨Qe,by rw[Qx Cj,Qe],(λkv hm=>nomatch hm),by decide,by decide,Cj.symm⟩ λb o z=>?_;rw[Qx (Qz z hp),Qx (Qz z I0),Qx (Qz z hp)];exact z
theorem U7{c:Int}{rs:List (Key × V)}(A:Apart t r H H')(T:aD H' t r c rs)(h:H' q=none):H q=none:=by
 cases e:H q with
 |none=>rfl
 |some o=>
  by_cases z1:q=t
  ·rw[z1,T.tw]at h;cases h
  ·by_cases z2:q=r
   ·rw[z2,T.rt]at h;cases h
   ·rw[A q o e z1 z2]at h;cases h
end
structure Kind(K:Frag)(c:Nat->Addr)(i:Nat):Prop where
 lo:1<=i
 hi:i<=14
 er:bB K (c i)
 ki:∀j,j<14->kitOne K (.ref (c i)) (.ref (c (j+1)))=some (decide (j+1=i))
 va:kitOne K (.ref (c i)) (.type "ValueError")=some true
 bo:exmOne K (.ref (c i)) (.ref (c 0))=some true
noncomputable def yY(i:Nat):Str:=(["no picture","no room","no quotient","no text","no figures","no letters","no move","no path","no amount","no group","bad size","no back","bad row","closed"]:List Str).getD (i-1) ""
noncomputable def kinds(i:Nat):List V:=[.bl (decide (0+1=i)),.bl (decide (1+1=i)),.bl (decide (2+1=i)),.bl (decide (3+1=i)),.bl (decide (4+1=i)),.bl (decide (5+1=i)),.bl (decide (6+1=i)),.bl (decide (7+1=i)),.bl (decide (8+1=i)),.bl (decide (9+1=i)),.bl (decide (10+1=i)),.bl (decide (11+1=i)),.bl (decide (12+1=i)),.bl (decide (13+1=i))]
theorem qY:∀i,i<15->1<=i->(kinds i).countP (λz=>bU z (.bl true))=1:=by decide
theorem ye:∀i,i<15->1<=i->(kinds i)[i-1]? =some (.bl true):=by decide
theorem yf:∀i,i<15->1<=i->∀j,j<i-1->(kinds i)[j]? =some (.bl false):=by decide
theorem Yr(i:Nat):(kinds i).all XF=true:=rfl
noncomputable def F9:List V:=[.str "no picture",.str "no room",.str "no quotient",.str "no text",.str "no figures",.str "no letters",.str "no move",.str "no path",.str "no amount",.str "no group",.str "bad size",.str "no back",.str "bad row",.str "closed"]
theorem RH:∀i,i<15->1<=i->F9[i-1]? =some (.str (yY i)):=by decide
def VR(K:Frag)(c:Nat->Addr):Sp:=λvs H Q _=>∃(a:Addr)(i:Nat),vs=[.ref a]/\H a=some (xB a (.ref (c i)))/\Kind K c i/\∀H',Qu H H'->Q (.str (yY i)) H'
section
variable {P:Program}{w:World}{K:Frag}{mg:Str->Option Value}{M:Heap}{f:Addr}{fd:FuncData}{tk:Nat->Tok}{c kr:Nat->Addr}
theorem Y8(F:az K "_law_class" "_law_class" XZ f fd)(O:Own mg)(T:Txt K mg tk c kr):af P w K mg M (ak P w) 1 f fd ["_law_kept"] (VR K c):=by
 refine okN F JM (λvs H Q E h=>?_) (λad A L s H vs Q E hr h=>?_)
 ·obtain⟨a,i,rfl,_⟩:=h;rfl
 ·obtain⟨a,i,rfl,hH,G,k⟩:=h;have aY:∀(H1:Hp)(j:Nat),Qu H H1->j<14->(∃t,bj K H1 (.ref a) t/\kitOne K t (oW (.ref (c (j+1))))=some (decide (j+1=i)))\/∃b C,V.ref a=.ref b/\H1 b=some (xB b (.ref C))/\bB K C/\kitOne K (.ref C) (oW (.ref (c (j+1))))=some (decide (j+1=i)):=
   λH1 j e hj=>.inr ⟨a,c i,Z,e _ _ hH,G.er,G.ki j hj⟩
  refine⟨_,(Qb (Z' 1 JM.nd (JG (Qa (Qq Jy Z O.aY yaJ (Qa (pv 0) (Qa (QD (v:=V.ref (c 1)) Z T.ph Z) Qc))) (Qa (Qq Jy Z O.aY yaJ (Qa (pv 0) (Qa (QD (v:=V.ref (c 2)) Z T.pk Z) Qc))) (Qa (Qq Jy Z O.aY yaJ (Qa (pv 0) (Qa (QD (v:=V.ref (c 3)) Z T.pI Z) Qc))) Qc)))))
   (Qb (Z' 1 JM.nd (Qt Vf (pv 1) (JG (Qa (Qq Jy Z O.aY yaJ (Qa (pv 0) (Qa (QD (v:=V.ref (c 4)) Z T.rS Z) Qc))) (Qa (Qq Jy Z O.aY yaJ (Qa (pv 0) (Qa (QD (v:=V.ref (c 5)) Z T.gU Z) Qc))) (Qa (Qq Jy Z O.aY yaJ (Qa (pv 0) (Qa (QD (v:=V.ref (c 6)) Z T.pj Z) Qc))) Qc))))))
   (Qb (Z' 1 JM.nd (Qt Vf (pv 1) (JG (Qa (Qq Jy Z O.aY yaJ (Qa (pv 0) (Qa (QD (v:=V.ref (c 7)) Z T.pq Z) Qc))) (Qa (Qq Jy Z O.aY yaJ (Qa (pv 0) (Qa (QD (v:=V.ref (c 8)) Z T.rT Z) Qc))) (Qa (Qq Jy Z O.aY yaJ (Qa (pv 0) (Qa (QD (v:=V.ref (c 9)) Z T.pY Z) Qc))) Qc))))))
   (Qb (Z' 1 JM.nd (Qt Vf (pv 1) (JG (Qa (Qq Jy Z O.aY yaJ (Qa (pv 0) (Qa (QD (v:=V.ref (c 10)) Z T.rQ Z) Qc))) (Qa (Qq Jy Z O.aY yaJ (Qa (pv 0) (Qa (QD (v:=V.ref (c 11)) Z T.rR Z) Qc))) (Qa (Qq Jy Z O.aY yaJ (Qa (pv 0) (Qa (QD (v:=V.ref (c 12)) Z T.rV Z) Qc))) Qc))))))
   (Qb (Z' 1 JM.nd (Qt Vf (pv 1) (JG (Qa (Qq Jy Z O.aY yaJ (Qa (pv 0) (Qa (QD (v:=V.ref (c 13)) Z T.rW Z) Qc))) (Qa (Qq Jy Z O.aY yaJ (Qa (pv 0) (Qa (QD (v:=V.ref (c 14)) Z T.rX Z) Qc))) Qc)))))
   (Qb (QL (PW.pt (Xa (Ql ZZ (JF yaV slot_list_count type_list_count wZ (pv 1) (Qa WN Qc)) Qj (Qo _)) (Zf (Kn (WG (Qq Jy Z O.aY yaJ (Qa (pv 0) (Qa (xa (v:=V.ty "ValueError") Z O.val PyProof.Rows.Boot.«ValueError» rfl) Qc)))))))) (Qg (Qr Qd)) Qs)
   (Qb (Z' 2 JM.nd (JG (Qa Qd (Qa Qd (Qa Qd (Qa Qd (Qa Qd (Qa Qd (Qa Qd (Qa Qd Qc))))))))))
   (Qg (Qr (QN Q5 (Qt Vf (pv 2) (JG (Qa Qd (Qa Qd (Qa Qd (Qa Qd (Qa Qd (Qa Qd Qc)))))))) (JF yaV slot_list_index type_list_index w4 (pv 1) (Qa WN Qc)) (λ_ _=>rfl))))))))))),?_⟩
  have e0:=Qu.refl H;refine⟨_,Z,_,_,_,Z,Z,aY _ 0 e0 (by decide),_,Z,_,_,_,Z,Z,aY _ 1 e0 (by decide),_,Z,_,_,_,Z,Z,aY _ 2 e0 (by decide),by show 3<=sizeLine;decide,λp1 h1=>?_⟩;generalize hG:upd H p1 _=H1;have e1:Qu H H1:=by rw[←hG];exact Qu.new h1
  have g1:H1 p1=some (.lst [.bl (decide (0+1=i)),.bl (decide (1+1=i)),.bl (decide (2+1=i))]):=by rw[←hG];exact Qe
  clear hG h1;refine⟨_,Z,_,Z,_,_,_,Z,Z,aY _ 3 e1 (by decide),_,Z,_,_,_,Z,Z,aY _ 4 e1 (by decide),_,Z,_,_,_,Z,Z,aY _ 5 e1 (by decide),by show 3<=sizeLine;decide,λq2 h2=>⟨p1,q2,_,_,Z,Z,by rw[Qx (Qz g1 h2)];exact g1,Qe,by show 6<=sizeLine;decide,λp2 h3=>?_⟩⟩;generalize hG:upd (upd H1 q2 _) p2 _=H2;have e2:Qu H H2:=by rw[←hG];exact(e1.trans (Qu.new h2)).trans (Qu.new h3)
  have g2:H2 p2=some (.lst [.bl (decide (0+1=i)),.bl (decide (1+1=i)),.bl (decide (2+1=i)),.bl (decide (3+1=i)),.bl (decide (4+1=i)),.bl (decide (5+1=i))]):=by rw[←hG];exact Qe
  clear hG h2 h3;refine⟨_,Z,_,Z,_,_,_,Z,Z,aY _ 6 e2 (by decide),_,Z,_,_,_,Z,Z,aY _ 7 e2 (by decide),_,Z,_,_,_,Z,Z,aY _ 8 e2 (by decide),by show 3<=sizeLine;decide,λq3 h2=>⟨p2,q3,_,_,Z,Z,by rw[Qx (Qz g2 h2)];exact g2,Qe,by show 9<=sizeLine;decide,λp3 h3=>?_⟩⟩;generalize hG:upd (upd H2 q3 _) p3 _=H3;have e3:Qu H H3:=by rw[←hG];exact(e2.trans (Qu.new h2)).trans (Qu.new h3)
  have g3:H3 p3=some (.lst [.bl (decide (0+1=i)),.bl (decide (1+1=i)),.bl (decide (2+1=i)),.bl (decide (3+1=i)),.bl (decide (4+1=i)),.bl (decide (5+1=i)),.bl (decide (6+1=i)),.bl (decide (7+1=i)),.bl (decide (8+1=i))]):=by rw[←hG];exact Qe
  clear hG h2 h3;refine⟨_,Z,_,Z,_,_,_,Z,Z,aY _ 9 e3 (by decide),_,Z,_,_,_,Z,Z,aY _ 10 e3 (by decide),_,Z,_,_,_,Z,Z,aY _ 11 e3 (by decide),by show 3<=sizeLine;decide,λq4 h2=>⟨p3,q4,_,_,Z,Z,by rw[Qx (Qz g3 h2)];exact g3,Qe,by show 12<=sizeLine;decide,λp4 h3=>?_⟩⟩;generalize hG:upd (upd H3 q4 _) p4 _=H4;have e4:Qu H H4:=by rw[←hG];exact(e3.trans (Qu.new h2)).trans (Qu.new h3)
  have g4:H4 p4=some (.lst [.bl (decide (0+1=i)),.bl (decide (1+1=i)),.bl (decide (2+1=i)),.bl (decide (3+1=i)),.bl (decide (4+1=i)),.bl (decide (5+1=i)),.bl (decide (6+1=i)),.bl (decide (7+1=i)),.bl (decide (8+1=i)),.bl (decide (9+1=i)),.bl (decide (10+1=i)),.bl (decide (11+1=i))]):=by rw[←hG];exact Qe
  clear hG h2 h3;refine⟨_,Z,_,Z,_,_,_,Z,Z,aY _ 12 e4 (by decide),_,Z,_,_,_,Z,Z,aY _ 13 e4 (by decide),by show 2<=sizeLine;decide,λq5 h2=>⟨p4,q5,_,_,Z,Z,by rw[Qx (Qz g4 h2)];exact g4,Qe,by show 14<=sizeLine;decide,λp5 h3=>?_⟩⟩;generalize hG:upd (upd H4 q5 _) p5 _=H5;have e5:Qu H H5:=by rw[←hG];exact(e4.trans (Qu.new h2)).trans (Qu.new h3)
  have g5:H5 p5=some (.lst [.bl (decide (0+1=i)),.bl (decide (1+1=i)),.bl (decide (2+1=i)),.bl (decide (3+1=i)),.bl (decide (4+1=i)),.bl (decide (5+1=i)),.bl (decide (6+1=i)),.bl (decide (7+1=i)),.bl (decide (8+1=i)),.bl (decide (9+1=i)),.bl (decide (10+1=i)),.bl (decide (11+1=i)),.bl (decide (12+1=i)),.bl (decide (13+1=i))]):=by rw[←hG];exact Qe
  clear hG h2 h3;have hi:i<15:=by have:=G.hi;lia
  have g6:H5 p5=some (.lst (kinds i)):=g5;clear g5;have K':∀H':Hp,H' p5=some (.lst (kinds i))->Dk K "list" (V.ref p5) H':=λH' g=>.inl ⟨Z,_,.inl (.inl g)⟩;refine⟨_,Z,K' _ g6,p5,kinds i,_,Z,Z,g6,Z,Yr i,?_⟩;rw[qY i hi G.lo];refine⟨Z,_,Z,?_⟩;refine aF (λz=>absurd z (by decide)) (λ_=>?_);refine⟨_,Z,_,_,_,Z,Z,.inr ⟨a,c i,Z,e5 _ _ hH,G.er,G.va⟩,_,Z,?_⟩;refine aF (λz=>absurd z (by decide)) (λ_=>?_);refine⟨by show 8<=sizeLine;decide,λp6 h6=>?_⟩;generalize hG:upd H5 p6 _=H6;have e6:Qu H H6:=by rw[←hG];exact e5.trans (Qu.new h6)
  have k6:H6 p5=some (.lst (kinds i)):=by rw[←hG,Qx (Qz g6 h6)];exact g6
  have g7:H6 p6=some (.lst [.str "no picture",.str "no room",.str "no quotient",.str "no text",.str "no figures",.str "no letters",.str "no move",.str "no path"]):=by rw[←hG];exact Qe
  clear hG h6 g6;refine⟨_,Z,by show 6<=sizeLine;decide,λq6 h7=>⟨p6,q6,_,_,Z,Z,by rw[Qx (Qz g7 h7)];exact g7,Qe,by show 14<=sizeLine;decide,λp7 h8=>?_⟩⟩;generalize hG:upd (upd H6 q6 _) p7 _=H7;have e7:Qu H H7:=by rw[←hG];exact(e6.trans (Qu.new h7)).trans (Qu.new h8)
  have k7:H7 p5=some (.lst (kinds i)):=by
   have z:Qu H6 H7:=by rw[←hG];exact(Qu.new h7).trans (Qu.new h8)
   exact z _ _ k6
  have g8:H7 p7=some (.lst F9):=by rw[←hG];exact Qe
  clear hG h7 h8;refine⟨_,Z,K' _ k7,p5,kinds i,_,i-1,Z,Z,k7,Z,Yr i,⟨_,ye i hi G.lo,Z⟩,λj z hj hz=>?_,p7,F9,_,.str (yY i),Z,Z,.inl (.inl g8),J2 (RH i hi G.lo),k _ e7⟩;rw[yf i hi G.lo j hj]at hz;cases hz;rfl
end
def DL(K:Frag)(c:Nat->Addr)(te:XK->TE):L2.St->Hp->VK->Prop:=λσ H1 Q=>∀H0,Qu H1 H0->
 te (λcls _ H2=>∃i,cls=.ref (c i)/\Kind K c i/\∀a p H3,H2 a=none->Qu (upd H2 a (xB a cls)) H3->H3 p=none->Q (.ref p) (upd H3 p (.tup [.str (yY i)]))) σ H0
  (λv H2=>∀p,H2 p=none->Q (.ref p) (upd H2 p (.tup [.str "told",v])))
theorem wl:Passes (ak P w) X E3:=λ_ _ _ _ _ _ _⟨_,_,_,_,_,_,_,_,_,_,_,_,_,_,h⟩=>False.elim h
theorem zV{K:Frag}{M:Heap}{k:Nat}{q:Str}{params:Arguments}{body:Expr}{scope:Scope}{tk:Nat->Tok}{L:List Env}{ad:Value}{N:List Str}{cl:List (Str × Addr)}{pm pr:Value}{s1:Shared}{H1:Hp}{Q:VK}
  (T:Txt K mg tk c kr) (gi:Def P w K mg M 1 "_law_class" ["_law_kept"] (VR K c))
  (LA:bG (Z2 (ak P w) P w K mg M ["_law_deed","_law_kept","_law_found","e"] "_law_heard" (Qf JH) fa ad A L s1 H1 E3) N σ q params body scope f c' cl pm pr)
  (Db:∀x c,cl.lookup x=some c->c<s1.heap.objs.size) (di:ao (k+1) (A.deeper (envOfC "_law_heard" (Qf JH) s1.heap.objs.size fa ad)))
  (sF:∀(f c':Addr)(cl:List (Str × Addr))(A:Around)(L:List Env)(s:Shared)(H:Hp)(E:XK),ao k (A.deeper (envX q scope s.heap.objs.size f (.ref c') cl))->PE (zl P w K mg M N q scope f c' cl A L s H E) body (te E))
  (fk:∀(σ:L2.St)(H:Hp)(Q Q':VK)(E E':XK),(∀cls x H,E cls x H->E' cls x H)->(∀v H,Q v H->Q' v H)->te E σ H Q->te E' σ H Q')
  (GM:H1 c'=some (Kz c' q)) (h:DL K c te σ H1 Q):
  ∃t,aQ (Z2 (ak P w) P w K mg M ["_law_deed","_law_kept","_law_found","e"] "_law_heard" (Qf JH) fa ad A L s1 H1 E3) (QI JH) t/\t {nx:=λ_ H'=>Q .aw H',rt:=Q} (start ["_law_deed","_law_kept","_law_found","e"] [.ref f]) H1:=by
 refine⟨_,(Qb (Jc (QG (Qa Za (Qa Za Qc))) (QY Z (Qh (Y' 1 J0.nd) (Qh (Y' 2 J0.nd) QE))))
   (Qb (MV (i:=3) (tb:=λE=>_) Z Z Z Z Z T.pW J0.nd Z Z (λE pn xe hx=>Qg (Z' 2 J0.nd (M8 (i:=0) (te:=te E) LA.alt Z Z Z (Or.inl Z) di hx Db (λs H SL=>sF f c' cl _ _ s H E SL)))) (λv=>Qg (Z' 1 J0.nd (pv 3))))
   (Qg (Qr (QC (Z0 (Km (pv 1))) (QG (Qa Qd (Qa (pv 2) Qc))) (QG (Qa (gi.pe di (ybX (lX k)) Z wl (Qa (pv 1) Qc)) Qc))))))),?_⟩
 refine⟨by show 2<=sizeLine;decide,λp0 h0=>⟨p0,_,Z,ai.of Qe,Z,_,_,Z,_,_,Z,Z,?_⟩⟩;have S0:=Qu.new (o:=.tup [.aw,.aw]) h0;refine⟨Z,S0 _ _ GM,fk σ _ _ _ _ _ (λcls x H2 hE=>?_) (λv H2 hQ=>?_) (h _ S0)⟩
 ·obtain⟨i,rfl,G,hE⟩:=hE;refine⟨G.bo,λa ha=>⟨_,Z,?_⟩⟩;refine⟨_,Z,_,Z,?_⟩;refine aF (λz=>nomatch (yap z)) (λ_=>?_);exact⟨_,Z,a,i,Z,Qe,G,λH3 e3=>⟨by show 1<=sizeLine;decide,λp hp=>hE a p H3 ha e3 hp⟩⟩
 ·refine⟨_,Z,_,Z,?_⟩;refine aF (λ_=>?_) (λz=>absurd z (by decide));exact⟨_,Z,by show 2<=sizeLine;decide,λp hp=>hQ p hp⟩
section
variable {fd:FuncData}{ca:Addr}{params:Arguments}{body:Expr}{scope:Scope}{ci:Pos}{tk:Nat->Tok}
theorem W7(hK:X.K=K0)(F:az X.K "_law_heard" "_law_heard" JH fa fd)(hm:X.mg "_law_heard"=some (.ref fa))(hb:Binds X.K fd ["_law_deed"] [])(T:Txt X.K X.mg tk c kr)(gi:Def X.prog X.w X.K X.mg X.M 1 "_law_class" ["_law_kept"] (VR X.K c))
  (hr:ao (k+2) X.A) (hg:Gl X "_law_heard")
  (qLa:bY X.mg X.M ca Pa) (Id:X.env.code=.ref ca) (hq:q=X.env.qual++"<lambda>") (ed:defaultsOf params X.env=([],[])) (ia:∀y,X.fn y=true)
  (sk:scope.kind=.function) (E4:scope.isCoroutine=false) (oY:scope.isGenerator=false) (eh:∀y∈scope.names,y.2≠ .local/\y.2≠ .cell) (cQ:xH scope X.env.scope=true)
  (Do:∀cl pm c' pr,bindArgs (kla_fn "<lambda>" q params body scope cl pm (.ref c') pr) ⟨[],[]⟩=pure [])
  (sF:∀(f c':Addr)(cl:List (Str × Addr))(A:Around)(L:List Env)(s:Shared)(H:Hp)(E:XK),ao k (A.deeper (envX q scope s.heap.objs.size f (.ref c') cl))->PE (zl X.prog X.w X.K X.mg X.M X.N q scope f c' cl A L s H E) body (te E))
  (fk:∀(σ:L2.St)(H:Hp)(Q Q':VK)(E E':XK),(∀cls x H,E cls x H->E' cls x H)->(∀v H,Q v H->Q' v H)->te E σ H Q->te E' σ H Q'):
  PE X (.Call (.Name "_law_heard" p) [.Lambda params body scope il] [] ci) (Dw Pa q (λσ f c' H1 Q=>H1 c'=some (Kz c' q)/\DL K0 c te σ H1 Q)):=by
 subst hK;refine zq F J0 hm hg hb hr wl qLa Id hq ed ia sk E4 oY eh (Uz cQ) Do (λad σ f c' cl pm pr s1 H1 Q LA Db di h=>?_);exact zV T gi LA Db di sF fk h.1 h.2
end
open PySem PySem.Spec PyProof.Rows L2 aW aK
noncomputable abbrev tv(l:List Nat):V:=.str (tx l)
theorem qZ{ls:List (List Nat)}{d:Nat}(h:(ls.map tv)[d]? =some x):∃l,l∈ls/\x=.str (tx l):=by
 rw[lK]at h;cases e:ls[d]? with
 |none=>rw[e]at h;cases h
 |some l=>rw[e]at h;exact⟨l,lM e,(lB h).symm⟩
section
variable {P:Program}{w:World}{K:Frag}{mg:Str->Option Value}{M:Heap}{f:Addr}{fd:FuncData}{tk:Nat->Tok}
noncomputable def F':List (List Nat):=[[],[],[44],[66],[48],[47],[66,44]]
theorem RI:([.str "",.str "",.str ",",.str "B",.str "0",.str "/",.str "B,"]:List V)=F'.map tv:=by decide+kernel
noncomputable def Ga:List (List Nat):=[[],[],[],[44],[47]]
theorem RJ:([.str "",.str "",.str "",.str ",",.str "/"]:List V)=Ga.map tv:=by decide+kernel
theorem RK:∀l∈F',(∀x∈l,ins x=true)/\l.length<=2:=by decide
theorem RL:∀l∈Ga,(∀x∈l,ins x=true)/\l.length<=2:=by decide
theorem wm{s:Nat}{e:List Nat}(hs:ins s=false)(he:∀x∈e,ins x=true):e.count s=0:=List.count_eq_zero.mpr λz=>by have:=he s z;rw[hs]at this;cases this
theorem _root_.aK.bH.app(hs:ins s=false)(h:bH s m l)(he:∀x∈e,ins x=true):bH s m (l++e):=by
 refine⟨by rw[ycn,h.hd];rfl,λx hx=>?_,by rw[List.count_append,wm hs he];exact h.cn⟩;rcases yao.mp hx with hx|hx
 ·exact h.all x hx
 ·exact .inr (he x hx)
theorem _root_.aK.bH.snoc(h:bH s m l):bH s (m+1) (l++[s]):=by
 refine⟨by rw[ycn,h.hd];rfl,λx hx=>?_,by rw[List.count_append];have:=h.cn;simp;lia⟩;rcases yao.mp hx with hx|hx
 ·exact h.all x hx
 ·exact .inl (yak.mp hx)
theorem _root_.aK.bH.cons{s m:Nat}{l:List Nat}(h:bH s m l):bH s (m+1) (s::l):=by
 refine⟨Z,λx hx=>?_,by rw[yet];have:=h.cn;lia⟩;rcases yag.mp hx with hx|hx
 ·exact .inl hx
 ·exact h.all x hx
theorem _root_.aK.bH.mono(h:bH s m l)(hm:m<=m'):bH s m' l:=⟨h.hd,h.all,yas h.cn hm⟩
def Gb(K:Frag):Sp:=λvs H Q _=>∃(a t r:Addr)(ns:List Int)(c:Int)(s m:Nat),vs=[.ref a,.ref t,.str (tx [s]),.int (m:Nat)]/\aM K H a t r ns c/\c<90000/\ins s=false/\0<m/\m<=5/\
 ∀(l:List Nat)(c':Int)(H':Hp),bH s m l->l.length<=20->aM K H' a t r ns c'->c'<=c+10->Apart t r H H'->Q (.str (tx l)) H'
theorem Ya(F:az K "_law_places" "_law_places" XD f fd)(O:Own mg)(hJ:Def P w K mg M 1 "_law_draw" ["_law_script","_law_town","_law_many"] (ZP K)):
  af P w K mg M (ak P w) 2 f fd ["_law_script","_law_town","_law_symbol","_law_most"] (Gb K):=by
 refine okN F Zu (λvs H Q E h=>?_) (λad A L s H vs Q E hr h=>?_)
 ·obtain⟨a,t,r,ns,c,s,m,rfl,_⟩:=h;rfl
 ·obtain⟨a,t,r,ns,c,sy,m,rfl,B,hc,hs,cA,hm5,k⟩:=h;have hz:=zza
  refine⟨_,(Qb (Z' 4 Zu.nd (pv 2))
   (Qb (Z1 yaG Z (XJ Z O.range (Qa (hJ.pq hr Qy (Qa (pv 0) (Qa (pv 1) (Qa (pv 3) Qc)))) Qc)) (Y' 5 Zu.nd) (Qg (Z' 4 Zu.nd (Qt Qp (Qt Qp (pv 4) (QN Q5 (JG (Qa Qd (Qa Qd (Qa Qd (Qa Qd (Qa Qd (Qa Qd (Qa Qd Qc)))))))) (hJ.pq hr Qy (Qa (pv 0) (Qa (pv 1) (Qa Qj Qc)))) (λ_ _=>rfl))) (pv 2)))))
   (Qg (Qr (Qt Qp (pv 4) (QN Q5 (JG (Qa Qd (Qa Qd (Qa Qd (Qa Qd (Qa Qd Qc)))))) (hJ.pq hr Qy (Qa (pv 0) (Qa (pv 1) (Qa Qj Qc)))) (λ_ _=>rfl))))))),?_⟩
  refine⟨_,Z,?_⟩;refine B.draw (n:=(m:Int)) rfl rfl (λR h=>⟨_,Z,h⟩) (by lia) (by lia) (by lia) λd H1 hd B1 A1=>?_;refine⟨(d:Int),Z,by lia,by lia,XL (n:=(d:Int).toNat) (λi σ H3=>∃l x c3,σ=[some (.ref a),some (.ref t),some (.str (tx [sy])),some (.int (m:Nat)),some (.str (tx l)),x]/\bH sy (i+1) l/\l.length<=1+3*i/\aM K H3 a t r ns c3/\c3=c+1+i/\Apart t r H H3)
   ⟨[sy],none,_,Z,⟨Z,λx hx=>.inl (yak.mp hx),by simp⟩,by simp,B1,by lia,A1⟩ ?_ ?_⟩
  ·rintro i σ H3 hi ⟨l,x,c3,rfl,hl,SC,B3,rfl,A3⟩;refine⟨_,Z,?_⟩;refine B3.pick (xs:=F'.map tv) rfl rfl (λR h=>by rw[←RI]at h;exact h) (by decide) (by decide) (by decide) (by lia) λd2 x2 H4 gt B4 A4=>?_;obtain⟨e,he,rfl⟩:=qZ gt;obtain⟨Gd,Fx⟩:=RK e he;refine⟨_,_,Z,Z,by rw[Qi,Qi];lia,?_⟩;rw[QM];refine⟨_,Z,_,_,Z,Z,by rw[Qi,Qi,lq,lC];lia,?_⟩;rw[QM];refine⟨l++e++[sy],_,_,Z,(hl.app hs Gd).snoc,by rw[lq,lq,lC];lia,B4,by lia,A3.trans A4⟩
  ·rintro σ H3 ⟨l,x,c3,rfl,hl,SC,B3,rfl,A3⟩;refine⟨_,Z,?_⟩;refine B3.pick (xs:=Ga.map tv) rfl rfl (λR h=>by rw[←RJ]at h;exact h) (by decide) (by decide) (by decide) (by lia) λd2 x2 H4 gt B4 A4=>?_;obtain⟨e,he,rfl⟩:=qZ gt;obtain⟨Gd,Fx⟩:=RL e he;refine⟨_,_,Z,Z,by rw[Qi,Qi];lia,?_⟩;rw[QM];exact k _ _ _ ((hl.app hs Gd).mono (by lia)) (by rw[lq];lia) B4 (by lia) (A3.trans A4)
def VS(K:Frag):Sp:=λvs H Q _=>∃(p:Addr)(Y fi W N ac tail:List Nat),vs=[.ref p]/\ai K H p [tv Y,tv fi,tv (W++N),tv ac,tv tail]/\Y.length+(W.length+N.length)+ac.length+tail.length<=200/\Q (.str (tx (QO Y W N ac tail))) H
theorem U8(F:az K "_law_line" "_law_line" KL f fd):af P w K mg M (ak P w) 1 f fd ["_law_parts"] (VS K):=by
 refine okN F Zd (λvs H Q E h=>?_) (λad A L s H vs Q E hr h=>?_)
 ·obtain⟨p,_,_,_,_,_,_,rfl,_⟩:=h;rfl
 ·obtain⟨p,Y,fi,W,N,ac,tail,rfl,sq,hl,k⟩:=h;have hz:=zza
  refine⟨_,(Qb (Jc (pv 0) (QY Z (Qh (Y' 1 Zd.nd) (Qh (Y' 2 Zd.nd) (Qh (Y' 3 Zd.nd) (Qh (Y' 4 Zd.nd) (Qh (Y' 5 Zd.nd) QE)))))))
   (Qg (Qr (Qt Qp (Qt Qp (Qt Qp (pv 1) (pv 3)) (QC (Ql ZZ (pv 4) Qd (Qo _)) (Qt Qp Qd (pv 4)) Qd)) (pv 5))))),?_⟩
  refine⟨_,Z,p,_,Z,sq,Z,_,_,Z,_,_,Z,_,_,Z,_,_,Z,_,_,Z,Z,?_⟩;refine⟨_,Z,_,Z,_,_,Z,Z,by rw[Qi,Qi,lq];lia,?_⟩;rw[QM];refine⟨_,Z,Z,_,Z,?_⟩;rw[WQ,Xv];refine Js (λx H'=>x=.str (tx (Qm ac))/\H'=H) (λz rest=>?_) (λz rest=>?_) ?_
  ·have hb:ac≠[]:=λq=>by rw[ly q]at z;cases z
   refine⟨_,Z,_,_,Z,Z,?_,?_⟩
   ·rw[vv,Qi,Qi,lC];lia
   ·rw[vv,QM];exact rest _ _ ⟨by unfold Qm;rw[yac hb];rfl,Z⟩
  ·have hb:ac=[]:=by
    by_cases q:ac=[]
    ·exact q
    ·rw[lx q]at z;cases z
   exact rest _ _ ⟨by unfold Qm;rw[yaf hb],Z⟩
  rintro x H' ⟨rfl,rfl⟩;have lm:(Qm ac).length<=ac.length+1:=by unfold Qm;split<;>simp
  refine⟨_,_,Z,Z,by rw[Qi,Qi,lq,lq];lia,?_⟩;rw[QM];refine⟨_,Z,_,_,Z,Z,by rw[Qi,Qi,lq,lq,lq];lia,?_⟩;rw[QM];have e:Y++(W++N)++Qm ac++tail=QO Y W N ac tail:=by unfold QO;simp[lP]
  rw[e];exact k
end
noncomputable def jT:List (List Nat):=[[57],[90],[42],[43],[45],[36],[90],[57]]
theorem yg:([.str "9",.str "Z",.str "*",.str "+",.str "-",.str "$",.str "Z",.str "9"]:List V)=jT.map tv:=by decide+kernel
theorem wn:∀l∈jT,∃y,l=[y]/\y∈([57,90,42,43,45,36]:List Nat):=by
 intro l h;simp only[jT,yag,yay,ybk]at h;rcases h with rfl|rfl|rfl|rfl|rfl|rfl|rfl|rfl<;>exact⟨_,Z,by decide⟩
noncomputable def DM:List (List Nat):=[[],[57],[57,57],[57,57,57]]
theorem RM:([.str "",.str "9",.str "99",.str "999"]:List V)=DM.map tv:=by decide+kernel
theorem RN:∀l∈DM,l=[]\/∃k b,k<3/\l=replicate (k+1) b/\b=57:=by
 intro l h;simp only[DM,yag,yay,ybk]at h;rcases h with rfl|rfl|rfl|rfl
 ·exact .inl rfl
 ·exact .inr ⟨0,57,by decide,Z,Z⟩
 ·exact .inr ⟨1,57,by decide,Z,Z⟩
 ·exact .inr ⟨2,57,by decide,Z,Z⟩
noncomputable def Ge:List (List Nat):=[[],[36]]
theorem RO:([.str "",.str "$"]:List V)=Ge.map tv:=by decide+kernel
noncomputable def DN:List (List Nat):=[[],[43],[45]]
theorem RP:([.str "",.str "+",.str "-"]:List V)=DN.map tv:=by decide+kernel
noncomputable def Gf:List (List Nat):=[[]]
theorem RQ:([.str ""]:List V)=Gf.map tv:=by decide+kernel
noncomputable def Gg:List (List Nat):=[[],[],[43],[45],[67,82],[68,66]]
theorem RS:([.str "",.str "",.str "+",.str "-",.str "CR",.str "DB"]:List V)=Gg.map tv:=by decide+kernel
noncomputable def AD:List (List Nat):=[[43],[45]]
theorem RT:([.str "+",.str "-"]:List V)=AD.map tv:=by decide+kernel
theorem RU:("Z*":Str)=tx [90,42]:=by decide+kernel
theorem RV:("-":Str)=tx [45]:=by decide+kernel
theorem RW(s:Nat)(l:List Nat):PySem.Txt.count (tx l) (tx [s])=(l.count s:Int):=by
 have h:∀l:List Nat,PyProof.Rows.cnt s l=(l.count s:Int):=by
  intro l
  induction l with
  |nil=>rfl
  |cons a r ih=>
   rw[PyProof.Rows.cnt_cons,ih,yej]
   by_cases z:a=s
   ·subst z;simp;lia
   ·rw[yac z];have:(a==s)=false:=by simpa using z
    rw[this];simp
 rw[show(tx [s])=(⟨#[s]⟩:Str)from rfl,PyProof.Rows.count_cnt,h]
theorem q0:∀k:Nat,k<6->decide (V.str (Txt.stripChars (tx (replicate k 57)) "9")=V.str "")=true:=by decide+kernel
section
variable {P:Program}{w:World}{K:Frag}{mg:Str->Option Value}{M:Heap}{f:Addr}{fd:FuncData}{tk:Nat->Tok}
def Ck(K:Frag):Sp:=λvs H Q _=>∃(a t r:Addr)(ns:List Int)(c:Int),vs=[.ref a,.ref t]/\aM K H a t r ns c/\c<80000/\
 ∀(Y:List Nat)(first:Nat)(W N ac tail:List Nat)(q:Addr)(c':Int)(H':Hp),Ed Y first W N ac tail->Y.length+(W.length+N.length)+ac.length+tail.length<=60->H q=none->
  H' q=some (.tup [tv Y,tv [first],tv (W++N),tv ac,tv tail])->aM K H' a t r ns c'->c'<=c+40->Apart t r H H'->Q (.ref q) H'
theorem WB(F:az K "_law_an_edited" "_law_an_edited" ZE f fd)(O:Own mg)(hJ:Def P w K mg M 1 "_law_draw" ["_law_script","_law_town","_law_many"] (ZP K))(gT:Def P w K mg M 2 "_law_places" ["_law_script","_law_town","_law_symbol","_law_most"] (Gb K)):
  af P w K mg M (ak P w) 3 f fd ["_law_script","_law_town"] (Ck K):=by
 refine okN F QH (λvs H Q E h=>?_) (λad A L s H vs Q E hr h=>?_)
 ·obtain⟨a,t,r,ns,c,rfl,_⟩:=h;rfl
 ·obtain⟨a,t,r,ns,c,rfl,B,hc,k⟩:=h;have hz:=zza
  refine⟨_,(Qb (Z' 2 QH.nd (QN Q5 (JG (Qa Qd (Qa Qd (Qa Qd (Qa Qd (Qa Qd (Qa Qd (Qa Qd (Qa Qd Qc))))))))) (hJ.pq hr Qy (Qa (pv 0) (Qa (pv 1) (Qa Qj Qc)))) (λ_ _=>rfl)))
   (Qb (Z' 3 QH.nd (gT.pq hr Qy (Qa (pv 0) (Qa (pv 1) (Qa (pv 2) (Qa Qj Qc))))))
   (Qb (QL (PW.pt (Je (Ql Jf (pv 2) Qd (by with_unfolding_all rfl)) (Q6 (Ql KS (JF yau slot_str_count type_str_count kw (pv 3) (Qa (pv 2) Qc)) Qj (Qo _))))) (Qg (Z' 3 QH.nd (Qt Qp (pv 2) (pv 3)))) Qs)
   (Qb (QL (PW.pt (Je (Ql ZZ (pv 2) Qd (Qo _)) (Q6 (Ql Q3 (hJ.pq hr Qy (Qa (pv 0) (Qa (pv 1) (Qa Qj Qc)))) Qj (Qo _))))) (Qg (Z' 3 QH.nd (Qt Qp (pv 3) (gT.pq hr Qy (Qa (pv 0) (Qa (pv 1) (Qa Qd (Qa Qj Qc)))))))) Qs)
   (Qb (Z' 4 QH.nd (QN Q5 (JG (Qa Qd (Qa Qd (Qa Qd (Qa Qd Qc))))) (hJ.pq hr Qy (Qa (pv 0) (Qa (pv 1) (Qa Qj Qc)))) (λ_ _=>rfl)))
   (Qb (QL (PW.pt (Je (Ql Q3 (hJ.pq hr Qy (Qa (pv 0) (Qa (pv 1) (Qa Qj Qc)))) Qj (Qo _)) (Je (Ql Jf (pv 2) Qd (by with_unfolding_all rfl)) (Q6 (Ql Jg Qd (pv 3) (by with_unfolding_all rfl)))))) (Qg (Z' 4 QH.nd (Qt QB (pv 2) (Qt JA Qj (hJ.pq hr Qy (Qa (pv 0) (Qa (pv 1) (Qa Qj Qc)))))))) Qs)
   (Qb (Z' 5 QH.nd (QC (Ql Jg (pv 2) Qd (by with_unfolding_all rfl)) (JG (Qa Qd (Qa Qd (Qa Qd Qc)))) (JG (Qa Qd Qc))))
   (Qb (Z' 6 QH.nd (Qt Qp (QN Q5 (pv 5) (hJ.pq hr Qy (Qa (pv 0) (Qa (pv 1) (Qa (Qq QR Z O.len yaK (Qa (pv 5) Qc)) Qc)))) (λ_ _=>rfl)) (QC (Ql ZZ (pv 2) Qd (Qo _)) (QN Q5 (JG (Qa Qd (Qa Qd Qc))) (hJ.pq hr Qy (Qa (pv 0) (Qa (pv 1) (Qa Qj Qc)))) (λ_ _=>rfl)) Qd)))
   (Qb (Z' 7 QH.nd Qd)
   (Qb (QL (PW.pt (Je (Ql Jg (pv 2) Qd (by with_unfolding_all rfl)) (Q6 (Ql Z3 (QT JT (pv 6) Jl (QV Qj)) (QG (Qa Qd (Qa Qd Qc))) (by with_unfolding_all rfl))))) (Qg (Z' 7 QH.nd (QN Q5 (JG (Qa Qd (Qa Qd (Qa Qd (Qa Qd (Qa Qd (Qa Qd Qc))))))) (hJ.pq hr Qy (Qa (pv 0) (Qa (pv 1) (Qa Qj Qc)))) (λ_ _=>rfl)))) Qs)
   (Qb (QL (PW.pt (Je (Ql Q3 (pv 2) Qd (Qo _)) (Je (Ql Q3 (JF yau ybF ybG Z4 (pv 3) (Qa Qd Qc)) Qd (Qo _)) (Q6 (Ql Q3 (Qt Qp (Qt Qp (pv 6) (pv 4)) (pv 7)) Qd (Qo _)))))) (Qg (Z' 7 QH.nd Qd)) Qs)
   (Qg (Qr (QG (Qa (pv 6) (Qa (pv 2) (Qa (pv 3) (Qa (pv 4) (Qa (pv 7) Qc))))))))))))))))))),?_⟩
  refine B.pick (xs:=jT.map tv) rfl rfl (λR h=>by rw[←yg]at h;exact h) (by decide) (by decide) (by decide) (by lia) λd1 x1 H1 de B1 A1=>?_;obtain⟨l1,fU,rfl⟩:=qZ de;obtain⟨first,rfl,eY⟩:=wn l1 fU;clear de fU;obtain⟨Ap,RX,RY,RZ,R'⟩:=kj first eY;refine⟨_,Z,_,Z,_,Z,a,t,r,ns,c+1,first,4,Z,B1,by lia,Ap,by decide,by decide,λW0 c2 H2 Cm Gh B2 l5 A2=>?_⟩;have DO:=A1.trans A2;dsimp only[Jz,Wi,Wg];refine JN (λσ' H'=>∃W,σ'=[some (.ref a),some (.ref t),some (tv [first]),some (tv W),none,none,none,none]/\H'=H2/\bH first 5 W/\W.length<=21/\(first∈([43,45,36]:List Nat)->2<=W.count first)) ?_ (λrest=>?_);rotate_left
  ·refine⟨_,Z,_,_,Z,Z,_,Z,?_⟩;rw[vt,Jw]
   by_cases ev:([43,45,36]:List Nat).contains first=true
   ·rw[ev];refine QX ⟨_,Z,Z,_,Z,tx W0,tx [first],Z,Z,trivial,?_⟩;refine⟨_,_,yaI V.int (RW first W0),Z,_,Z,?_⟩
    by_cases h2:W0.count first<2
    ·rw[ly (by lia)];refine QX ⟨_,Z,_,Z,_,_,Z,Z,by rw[Qi,Qi];simp;lia,?_⟩;rw[QM];have h1:1<=W0.count first:=ydF.mpr (yaW Cm.hd);refine rest _ _ ⟨first::W0,Z,Z,Cm.cons,by simp;lia,λ_=>by rw[yet];lia⟩
    ·rw[lx (by lia)];exact QQ (rest _ _ ⟨W0,Z,Z,Cm.mono (by decide),by lia,λ_=>by lia⟩)
   ·have si:([43,45,36]:List Nat).contains first=false:=by simpa using ev
    rw[si];exact QQ (QQ (rest _ _ ⟨W0,Z,Z,Cm.mono (by decide),by lia,λz=>absurd (yai.mpr z) ev⟩))
  rintro σ' H' ⟨W,rfl,rfl,hW,hWl,Sa⟩;clear Cm Gh;refine JN (λσ' H3=>∃N c3,σ'=[some (.ref a),some (.ref t),some (tv [first]),some (tv (W++N)),none,none,none,none]/\aM K H3 a t r ns c3/\c3<=c+25/\Apart t r H H3/\(N=[]\/(first≠57/\bH 57 3 N))/\N.length<=20) ?_ (λrest=>?_);rotate_left
  ·refine⟨_,Z,Z,_,Z,?_⟩;rw[YJ,Jm]
   by_cases h9:first=57
   ·rw[ly h9];exact QQ (QQ (rest _ _ ⟨[],c2,by rw[lS],B2,by lia,DO,.inl rfl,by simp⟩))
   ·rw[lx h9];refine QX ?_;refine B2.draw (n:=2) rfl rfl (λR h=>h) (by decide) (by decide) (by lia) λd3 H3 La B3 A3=>?_;refine⟨Z,_,Z,?_⟩;refine aF (λz=>?_) (λz=>?_)
    ·refine⟨_,Z,_,Z,_,Z,a,t,r,ns,c2+1,57,3,Z,B3,by lia,by decide,by decide,by decide,λN c4 H4 hN Lb B4 Sb A4=>?_⟩;refine⟨_,_,Z,Z,by rw[Qi,Qi];lia,?_⟩;rw[QM];exact rest _ _ ⟨N,c4,Z,B4,by lia,(DO.trans A3).trans A4,.inr ⟨h9,hN⟩,Lb⟩
    ·exact rest _ _ ⟨[],c2+1,by rw[lS],B3,by lia,DO.trans A3,.inl rfl,by simp⟩
  rintro σ' H3 ⟨N,c3,rfl,B3,sG,A3,hN,Lb⟩;clear B1 B2 A1 A2 DO;refine B3.pick (xs:=DM.map tv) rfl rfl (λR h=>by rw[←RM]at h;exact h) (by decide) (by decide) (by decide) (by lia) λd4 x4 H4 Gi B4 A4=>?_;obtain⟨b0,fm,rfl⟩:=qZ Gi;have Cn:=RN b0 fm;have Co:=A3.trans A4;clear Gi fm;dsimp only[Jz,Wi,Wg];refine JN (λσ' H5=>∃ac c5,σ'=[some (.ref a),some (.ref t),some (tv [first]),some (tv (W++N)),some (tv ac),none,none,none]/\aM K H5 a t r ns c5/\c5<=c+28/\Apart t r H H5/\(ac=[]\/∃k b,k<3/\ac=replicate (k+1) b/\(b=57\/(b=first/\(first=90\/first=42)/\N=[])))) ?_ (λrest=>?_);rotate_left
  ·have KQ:∀c5 H5,aM K H5 a t r ns c5->c5<=c+28->Apart t r H H5->_:=λc5 H5 B5 AE A5=>rest _ H5 ⟨b0,c5,Z,B5,AE,A5,Cn.imp id λ⟨k,b,h1,h2,h3⟩=>⟨k,b,h1,h2,.inl h3⟩⟩;refine B4.draw (n:=3) rfl rfl (λR h=>h) (by decide) (by decide) (by lia) λd5 H5 Gj B5 A5=>?_;refine⟨Z,_,Z,?_⟩;refine aF (λz=>?_) (λz=>?_)
   ·refine⟨_,Z,_,_,Z,Z,_,Z,?_⟩;rw[RU,Jw]
    by_cases Gk:([90,42]:List Nat).contains first=true
    ·rw[Gk];refine QX ⟨_,Z,_,_,Z,Z,_,Z,?_⟩;rw[YJ,Jw]
     by_cases Ix:(W++N).contains 57=true
     ·rw[Ix];exact QQ (KQ _ _ B5 (by lia) (Co.trans A5))
     ·have Gm:(W++N).contains 57=false:=by simpa using Ix
      rw[Gm];refine QX ⟨_,Z,?_⟩;refine B5.draw (n:=3) rfl rfl (λR h=>h) (by decide) (by decide) (by lia) λd6 H6 hd6 B6 A6=>?_;have hm:(1:Int)+(d6:Nat)=((d6+1:Nat):Int):=by lia
      refine⟨_,_,Z,Z,?_⟩;dsimp only;rw[hm];refine⟨tx [first],((d6+1:Nat):Int),Z,Z,by lia,by rw[Qi,lZ,lC];lia,by lia,?_⟩;rw[lZ,J7];refine rest _ _ ⟨_,_,Z,B6,by lia,(Co.trans A5).trans A6,.inr ⟨d6,first,by lia,Z,.inr ⟨Z,?_,?_⟩⟩⟩
      ·simpa using Gk
      ·rcases hN with h|⟨_,h⟩
       ·exact h
       ·exact absurd (yai.mpr (lE W (yaW h.hd))) Ix
    ·have Gn:([90,42]:List Nat).contains first=false:=by simpa using Gk
     rw[Gn];exact QQ (QQ (KQ _ _ B5 (by lia) (Co.trans A5)))
   ·exact QQ (KQ _ _ B5 (by lia) (Co.trans A5))
  rintro σ' H5 ⟨ac,c5,rfl,B5,AE,A5,Av⟩;clear B3 B4 A3 A4 Co Cn;have fW:ac.length<=3:=by
   rcases Av with rfl|⟨kk,b,hk,rfl,_⟩
   ·simp
   ·rw[lN];lia
  refine⟨_,Z,_,_,Z,Z,_,Z,?_⟩;rw[Il,Jw];refine Js (λv H'=>∃p sg,v=.ref p/\H' p=some (.lst (sg.map tv))/\Qu H5 H'/\(sg=Gf\/(sg=DN/\first≠43/\first≠45))) (λz rest=>?_) (λz rest=>?_) ?_
  ·refine⟨Ak,λp hp=>rest _ _ ⟨p,DN,Z,by rw[Qe];exact yaI (λx=>some (HO.lst x)) RP,Qu.new hp,.inr ⟨Z,?_⟩⟩⟩;have:([43,45]:List Nat).contains first=false:=by simpa using z
   constructor
   ·intro q;rw[q]at this;cases this
   ·intro q;rw[q]at this;cases this
  ·exact⟨bK,λp hp=>rest _ _ ⟨p,Gf,Z,by rw[Qe];exact yaI (λx=>some (HO.lst x)) RQ,Qu.new hp,.inl rfl⟩⟩
  rintro v H6 ⟨ps,sg,rfl,gs,S6,Au⟩;have B6:=B5.same S6;have A6:=A5.trans (Apart.of S6);have dc:sg.length=1\/sg.length=3:=by
   rcases Au with rfl|⟨rfl,_⟩
   ·exact .inl rfl
   ·exact .inr rfl
  refine⟨_,Z,?_⟩;refine B6.draw (n:=(sg.length:Int)) rfl rfl (λR h=>⟨_,Z,ps,_,Z,.inl (ay.of gs),by rw[lu];exact h⟩) (by lia) (by lia) (by lia) λd7 H7 Sd B7 A7=>?_;obtain⟨x7,Gp⟩:∃x,(sg.map tv)[d7]? =some x:=⟨_,yah (by rw[lu];lia)⟩;have Lc:=B6.keep A7 gs λ_ z=>nomatch z;have Gq:=A6.trans A7;refine⟨ps,_,_,x7,Z,Z,ay.of Lc,J2 Gp,?_⟩;obtain⟨sl,iH,rfl⟩:=qZ Gp;have iI:sl=[]\/((sl=[43]\/sl=[45])/\first≠43/\first≠45):=by
   rcases Au with rfl|⟨rfl,h⟩
   ·exact .inl (yak.mp iH)
   ·simp only[DN,yag,yay,ybk]at iH;rcases iH with h1|h1|h1
    ·exact .inl h1
    ·exact .inr ⟨.inl h1,h⟩
    ·exact .inr ⟨.inr h1,h⟩
  have Gr:sl.length<=1:=by rcases iI with rfl|⟨rfl|rfl,_⟩<;>simp
  refine⟨_,Z,Z,_,Z,?_⟩;rw[Fl,Jm];refine Js (λv H'=>∃dl c8,v=.str (tx dl)/\aM K H' a t r ns c8/\c8<=c+31/\Apart t r H H'/\(dl=[]\/(dl=[36]/\first≠36))) (λz rest=>?_) (λz rest=>?_) ?_
  ·have Gs:first≠36:=λq=>by rw[ly q]at z;cases z
   refine B7.pick (xs:=Ge.map tv) rfl rfl (λR h=>by rw[←RO,Fl]at h;exact h) (by decide) (by decide) (by decide) (by lia) λd8 x8 H8 Se B8 A8=>?_;obtain⟨dl,lm,rfl⟩:=qZ Se;refine rest _ _ ⟨dl,_,Z,B8,by lia,Gq.trans A8,?_⟩;simp only[Ge,yag,yay,ybk]at lm;exact lm.imp id λh=>⟨h,Gs⟩
  ·exact rest _ _ ⟨[],_,by rw[WQ],B7,by lia,Gq,.inl rfl⟩
  rintro v H8 ⟨dl,c8,rfl,B8,hc8,A8,lm⟩;have Sf:dl.length<=1:=by rcases lm with rfl|⟨rfl,_⟩<;>simp
  refine⟨_,_,Z,Z,by rw[Qi,Qi];lia,?_⟩;rw[QM];clear Gp iH Lc gs S6 B5 B6 B7 A5 A6 A7 Gq Sd;generalize Fk:sl++dl=Y;have Cp:Y∈([[],[43],[45],[36],[43,36],[45,36]]:List (List Nat)):=by
   rw[←Fk];rcases iI with rfl|⟨rfl|rfl,_⟩<;>rcases lm with rfl|⟨rfl,_⟩<;>decide
  have fU:first=43\/first=45->Y=[]\/Y=[36]:=λq=>by
   rw[←Fk];rcases iI with rfl|⟨_,h1,h2⟩
   ·exact lm.imp id λh=>h.1
   ·exact absurd q λz=>z.elim h1 h2
  have oM:first=36->Y=[]\/Y=[43]\/Y=[45]:=λq=>by
   rw[←Fk];rcases lm with rfl|⟨_,h⟩
   ·rw[lS];exact iI.imp id λh=>h.1
   ·exact absurd q h
  have SC:Y.length<=2:=by rw[←Fk,lq];lia
  dsimp only[Jz,Wi,Wg];refine JN (λσ' H9=>∃tail c9,σ'=[some (.ref a),some (.ref t),some (tv [first]),some (tv (W++N)),some (tv ac),some (.ref ps),some (tv Y),some (tv tail)]/\aM K H9 a t r ns c9/\c9<=c+32/\Apart t r H H9/\tail∈([[],[43],[45],[67,82],[68,66]]:List (List Nat))/\(tail≠[]->(first≠43/\first≠45)/\(Y=[]\/Y=[36]))) ?_ (λrest=>?_);rotate_left
  ·have oo:∀H9,aM K H9 a t r ns c8->Apart t r H H9->_:=λH9 B9 A9=>rest [some (.ref a),some (.ref t),some (tv [first]),some (tv (W++N)),some (tv ac),some (.ref ps),some (tv Y),some (tv [])] H9 ⟨[],c8,Z,B9,by lia,A9,by decide,λz=>absurd rfl z⟩;refine⟨_,Z,_,_,Z,Z,_,Z,?_⟩;rw[Jw]
   by_cases Gu:([43,45]:List Nat).contains first=true
   ·rw[Gu,WQ];exact QQ (QQ (oo _ B8 A8))
   ·have fq:([43,45]:List Nat).contains first=false:=by simpa using Gu
    have Cq:first≠43/\first≠45:=by
     constructor
     ·intro q;rw[q]at fq;cases fq
     ·intro q;rw[q]at fq;cases fq
    rw[fq];refine QX ⟨_,Z,_,Z,tx Y,Z,by rw[Qi];lia,?_⟩;rw[UN];refine⟨bw,λpt Gv=>?_⟩;have S9:=Qu.new (o:=.tup [.str "+",.str "-"]) Gv;have g9:upd H8 pt (.tup [.str "+",.str "-"]) pt=some (.tup (AD.map tv)):=by rw[Qe];exact yaI (λx=>some (HO.tup x)) RT
    generalize upd H8 pt (.tup [.str "+",.str "-"])=H9 at S9 g9;refine⟨pt,_,Z,.inr (ai.of g9),Z,K9 AD,_,Z,?_⟩;rw[yaf rfl,in_list]
    by_cases No:AD.contains (Y.take 1)=true
    ·rw[No,WQ];exact QQ (oo _ (B8.same S9) (A8.trans (Apart.of S9)))
    ·have Cr:AD.contains (Y.take 1)=false:=by simpa using No
     rw[Cr];refine QX ?_;refine(B8.same S9).pick (xs:=Gg.map tv) rfl rfl (λR h=>by rw[←RS]at h;exact h) (by decide) (by decide) (by decide) (by lia) λd9 x9 LE Sg Si Sj=>?_;obtain⟨tail,ce,rfl⟩:=qZ Sg;have Gw:Y=[]\/Y=[36]:=by
      have h:∀l∈([[],[43],[45],[36],[43,36],[45,36]]:List (List Nat)),AD.contains (l.take 1)=false->l=[]\/l=[36]:=by decide
      exact h Y Cp Cr
     refine rest _ _ ⟨tail,_,Z,Si,by lia,(A8.trans (Apart.of S9)).trans Sj,?_,λ_=>⟨Cq,Gw⟩⟩;have h:∀l∈Gg,l∈([[],[43],[45],[67,82],[68,66]]:List (List Nat)):=by decide
     exact h tail ce
  rintro σ' H9 ⟨tail,c9,rfl,B9,hc9,A9,ce,ix⟩;have sH:tail.length<=2:=by
   have h:∀l∈([[],[43],[45],[67,82],[68,66]]:List (List Nat)),l.length<=2:=by decide
   exact h tail ce
  refine JN (λσ' LE=>∃tail,σ'=[some (.ref a),some (.ref t),some (tv [first]),some (tv (W++N)),some (tv ac),some (.ref ps),some (tv Y),some (tv tail)]/\LE=H9/\tail∈([[],[43],[45],[67,82],[68,66]]:List (List Nat))/\(tail≠[]->(first≠43/\first≠45)/\(Y=[]\/Y=[36]))/\¬ (first=57/\(∀x∈W,x=57)/\Y=[]/\ac=[]/\tail=[])/\tail.length<=2) ?_ (λrest=>?_)
  ·rintro σ' LE ⟨tail,rfl,rfl,ce,ix,Gx,sH⟩;refine⟨_,Z,_,Z,_,Z,_,Z,_,Z,Ig,λq hq=>?_⟩;exact k Y first W N ac tail q c9 _ ⟨hW,hN,eY,Sa,Av,Cp,fU,oM,ce,ix,Gx⟩ (by lia) (B.free B9 A9 hq) Qe (B9.same (Qu.new hq)) (by lia) (A9.trans (Apart.of (Qu.new hq)))
  ·have KQ:¬ (first=57/\(∀x∈W,x=57)/\Y=[]/\ac=[]/\tail=[])->_:=λGx=>rest _ H9 ⟨tail,Z,Z,ce,ix,Gx,sH⟩;refine⟨_,Z,Z,_,Z,?_⟩;rw[YJ,Jm]
   by_cases h9:first=57
   ·rw[ly h9];have Sk:N=[]:=hN.resolve_right λh=>h.1 h9;refine QX ⟨_,Z,Z,tx (W++N),tx [57],Z,Z,by show(tx (W++N)).length<=sizeLine;rw[Qi,lq];lia,Z,_,Z,?_⟩;refine aF (λz=>?_) (λz=>?_)
    ·refine⟨_,Z,_,Z,_,_,Z,Z,by rw[Qi,Qi];lia,?_⟩;rw[QM];refine⟨_,Z,_,_,Z,Z,by rw[Qi,Qi,lq];lia,?_⟩;rw[QM];refine⟨Z,_,Z,?_⟩;rw[WQ,Xv]
     by_cases h0:Y++ac++tail=[]
     ·rw[ly h0];refine QX (rest _ H9 ⟨[45],by rw[RV];rfl,Z,by decide,λ_=>⟨⟨by rw[h9];decide,by rw[h9];decide⟩,.inl ?_⟩,λz=>absurd z.2.2.2.2 (by decide),by decide⟩);have:=yec.mp h0;exact(yec.mp this.1).1
     ·rw[lx h0];exact QQ (KQ λz=>h0 (by rw[z.2.2.1,z.2.2.2.1,z.2.2.2.2];rfl))
    ·refine QQ (KQ λq=>?_);have Gy:W=replicate W.length 57:=yel.mpr ⟨Z,q.2.1⟩;have hlen:W.length<6:=by
      have h5:=hW.cn;rw[h9]at h5;have:W.count 57=W.length:=List.count_eq_length.mpr λb hb=>(q.2.1 b hb).symm;lia
     have:=q0 W.length hlen;rw[←Gy]at this;rw[Sk,lS, ←YJ]at z;rw[this]at z;cases z
   ·rw[lx h9];exact QQ (QQ (KQ λz=>h9 z.1))
end
end Lw
namespace bS
open aW aK PySem.NumText
theorem wo(ho:o<=18)(hp:p<=18):u*10^(18-o)/10^(18-p)=u*10^p/10^o:=by
 have h1:u*10^(18-o)/10^(18-p)=(u*10^(18-o)*10^o)/(10^(18-p)*10^o):=(yeo _ _ (ycz (by decide))).symm;have h2:u*10^p/10^o=(u*10^p*10^(18-p))/(10^o*10^(18-p)):=(yeo _ _ (ycz (by decide))).symm;have e1:u*10^(18-o)*10^o=u*10^18:=by rw[yey, ←Nat.pow_add,show 18-o+o=18 by lia]
 have e2:u*10^p*10^(18-p)=u*10^18:=by rw[yey, ←Nat.pow_add,show p+(18-p)=18 by lia]
 rw[h1,h2,e1,e2,ydB (10^(18-p)) (10^o)]
theorem ja{k:Nat}:aE.aP (k:Int)=((10^k:Nat):Int):=by
 unfold aE.aP;rw[lZ];push_cast;rfl
theorem Sl(u:Int){o p:Nat}(ho:o<=18)(hp:p<=18):aE.zx u o p=if u<0 then-((u.natAbs*10^p/10^o:Nat):Int)else((u.natAbs*10^p/10^o:Nat):Int):=by
 rw[aE.N3 (by lia) (by lia) (by lia) (by lia),aE.UC (aE.J3 _) (aE.J3 _)];have e1:aE.aP (18-(o:Int))=((10^(18-o):Nat):Int):=by
  rw[show(18-(o:Int))=((18-o:Nat):Int) by lia];exact ja
 have e2:aE.aP (18-(p:Int))=((10^(18-p):Nat):Int):=by
  rw[show(18-(p:Int))=((18-p:Nat):Int) by lia];exact ja
 have e3:aE.Kc u=((u.natAbs:Nat):Int):=by unfold aE.Kc;split<;>lia
 have e4:aE.Kc u*aE.aP (18-(o:Int))/aE.aP (18-(p:Int))=((u.natAbs*10^p/10^o:Nat):Int):=by
  rw[e1,e2,e3, ←wo ho hp];push_cast;rfl
 rw[e4]
theorem yZ(u:Int){o a b:Nat}(ho:o<=18)(hb:b<=18):(fit u o a b).natAbs=(u.natAbs*10^b/10^o) % 10^(a+b)/\(fit u o a b<0↔u<0/\(u.natAbs*10^b/10^o) % 10^(a+b)≠0):=by
 have hc:=Sl u ho hb;generalize u.natAbs*10^b/10^o=X at hc;have e:aE.aP ((a:Int)+b)=((10^(a+b):Nat):Int):=by
  rw[show(a:Int)+b=((a+b:Nat):Int) by lia];exact ja
 have ha:aE.Kc (aE.zx u o b)=(X:Int):=by
  rw[hc];unfold aE.Kc
  split<;>split<;>lia
 have hm:(X:Int) % ((10^(a+b):Nat):Int)=((X % 10^(a+b):Nat):Int):=by push_cast;rfl
 unfold fit;rw[ha,e,hm];have bn:X % 10^(a+b)≠0->X≠0:=λh z=>h (by rw[z];exact Nat.zero_mod _);generalize X % 10^(a+b)=qYa at bn;rw[hc]
 by_cases hu:u<0
 ·rw[yaf hu]
  by_cases hX:X=0
  ·have hY:qYa=0:=ydH λz=>bn z hX;subst hX hY;exact⟨by simp,by simp⟩
  ·rw[yaf (by lia)];exact⟨by lia,by lia⟩
 ·rw[yac hu,yac (by lia)];exact⟨by lia,by lia⟩
end bS
namespace Lw
open PySem PySem.Spec PyProof.Rows L2 aW aK bS aZ
open Builtin Builtin.Str StrLaws
theorem W8:∀k:Nat,k<19->PySem.intText? (("1":Str)++VX "0" k)=some (10^k)/\(("1":Str)++VX "0" k).length<=640/\("1":Str).length+(VX "0" k).length<=sizeLine/\("0":Str).length*k<=sizeLine:=by decide+kernel
section
variable {P:Program}{w:World}{K:Frag}{mg:Str->Option Value}{M:Heap}{f:Addr}{fd:FuncData}{tk:Nat->Tok}
def We(K:Frag):Sp:=λvs H Q _=>∃(a t r:Addr)(ns:List Int)(c am sI:Int)(rs:List (Key × V)),vs=[.ref a,.ref t,.int am,.int sI]/\ay K H a (ns.map V.int)/\aD H t r c rs/\a≠t/\a≠r/\ns.length<=63/\c<90000/\0<=am/\am<=9/\0<=sI/\sI<=9/\
 ∀(u o c':Int)(T0:List (Key × V))(H':Hp)(q:Addr),u.natAbs<10^9->0<=o->o<=sI->H q=none->H' q=some (.tup [.int u,.int o])->aD H' t r c' T0->c'<=c+20->Apart t r H H'->Q (.ref q) H'
theorem WC(F:az K "_law_an_amount" "_law_an_amount" ZD f fd)(O:Own mg)(hJ:Def P w K mg M 1 "_law_draw" ["_law_script","_law_town","_law_many"] (ZP K)):
  af P w K mg M (ak P w) 2 f fd ["_law_script","_law_town","_law_figures","_law_far"] (We K):=by
 refine okN F J1 (λvs H Q E h=>?_) (λad A L s H vs Q E hr h=>?_)
 ·obtain⟨a,t,r,ns,c,am,sI,rs,rfl,_⟩:=h;rfl
 ·obtain⟨a,t,r,ns,c,am,sI,rs,rfl,hS,T,nat,bV,hl,hc,Ld,hf1,hg0,hg1,k⟩:=h;refine⟨_,(Qb (Uh (i:=4) (j:=5) Z J1.nd Z Z (by decide) Z Z (Qa Qj (Qa (hJ.pq hr Qy (Qa (pv 0) (Qa (pv 1) (Qa (Qt JA (pv 3) Qj) Qc)))) Qc)) Z)
   (Qb (Z1 yaG Z (XJ Z O.range (Qa (hJ.pq hr Qy (Qa (pv 0) (Qa (pv 1) (Qa (Qt JA (pv 2) Qj) Qc)))) Qc)) (Y' 6 J1.nd) (Qg (Z' 4 J1.nd (Qt JA (Qt jj (pv 4) Qj) (hJ.pq hr Qy (Qa (pv 0) (Qa (pv 1) (Qa Qj Qc))))))))
   (Qg (Qr (QG (Qa (QC (Ql Q3 (hJ.pq hr Qy (Qa (pv 0) (Qa (pv 1) (Qa Qj Qc)))) Qj (Qo _)) (pv 4) (Qt Zg Qj (pv 4))) (Qa (pv 5) Qc))))))),?_⟩
  refine⟨_,Z,_,Z,_,Z,_,_,Z,Z,a,t,r,ns,c,_,rs,Z,hS,T,nat,bV,hl,by lia,by lia,by lia,λo An H1 o0 o1 T1 A1=>⟨_,_,Z,?_⟩⟩;refine⟨_,Z,_,Z,_,Z,_,_,Z,Z,a,t,r,ns,_,_,An,Z,A1.seq hS nat bV,T1,nat,bV,hl,by lia,by lia,by lia,λn eW H2 n0 n1 T2 A2=>?_⟩;refine⟨n,Z,by lia,by lia,XL (n:=n.toNat) (λi σ H3=>∃z x c3 oq,σ=[some (.ref a),some (.ref t),some (.int am),some (.int sI),some (.int z),some (.int o),x]/\0<=z/\z<10^i/\aD H3 t r c3 oq/\c3<=c+2+i/\Apart t r H H3)
   ⟨0,none,_,eW,Z,by decide,by decide,T2,by lia,A1.trans A2⟩ ?_ ?_⟩
  ·rintro i σ H3 hi ⟨z,x,c3,oq,rfl,z0,z1,T3,sG,A3⟩;refine⟨_,Z,_,_,Z,Z,.inr ⟨by decide,by decide⟩,_,Z,_,Z,a,t,r,ns,c3,_,oq,Z,A3.seq hS nat bV,T3,nat,bV,hl,by lia,by decide,by decide,λd Cs H4 d0 d1 T4 A4=>?_⟩;refine⟨_,_,Z,Z,_,_,_,Cs,Z,by lia,?_,T4,by lia,A3.trans A4⟩;rw[Int.pow_succ];lia
  ·rintro σ H3 ⟨z,x,c3,oq,rfl,z0,z1,T3,sG,A3⟩;have zb:z<10^9:=Int.lt_of_lt_of_le z1 (by
    have:n.toNat<=9:=by lia
    have h:=yat (n:=10) (by decide) this
    exact_mod_cast h)
   refine⟨_,Z,_,Z,a,t,r,ns,c3,_,oq,Z,A3.seq hS nat bV,T3,nat,bV,hl,by lia,by decide,by decide,λd Cs H4 d0 d1 T4 A4=>?_⟩;refine⟨Z,_,Z,?_⟩;refine aF (λg=>?_) (λg=>?_)
   ·refine⟨_,Z,_,Z,by show 2<=sizeLine;decide,λq hq=>?_⟩;exact k z o _ Cs _ q (by lia) o0 (by lia) (U7 (A3.trans A4) T4 hq) Qe (T4.same (Qu.new hq)) (by lia) ((A3.trans A4).trans (.of (Qu.new hq)))
   ·refine⟨_,Z,_,_,Z,Z,_,Z,by show 2<=sizeLine;decide,λq hq=>?_⟩;exact k (0-z) o _ Cs _ q (by lia) o0 (by lia) (U7 (A3.trans A4) T4 hq) Qe (T4.same (Qu.new hq)) (by lia) ((A3.trans A4).trans (.of (Qu.new hq)))
end
theorem wq(Good:V->Hp->Prop)(rest:∀v H',Good v H'->Q v H') (h:(∀v H',Good v H'->Q v H')->wI ta tb σ H Q):wI ta tb σ H Q:=h rest
theorem jU(Good:V->Hp->Prop)(rest:∀v H',Good v H'->Q v H') (h:(∀v H',Good v H'->Q v H')->Ec c ta tb σ H Q):Ec c ta tb σ H Q:=h rest
noncomputable def dq(b:Bool):List (Key × V):=[(Sum.inr "+",.str (tx [aJ b 43])),(Sum.inr "-",.str (tx [aJ b 45])),(Sum.inr "$",.str "$"),(Sum.inr "",.str "")]
theorem wt:∀b,WJ [] (dq b)=dq b:=by decide+kernel
theorem wu:∀b,∀c∈([43,45,36]:List Nat),Wm (dq b) (Sum.inr (tx [c]):Key)=some (.str (tx [aJ b c])):=by decide+kernel
theorem Sm:∀b,Wm (dq b) (Sum.inr (tx []):Key)=some (.str (tx [])):=by decide+kernel
noncomputable abbrev sg(l:List Nat):List V:=l.map λc=>.str (tx [c])
noncomputable abbrev NE:List Str:=["_law_parts","_law_amount","_law_lead","_law_first","_law_whole","_law_broken","_law_tail","_law_symbol","_law_places_here","_law_floats","_law_before","_law_behind","_law_units","_law_figures","_law_less","_law_mark","_law_size","_law_ahead","_law_stars","_law_row","_law_left","_law_stop","_law_at","_law_end"]
noncomputable def sv:Option Nat->V
 |none=>.aw
 |some s=>.int (s:Nat)
noncomputable def AF:List (List Nat):=[[67,82],[68,66]]
theorem Sn:([.str "CR",.str "DB"]:List V)=AF.map tv:=by decide+kernel
theorem So:("  ":Str)=tx [32,32]:=by decide+kernel
noncomputable def yh(first:Nat)(row:List Nat)(stop:Nat):List Nat:=if first≠57 then replicate stop (if first=42 then 42 else 32)++row.drop stop else row
noncomputable def ot(first:Nat)(row:List Nat)(stop:Nat)(b:Bool):List Nat:=if ar first=true then(yh first row stop).set (stop-1) (aJ b first)else yh first row stop
theorem yi:∀(b:Bool),∀t∈([[],[43],[45],[67,82],[68,66]]:List (List Nat)),(AF.contains t=true->(if b=true then t else[32,32])=t.map (aJ b))/\(AF.contains t=false->t=[]\/∃c,t=[c]/\c∈([43,45,36]:List Nat)):=by
 intro b t ht;simp only[yag,yay,ybk]at ht;rcases ht with rfl|rfl|rfl|rfl|rfl
 ·exact⟨(λz=>by cases z),λ_=>.inl rfl⟩
 ·exact⟨(λz=>by cases z),λ_=>.inr ⟨_,Z,by decide⟩⟩
 ·exact⟨(λz=>by cases z),λ_=>.inr ⟨_,Z,by decide⟩⟩
 ·exact⟨(λ_=>by cases b<;>rfl),λz=>by cases z⟩
 ·exact⟨(λ_=>by cases b<;>rfl),λz=>by cases z⟩
section
variable {P:Program}{w:World}{K:Frag}{mg:Str->Option Value}{M:Heap}{f:Addr}{fd:FuncData}{tk:Nat->Tok}
theorem Sq(O:Own mg){ad:Value}{L:List Env}(hr:ao 1 (A.deeper (envOfC "_law_edit" (Qf Jn) s.heap.objs.size f ad))):
  ∃u2,aQ (Z2 (ak P w) P w K mg M NE "_law_edit" (Qf Jn) f ad A L s H E).bA ((QI Jn).drop 11) u2/\
   ∀(D:Ends)(H4:Hp)(y0 y1 y4 y7 y8 lw AT rc iJ sJ ou iK:Option V)(Y:List Nat)(first:Nat)(ac tail am row:List Nat)(a b:Nat)(cr:Bool)(d p:Addr)(st:Option Nat),
    H4 d=some (.dK (dq cr))->H4 p=some (.lst (sg row))->row.length<=100->st.getD row.length<=row.length->(ar first=true->1<=st.getD row.length)->Y∈([[],[43],[45],[36],[43,36],[45,36]]:List (List Nat))->tail∈([[],[43],[45],[67,82],[68,66]]:List (List Nat))->am.length=a+b->b=ac.length->a+b<=100->
    (∀H',Qu H4 H'->D.rt (.str (tx (Y.map (aJ cr)++(ot first row (st.getD row.length) cr++(if ac=[]then[]else 46::am.drop a))++tail.map (aJ cr)))) H')->
    u2 D [y0,y1,some (tv Y),some (tv [first]),y4,some (tv ac),some (tv tail),y7,y8,some (.bl (ar first)),some (.int (a:Nat)),some (.int (b:Nat)),lw,some (tv am),some (.bl cr),some (.ref d),AT,rc,iJ,some (.ref p),sJ,some (sv st),ou,iK] H4:=by
 have hz:=zza
 have hu:=xA hr;refine⟨_,(Qb (Z' 21 QA.nd (QC (Z0 (Km (pv 21))) (Qq QR Z O.len yaK (Qa (pv 19) Qc)) (pv 21)))
   (Qb (QL (Ql ZZ (pv 3) Qd (Qo _)) (Qg (Z' 19 QA.nd (Qt Vf (Qt MB (JG (Qa (QC (Ql Q3 (pv 3) Qd (Qo _)) Qd Qd) Qc)) (pv 21)) (QT Yx (pv 19) (QV (pv 21)) Jl)))) Qs)
   (Qb (QL (Q7 (pv 9) (λ_=>rfl)) (Qg (Jc (XN hu (pv 15) (pv 3) (λ_ _=>rfl)) (yA (pv 19) (Qt Zg (pv 21) Qj) set_list))) Qs)
   (Qb (Z' 23 QA.nd (QC (Ql Xo (pv 6) (QG (Qa Qd (Qa Qd Qc))) (by with_unfolding_all rfl)) (QC (Q7 (pv 14) (λ_=>rfl)) (pv 6) Qd) (XN hu (pv 15) (pv 6) (λ_ _=>rfl))))
   (Qg (Qr (Qt Qp (Qt Qp (JF yau ybr ybs Xu Qd (Qa (Qt Vf (UT (NB:=[".0","_law_sign"]) (FR:=["_law_mark"]) (fi:=[15]) Z ⟨Z,by decide+kernel,by decide+kernel,by decide+kernel,by decide+kernel,by decide+kernel⟩ Z Z (Kq (pv 2)) (λ_ _ _=>(Qk (i:=1) (show([".0","_law_sign","_law_mark"]:List Str).Nodup by decide+kernel) Z (Or.inl Z))) (λ_ _ _=>Xt) (λ_ _ _=>(XN hu (pv 2) (pv 1) (λ_ _=>rfl)))) (pv 19)) Qc)) (QC (Ql KU (pv 11) Qj (Qo _)) (Qt Qp Qd (QT JT (pv 13) (QV (pv 10)) Jl)) Qd)) (pv 23)))))))),?_⟩
 intro D H4 y0 y1 y4 y7 y8 lw AT rc iJ sJ ou iK Y first ac tail am row a b cr d p st gd gp i8 ge FM Cp ce ev hb Op k;obtain⟨B0,SC⟩:=Y0 Y Cp;obtain⟨ix,sH⟩:=qW tail ce;dsimp only[Jz,Wi,Wg];refine jU (λv H'=>v=.int ((st.getD row.length:Nat):Int)/\H'=H4) ?_ (λrest=>?_);rotate_left
 ·refine⟨_,Z,_,Z,?_⟩;cases st with
  |none=>exact QX ⟨_,Z,p,_,Z,.inl (ay.of gp),rest _ _ ⟨by rw[lu];rfl,Z⟩⟩
  |some s0=>exact QQ ⟨_,Z,rest _ _ ⟨Z,Z⟩⟩
 rintro v H' ⟨rfl,rfl⟩;generalize st.getD row.length=stop at*
 try dsimp only[Jz,Wi,Wg]
 refine JN (λσ' H5=>∃pn,σ'=[y0,y1,some (tv Y),some (tv [first]),y4,some (tv ac),some (tv tail),y7,y8,some (.bl (ar first)),some (.int (a:Nat)),some (.int (b:Nat)),lw,some (tv am),some (.bl cr),some (.ref d),AT,rc,iJ,some (.ref pn),sJ,some (.int (stop:Nat)),ou,iK]/\Qu H' H5/\H5 pn=some (.lst (sg (yh first row stop)))/\(ar first=true->H' pn=none)) ?_ (λrest=>?_);rotate_left
 ·refine⟨_,Z,Z,_,Z,?_⟩;rw[UZ,Jm]
  by_cases Ix:first=57
  ·rw[ly Ix];exact QQ (rest _ _ ⟨p,Z,Qu.refl _,by unfold yh;rw[yac (λz=>z Ix)];exact gp,λz=>by rw[Ix]at z;cases z⟩)
  ·rw[lx Ix];refine QX ⟨_,Z,Z,_,Z,?_⟩;rw[jP,Jm];refine Js (λv H5=>v=.str (tx [if first=42 then 42 else 32])/\H5=H') (λz rest=>rest _ _ ⟨by rw[yaf (yap z)],Z⟩) (λz rest=>rest _ _ ⟨by rw[X5,yac (yav z)],Z⟩) ?_;rintro v H5 ⟨rfl,rfl⟩;refine⟨bK,λp1 fR=>⟨_,Z,p1,(stop:Int),_,Z,Z,Qe,by lia,by lia,by show 1*(stop:Int).toNat<=sizeLine;rw[lZ];lia,λp2 ii=>?_⟩⟩;have S1:=Qu.new (o:=.lst [.str (tx [if first=42 then 42 else 32])]) fR;have S2:=Qu.new (o:=.lst (replicate (stop:Int).toNat [V.str (tx [if first=42 then 42 else 32])]).flatten) ii;have g2:upd (upd H5 p1 (.lst [.str (tx [if first=42 then 42 else 32])])) p2 (.lst (replicate (stop:Int).toNat [V.str (tx [if first=42 then 42 else 32])]).flatten) p2=some (.lst (sg (replicate stop (if first=42 then 42 else 32)))):=by
    rw[Qe,lZ]
    congr 2
    have:∀n:Nat,(replicate n [V.str (tx [if first=42 then 42 else 32])]).flatten=sg (replicate n (if first=42 then 42 else 32)):=by
     intro n
     induction n with
     |zero=>rfl
     |succ n ih=>rw[yaC,ybv,ih,yaC];rfl
    exact this stop
   have AC:=S1.trans S2;generalize upd (upd H5 p1 (.lst [.str (tx [if first=42 then 42 else 32])])) p2 (.lst (replicate (stop:Int).toNat [V.str (tx [if first=42 then 42 else 32])]).flatten)=H6 at AC g2;refine⟨_,Z,_,Z,_,Z,p,_,Z,ay.of (AC _ _ gp),λp3 Am=>?_⟩;have Gz:zY (sg row) (some (stop:Int)) none=sg (row.drop stop):=by
    unfold zY;rw[HT.Yv,HT.jn,lu,ybb ge,yaq (by rw[lJ,lu];exact lA _)];exact yeA.symm
   rw[Gz];have S3:=Qu.new (o:=.lst (sg (row.drop stop))) Am;refine⟨p2,p3,_,_,Z,Z,S3 _ _ g2,Qe,by rw[lu,lu,lN,lJ];lia,λpn dX=>?_⟩;refine rest _ _ ⟨pn,Z,(AC.trans S3).trans (Qu.new dX),?_,λ_=>?_⟩
   ·rw[Qe];unfold yh;rw[yaf Ix];simp[sg]
   ·exact JX (AC.trans S3) dX
 rintro σ' H5 ⟨pn,rfl,S5,g5,ij⟩;have fW:(yh first row stop).length<=100:=by
  unfold yh
  split
  ·rw[lq,lN,lJ];lia
  ·exact i8
 refine JN (λσ' H6=>σ'=[y0,y1,some (tv Y),some (tv [first]),y4,some (tv ac),some (tv tail),y7,y8,some (.bl (ar first)),some (.int (a:Nat)),some (.int (b:Nat)),lw,some (tv am),some (.bl cr),some (.ref d),AT,rc,iJ,some (.ref pn),sJ,some (.int (stop:Nat)),ou,iK]/\Qu H' H6/\H6 pn=some (.lst (sg (ot first row stop cr)))) ?_ (λrest=>?_);rotate_left
 ·refine⟨_,Z,ar first,Z,?_⟩;refine aF (λzf=>?_) (λzf=>rest _ _ ⟨Z,S5,by unfold ot;rw[yac (by rw[zf];decide)];exact g5⟩);have eY:first∈([43,45,36]:List Nat):=yai.mp zf;have dX:=ij zf;have h1:=FM zf;have hlen:stop<=(yh first row stop).length:=by
   have:¬ (first=57):=λz=>by rw[z]at zf;cases zf
   unfold yh;rw[yaf this,lq,lN];lia
  refine⟨_,Z,_,Z,d,_,Z,.inl ⟨_,Sum.inr (tx [first]),.inl (S5 _ _ gd),Z,(wu cr first eY).symm⟩,_,Z,_,Z,_,_,Z,Z,pn,_,(stop:Int)-1,stop-1,Z,Z,g5,?_,?_⟩
  ·unfold fN;rw[yaf (by lia),yaf (by rw[lu];lia)]
   congr 1
   lia
  ·refine rest _ _ ⟨Z,λx o e=>?_,?_⟩
   ·rw[Qx (Qz e dX)];exact S5 _ _ e
   ·rw[Qe];unfold ot;rw[yaf zf]
    congr 2
    exact List.map_set.symm
 rintro σ' H6 ⟨rfl,S6,g6⟩;have ER:(ot first row stop cr).length<=100:=by unfold ot;split;rw[ycd];exact fW;exact fW
 generalize ot first row stop cr=jN at*;dsimp only[Jz,Wi,Wg];refine jU (λv H7=>v=.str (tx (tail.map (aJ cr)))/\Qu H6 H7) ?_ (λrest=>?_);rotate_left
 ·refine⟨_,Z,bw,λpt Gv=>?_⟩;have S9:=Qu.new (o:=.tup [.str "CR",.str "DB"]) Gv;have g9:upd H6 pt (.tup [.str "CR",.str "DB"]) pt=some (.tup (AF.map tv)):=by rw[Qe];exact yaI (λx=>some (HO.tup x)) Sn
  generalize upd H6 pt (.tup [.str "CR",.str "DB"])=H7 at S9 g9;refine⟨pt,_,Z,.inr (ai.of g9),Z,K9 AF,_,Z,?_⟩;rw[yac (show ¬ (false=true) by decide),in_list];obtain⟨t1,t2⟩:=yi cr tail ce;cases No:AF.contains tail with
  |true=>
   have e:=t1 No;refine QX ⟨_,Z,cr,Z,?_⟩;cases cr with
   |true=>exact QX ⟨_,Z,rest _ _ ⟨by rw[←e];rfl,S9⟩⟩
   |false=>exact QQ (rest _ _ ⟨by rw[So, ←e];rfl,S9⟩)
  |false=>
   refine QQ ⟨_,Z,_,Z,d,?_⟩;rcases t2 No with rfl|⟨c,rfl,hc⟩
   ·exact⟨_,Z,.inl ⟨_,Sum.inr (tx []),.inl (S9 _ _ (S6 _ _ gd)),Z,(Sm cr).symm⟩,rest _ _ ⟨Z,S9⟩⟩
   ·exact⟨_,Z,.inl ⟨_,Sum.inr (tx [c]),.inl (S9 _ _ (S6 _ _ gd)),Z,(wu cr c hc).symm⟩,rest _ _ ⟨Z,S9⟩⟩
 rintro v H7 ⟨rfl,S7⟩;have Le:=S6.trans S7;have bn:=Qi Y;refine⟨Z,?_⟩;have DI:∀x∈Y,x∈([43,45,36]:List Nat):=by
  have:∀l∈([[],[43],[45],[36],[43,36],[45,36]]:List (List Nat)),∀x∈l,x∈([43,45,36]:List Nat):=by decide
  exact this Y Cp
 dsimp only[Jp,WI,ba];refine UY (z:=tx Y) (fv:=[.ref d]) (λm vs H8=>vs=sg ((Y.take m).map (aJ cr))/\H8=H7) (λR h=>⟨_,Z,h⟩) (J8 λx hx=>yU (B0 x hx)) rfl ⟨Z,Z⟩ (λm vs H hm⟨e,_⟩=>?_) ?_ ?_ (by show(tx Y).length<sizeLine;lia)
 ·rw[e,lu,lu,lI];lia
 ·rintro m cc vs H8 hx ⟨rfl,rfl⟩;have f8:Y[m]? =some cc:=by simpa using hx
  have re:Y.take (m+1)=Y.take m++[cc]:=by rw[yaE,f8];rfl
  rw[show(⟨#[cc]⟩:Str)=tx [cc]from rfl];refine⟨Z,?_⟩;dsimp only[ve];exact QX ⟨_,Z,_,Z,d,_,Z,.inl ⟨_,Sum.inr (tx [cc]),.inl (Le _ _ gd),Z,(wu cr cc (DI cc (lM f8))).symm⟩,by rw[re];simp[sg],Z⟩
 rintro vs H8 ⟨rfl,rfl⟩ p1 fR;rw[yaq (show Y.length<=(tx Y).cps.size by simp)];have S8:=Qu.new (o:=.lst (sg (Y.map (aJ cr)))) fR;refine⟨_,Z,p1,pn,_,_,Z,Z,Qe,S8 _ _ (S7 _ _ g6),by rw[lu,lu,lu];lia,λp2 ii=>?_⟩;have S9:=(Le.trans S8).trans (Qu.new (o:=.lst (sg (Y.map (aJ cr))++sg jN)) ii);have Sr:(Y.map (aJ cr)++jN).length<=200:=by rw[lq,lu];lia
 refine⟨"",p2,(Y.map (aJ cr)++jN).map λc=>tx [c],Z,Z,ay.of (by rw[Qe,lT,lO];rfl),XS (by lia),?_⟩;rw[Zw];generalize upd (upd H8 p1 (.lst (sg (Y.map (aJ cr))))) p2 (.lst (sg (Y.map (aJ cr))++sg jN))=H9 at S9;refine⟨_,Z,_,_,Z,Z,_,Z,?_⟩;have GA:=Qi am;have iA:=Qi (am.drop a);rw[lJ]at iA;refine Js (λv H'=>v=.str (tx (if ac=[]then[]else 46::am.drop a))/\H'=H9) (λz rest=>?_) (λz rest=>?_) ?_
 ·have fm:ac≠[]:=λe=>by rw[e]at hb;have:=yap z;simp at hb;lia
  refine⟨_,Z,_,Z,_,Z,tx am,Z,by lia,?_⟩;rw[JY,FK];refine⟨_,_,Z,Z,by rw[Qi,iA,lC];lia,?_⟩;rw[QM];exact rest _ _ ⟨by rw[yac fm];rfl,Z⟩
 ·have fm:ac=[]:=by
   have:=yav z;exact yaH.mp (by lia)
  exact rest _ _ ⟨by rw[yaf fm,WQ],Z⟩
 rintro v LE ⟨rfl,rfl⟩;have FL:(if ac=[]then([]:List Nat)else 46::am.drop a).length<=200:=by split;simp;rw[lD,lJ];lia
 refine⟨_,_,Z,Z,by rw[Qi,Qi];lia,?_⟩;rw[QM];refine⟨_,Z,_,_,Z,Z,by rw[Qi,Qi,lq,lu];lia,?_⟩;rw[QM,lP (Y.map (aJ cr))];exact k _ S9
end
theorem yj(l:List Nat):Ym (tx l)=sg l:=by unfold Ym;simp
theorem fork{b1 b2:Bool}{T qUa C:Prop}(hC:(if b2=true then T else qUa)->C)(h1:b1=true->b2=true->T)(h2:(b1&&b2)=false->qUa):if b1=true then C else(if false=true then T else qUa):=by
 cases b1 with
 |false=>exact QQ (QQ (h2 Z))
 |true=>
  refine QX (hC ?_);cases b2 with
  |false=>exact QQ (h2 Z)
  |true=>exact QX (h1 Z Z)
noncomputable def GB(st x:Option Nat):Option Nat:=match st with
 |some s=>some s
 |none=>x
theorem yk{l fs:List Nat}(h:ins c=false):1<=(ls true true (c::l) fs).getD (c::l).length:=by
 rw[FH h rfl];cases ls true false l fs<;>simp
section
variable {P:Program}{w:World}{K:Frag}{mg:Str->Option Value}{M:Heap}{f:Addr}{fd:FuncData}{tk:Nat->Tok}
theorem Ss(O:Own mg)(OL:mg "list"=none)(OE:mg "enumerate"=none){ad:Value}{L:List Env}(hr:ao 1 (A.deeper (envOfC "_law_edit" (Qf Jn) s.heap.objs.size f ad))):
  ∃u2,aQ (Z2 (ak P w) P w K mg M NE "_law_edit" (Qf Jn) f ad A L s H E).bA ((QI Jn).drop 9) u2/\
   ∀(D:Ends)(H3:Hp)(y0 y1 y7 y8 lw AT rc iJ Lf sJ Lg ou iK:Option V)(Y:List Nat)(first:Nat)(W N ac tail am:List Nat)(a b:Nat)(cr:Bool)(d:Addr),
    H3 d=some (.dK (dq cr))->Ed Y first W N ac tail->(W++N).length<=60->(∀x∈W++N,x<128)->a=ax first W N->b=ac.length->a+b<=11->1<=a->am.length=a+b->(∀x∈am,x<128)->
    (∀H',Qu H3 H'->D.rt (.str (tx (Y.map (aJ cr)++(aZ.jN first (W++N) (am.take a) cr++(if ac=[]then[]else 46::am.drop a))++tail.map (aJ cr)))) H')->
    u2 D [y0,y1,some (tv Y),some (tv [first]),some (tv (W++N)),some (tv ac),some (tv tail),y7,y8,some (.bl (ar first)),some (.int (a:Nat)),some (.int (b:Nat)),lw,some (tv am),some (.bl cr),some (.ref d),AT,rc,iJ,Lf,sJ,Lg,ou,iK] H3:=by
 have hz:=zza
 have hu:=xA hr;obtain⟨u3,sw,h2⟩:=Sq (P:=P) (w:=w) (K:=K) (M:=M) (f:=f) (L:=L) (H:=H) (E:=E) O hr;refine⟨_,(Qb (Nr (i:=19) (j:=20) (k:=21) Z QA.nd Z Z Z (by decide) (by decide) (by decide) Z Z Z (Qa (JG Qc) (Qa (Q9 (call_list_str Z) Z OL boot_list (Qa (QT JT (pv 13) Jl (QV (pv 10))) Qc)) (Qa Za Qc))) Z)
   (Qb (Z1 yaG Z (YU Z OE (Qa (pv 4) Qc)) (QY Z (Qh (Y' 22 QA.nd) (Qh (Y' 7 QA.nd) QE))) (Qg (QL (Ql Jf (pv 7) Qd (by with_unfolding_all rfl)) (Qg (XI (JF yaV yaP yaQ Zv (pv 19) (Qa (QC (Ql Q3 (pv 7) Qd (Qo _)) Qd (pv 7)) Qc)))) (Qg (QL (PW.pt (Je (Q7 (pv 9) (λ_=>rfl)) (Q6 (Ql Q3 (pv 22) Qj (Qo _))))) (Qg (XI (JF yaV yaP yaQ Zv (pv 19) (Qa Qd Qc)))) (Qb (XI (JF yaV yaP yaQ Zv (pv 19) (Qa (JF yaV slot_list_pop type_list_pop wS (pv 20) (Qa Qj Qc)) Qc)))
   (Qg (QL (PW.pt (Je (Z0 (Km (pv 21))) (Q6 (PW.pt (Xa (Ql Q3 (pv 7) Qd (Qo _)) (Zf (Ql ZZ (QN Q5 (pv 19) (Kw ZN Qj) (λ_ _=>rfl)) Qd (Qo _)))))))) (Qg (Z' 21 QA.nd (pv 22))) Qs))))))))
   sw)),?_⟩
 intro D H3 y0 y1 y7 y8 lw AT rc iJ Lf sJ Lg ou iK Y first W N ac tail am a b cr d gd Ee iT FB ha hb Op Lh ev l0 k;obtain⟨BG,iB,Fr⟩:=Ee.small;have GC:=Ee.wh;have BS:=Ee.many;obtain⟨r0,fS⟩:∃r0,W++N=first::r0:=by
  have:=Ee.zL N;cases hh:W++N with
  |nil=>rw[hh]at this;cases this
  |cons x r=>rw[hh]at this;exact⟨r,by rw[lB this]⟩
 have DP:=ZX Ee.f;have DQ:=Qi (W++N);have GA:=Qi am;have re:=Qi (am.take a);have Ct:(am.take a).length=a:=by rw[lI];lia
 refine⟨Aj,λp hp=>?_⟩;refine⟨_,Z,_,Z,_,Z,tx am,Z,by lia,?_⟩;rw[Kd am (by lia)];refine⟨tx (am.take a),Z,J8 λx hx=>l0 x (ybf hx),by show(tx (am.take a)).length<=sizeLine;lia,λr SL=>⟨_,_,_,Z,?_⟩⟩;rw[yj];have S1:=Qu.new (o:=.lst []) hp;have S2:=Qu.new (o:=.lst (sg (am.take a))) SL;have GD:p≠r:=λz=>by rw[←z,Qe]at SL;cases SL
 have gp:upd (upd H3 p (.lst [])) r (.lst (sg (am.take a))) p=some (.lst (sg [])):=by rw[Qx GD,Qe];rfl
 have gr:upd (upd H3 p (.lst [])) r (.lst (sg (am.take a))) r=some (.lst (sg (am.take a))):=Qe;have S3:=S1.trans S2;have Li:H3 r=none:=JX S1 SL;generalize upd (upd H3 p (.lst [])) r (.lst (sg (am.take a)))=H4 at S3 gp gr;have Cj:p≠d:=λz=>by rw[←z,hp]at gd;cases gd
 have nrd:r≠d:=λz=>by rw[←z,Li]at gd;cases gd
 generalize hfs:am.take a=fs at*;refine⟨_,Z,tx (W++N),Z,J8 FB,VL (z:=tx (W++N)) (λi σ H5=>∃x7 DR st done left,σ=[y0,y1,some (tv Y),some (tv [first]),some (tv (W++N)),some (tv ac),some (tv tail),x7,y8,some (.bl (ar first)),some (.int (a:Nat)),some (.int (b:Nat)),lw,some (tv am),some (.bl cr),some (.ref d),AT,rc,iJ,some (.ref p),some (.ref r),some (sv st),DR,iK]/\
   Qu H3 H5/\H5 p=some (.lst (sg done))/\H5 r=some (.lst (sg left))/\done.length=i/\done++lr (ar first) (decide (i=0)) ((W++N).drop i) left=lr (ar first) true (W++N) fs/\GB st ((ls (ar first) (decide (i=0)) ((W++N).drop i) left).map (· +i))=ls (ar first) true (W++N) fs/\left.length+(if(ar first&&decide (i=0))=true then 1 else 0)=aZ.many ((W++N).drop i))
  ⟨y7,ou,none,[],fs,Z,S3,gp,gr,Z,Z,?_,?_⟩ ?_ ?_⟩
 ·show(ls (ar first) true (W++N) fs).map (· +0)=_;cases ls (ar first) true (W++N) fs<;>rfl
 ·show fs.length+_=aZ.many (W++N);rw[BS,Fr,Ct,ha];cases ar first<;>rfl
 ·rintro i cc σ H5 p2 hx ⟨x7,DR,st,done,left,rfl,S5,g5,GF,lm,FS,ge,fX⟩ ii;have f8:(W++N)[i]? =some cc:=by simpa using hx
  have hi:=(yaj.mp f8).1;have dh:(W++N).drop i=cc::(W++N).drop (i+1):=by
   rw[yaM hi]
   congr 1
   exact(yaj.mp f8).2
  rw[dh]at FS ge fX;have cB:decide (i+1=0)=false:=by simp
  have Su:p2≠p:=λz=>by rw[z,g5]at ii;cases ii
  have Sv:p2≠r:=λz=>by rw[z,GF]at ii;cases ii
  have S6:=S5.trans (Qu.new (o:=.tup [.int (i:Nat),.str ⟨#[cc]⟩]) ii);refine⟨p2,_,Z,ai.of Qe,Z,_,_,Z,_,_,Z,Z,?_⟩;have g6:upd H5 p2 (.tup [.int (i:Nat),.str ⟨#[cc]⟩]) p=some (.lst (sg done)):=by rw[Qx Su.symm];exact g5
  have Cu:upd H5 p2 (.tup [.int (i:Nat),.str ⟨#[cc]⟩]) r=some (.lst (sg left)):=by rw[Qx Sv.symm];exact GF
  generalize upd H5 p2 (.tup [.int (i:Nat),.str ⟨#[cc]⟩])=H6 at S6 g6 Cu;rw[show(⟨#[cc]⟩:Str)=tx [cc]from rfl];have put:∀(H7:Hp)(v:Nat),Qu H3 H7->Qu H3 (upd H7 p (.lst (sg (done++[v])))):=λH7 v S x o e=>by
   rw[Qx (Qz e hp)];exact S _ _ e
  have sL:∀(H7:Hp)(v:Nat)(lf:List Nat),H7 r=some (.lst (sg lf))->upd H7 p (.lst (sg (done++[v]))) r=some (.lst (sg lf)):=λH7 v lf e=>by rw[Qx GD.symm];exact e
  have iL:∀v:Nat,sg done++[.str (tx [v])]=sg (done++[v]):=λv=>by simp[sg]
  refine⟨_,Z,_,_,Z,Z,_,Z,?_⟩;rw[yV,Jw];refine aF (λzi=>?_) (λzi=>?_)
  ·have fu:ins cc=true:=zi;rw[VJ fu]at FS;rw[Yo fu]at ge;rw[JE,yac (show ¬ (bz cc=none) by rw[(Wx fu).1];simp),ybd]at fX;refine⟨_,Z,.inl ⟨Z,_,.inl (.inl g6)⟩,_,Z,Z,_,Z,?_⟩;rw[show("B":Str)=tx [66] by decide+kernel,Jm];refine Js (λv H'=>v=.str (tx [yR cc])/\H'=H6) (λz rest=>rest _ _ ⟨by unfold yR;rw[X5,yaf (yap z)],Z⟩) (λz rest=>⟨_,Z,rest _ _ ⟨by unfold yR;rw[yac (yav z)],Z⟩⟩) ?_;rintro v H' ⟨rfl,rfl⟩;refine⟨p,_,_,Z,Z,g6,by rw[lu];lia,?_⟩;rw[iL];have h0:¬ ((ar first&&decide (i=0))=true):=λz=>by
    rw[yaO]at z;have ow:i=0:=yap z.2;rw[ow,List.drop_zero,fS]at dh;have e0:first=cc:=by injection dh
    rw[←e0,DP.2.1]at fu;cases fu
   refine⟨_,_,st,done++[yR cc],left,Z,put _ _ S6,Qe,sL _ _ _ Cu,by rw[lq,lm];rfl,?_,?_,?_⟩
   ·rw[cB,lP];exact FS
   ·rw[cB, ←ge,yev]
    congr 2
    funext x
    show x+(i+1)=x+1+i;lia
   ·rw[cB,ybh];rw[yac h0]at fX;exact fX
  ·have fu:ins cc=false:=zi;have mo:se cc:=by
    rcases GC cc (lM f8)with h|h
    ·exact h
    ·rw[fu]at h;cases h
   have Cv:=ZX mo;rw[JE,yaf Cv.1]at fX;refine⟨_,Z,ar first,Z,fork (λh=>⟨_,Z,Z,_,Z,h⟩) (λzf z0=>?_) (λh0=>?_)⟩
   ·rw[Xb]at z0;have ow:i=0:=by have:=yap z0;lia
    subst ow;have h0:(ar first&&decide ((0:Nat)=0))=true:=by rw[zf];rfl
    rw[Iv fu h0]at FS;rw[FH fu h0]at ge;rw[yaf h0]at fX;rw[X5];refine⟨_,Z,.inl ⟨Z,_,.inl (.inl g6)⟩,p,_,_,Z,Z,g6,by rw[lu];lia,?_⟩;rw[iL];refine⟨_,_,st,done++[32],left,Z,put _ _ S6,Qe,sL _ _ _ Cu,by rw[lq,lm];rfl,?_,?_,?_⟩
    ·rw[cB,lP];exact FS
    ·rw[cB, ←ge,yev]
     congr 2
    ·rw[cB,ybh];show left.length+0=_;lia
   ·have h0:(ar first&&decide (i=0))=false:=by
     have e:decide (V.int (i:Nat)=V.int 0)=decide (i=0):=by
      rw[Xb]
      by_cases q:i=0
      ·rw[ly q,ly (by lia)]
      ·rw[lx q,lx (by lia)]
     rw[←e];exact h0
    rw[qQ fu h0]at FS;rw[qR fu h0]at ge;rw[h0]at fX;obtain⟨g,lf,rfl⟩:∃g lf,left=g::lf:=by
     cases left with
     |nil=>simp at fX;lia
     |cons g lf=>exact⟨g,lf,Z⟩
    have Fe:seqIndex? 0 (sg (g::lf)).length=some 0:=by
     unfold seqIndex?;simp
    refine⟨_,Z,.inl ⟨Z,_,.inl (.inl g6)⟩,_,Z,.inl ⟨Z,_,.inl (.inl Cu)⟩,r,_,0,0,.str (tx [g]),Z,Z,Cu,by decide,by decide,Fe,Z,p,_,_,Z,Z,by rw[Qx GD];exact g6,by rw[lu];lia,?_⟩;rw[iL];have er:(sg (g::lf)).eraseIdx 0=sg lf:=rfl;rw[er];have S7:Qu H3 (upd H6 r (.lst (sg lf))):=λx o e=>by
     rw[Qx (Qz e Li)];exact S6 _ _ e
    have S8:=put _ g S7;have g8:upd (upd H6 r (.lst (sg lf))) p (.lst (sg (done++[g]))) p=some (.lst (sg (done++[g]))):=Qe;have Cw:=sL (upd H6 r (.lst (sg lf))) g lf Qe;generalize upd (upd H6 r (.lst (sg lf))) p (.lst (sg (done++[g])))=H8 at S8 g8 Cw;have cY:done++[g]++lr (ar first) false ((W++N).drop (i+1)) lf=lr (ar first) true (W++N) fs:=by rw[lP];exact FS
    have iM:lf.length+0=aZ.many ((W++N).drop (i+1)):=by
     have:(g::lf).length+0=1+aZ.many ((W++N).drop (i+1)):=fX;rw[lD]at this;lia
    have hd2:(done++[g]).length=i+1:=by rw[lq,lm];rfl
    have ge:GB st ((if cc=57\/g≠48 then some 0 else(ls (ar first) false ((W++N).drop (i+1)) lf).map (· +1)).map (· +i))=ls (ar first) true (W++N) fs:=ge;have mm:((ls (ar first) false ((W++N).drop (i+1)) lf).map (· +1)).map (· +i)=(ls (ar first) false ((W++N).drop (i+1)) lf).map (· +(i+1)):=by
     rw[yev]
     congr 1
     funext x
     show x+1+i=x+(i+1);lia
    refine⟨_,Z,_,Z,?_⟩;cases st with
    |some s0=>
     refine QQ (QQ ⟨_,_,some s0,done++[g],lf,Z,S8,g8,Cw,hd2,by rw[cB];exact cY,by rw[←ge];rfl,by rw[cB,ybh];exact iM⟩)
    |none=>
     have yes:(cc=57\/g≠48)->ls (ar first) true (W++N) fs=some i:=λh=>by
      rw[←ge,yaf h];show some (0+i)=_;rw[ybd]
     have no:¬ (cc=57\/g≠48)->GB none ((ls (ar first) false ((W++N).drop (i+1)) lf).map (· +(i+1)))=ls (ar first) true (W++N) fs:=λh=>by
      rw[←ge,yac h,mm]
     refine QX ⟨_,Z,Z,_,Z,?_⟩;rw[UZ,Jm]
     by_cases h9:cc=57
     ·rw[ly h9];refine QX (QX ⟨_,Z,_,_,some i,done++[g],lf,Z,S8,g8,Cw,hd2,by rw[cB];exact cY,by rw[yes (.inl h9)];rfl,by rw[cB,ybh];exact iM⟩)
     ·rw[lx h9];refine QQ ⟨_,Z,_,Z,p,_,_,.str (tx [g]),Z,Z,ay.of g8,by rw[←iL];exact X8 _ _,Z,_,Z,?_⟩;rw[Wa,Jm]
      by_cases iz:g=48
      ·rw[ly iz];exact QQ ⟨_,_,none,done++[g],lf,Z,S8,g8,Cw,hd2,by rw[cB];exact cY,by rw[cB];exact no (λz=>z.elim h9 (λq=>q iz)),by rw[cB,ybh];exact iM⟩
      ·rw[lx iz];exact QX ⟨_,Z,_,_,some i,done++[g],lf,Z,S8,g8,Cw,hd2,by rw[cB];exact cY,by rw[yes (.inr iz)];rfl,by rw[cB,ybh];exact iM⟩
 ·rintro σ H5 ⟨x7,DR,st,done,left,rfl,S5,g5,GF,lm,FS,ge,fX⟩;have hsz:(tx (W++N)).cps.size=(W++N).length:=by simp
  rw[hsz]at lm FS ge;rw[ycR (lA _)]at FS ge;have bM:done=lr (ar first) true (W++N) fs:=by rw[←FS];simp[lr]
  have Cd:st=ls (ar first) true (W++N) fs:=by rw[←ge];cases st<;>rfl
  have Cy:st.getD done.length=KP first (W++N) fs:=by unfold KP;rw[Cd,lm]
  have Sw:H5 d=some (.dK (dq cr)):=S5 _ _ gd;refine h2 D H5 y0 y1 (some (tv (W++N))) x7 y8 lw AT rc iJ (some (.ref r)) DR iK Y first ac tail am done a b cr d p st Sw g5 (by lia) ?_ (λzf=>?_) Ee.ld Ee.tl ev hb (by lia) λH' S'=>?_
  ·rw[lm,Cd];exact vV _ _ _ _
  ·rw[lm,Cd,fS,zf];exact yk DP.2.1
  ·rw[Cy];have e:ot first done (KP first (W++N) fs) cr=aZ.jN first (W++N) fs cr:=by rw[bM];rfl
   rw[e];exact k _ (S5.trans S')
end
theorem Sy:("Z":Str)=tx [90]:=by decide+kernel
section
variable {P:Program}{w:World}{K:Frag}{mg:Str->Option Value}{M:Heap}{f:Addr}{fd:FuncData}{tk:Nat->Tok}
theorem SA(O:Own mg)(OL:mg "list"=none)(OE:mg "enumerate"=none)(gg:Def P w K mg M 1 "_law_line" ["_law_parts"] (VS K)){ad:Value}{L:List Env}(hr:ao 1 (A.deeper (envOfC "_law_edit" (Qf Jn) s.heap.objs.size f ad))):
  ∃u2,aQ (Z2 (ak P w) P w K mg M NE "_law_edit" (Qf Jn) f ad A L s H E).bA ((QI Jn).drop 8) u2/\
   ∀(D:Ends)(H3:Hp)(q d:Addr)(y1 y8 lw:Option V)(Y:List Nat)(first:Nat)(W N ac tail am:List Nat)(a b:Nat)(cr:Bool)(qYa:Nat),
    ai K H3 q [tv Y,tv [first],tv (W++N),tv ac,tv tail]->H3 d=some (.dK (dq cr))->Ed Y first W N ac tail->Y.length+(W.length+N.length)+ac.length+tail.length<=60->(∀x∈W++N,x<128)->a=ax first W N->b=ac.length->a+b<=11->1<=a->am.length=a+b->(∀x∈am,x<128)->NumText.AllDigits am->NumText.digitsVal am=qYa->
    (∀H',Qu H3 H'->D.rt (.str (tx (if 57∉W++N++ac/\ar first=false/\qYa=0 then aZ.qb Y first W N ac tail else Y.map (aJ cr)++(aZ.jN first (W++N) (am.take a) cr++(if ac=[]then[]else 46::am.drop a))++tail.map (aJ cr)))) H')->
    u2 D [some (.ref q),y1,some (tv Y),some (tv [first]),some (tv (W++N)),some (tv ac),some (tv tail),none,y8,some (.bl (ar first)),some (.int (a:Nat)),some (.int (b:Nat)),lw,some (tv am),some (.bl cr),some (.ref d),none,none,none,none,none,none,none,none] H3:=by
 have hz:=zza
 have hu:=xA hr;obtain⟨u3,sw,h2⟩:=Ss (P:=P) (w:=w) (K:=K) (M:=M) (f:=f) (L:=L) (H:=H) (E:=E) O OL OE hr;refine⟨_,(Qb (QL (PW.pt (Je (Ql Jg Qd (Qt Qp (pv 4) (pv 5)) (by with_unfolding_all rfl)) (Je (Kn (Q7 (pv 9) (λ_=>rfl))) (Q6 (Ql Q3 (JF yau ybF ybG Z4 (pv 13) (Qa Qd Qc)) Qd (Qo _)))))) (Qb (Z' 16 QA.nd (Qq QF Z O.len yaK (Qa (gg.pq hr Qy (Qa (pv 0) Qc)) Qc)))
   (Qb (Z' 17 QA.nd (Qq QF Z O.len yaK (Qa (Qt Qp (pv 2) (pv 4)) Qc)))
   (Qb (Z' 18 QA.nd (Qt Qp (Qt QB Qd (pv 17)) (QC (Ql KU (pv 11) Qj (Qo _)) (Qt Qp Qd (Qt QB Qd (Qt Zg (Qt Zg (pv 16) (pv 17)) Qj))) (Qt QB Qd (Qt Zg (pv 16) (pv 17))))))
   (Qg (Qr (QC (Ql Q3 (pv 3) Qd (Qo _)) (Qt QB Qd (pv 16)) (pv 18))))))) Qs)
   sw),?_⟩
 intro D H3 q d y1 y8 lw Y first W N ac tail am a b cr qYa sq gd Ee hl FB hA hB Op Lh ut fw li u8 k;have iT:(W++N).length<=60:=by rw[lq];lia
 have DQ:=Qi (W++N);have Cb:=Qi ac;have GA:=Qi am;have tz:∀x∈QO Y W N ac tail,x<128:=λx hx=>Wb x (Ee.sym x hx);have SC:=Ki (Y:=Y) (W:=W) (N:=N) (ac:=ac) (tail:=tail) (by lia);have bn:=Qi (QO Y W N ac tail);have GG:=Qi Y;have hah:(Y++(W++N)).length<=(QO Y W N ac tail).length:=by unfold QO;simp only[lq];lia
 have Cz:(tx (Y++(W++N))).length=(Y++(W++N)).length:=Qi _
 try dsimp only[Jz,Wi,Wg]
 refine JN (λσ' H4=>σ'=[some (.ref q),y1,some (tv Y),some (tv [first]),some (tv (W++N)),some (tv ac),some (tv tail),none,y8,some (.bl (ar first)),some (.int (a:Nat)),some (.int (b:Nat)),lw,some (tv am),some (.bl cr),some (.ref d),none,none,none,none,none,none,none,none]/\H4=H3/\¬ (57∉W++N++ac/\ar first=false/\qYa=0)) ?_ (λrest=>?_);rotate_left
 ·refine⟨_,Z,_,Z,_,_,Z,Z,by rw[DQ,Cb];lia,_,_,Z,Z,_,Z,?_⟩;rw[QM,UZ,Jw];refine aF (λz9=>?_) (λz9=>QQ (rest _ _ ⟨Z,Z,λz=>z.1 (yai.mp (by cases q:(W++N++ac).contains 57;rw[q]at z9;cases z9;rfl))⟩));refine⟨_,Z,ar first,Z,?_⟩;refine aF (λzf=>?_) (λzf=>QQ (rest _ _ ⟨Z,Z,λz=>by rw[z.2.1]at zf;cases zf⟩));refine⟨_,Z,Z,tx am,tx [48],Z,Z,by show(tx am).length<=sizeLine;lia,Z,_,Z,?_⟩;rw[←Wa,Wu li,u8];refine aF (λz0=>?_) (λz0=>rest _ _ ⟨Z,Z,λz=>absurd z.2.2 (yav z0)⟩);have h9:57∉W++N++ac:=λz=>by rw[yai.mpr z]at z9;cases z9
  have ev:ar first=false:=by simpa using zf
  have Ld:qYa=0:=yap z0;rw[yaf ⟨h9,ev,Ld⟩]at k;unfold aZ.qb at k;refine⟨_,Z,q,Y,[first],W,N,ac,tail,Z,sq,by lia,_,Z,by lia,?_⟩;refine⟨_,Z,_,Z,_,_,Z,Z,by rw[GG,DQ];lia,?_⟩;rw[QM];refine⟨_,Z,by rw[Cz];lia,?_⟩;rw[bn,Cz,jP];generalize hsz:(QO Y W N ac tail).length=sz at*;generalize GH:(Y++(W++N)).length=ah at*;refine⟨_,Z,tx [42],(ah:Int),Z,Z,by lia,by rw[Qi,lZ,lC];lia,by lia,?_⟩;rw[lZ,J7];refine⟨_,Z,_,_,Z,Z,_,Z,?_⟩;refine Js (λv H5=>v=.str (tx (if ac=[]then replicate (sz-ah) 42 else 46::replicate (sz-ah-1) 42))/\H5=H3) (λz rest=>?_) (λz rest=>?_) ?_
  ·have fm:ac≠[]:=λe=>by rw[e]at hB;have:=yap z;simp at hB;lia
   have h1:ah+1<=sz:=by
    rw[←hsz, ←GH];unfold QO Qm;rw[yac fm];simp only[lq,lD];lia
   refine⟨_,Z,_,Z,_,_,Z,Z,_,_,Z,Z,tx [42],(sz:Int)-(ah:Int)-1,Z,Z,by lia,by rw[Qi,lC];lia,by lia,?_⟩;rw[J7,FK];refine⟨_,_,Z,Z,by rw[Qi,Qi,lN,lC];lia,?_⟩;rw[QM,show((sz:Int)-(ah:Int)-1).toNat=sz-ah-1 by lia];exact rest _ _ ⟨by rw[yac fm];rfl,Z⟩
  ·have fm:ac=[]:=by
    have:=yav z;have h0:b=0:=by lia
    rw[h0]at hB;exact yaH.mp hB.symm
   refine⟨_,Z,_,Z,_,_,Z,Z,tx [42],(sz:Int)-(ah:Int),Z,Z,by lia,by rw[Qi,lC];lia,by lia,?_⟩;rw[J7,show((sz:Int)-(ah:Int)).toNat=sz-ah by lia];exact rest _ _ ⟨by rw[yaf fm],Z⟩
  rintro v H5 ⟨rfl,rfl⟩;have Av:(if ac=[]then replicate (sz-ah) 42 else 46::replicate (sz-ah-1) 42).length<=200:=by split<;>simp<;>lia
  refine⟨_,_,Z,Z,by rw[Qi,Qi,lN];lia,?_⟩;rw[QM];refine⟨_,Z,Z,_,Z,?_⟩;rw[Sy,Jm]
  by_cases DS:first=90
  ·rw[ly DS];rw[yaf DS]at k;rw[X5];refine QX ⟨_,Z,tx [32],(sz:Int),Z,Z,by lia,by rw[Qi,lZ,lC];lia,by lia,?_⟩;rw[lZ,J7];exact k _ (Qu.refl _)
  ·rw[lx DS];rw[yac DS]at k;exact QQ ⟨_,Z,k _ (Qu.refl _)⟩
 rintro σ' H4 ⟨rfl,rfl,hn⟩;rw[yac hn]at k;exact h2 _ _ _ _ _ _ _ _ _ _ _ _ _ _ _ Y first W N ac tail am a b cr d gd Ee iT FB hA hB Op Lh ut fw k
end
noncomputable def bN(c:Nat):Bool:=([57,90,42,43,45,36]:List Nat).contains c
theorem yl:∀{l:List Nat},Wh l->(l.filter bN).length=many l:=by
 intro l
 induction l with
 |nil=>intro _;rfl
 |cons c r ih=>
  intro h;have hr:=ih λx hx=>h x (lG _ hx);rw[JE,yaF];rcases h c lH with hp|hi
  ·rw[yaf (show bN c=true from yai.mpr hp),yaf (ZX hp).1,lD,hr];lia
  ·have:bN c=false:=by
    cases q:bN c with
    |false=>rfl
    |true=>have:=(ZX (yai.mp q)).2.1;rw[hi]at this;cases this
   rw[yac (by rw[this];decide),yac (by rw[(Wx hi).1];simp),hr,ybd]
theorem Lj:("9Z*+-$":Str)=tx [57,90,42,43,45,36]:=by decide+kernel
section
variable {P:Program}{w:World}{K:Frag}{mg:Str->Option Value}{M:Heap}{f:Addr}{fd:FuncData}{tk:Nat->Tok}
def ZY(K:Frag):Sp:=λvs H Q _=>∃(q pa:Addr)(Y:List Nat)(first:Nat)(W N ac tail:List Nat)(u:Int)(o:Nat),vs=[.ref q,.ref pa]/\ai K H q [tv Y,tv [first],tv (W++N),tv ac,tv tail]/\ai K H pa [.int u,.int (o:Nat)]/\Ed Y first W N ac tail/\Y.length+(W.length+N.length)+ac.length+tail.length<=60/\u.natAbs<10^13/\o<=18/\
 ∀H',Qu H H'->Q (.str (tx (bL Y (W++N++Qm ac) tail (fit u o (ax first W N) ac.length)))) H'
theorem U9(F:az K "_law_edit" "_law_edit" Jn f fd)(O:Own mg)(OL:mg "list"=none)(OE:mg "enumerate"=none)(gg:Def P w K mg M 1 "_law_line" ["_law_parts"] (VS K)):
  af P w K mg M (ak P w) 2 f fd ["_law_parts","_law_amount"] (ZY K):=by
 refine okN F QA (λvs H Q E h=>?_) (λad A L s H vs Q E hr h=>?_)
 ·obtain⟨q,pa,Y,first,W,N,ac,tail,u,o,rfl,_⟩:=h;rfl
 ·obtain⟨q,pa,Y,first,W,N,ac,tail,u,o,rfl,sq,sa,Ee,hl,dt,ho,k⟩:=h;have hz:=zza
  have hu:=xA hr;obtain⟨BG,iB,Fr⟩:=Ee.small;have GC:=Ee.wh;have FB:∀y∈W++N,y<128:=λy hy=>Wb y (Ee.sym y (by rw[X6];exact lF _ (lE _ (lF _ hy))));have iT:(W++N).length<=60:=by rw[lq];lia
  have DQ:=Qi (W++N);obtain⟨u2,sw,h2⟩:=SA (P:=P) (w:=w) (K:=K) (M:=M) (f:=f) (L:=L) (H:=H) (E:=E) O OL OE gg hr;refine⟨_,(Qb (Jc (pv 0) (QY Z (Qh (Y' 2 QA.nd) (Qh (Y' 3 QA.nd) (Qh (Y' 4 QA.nd) (Qh (Y' 5 QA.nd) (Qh (Y' 6 QA.nd) QE)))))))
   (Qb (W3 (NB:=[".0","_law_symbol"]) (iy:=8) Z ⟨Z,by decide+kernel,by decide+kernel,by decide+kernel⟩ (Kq (pv 4)) (λ_ _ _=>(Qk (i:=1) (show([".0","_law_symbol"]:List Str).Nodup by decide+kernel) Z (Or.inl Z))) (λ_ _ _=>(XO (Ql Jf (pv 1) Qd (by with_unfolding_all rfl)))) (λ_ _ _=>(pv 1)) QA.nd Z (Or.inl Z) Z)
   (Qb (Z' 9 QA.nd (JR Jf (pv 3) Qd (by with_unfolding_all rfl)))
   (Qb (Uh (i:=10) (j:=11) Z QA.nd Z Z (by decide) Z Z (Qa (Qt Zg (Qq QR Z O.len yaK (Qa (pv 8) Qc)) (QC (Q7 (pv 9) (λ_=>rfl)) Qj Qj)) (Qa (Qq QF Z O.len yaK (Qa (pv 5) Qc)) Qc)) Z)
   (Qb (Z' 12 QA.nd (Qt Yz (Qt Yy (Qq ZH Z O.abs ydE (Qa (QN Jd (pv 1) Qj (λ_ _=>rfl)) Qc)) (Q9 Q8 Z O.int ycV (Qa (Qt Qp Qd (Qt QB Qd (pv 11))) Qc))) (Q9 Q8 Z O.int ycV (Qa (Qt Qp Qd (Qt QB Qd (QN Jd (pv 1) Qj (λ_ _=>rfl)))) Qc))))
   (Qb (Z' 13 QA.nd (QT JT (Qt Qp (Qt QB Qd (Qt JA (pv 10) (pv 11))) (Q9 Zc Z O.str yep (Qa (pv 12) Qc))) (QV (Qt Zg (Qt Zg Qj (pv 10)) (pv 11))) Jl))
   (Qb (Z' 14 QA.nd (Ug (JR KS (QN Jd (pv 1) Qj (λ_ _=>rfl)) Qj (Qo _)) (Uf (JR ZZ (JF yau ybF ybG Z4 (pv 13) (Qa Qd Qc)) Qd (Qo _)))))
   (Qb (Qn (i:=15) QA.nd Z (Or.inr Z) (xx (X9 Qd (QC (Q7 (pv 14) (λ_=>rfl)) Qd Qd) (X9 Qd (QC (Q7 (pv 14) (λ_=>rfl)) Qd Qd) (X9 Qd Qd (X9 Qd Qd xw)))) Z Z (List.cons_ne_nil _ _) (ycf Z)))
   sw)))))))),?_⟩
  refine⟨_,Z,q,_,Z,sq,Z,_,_,Z,_,_,Z,_,_,Z,_,_,Z,_,_,Z,Z,?_⟩;dsimp only[Jz,Wi,Wg];refine Kf (z:=tx (W++N)) (λm vs H2=>vs=sg (((W++N).take m).filter bN)/\H2=H) (λR h=>⟨_,Z,h⟩) (J8 FB) ⟨Z,Z⟩ (λm vs H hm⟨e,_⟩=>?_) ?_ ?_ (by show(tx (W++N)).length<sizeLine;lia)
  ·rw[e,lu];exact yas (yaL _ _) (by rw[lI];lia)
  ·rintro m cc vs H1 hx ⟨rfl,rfl⟩;have f8:(W++N)[m]? =some cc:=by simpa using hx
   have re:(W++N).take (m+1)=(W++N).take m++[cc]:=by rw[yaE,f8];rfl
   rw[show(⟨#[cc]⟩:Str)=tx [cc]from rfl];refine⟨_,Z,_,_,Z,Z,_,Z,?_⟩;rw[Lj,Jw,re,ybj];cases hn:([57,90,42,43,45,36]:List Nat).contains cc with
   |true=>
    refine QX ⟨_,Z,?_,Z⟩;rw[yaF,yaf (show bN cc=true from hn)];simp[sg]
   |false=>
    refine QQ ⟨?_,Z⟩;rw[yaF,yac (by rw[show bN cc=false from hn];decide)];simp[sg]
  rintro vs Lk ⟨rfl,rfl⟩ p8 SD;rw[yaq (show(W++N).length<=(tx (W++N)).cps.size by simp)];have S1:=Qu.new (o:=.lst (sg ((W++N).filter bN))) SD;have g8:upd Lk p8 (.lst (sg ((W++N).filter bN))) p8=some (.lst (sg ((W++N).filter bN))):=Qe;generalize upd Lk p8 (.lst (sg ((W++N).filter bN)))=H1 at S1 g8
  replace sq:=sq.same S1
  replace sa:=sa.same S1
  refine⟨_,Z,_,_,Z,Z,?_⟩;rw[qT,Jw];rw[show([43,45,36]:List Nat).contains first=ar first from rfl];refine⟨_,Z,p8,_,Z,.inl (ay.of g8),_,Z,ar first,Z,?_⟩;refine Js (λv H'=>v=.int (if ar first=true then 1 else 0)/\H'=H1) (λz rest=>rest _ _ ⟨by rw[yaf z],Z⟩) (λz rest=>rest _ _ ⟨by rw[yac (by rw[z];decide)],Z⟩) ?_;rintro v H' ⟨rfl,rfl⟩;have Cb:=Qi ac;refine⟨_,_,Z,Z,_,Z,tx ac,Z,by lia,_,_,Z,?_⟩;have sK:((sg ((W++N).filter bN)).length:Int)-(if ar first=true then 1 else 0)=((ax first W N:Nat):Int):=by
   rw[lu,yl GC,Ee.many,Fr]
   split<;>lia
  dsimp only;rw[sK,Cb];generalize hA:ax first W N=a at*;generalize hB:ac.length=b at*;obtain⟨f1,f2,f3,f4⟩:=W8 b (by lia);obtain⟨g1,g2,g3,g4⟩:=W8 o (by lia);have iw:u.natAbs*10^b<2^100:=by
   have h1:10^b<=10^11:=yat (by decide) (by lia)
   calc u.natAbs*10^b<=10^13*10^11:=Nat.mul_le_mul (ybi dt) h1
    _<2^100:=by decide
  have GI:10^o<2^200:=yba (yat (by decide) ho) (by decide);have Cv:10^b<2^200:=yba (yat (by decide) (show b<=18 by lia)) (by decide);have c1:(((10:Int)^b))=((10^b:Nat):Int):=by push_cast;rfl
  have c2:(((10:Int)^o))=((10^o:Nat):Int):=by push_cast;rfl
  have hX:((if u<0 then-u else u)*(10:Int)^b)/(10:Int)^o=((u.natAbs*10^b/10^o:Nat):Int):=by
   rw[Y2,c1,c2];push_cast;rfl
  refine⟨_,Z,pa,_,_,_,Z,Z,sa,Z,u,Z,_,Z,"0",(b:Int),Z,Z,by lia,by rw[lZ];exact f4,by lia,?_⟩;rw[lZ];refine⟨_,_,Z,Z,f3,_,_,Z,f1,f2,_,_,Z,Z,⟨?_,?_⟩,?_⟩
  ·rw[Y2,yaR];exact yaD (yaD dt (by decide)) (show 2^200<2^2000 by decide)
  ·rw[c1,yaR];exact yaD Cv (by decide)
  refine⟨_,Z,pa,_,_,_,Z,Z,sa,Z,"0",(o:Int),Z,Z,by lia,by rw[lZ];exact g4,by lia,?_⟩;rw[lZ];refine⟨_,_,Z,Z,g3,_,_,Z,g1,g2,_,_,Z,Z,⟨?_,?_⟩,?_⟩
  ·rw[c2];exact_mod_cast ycz (by decide)
  ·rw[c2,yaR];exact yaD GI (by decide)
  dsimp only;rw[hX];obtain⟨q1,q2⟩:=yZ u (o:=o) (a:=a) (b:=b) ho (by lia);have cD:u.natAbs*10^b/10^o<2^100:=yba (Nat.div_le_self _ _) iw;have sM:=Ee.PQ (f:=fit u o a b) (by lia) (by rw[hA,hB];exact UW u o a b);rw[hA,hB]at sM;rw[sM]at k;clear sM;generalize fit u o a b=ft at*;generalize u.natAbs*10^b/10^o=X at q1 q2 cD;have lm:=qC cD;have GJ:=Qi (dec X);have ms:((a:Nat):Int)+((b:Nat):Int)=((a+b:Nat):Int):=by lia
  have sN:(0:Int)-(a:Nat)-(b:Nat)= -((a+b:Nat):Int):=by lia
  have cE:1<=a+b:=by lia
  refine⟨_,Z,_,Z,_,_,Z,Z,"0",((a:Nat):Int)+((b:Nat):Int),Z,Z,by lia,?_,by lia,?_⟩
  ·rw[ms,lZ,Wa,Qi];simp;lia
  rw[ms,lZ,Wa,J7];refine⟨_,Z,_,Z,?_,?_⟩
  ·rw[yaR]
   by_cases h0:X=0
   ·rw[h0];decide
   ·exact(ydr h0).mpr (yaD cD (by decide))
  rw[aW.XM];refine⟨_,_,Z,Z,by rw[Qi,GJ,lN];lia,?_⟩;rw[QM];refine⟨_,Z,_,_,Z,Z,_,Z,_,_,Z,Z,_,Z,_,Z,by rw[Qi,lq,lN];lia,?_⟩;rw[sN,X2 _ cE,jI X cE, ←q1];have hm:ft.natAbs<10^(a+b):=by rw[q1];exact Nat.mod_lt _ (ycz (by decide))
  have ut:=Xn hm cE;have li:=X3 ft.natAbs (a+b);have u8:=YV ft.natAbs (a+b);have fw:=kR ft.natAbs (a+b);rw[←q1]at q2;generalize pad ft.natAbs (a+b)=am at*;have GA:=Qi am;dsimp only[Jz,Wi,Wg];refine wq (λv H2=>v=.bl (decide (ft<0))/\H2=H') ?_ (λrest=>?_);rotate_left
  ·refine⟨_,Z,pa,_,_,_,Z,Z,sa,Z,_,_,Z,Z,_,Z,?_⟩
   by_cases dI:u<0
   ·rw[ly dI];refine QX ⟨_,Z,Z,tx am,tx [48],Z,Z,by show(tx am).length<=sizeLine;lia,Z,?_⟩;rw[←Wa,Wu li,u8];refine rest _ _ ⟨?_,Z⟩
    congr 1
    by_cases hY:ft.natAbs=0
    ·rw[ly hY,lx (λz=>(q2.mp z).2 hY)];rfl
    ·rw[lx hY,ly (q2.mpr ⟨dI,hY⟩)];rfl
   ·rw[lx dI];exact QQ (rest _ _ ⟨by rw[lx (λz=>dI (q2.mp z).1)],Z⟩)
  rintro v H2 ⟨rfl,rfl⟩;generalize B0:decide (ft<0)=cr at*;intro d hd;dsimp only[js];refine⟨_,Z,cr,Z,?_⟩;refine Js (λv H3=>v=.str (tx [aJ cr 43])/\H3=upd H2 d (.dK [])) (λz rest=>rest _ _ ⟨by rw[z];rfl,Z⟩) (λz rest=>rest _ _ ⟨by rw[z];rfl,Z⟩) ?_;rintro v H3 ⟨rfl,rfl⟩;refine⟨_,Z,cr,Z,?_⟩;refine Js (λv H3=>v=.str (tx [aJ cr 45])/\H3=upd H2 d (.dK [])) (λz rest=>rest _ _ ⟨by rw[z];rfl,Z⟩) (λz rest=>rest _ _ ⟨by rw[z];rfl,Z⟩) ?_;rintro v H3 ⟨rfl,rfl⟩;refine⟨Qe,dq cr,Z,ycf rfl,?_⟩;rw[wt];have S3:Qu H2 (upd (upd H2 d (.dK [])) d (.dK (dq cr))):=λb o e=>by
   have hb:=Qz e hd;rw[Qx hb,Qx hb];exact e
  have gd:upd (upd H2 d (.dK [])) d (.dK (dq cr)) d=some (.dK (dq cr)):=Qe;generalize upd (upd H2 d (.dK [])) d (.dK (dq cr))=H3 at S3 gd
  replace sq:=sq.same S3
  have TD:=S1.trans S3;exact h2 _ _ q d _ _ _ Y first W N ac tail am a b cr ft.natAbs sq gd Ee (by rw[hB];exact hl) FB hA.symm hB.symm (by lia) (by lia) ut fw li u8 λH' S'=>by
   have e:(57∉W++N++ac/\ar first=false/\ft.natAbs=0)↔(57∉W++N++ac/\ar first=false/\ft=0):=by rw[Int.natAbs_eq_zero]
   have:=k _ (TD.trans S');simp only[e];exact this
end
open PySem PySem.Spec PyProof.Rows L2 aW aK bS
theorem SE:("V":Str)=tx [86]:=by decide+kernel
theorem SF:("S":Str)=tx [83]:=by decide+kernel
theorem DT:("0":Str)=tx [48]:=by decide+kernel
theorem SG:∀(s:Bool)(a b:Nat),a<6->b<4->(ZU s a b).length<=61:=by
 intro s a b ha hb;unfold ZU;have h1:(if s=true then[83]else([]:List Nat)).length<=1:=by split<;>simp
 have h2:(if b=0 then([]:List Nat)else 86::replicate b 57).length<=b+1:=by split<;>simp
 rw[lq,lq,lN];lia
section
variable {P:Program}{w:World}{K:Frag}{mg:Str->Option Value}{M:Heap}{f:Addr}{fd:FuncData}{tk:Nat->Tok}
def jV(K:Frag):Sp:=λvs H Q _=>∃(a t r:Addr)(ns:List Int)(c:Int),vs=[.ref a,.ref t]/\aM K H a t r ns c/\c<80000/\
 ∀(s:Bool)(a2 b:Nat)(q:Addr)(c':Int)(H':Hp),a2<6->b<4->a2+b≠0->H q=none->H' q=some (.tup [tv (ZU s a2 b),.bl s,.int (a2:Nat),.int (b:Nat)])->aM K H' a t r ns c'->c'<=c+5->Apart t r H H'->Q (.ref q) H'
theorem WT(F:az K "_law_a_number" "_law_a_number" ZS f fd)(hJ:Def P w K mg M 1 "_law_draw" ["_law_script","_law_town","_law_many"] (ZP K)):af P w K mg M (ak P w) 2 f fd ["_law_script","_law_town"] (jV K):=by
 refine okN F Jv (λvs H Q E h=>?_) (λad A L s H vs Q E hr h=>?_)
 ·obtain⟨a,t,r,ns,c,rfl,_⟩:=h;rfl
 ·obtain⟨a,t,r,ns,c,rfl,B,hc,k⟩:=h;have hz:=zza
  refine⟨_,(Qb (Z' 2 Jv.nd (JR Q3 (hJ.pq hr Qy (Qa (pv 0) (Qa (pv 1) (Qa Qj Qc)))) Qj (Qo _)))
   (Qb (Z' 3 Jv.nd (hJ.pq hr Qy (Qa (pv 0) (Qa (pv 1) (Qa Qj Qc)))))
   (Qb (Z' 4 Jv.nd (hJ.pq hr Qy (Qa (pv 0) (Qa (pv 1) (Qa Qj Qc)))))
   (Qb (Z' 4 Jv.nd (QC (Ql Q3 (Qt JA (pv 3) (pv 4)) Qj (Qo _)) Qj (pv 4)))
   (Qb (Z' 5 Jv.nd (Qt Qp (Qt Qp (QC (Q7 (pv 2) (λ_=>rfl)) Qd Qd) (Qt QB Qd (pv 3))) (QC (Ql KU (pv 4) Qj (Qo _)) (Qt Qp Qd (Qt QB Qd (pv 4))) Qd)))
   (Qg (Qr (QG (Qa (pv 5) (Qa (pv 2) (Qa (pv 3) (Qa (pv 4) Qc)))))))))))),?_⟩
  refine B.draw (n:=2) rfl rfl (λR h=>h) (by decide) (by decide) (by lia) λd1 H1 bM B1 A1=>?_;refine⟨Z,?_⟩;rw[Xb];generalize decide ((d1:Int)=0)=sg;dsimp only[Jz,Wi,Wg];refine B1.draw (n:=6) rfl rfl (λR h=>h) (by decide) (by decide) (by lia) λa2 H2 hd2 B2 A2=>?_;refine B2.draw (n:=4) rfl rfl (λR h=>h) (by decide) (by decide) (by lia) λb2 H3 La B3 A3=>?_;have Ll:=(A1.trans A2).trans A3;refine⟨_,Z,_,Z,_,_,Z,Z,Z,_,Z,?_⟩;rw[Xb];refine Js (λv H'=>∃b:Nat,v=.int (b:Nat)/\H'=H3/\b<4/\a2+b≠0) (λz rest=>?_) (λz rest=>?_) ?_
  ·have:=yap z;exact rest _ _ ⟨1,Z,Z,by decide,by lia⟩
  ·have:=yav z;exact⟨_,Z,rest _ _ ⟨b2,Z,Z,by lia,by lia⟩⟩
  rintro v H' ⟨b,rfl,rfl,SH,Op⟩;rw[YJ];refine⟨_,Z,sg,Z,?_⟩;refine Js (λv H4=>v=.str (tx (if sg=true then[83]else[]))/\H4=H') (λz rest=>rest _ _ ⟨by rw[SF,yaf z],Z⟩) (λz rest=>rest _ _ ⟨by rw[WQ,yac (by rw[z];decide)],Z⟩) ?_;rintro v H4 ⟨rfl,rfl⟩;have Gr:(if sg=true then[83]else([]:List Nat)).length<=1:=by split<;>simp
  refine⟨_,Z,tx [57],(a2:Int),Z,Z,by lia,by rw[Qi,lZ,lC];lia,by lia,?_⟩;rw[lZ,J7];refine⟨_,_,Z,Z,by rw[Qi,Qi,lN];lia,?_⟩;rw[QM];refine⟨_,Z,_,_,Z,Z,_,Z,?_⟩;refine Js (λv H5=>v=.str (tx (if b=0 then([]:List Nat)else 86::replicate b 57))/\H5=H4) (λz rest=>?_) (λz rest=>?_) ?_
  ·have hb:b≠0:=by have:=yap z;lia
   refine⟨_,Z,tx [57],(b:Int),Z,Z,by lia,by rw[Qi,lZ,lC];lia,by lia,?_⟩;rw[lZ,J7,SE];refine⟨_,_,Z,Z,by rw[Qi,Qi,lN];simp;lia,?_⟩;rw[QM];exact rest _ _ ⟨by rw[yac hb];rfl,Z⟩
  ·have hb:b=0:=by have:=yav z;lia
   exact rest _ _ ⟨by rw[yaf hb,WQ],Z⟩
  rintro v H5 ⟨rfl,rfl⟩;have h2:(if b=0 then([]:List Nat)else 86::replicate b 57).length<=b+1:=by split<;>simp
  refine⟨_,_,Z,Z,by rw[Qi,Qi,lq,lN];lia,?_⟩;rw[QM];refine⟨_,Z,_,Z,_,Z,_,Z,eR,λq hq=>?_⟩;exact k sg a2 b q _ _ (by lia) SH Op (B.free B3 Ll hq) Qe (B3.same (Qu.new hq)) (by lia) (Ll.trans (Apart.of (Qu.new hq)))
def WD(K:Frag):Sp:=λvs H Q _=>∃(s:Bool)(a b:Nat)(p:Addr)(u:Int)(o:Nat),vs=[.bl s,.int (a:Nat),.int (b:Nat),.ref p]/\ai K H p [.int u,.int (o:Nat)]/\u.natAbs<10^13/\o<=18/\b<=8/\1<=a+b/\a+b<=18/\Q (.str (tx (cont s a b u o))) H
theorem VT(F:az K "_law_content" "_law_content" Xl f fd)(O:Own mg):af P w K mg M (ak P w) 1 f fd ["_law_shows","_law_before","_law_behind","_law_amount"] (WD K):=by
 refine okN F ZT (λvs H Q E h=>?_) (λad A L s H vs Q E hr h=>?_)
 ·obtain⟨s,a,b,p,u,o,rfl,_⟩:=h;rfl
 ·obtain⟨sg,a,b,p,u,o,rfl,sq,hu,ho,SI,cE,SJ,k⟩:=h;have hz:=zza
  obtain⟨f1,f2,f3,f4⟩:=W8 b (by lia);obtain⟨g1,g2,g3,g4⟩:=W8 o (by lia);refine⟨_,(Qb (Z' 4 ZT.nd (Qt Yz (Qt Yy (Qq ZH Z O.abs ydE (Qa (QN Jd (pv 3) Qj (λ_ _=>rfl)) Qc)) (Q9 Q8 Z O.int ycV (Qa (Qt Qp Qd (Qt QB Qd (pv 2))) Qc))) (Q9 Q8 Z O.int ycV (Qa (Qt Qp Qd (Qt QB Qd (QN Jd (pv 3) Qj (λ_ _=>rfl)))) Qc))))
   (Qb (Z' 5 ZT.nd (QT JT (Qt Qp (Qt QB Qd (Qt JA (pv 1) (pv 2))) (Q9 Zc Z O.str yep (Qa (pv 4) Qc))) (QV (Qt Zg (Qt Zg Qj (pv 1)) (pv 2))) Jl))
   (Qb (QL (PW.pt (Je (Q7 (pv 0) (λ_=>rfl)) (Je (Ql KS (QN Jd (pv 3) Qj (λ_ _=>rfl)) Qj (Qo _)) (Q6 (Ql ZZ (JF yau ybF ybG Z4 (pv 5) (Qa Qd Qc)) Qd (Qo _)))))) (Qg (Qr (Qt Qp (QT JT (pv 5) Jl (QV (Kw ZN Qj))) (QN ZO Qd (JF yau slot_str_index type_str_index kx Qd (Qa (QN ZO (pv 5) (Kw ZN Qj) (λ_ _=>rfl)) Qc)) (λ_ _=>rfl))))) Qs)
   (Qg (Qr (pv 5)))))),?_⟩
  have iw:u.natAbs*10^b<2^100:=by
   have h1:10^b<=10^8:=yat (by decide) SI
   calc u.natAbs*10^b<=10^13*10^8:=Nat.mul_le_mul (ybi hu) h1
    _<2^100:=by decide
  have GI:10^o<2^200:=yba (yat (by decide) ho) (by decide);have Cv:10^b<2^200:=yba (yat (by decide) (show b<=18 by lia)) (by decide);have c1:(((10:Int)^b))=((10^b:Nat):Int):=by push_cast;rfl
  have c2:(((10:Int)^o))=((10^o:Nat):Int):=by push_cast;rfl
  have hX:((if u<0 then-u else u)*(10:Int)^b)/(10:Int)^o=((u.natAbs*10^b/10^o:Nat):Int):=by
   rw[Wz,c1,c2];push_cast;rfl
  refine⟨_,Z,p,_,_,_,Z,Z,sq,Z,u,Z,_,Z,"0",(b:Int),Z,Z,by lia,by rw[lZ];exact f4,by lia,?_⟩;rw[lZ];refine⟨_,_,Z,Z,f3,_,_,Z,f1,f2,_,_,Z,Z,⟨?_,?_⟩,?_⟩
  ·rw[Wz,yaR];exact yaD (yaD hu (by decide)) (show 2^200<2^2000 by decide)
  ·rw[c1,yaR];exact yaD Cv (by decide)
  refine⟨_,Z,p,_,_,_,Z,Z,sq,Z,"0",(o:Int),Z,Z,by lia,by rw[lZ];exact g4,by lia,?_⟩;rw[lZ];refine⟨_,_,Z,Z,g3,_,_,Z,g1,g2,_,_,Z,Z,⟨?_,?_⟩,?_⟩
  ·rw[c2];exact_mod_cast ycz (by decide)
  ·rw[c2,yaR];exact yaD GI (by decide)
  dsimp only[Jz,Wi,Wg];rw[hX];obtain⟨q1,q2⟩:=yZ u (o:=o) (a:=a) (b:=b) ho (by lia);have cD:u.natAbs*10^b/10^o<2^100:=yba (Nat.div_le_self _ _) iw;generalize u.natAbs*10^b/10^o=X at q1 q2 cD;have CA:cont sg a b u o=if sg=true/\fit u o a b<0 then Wv (pad (X % 10^(a+b)) (a+b))else pad (X % 10^(a+b)) (a+b):=by
   unfold cont;rw[q1]
  rw[CA]at k;have lm:=qC cD;have GJ:=Qi (dec X);have ms:((a:Nat):Int)+((b:Nat):Int)=((a+b:Nat):Int):=by lia
  have sN:(0:Int)-(a:Nat)-(b:Nat)= -((a+b:Nat):Int):=by lia
  refine⟨_,Z,_,Z,_,_,Z,Z,"0",((a:Nat):Int)+((b:Nat):Int),Z,Z,by lia,?_,by lia,?_⟩
  ·rw[ms,lZ,DT,Qi];simp;lia
  rw[ms,lZ,DT,J7];refine⟨_,Z,_,Z,?_,?_⟩
  ·rw[yaR]
   by_cases h0:X=0
   ·rw[h0];decide
   ·exact(ydr h0).mpr (yaD cD (by decide))
  rw[aW.XM];refine⟨_,_,Z,Z,by rw[Qi,GJ,lN];lia,?_⟩;rw[QM];refine⟨_,Z,_,_,Z,Z,_,Z,_,_,Z,Z,_,Z,_,Z,by rw[Qi,lq,lN];lia,?_⟩;rw[sN,X2 _ cE,jI X cE];have hm:X % 10^(a+b)<10^(a+b):=Nat.mod_lt _ (ycz (by decide));have ut:=Xn hm cE;have li:=X3 (X % 10^(a+b)) (a+b);have dn:=kC (X % 10^(a+b)) (a+b);have u8:=YV (X % 10^(a+b)) (a+b);generalize X % 10^(a+b)=qYa at k q1 q2 hm ut li dn u8;generalize pad qYa (a+b)=pl at k ut li dn u8;have ce:=Qi pl;have KQ:¬ (sg=true/\fit u o a b<0)->Q (.str (tx pl)) H:=λz=>by rw[yac z]at k;exact k
  refine⟨_,Z,sg,Z,?_⟩;cases sg with
  |false=>exact QQ (QQ ⟨_,Z,KQ (λz=>absurd z.1 (by decide))⟩)
  |true=>
   refine QX ⟨_,Z,p,_,_,_,Z,Z,sq,Z,_,_,Z,Z,_,Z,?_⟩
   by_cases dI:u<0
   ·rw[ly dI];refine QX ⟨_,Z,Z,tx pl,tx [48],Z,Z,by show(tx pl).length<=sizeLine;lia,Z,_,Z,?_⟩;rw[←DT,Wu li,u8]
    by_cases hY:qYa=0
    ·rw[ly hY];exact QQ ⟨_,Z,KQ (λz=>(q2.mp z.2).2 hY)⟩
    ·rw[lx hY];rw[yaf ⟨Z,q2.mpr ⟨dI,hY⟩⟩]at k;obtain⟨d,bM,hd2⟩:=Zr dn;have oj:NumText.AllDigits [d]:=λz hz=>li z (by rw[bM];exact lE _ hz);have pi:=oj d (yak.mpr Z);refine QX ⟨_,Z,_,Z,_,Z,tx pl,Z,by lia,?_⟩;rw[Kg];have sC:cf pl (-1)=some d:=by
      rw[bM];exact X8 _ _
     have Ap:([48,49,50,51,52,53,54,55,56,57]:List Nat)[d-48]? =some d:=by
      have key:∀k:Nat,k<10->([48,49,50,51,52,53,54,55,56,57]:List Nat)[k]? =some (k+48):=by decide
      have:=key (d-48) (by lia);rw[this]
      congr 1
      lia
     have ia:∀j,j<d-48->([48,49,50,51,52,53,54,55,56,57]:List Nat)[j]? ≠some d:=by
      intro j hj;have key:∀k:Nat,k<10->([48,49,50,51,52,53,54,55,56,57]:List Nat)[k]? =some (k+48):=by decide
      rw[key j (by lia)];intro z;have:=lB z;lia
     obtain⟨rr,GK⟩:=vO _ Ap ia;refine⟨Z,_,Z,_,Z,tx pl, -1,d,Z,Z,by lia,sC,"0123456789",tx [d],d-48,rr,Z,Z,by rw[Yp];exact GK,?_⟩;refine⟨"pqrstuvwxy",((d-48:Nat):Int),d+64,Z,Z,by decide+kernel,J2 (yQ d (by lia) (by lia)),_,_,Z,Z,?_,?_⟩
     ·show(tx pl.dropLast).length+(tx [d+64]).length<=sizeLine;rw[Qi,Qi,yaN];simp;lia
     ·show Q (.str (tx pl.dropLast++tx [d+64])) H;rw[QM];have e:Wv pl=pl.dropLast++[d+64]:=by unfold Wv;rw[hd2];rfl
      rw[e]at k;exact k
   ·rw[lx dI];exact QQ (QQ ⟨_,Z,KQ (λz=>dI (q2.mp z.2).1)⟩)
end
end Lw
namespace bS
open aW aK PySem.NumText
theorem SK(h:48<=d/\d<=57):([112,113,114,115,116,117,118,119,120,121]:List Nat).contains d=false:=by
 simp;lia
theorem ym(s:Bool)(u o:Int)(h1:1<=a+b):VH s a b (cont s a b u o)/\(Jb s (cont s a b u o)=if s=true/\fit u o a b<0 then-((fit u o a b).natAbs:Int)else((fit u o a b).natAbs:Int))/\(cont s a b u o).length=a+b/\(s=false->AllDigits (cont s a b u o))/\(∀x∈cont s a b u o,x<128):=by
 have bn:=UW u o a b;unfold cont;generalize (fit u o a b).natAbs=n at bn;have hl:=Xn bn h1;have hd:=X3 n (a+b);have ul:=kC n (a+b);have hv:=YV n (a+b);generalize pad n (a+b)=pl at hl hd ul hv;obtain⟨d,bM,hd2⟩:=Zr ul;have pi:=hd d (by rw[bM];exact lE _ (yak.mpr Z))
 by_cases hc:s=true/\fit u o a b<0
 ·rw[yaf hc,yaf hc];have e:Wv pl=pl.dropLast++[d+64]:=by unfold Wv;rw[hd2];rfl
  have No:([112,113,114,115,116,117,118,119,120,121]:List Nat).contains (d+64)=true:=(by decide:∀d:Nat,d<58->48<=d->([112,113,114,115,116,117,118,119,120,121]:List Nat).contains (d+64)=true) d (Nat.lt_succ_of_le pi.2) pi.1
  have hb:JP s (Wv pl)=true:=by
   unfold JP;rw[e,ybp,hc.1];exact No
  have hf:Jk s (Wv pl)=pl:=by
   unfold Jk;rw[yaf hb,e,yer,ybp];show pl.dropLast++[d+64-64]=pl;rw[Nat.add_sub_cancel];exact bM.symm
  have SC:(Wv pl).length=a+b:=by
   rw[e,lq,yaN];simp;lia
  refine⟨⟨SC,by rw[hf];exact hd⟩,?_,SC,(λz=>by rw[z]at hc;exact absurd hc.1 (by decide)),λx hx=>?_⟩
  ·unfold Jb;rw[yaf hb,hf,hv]
  ·rw[e]at hx;rcases yao.mp hx with hx|hx
   ·have:=hd x (ybJ _ hx);lia
   ·have:=yak.mp hx;lia
 ·rw[yac hc,yac hc];have hb:JP s pl=false:=by
   unfold JP;rw[hd2];show(s&&List.contains _ d)=false;rw[SK pi,ybh]
  have hf:Jk s pl=pl:=by unfold Jk;rw[yac (by rw[hb];decide)]
  refine⟨⟨hl,by rw[hf];exact hd⟩,?_,hl,λ_=>hd,λx hx=>?_⟩
  ·unfold Jb;rw[yac (by rw[hb];decide),hf,hv]
  ·have:=hd x hx;lia
end bS
namespace Lw
open PySem PySem.Spec PyProof.Rows L2 aW aK bS aZ sE
open Builtin Builtin.Str StrLaws
theorem SM(t:List Nat)(n:Nat):(replicate n 32++t).drop t.length=aX t n true:=by
 unfold aX;rw[yaf rfl];rw[List.drop_append,List.drop_replicate,lN]
theorem SN(t:List Nat)(n:Nat):(t++replicate n 32).take n=aX t n false:=by
 unfold aX;rw[yac (by decide),List.take_append,List.take_replicate,ybb (Nat.sub_le _ _)]
theorem SO(t:List Nat)(n:Nat)(b:Bool):(aX t n b).length=n:=by
 unfold aX
 split
 ·rw[lq,lN,lJ];lia
 ·rw[lq,lN,lI];lia
theorem SQ(h:∀x∈t,x<128) (n:Nat) (b:Bool):∀x∈aX t n b,x<128:=by
 intro x hx;unfold aX at hx
 split at hx
 ·rcases yao.mp hx with hx|hx
  ·rw[yaw hx];decide
  ·exact h x (yaY hx)
 ·rcases yao.mp hx with hx|hx
  ·exact h x (ybf hx)
  ·rw[yaw hx];decide
theorem yn(first:Nat)(whole fs:List Nat)(b:Bool):(aZ.jN first whole fs b).length=whole.length:=by
 have h1:(wD first whole fs).length=whole.length:=kK _ _ _ _;have h2:KP first whole fs<=whole.length:=vV _ _ _ _;have h3:(Ar first whole fs).length=whole.length:=by
  unfold Ar
  split
  ·rw[lq,lN,lJ,h1];lia
  ·exact h1
 unfold aZ.jN
 split
 ·rw[ycd];exact h3
 ·exact h3
theorem _root_.aK.Ed.SR{Y:List Nat}{first:Nat}{W N ac tail:List Nat}(E:Ed Y first W N ac tail)(hf:f.natAbs<10^(ax first W N+ac.length)):(bL Y (W++N++Qm ac) tail f).length=(QO Y W N ac tail).length:=by
 obtain⟨h1,_,_⟩:=E.small;have hp:=Xn hf (by lia);have hb:(WS (W++N++Qm ac) f.natAbs (decide (f<0))).length=(W++N++Qm ac).length:=by
  rw[E.body _ h1 hf,lq,yn,List.length_append (as:=W++N)]
  congr 1
  unfold Qm
  split
  ·rfl
  ·rw[lD,lD,lJ,hp];lia
 rw[X6];unfold bL X4
 split
 ·split<;>simp
 ·simp only[lq,lu]at hb ⊢;lia
theorem Lm:∀c∈cw,∀b,aJ b c<128:=by decide
theorem wv{l:List Nat}{b:Bool}(h:∀x∈l,x∈cw):∀x∈l.map (aJ b),x<128:=λx hx=>by
 obtain⟨y,hy,rfl⟩:=ybS.mp hx;exact Lm y (h y hy) b
theorem _root_.aK.Ed.SS{Y:List Nat}{first:Nat}{W N ac tail:List Nat}(E:Ed Y first W N ac tail)(hf:f.natAbs<10^(ax first W N+ac.length)):∀x∈bL Y (W++N++Qm ac) tail f,x<128:=by
 intro x hx;unfold bL at hx
 split at hx
 ·unfold X4 at hx
  split at hx
  ·obtain⟨y,_,rfl⟩:=ybS.mp hx
   split<;>decide
  ·rw[yaw hx];decide
 ·rcases yao.mp hx with hx|hx
  ·rcases yao.mp hx with hx|hx
   ·exact wv (Y0 Y E.ld).1 x hx
   ·obtain⟨s,pre,hs,e,_,_,_,_,c7⟩:=E.shape (decide (f<0)) E.small.1 hf;rw[e]at hx;rcases yao.mp hx with hx|hx
    ·rw[c7]at hx
     split at hx
     ·rename_i ev;rcases yao.mp hx with hx|hx
      ·rw[yaw hx];decide
      ·have hm:first∈cw:=by
        have:∀d∈([43,45,36]:List Nat),d∈cw:=by decide
        exact this first (yai.mp ev)
       rw[yak.mp hx];exact Lm first hm _
     ·rw[yaw hx]
      split<;>decide
    ·rw[hs]at hx;exact Py _ _ (kR _ _) x (yaY hx)
  ·exact wv (qW tail E.tl).1 x hx
theorem Ln(hc:c=88\/c=65)(h:n<12)(h0:n≠0):b7 (replicate n c) (replicate n c) ⟨if c=88 then 0 else 1,false,0,0⟩/\((replicate n c).filter qN).length=n:=by
 have no:40∉replicate n c:=λz=>by have:=yaw z;lia
 obtain⟨m,rfl⟩:∃m,n=m+1:=⟨n-1,by lia⟩;have hp:=ku (c:=c) (m:=m) hc (by lia);refine⟨⟨hp,kg _ no,no,by rw[lN];lia,by rw[lN];lia⟩,?_⟩;rw[List.filter_replicate,yaf (by rcases hc with rfl|rfl<;>rfl),lN]
section
variable {P:Program}{w:World}{K:Frag}{mg:Str->Option Value}{M:Heap}{f:Addr}{fd:FuncData}{tk:Nat->Tok}
def ww:Sp:=λvs H Q _=>∃(t:List Nat)(n:Nat)(b:Bool),vs=[.str (tx t),.int (n:Nat),.bl b]/\t.length<=200/\n<=200/\Q (.str (tx (aX t n b))) H
theorem VU(F:az K "_law_text_in" "_law_text_in" Xm f fd)(O:Own mg):af P w K mg M (ak P w) 1 f fd ["_law_content_here","_law_size","_law_right_here"] ww:=by
 refine okN F Vw (λvs H Q E h=>?_) (λad A L s H vs Q E hr h=>?_)
 ·obtain⟨t,n,b,rfl,_⟩:=h;rfl
 ·obtain⟨t,n,b,rfl,ht,hn,k⟩:=h;have hz:=zza
  have ce:=Qi t;refine⟨_,(Qb (QL (Q7 (pv 2) (λ_=>rfl)) (Qg (Qr (QT JT (Qt Qp (Qt QB Qd (pv 1)) (pv 0)) (QV (Qq QF Z O.len yaK (Qa (pv 0) Qc))) Jl))) Qs)
   (Qg (Qr (QT JT (Qt Qp (pv 0) (Qt QB Qd (pv 1))) Jl (QV (pv 1)))))),?_⟩
  refine⟨_,Z,b,Z,?_⟩;rw[X5];refine aF (λhb=>?_) (λhb=>?_)
  ·rw[hb, ←SM]at k;refine⟨_,Z,tx [32],(n:Int),Z,Z,by lia,by rw[Qi,lZ,lC];lia,by lia,?_⟩;rw[lZ,J7];refine⟨_,Z,_,_,Z,Z,by rw[Qi,Qi,lN];lia,?_⟩;rw[QM];refine⟨_,Z,tx t,Z,by lia,_,Z,_,Z,by rw[Qi,lq,lN];lia,?_⟩;rw[ce,JY];exact k
  ·rw[hb, ←SN]at k;refine⟨_,Z,_,Z,tx [32],(n:Int),Z,Z,by lia,by rw[Qi,lZ,lC];lia,by lia,?_⟩;rw[lZ,J7];refine⟨_,_,Z,Z,by rw[Qi,Qi,lN];lia,?_⟩;rw[QM];refine⟨_,Z,_,Z,_,Z,by rw[Qi,lq,lN];lia,?_⟩;rw[Kd _ (by rw[lq,lN];lia)];exact k
end
noncomputable def sO:Bx->List Nat
 | .num s a b=>ZU s a b
 | .aR Y _ W N ac tail=>QO Y W N ac tail
 | .aG n=>replicate n 65
 | .txt n=>replicate n 88
def zW(H:Hp)(q:Addr):Bx->List Nat->Prop
 | .num s a b,t=>∃rr,H q=some (.tup [tv (ZU s a b),.str "number",.ref rr,tv t])/\H rr=some (.tup [.bl s,.int (a:Nat),.int (b:Nat)])
 | .aR Y first W N ac tail,t=>∃rr,H q=some (.tup [tv (QO Y W N ac tail),.str "edited",.ref rr,tv t])/\H rr=some (.tup [tv Y,tv [first],tv (W++N),tv ac,tv tail])
 | .aG n,t=>H q=some (.tup [tv (replicate n 65),.str "letters",.aw,tv t])
 | .txt n,t=>H q=some (.tup [tv (replicate n 88),.str "text",.aw,tv t])
def jb:Bx->List Nat->Prop
 | .num s a b,t=>a<6/\b<4/\a+b≠0/\t.length=a+b/\∀x∈t,x<128
 | .aR Y first W N ac tail,t=>Ed Y first W N ac tail/\Y.length+(W.length+N.length)+ac.length+tail.length<=60/\t.length=(QO Y W N ac tail).length/\(∀x∈t,x<128)/\(ar first=true->∀d,t[Y.length]? =some d->dg d=48)
 | .aG n,t=>1<=n/\n<=8/\t.length=n/\∀x∈t,x<128
 | .txt n,t=>1<=n/\n<=8/\t.length=n/\∀x∈t,x<128
def Dn(K:Frag)(H:Hp)(a t r:Addr)(ns:List Int)(cm:Int)(R:VK):Prop:=
 ∀(x:Bx)(tt:List Nat)(q:Addr)(c':Int)(H':Hp),zW H' q x tt->jb x tt->H q=none->aM K H' a t r ns c'->c'<=cm->Apart t r H H'->R (.ref q) H'
theorem Dn.step{K:Frag}{H H1:Hp}{ns:List Int}{c c1 cm:Int}{R:VK}(h:Dn K H a t r ns cm R)(B:aM K H a t r ns c)(B1:aM K H1 a t r ns c1)(A:Apart t r H H1):Dn K H1 a t r ns cm R:=
 λx tt q c' H' bh bg hq B' hc A'=>h x tt q c' H' bh bg (B.free B1 A hq) B' hc (A.trans A')
theorem sP:(" ":Str)=tx [32]:=by decide+kernel
theorem DU:("x":Str)=tx [120]:=by decide+kernel
theorem DV:("X":Str)=tx [88]:=by decide+kernel
theorem Lo:("A":Str)=tx [65]:=by decide+kernel
theorem yo(t:List Nat)(n:Nat):sliceText (tx t) none (some ((n:Nat):Int))=tx (t.take n):=by
 have e2:sliceText (tx t) none (some ((n:Nat):Int))=sliceText (tx t) (some ((0:Nat):Int)) (some ((n:Nat):Int)):=by
  unfold sliceText;rw[sliceIdx_none_lo];rfl
 rw[e2,Xp t (lX _) (lX _)];simp
theorem jc(h:c<128):∀x∈replicate n c,x<128:=λx hx=>by rw[yaw hx];exact h
theorem Y9{l m:List Nat}(h1:∀x∈l,x<128) (h2:∀x∈m,x<128):∀x∈l++m,x<128:=λx hx=>(yao.mp hx).elim (h1 x) (h2 x)
noncomputable abbrev CB:List Str:=["_law_script","_law_town","_law_turn","_law_size","_law_line_here","_law_shows","_law_before","_law_behind","_law_content_here","_law_parts","_law_sort","_law_k"]
section
variable {P:Program}{w:World}{K:Frag}{mg:Str->Option Value}{M:Heap}{f:Addr}{fd:FuncData}{tk:Nat->Tok}
theorem SU(O:Own mg)(hJ:Def P w K mg M 1 "_law_draw" ["_law_script","_law_town","_law_many"] (ZP K)){ad:Value}{L:List Env}(hr:ao 3 (A.deeper (envOfC "_law_a_box" (Qf QK) s.heap.objs.size f ad))):
  ∃u2,aQ (Z2 (ak P w) P w K mg M CB "_law_a_box" (Qf QK) f ad A L s H E).bA ((QI QK).drop 6) u2/\
   ∀(D:Ends)(H1:Hp)(y2 y4 y5 y6 y7 y9 im:Option V)(a t r:Addr)(ns:List Int)(c1 cm:Int)(n so:Nat)(tt:List Nat),
    aM K H1 a t r ns c1->c1+3<=cm->cm<100000->1<=n->n<=8->tt.length=n->(∀x∈tt,x<128)->Dn K H1 a t r ns cm D.rt->
    u2 D [some (.ref a),some (.ref t),y2,some (.int (n:Nat)),y4,y5,y6,y7,some (tv tt),y9,some (.int (so:Nat)),im] H1:=by
 have hz:=zza
 refine⟨_,(Qb (QL (PW.pt (Je (Ql Q3 (pv 10) Qj (Qo _)) (Q6 (Ql Q3 (hJ.pq hr Qy (Qa (pv 0) (Qa (pv 1) (Qa Qj Qc)))) Qj (Qo _))))) (Qb (Z' 8 QJ.nd (QT JT (Qt Qp (Qt Qp (Qt QB Qd (hJ.pq hr Qy (Qa (pv 0) (Qa (pv 1) (Qa Qj Qc))))) (pv 8)) (Qt QB Qd (hJ.pq hr Qy (Qa (pv 0) (Qa (pv 1) (Qa Qj Qc)))))) Jl (QV (pv 3))))
   (Qg (Z' 8 QJ.nd (Qt Qp (pv 8) (Qt QB Qd (Qt Zg (pv 3) (Qq QF Z O.len yaK (Qa (pv 8) Qc)))))))) Qs)
   (Qg (Qr (QG (Qa (Qt QB Qd (pv 3)) (Qa Qd (Qa Za (Qa (pv 8) Qc)))))))),?_⟩
 intro D H1 y2 y4 y5 y6 y7 y9 im a t r ns c1 cm n so tt B1 iu sQ eT fY ce lv k;dsimp only[Jz,Wi,Wg];refine JN (λσ' H'=>∃SZ c2,σ'=[some (.ref a),some (.ref t),y2,some (.int (n:Nat)),y4,y5,y6,y7,some (tv SZ),y9,some (.int (so:Nat)),im]/\aM K H' a t r ns c2/\c2<=cm/\Dn K H' a t r ns cm D.rt/\SZ.length=n/\∀x∈SZ,x<128) ?_ (λrest=>?_);rotate_left
 ·refine⟨_,Z,Z,_,Z,?_⟩;refine aF (λz=>?_) (λz=>QQ (rest _ _ ⟨tt,c1,Z,B1,by lia,k,ce,lv⟩));refine B1.draw (n:=2) rfl rfl (λR h=>h) (by decide) (by decide) (by lia) λd2 H2 hd2 B2 A2=>?_;have k2:=k.step B1 B2 A2;refine⟨Z,_,Z,?_⟩;refine aF (λz=>?_) (λz=>rest _ _ ⟨tt,_,Z,B2,by lia,k2,ce,lv⟩);refine B2.draw (n:=3) rfl rfl (λR h=>h) (by decide) (by decide) (by lia) λd3 H3 La B3 A3=>?_;have k3:=k2.step B2 B3 A3;refine⟨" ",(d3:Int),Z,Z,by lia,by rw[lZ,sP,Qi];simp;lia,by lia,?_⟩;rw[lZ,sP,J7];have fU:=Qi (replicate d3 32);have oM:=Qi tt;rw[lN]at fU;refine⟨_,Z,_,_,Z,Z,by lia,?_⟩;rw[QM];refine B3.draw (n:=3) rfl rfl (λR h=>h) (by decide) (by decide) (by lia) λd4 H4 hd4 B4 A4=>?_;have k4:=k3.step B3 B4 A4;refine⟨" ",(d4:Int),Z,Z,by lia,by rw[lZ,sP,Qi];simp;lia,by lia,?_⟩;rw[lZ,sP,J7];have SV:=Qi (replicate d4 32);have SW:=Qi (replicate d3 32++tt);rw[lN]at SV;rw[lq,lN]at SW;refine⟨_,_,Z,Z,by lia,?_⟩;rw[QM];have SX:=Qi (replicate d3 32++tt++replicate d4 32);rw[lq,lq,lN,lN]at SX;refine⟨_,Z,_,Z,tx (replicate d3 32++tt++replicate d4 32),Z,by lia,?_⟩;rw[yo];have CC:∀x∈(replicate d3 32++tt++replicate d4 32).take n,x<128:=λx hx=>Y9 (Y9 (jc (by decide)) lv) (jc (by decide)) x (ybf hx);have GL:((replicate d3 32++tt++replicate d4 32).take n).length<=n:=by rw[lI];lia
  generalize (replicate d3 32++tt++replicate d4 32).take n=t4 at CC GL;have hl6:=Qi t4;refine⟨_,Z,_,Z,_,Z,tx t4,Z,by lia,_,_,Z,Z," ",(n:Int)-(tx t4).length,Z,Z,by lia,by rw[sP,Qi];simp;lia,by lia,?_⟩;have e7:((n:Int)-(tx t4).length).toNat=n-t4.length:=by lia
  rw[e7,sP,J7];have SY:=Qi (replicate (n-t4.length) 32);rw[lN]at SY;refine⟨_,_,Z,Z,by lia,?_⟩;rw[QM];exact rest _ _ ⟨t4++replicate (n-t4.length) 32,_,Z,B4,by lia,k4,by rw[lq,lN];lia,Y9 CC (jc (by decide))⟩
 rintro σ' H' ⟨SZ,c2,rfl,B',l5,k',iG,GN⟩;refine⟨_,Z,"X",(n:Int),Z,Z,by lia,by rw[lZ,DV,Qi];simp;lia,by lia,?_⟩;rw[lZ,DV,J7];refine⟨_,Z,eR,λq hq=>?_⟩;exact k' (.txt n) SZ q c2 _ Qe ⟨eT,fY,iG,GN⟩ hq (B'.same (Qu.new hq)) l5 (.of (Qu.new hq))
noncomputable def qs(c:Nat):Nat:=if([97,98,99,88,89,90,32]:List Nat).contains c=true then c else 113
theorem Ta:("abcXYZ ":Str)=tx [97,98,99,88,89,90,32]:=by decide+kernel
theorem Tb(c:Nat)(h:c<128):qs c<128:=by unfold qs;split<;>lia
theorem Tc(O:Own mg)(hJ:Def P w K mg M 1 "_law_draw" ["_law_script","_law_town","_law_many"] (ZP K)){ad:Value}{L:List Env}(hr:ao 3 (A.deeper (envOfC "_law_a_box" (Qf QK) s.heap.objs.size f ad))):
  ∃u2,aQ (Z2 (ak P w) P w K mg M CB "_law_a_box" (Qf QK) f ad A L s H E).bA ((QI QK).drop 5) u2/\
   ∀(D:Ends)(H1:Hp)(y4 y5 y6 y7 y9 im:Option V)(a t r:Addr)(ns:List Int)(c1 cm:Int)(tu n so:Nat)(tt:List Nat),
    aM K H1 a t r ns c1->c1+3<=cm->cm<100000->1<=n->n<=8->tt.length=n->(∀x∈tt,x<128)->Dn K H1 a t r ns cm D.rt->
    u2 D [some (.ref a),some (.ref t),some (.int (tu:Nat)),some (.int (n:Nat)),y4,y5,y6,y7,some (tv tt),y9,some (.int (so:Nat)),im] H1:=by
 have hz:=zza
 obtain⟨u3,sw,h2⟩:=SU (P:=P) (w:=w) (K:=K) (M:=M) (f:=f) (L:=L) (H:=H) (E:=E) O hJ hr;refine⟨_,(Qb (QL (Ql Q3 (pv 2) Qj (Qo _)) (Qb (Z' 8 QJ.nd (JF yau ybr ybs Xu Qd (Qa (Zi (NB:=[".0","_law_sign"]) Z ⟨Z,by decide+kernel,by decide+kernel,by decide+kernel⟩ (Kq (pv 8)) (λ_ _ _=>(Qk (i:=1) (show([".0","_law_sign"]:List Str).Nodup by decide+kernel) Z (Or.inl Z))) (λ_ _ _=>Xt) (λ_ _ _=>(QC (Ql Jf (pv 1) Qd (by with_unfolding_all rfl)) (pv 1) Qd))) Qc)))
   (Qg (Qr (QG (Qa (Qt QB Qd (pv 3)) (Qa Qd (Qa Za (Qa (pv 8) Qc)))))))) Qs)
   sw),?_⟩
 intro D H1 y4 y5 y6 y7 y9 im a t r ns c1 cm tu n so tt B1 iu sQ eT fY ce lv k;have iF:=Qi tt;refine⟨_,Z,Z,_,Z,?_⟩;refine aF (λz=>?_) (λz=>h2 _ _ _ _ _ _ _ _ _ _ _ _ _ _ _ _ _ _ B1 iu sQ eT fY ce lv k);refine⟨Z,?_⟩;refine Kf (z:=tx tt) (λm vs H2=>vs=((tt.take m).map qs).map (λc=>V.str (tx [c]))/\H2=H1) (λR h=>⟨_,Z,h⟩) (J8 lv) ⟨Z,Z⟩ (λm vs H hm⟨e,_⟩=>?_) ?_ ?_ (by show(tx tt).length<sizeLine;lia)
 ·rw[e,lu,lu,lI];lia
 ·rintro m cc vs H2 hx ⟨rfl,rfl⟩;have f8:tt[m]? =some cc:=by simpa using hx
  have re:tt.take (m+1)=tt.take m++[cc]:=by rw[yaE,f8];rfl
  rw[show(⟨#[cc]⟩:Str)=tx [cc]from rfl];refine⟨_,Z,_,_,Z,Z,_,Z,?_⟩;rw[Ta,Jw];have fin:∀d,d=qs cc->((tt.take m).map qs).map (λc=>V.str (tx [c]))++[.str (tx [d])]=((tt.take (m+1)).map qs).map (λc=>V.str (tx [c])):=λd e=>by rw[re,e];simp
  cases g:([97,98,99,88,89,90,32]:List Nat).contains cc with
  |true=>exact QX ⟨_,Z,fin _ (by unfold qs;rw[yaf g]),Z⟩
  |false=>exact QQ ⟨fin 113 (by unfold qs;rw[yac (by rw[g];decide)]),Z⟩
 ·rintro vs H2 ⟨rfl,rfl⟩ q hq;rw[yaq (show tt.length<=(tx tt).cps.size by simp)];refine⟨"",q,(tt.map qs).map λc=>tx [c],Z,Z,ay.of (by rw[Qe,lT (f:=λc=>tx [c])];rfl),XS (by rw[lu];lia),?_⟩;rw[Zw];have S:=Qu.new (o:=.lst ((tt.map qs).map (λc=>V.str (tx [c])))) hq;have B2:=B1.same S;have k2:=k.step B1 B2 (.of S);generalize upd H2 q (.lst ((tt.map qs).map (λc=>V.str (tx [c]))))=H3 at B2 k2;refine⟨_,Z,"A",(n:Int),Z,Z,by lia,by rw[lZ,Lo,Qi];simp;lia,by lia,?_⟩;rw[lZ,Lo,J7];refine⟨_,Z,eR,λq2 Ev=>?_⟩;exact k2 (.aG n) (tt.map qs) q2 c1 _ Qe ⟨eT,fY,by rw[lu];exact ce,λx hx=>by obtain⟨y,hy,rfl⟩:=ybS.mp hx;exact Tb y (lv y hy)⟩ Ev (B2.same (Qu.new Ev)) (by lia) (.of (Qu.new Ev))
noncomputable def DW:List (List Nat):=[[48,49,50,51,52,53,54,55,56,57],[97,98,99,88,89,90,32,32],[97,49,32,46,45,90,126,32]]
theorem Td:([.str "0123456789",.str "abcXYZ  ",.str "a1 .-Z~ "]:List V)=DW.map tv:=by decide+kernel
theorem Te:∀l∈DW,8<=l.length/\l.length<=10/\∀x∈l,x<128:=by decide
theorem Tf(O:Own mg)(hJ:Def P w K mg M 1 "_law_draw" ["_law_script","_law_town","_law_many"] (ZP K)){ad:Value}{L:List Env}(hr:ao 3 (A.deeper (envOfC "_law_a_box" (Qf QK) s.heap.objs.size f ad))):
  ∃u2,aQ (Z2 (ak P w) P w K mg M CB "_law_a_box" (Qf QK) f ad A L s H E).bA ((QI QK).drop 3) u2/\
   ∀(D:Ends)(H1:Hp)(y4 y5 y6 y7 y8 y9 At im:Option V)(a t r:Addr)(ns:List Int)(c1 cm:Int)(tu n:Nat),
    aM K H1 a t r ns c1->c1+20<=cm->cm<100000->1<=n->n<=8->Dn K H1 a t r ns cm D.rt->
    u2 D [some (.ref a),some (.ref t),some (.int (tu:Nat)),some (.int (n:Nat)),y4,y5,y6,y7,y8,y9,At,im] H1:=by
 have hz:=zza
 obtain⟨u3,sw,h2⟩:=Tc (P:=P) (w:=w) (K:=K) (M:=M) (f:=f) (L:=L) (H:=H) (E:=E) O hJ hr;refine⟨_,(Qb (Uh (i:=10) (j:=8) Z QJ.nd Z Z (by decide) Z Z (Qa (hJ.pq hr Qy (Qa (pv 0) (Qa (pv 1) (Qa Qj Qc)))) (Qa Qd Qc)) Z)
   (Qb (Z1 yaG Z (XJ Z O.range (Qa (pv 3) Qc)) (Y' 11 QJ.nd) (Qg (Z' 8 QJ.nd (Qt Qp (pv 8) (QN ZO (QN Q5 (JG (Qa Qd (Qa Qd (Qa Qd Qc)))) (pv 10) (λ_ _=>rfl)) (hJ.pq hr Qy (Qa (pv 0) (Qa (pv 1) (Qa Qj Qc)))) (λ_ _=>rfl))))))
   sw)),?_⟩
 intro D H1 y4 y5 y6 y7 y8 y9 At im a t r ns c1 cm tu n B1 iu sQ eT fY k;refine B1.draw (n:=3) rfl rfl (λR h=>h) (by decide) (by decide) (by lia) λso H2 hso B2 A2=>?_;have k2:=k.step B1 B2 A2;refine⟨_,_,Z,_,Z,(n:Int),Z,by lia,by lia,XL (n:=n) (λi σ H3=>∃sx tt c3,σ=[some (.ref a),some (.ref t),some (.int (tu:Nat)),some (.int (n:Nat)),y4,y5,y6,y7,some (tv tt),y9,some (.int (so:Nat)),sx]/\tt.length=i/\(∀x∈tt,x<128)/\aM K H3 a t r ns c3/\c3<=c1+1+i/\Dn K H3 a t r ns cm D.rt) ⟨im,[],_,Z,Z,(λx hx=>by cases hx),B2,by lia,k2⟩ ?_ ?_⟩
 ·rintro i σ H3 hi ⟨sx,tt,c3,rfl,ce,lv,B3,sG,k3⟩;have iF:=Qi tt;refine⟨_,Z,Ak,λp hp=>?_⟩;have S:=Qu.new (o:=.lst [.str "0123456789",.str "abcXYZ  ",.str "a1 .-Z~ "]) hp;have g4:upd H3 p (.lst [.str "0123456789",.str "abcXYZ  ",.str "a1 .-Z~ "]) p=some (.lst (DW.map tv)):=by rw[Qe,Td]
  have B4:=B3.same S;have k4:=k3.step B3 B4 (.of S);generalize upd H3 p (.lst [.str "0123456789",.str "abcXYZ  ",.str "a1 .-Z~ "])=H4 at g4 B4 k4;obtain⟨l,hl⟩:∃l,DW[so]? =some l:=⟨_,yah (show so<3 by lia)⟩;obtain⟨l8,l10,GO⟩:=Te l (lM hl);refine⟨_,Z,p,_,so,tv l,Z,Z,.inl (.inl g4),J2 (by rw[lK,hl];rfl),?_⟩;refine B4.draw (n:=8) rfl rfl (λR h=>h) (by decide) (by decide) (by lia) λd H5 hd B5 A5=>?_;have k5:=k4.step B4 B5 A5;obtain⟨ch,Cl⟩:∃ch,l[d]? =some ch:=⟨_,yah (by lia)⟩;have hlx:=Qi l;refine⟨tx l,(d:Int),ch,Z,Z,by lia,J2 Cl,?_⟩;have fU:(⟨#[ch]⟩:Str).length=1:=rfl;refine⟨_,_,Z,Z,by show(tx tt).length+(⟨#[ch]⟩:Str).length<=sizeLine;lia,?_⟩;rw[show(⟨#[ch]⟩:Str)=tx [ch]from rfl,QM];exact⟨_,_,_,Z,by rw[lq];simp;lia,Y9 lv (λx hx=>by rw[yak.mp hx];exact GO ch (lM Cl)),B5,by lia,k5⟩
 ·rintro σ H3 ⟨sx,tt,c3,rfl,ce,lv,B3,sG,k3⟩;exact h2 _ _ _ _ _ _ _ _ _ _ _ _ _ _ _ _ _ _ B3 (by lia) sQ eT fY ce lv k3
end
theorem yp(s:Bool)(a b:Nat)(u o:Int):∀x∈cont s a b u o,x<128:=by
 have hp:∀n k,∀x∈pad n k,x<128:=λn k x hx=>by have:=X3 n k x hx;lia
 unfold cont
 split
 ·intro x hx;unfold Wv at hx;rcases yao.mp hx with h|h
  ·exact hp _ _ x (ybJ _ h)
  ·rw[yak.mp h];cases e:(pad (fit u o a b).natAbs (a+b)).getLast? with
   |none=>show 48+64<128;decide
   |some d=>
    have:=X3 _ _ d (ydc e);show d+64<128;lia
 ·exact hp _ _
theorem jW{Y:List Nat}{first:Nat}{W N ac tail:List Nat}(E:Ed Y first W N ac tail):1<=(QO Y W N ac tail).length:=by
 have:=E.w.hd;cases W with
 |nil=>cases this
 |cons x r=>unfold QO;simp only[lq,lD];lia
noncomputable def xd(t:List Nat):List Nat:=120::t.drop 1
theorem Lp(h:1<=t.length):(xd t).length=t.length:=by unfold xd;rw[lD,lJ];lia
theorem Lq(h:∀x∈t,x<128):∀x∈xd t,x<128:=λx hx=>by
 rcases yag.mp hx with rfl|hx
 ·decide
 ·exact h x (yaY hx)
theorem Tg(h:(xd t)[i]? =some d):(i=0/\d=120)\/t[i]? =some d:=by
 cases i with
 |zero=>left;exact⟨Z,(lB h).symm⟩
 |succ i=>right;unfold xd at h;rw[List.getElem?_cons_succ,ycb]at h;rw[←h,yeE]
theorem yq{Y:List Nat}{first:Nat}{W N ac tail:List Nat}(Ee:Ed Y first W N ac tail)(f:Int)(hf:ar first=true)(d:Nat)(h:(bL Y (W++N++Qm ac) tail f)[Y.length]? =some d):dg d=48:=by
 obtain⟨rr,fc⟩:=Ee.bM;have ev:ar ((W++N++Qm ac).headD 0)=true:=by rw[fc];exact hf
 have hm:∀c,ar c=true->∀b,dg (aJ b c)=48:=λc hc=>IH c (by
  unfold ar at hc;simp only[ycK,List.contains_nil,ydf,Bool.or_eq_true,yck]at hc;simp only[yag,yay,ybk];lia)
 unfold bL at h;rw[yac (λz=>by rw[ev]at z;exact absurd z.2.2 (by decide)),lP,ycp (by rw[lu];exact lA _),lu,yeI]at h;unfold WS at h;rw[yaf ev]at h;cases g:aO (W++N++Qm ac) (aN (W++N++Qm ac) (pad f.natAbs (many (W++N++Qm ac))))-1 with
 |zero=>
  rw[g]at h;have e:aJ (decide (f<0)) ((W++N++Qm ac).headD 0)=d:=lB h;rw[←e];exact hm _ ev _
 |succ m=>
  rw[g,yaC]at h;have e:32=d:=lB h;rw[←e]
  decide
section
variable {P:Program}{w:World}{K:Frag}{mg:Str->Option Value}{M:Heap}{f:Addr}{fd:FuncData}{tk:Nat->Tok}
theorem Th(O:Own mg)(hJ:Def P w K mg M 1 "_law_draw" ["_law_script","_law_town","_law_many"] (ZP K))(gc:Def P w K mg M 2 "_law_an_amount" ["_law_script","_law_town","_law_figures","_law_far"] (We K))(gh:Def P w K mg M 3 "_law_an_edited" ["_law_script","_law_town"] (Ck K))(hU:Def P w K mg M 2 "_law_edit" ["_law_parts","_law_amount"] (ZY K))(gg:Def P w K mg M 1 "_law_line" ["_law_parts"] (VS K)){ad:Value}{L:List Env}(hr:ao 3 (A.deeper (envOfC "_law_a_box" (Qf QK) s.heap.objs.size f ad))):
  ∃u2,aQ (Z2 (ak P w) P w K mg M CB "_law_a_box" (Qf QK) f ad A L s H E).bA ((QI QK).drop 2) u2/\
   ∀(D:Ends)(H1:Hp)(y4 y5 y6 y7 y8 y9 At im:Option V)(a t r:Addr)(ns:List Int)(c1 cm:Int)(tu n:Nat),
    aM K H1 a t r ns c1->c1+70<=cm->cm<80000->1<=n->n<=8->Dn K H1 a t r ns cm D.rt->
    u2 D [some (.ref a),some (.ref t),some (.int (tu:Nat)),some (.int (n:Nat)),y4,y5,y6,y7,y8,y9,At,im] H1:=by
 have hz:=zza
 obtain⟨u3,sw,h2⟩:=Tf (P:=P) (w:=w) (K:=K) (M:=M) (f:=f) (L:=L) (H:=H) (E:=E) O hJ hr;refine⟨_,(Qb (QL (Ql Q3 (pv 2) Qj (Qo _)) (Qb (Z' 9 QJ.nd (gh.pq hr Qy (Qa (pv 0) (Qa (pv 1) Qc))))
   (Qb (Z' 8 QJ.nd (hU.pq hr Qy (Qa (pv 9) (Qa (gc.pq hr Qy (Qa (pv 0) (Qa (pv 1) (Qa Qj (Qa Qj Qc))))) Qc))))
   (Qb (QL (Ql Q3 (hJ.pq hr Qy (Qa (pv 0) (Qa (pv 1) (Qa Qj Qc)))) Qj (Qo _)) (Qg (Z' 8 QJ.nd (Qt Qp Qd (QT JT (pv 8) (QV Qj) Jl)))) Qs)
   (Qg (Qr (QG (Qa (gg.pq hr Qy (Qa (pv 9) Qc)) (Qa Qd (Qa (pv 9) (Qa (pv 8) Qc)))))))))) Qs)
   sw),?_⟩
 intro D H1 y4 y5 y6 y7 y8 y9 At im a t r ns c1 cm tu n B1 iu sQ eT fY k;refine⟨_,Z,Z,_,Z,?_⟩;refine aF (λz=>?_) (λz=>h2 _ _ _ _ _ _ _ _ _ _ _ _ _ _ _ _ _ _ B1 (by lia) (by lia) eT fY k);refine⟨_,Z,_,Z,a,t,r,ns,c1,Z,B1,by lia,λY first W N ac tail q c2 H2 Ee hsz hq gq B2 l5 A2=>?_⟩;have k2:=k.step B1 B2 A2;obtain⟨eW,T2⟩:=B2.tw;refine⟨_,Z,_,Z,_,Z,a,t,r,ns,c2,6,3,eW,Z,B2.sq,T2,B2.nat,B2.bV,B2.ln,by lia,by decide,by decide,by decide,by decide,λu oi c3 oq H3 q1 bu o0 o5 Ic g1 T3 sG A3=>?_⟩;obtain⟨o,rfl⟩:=ybt o0;have B3:=B2.drawn A3 T3;have k3:=k2.step B2 B3 A3;have GP:=B2.keep A3 gq (λ_ z=>nomatch z);refine⟨q,q1,Y,first,W,N,ac,tail,u,o,Z,ai.of GP,ai.of g1,Ee,hsz,yaD bu (by decide),by lia,λH4 S4=>?_⟩;have B4:=B3.same S4;have k4:=k3.step B3 B4 (.of S4);have Ti:=S4 _ _ GP;have ev:=UW u o (ax first W N) ac.length;have hlen:=Ee.SR ev;have On:=Ee.SS ev;have FM:=yq Ee (fit u o (ax first W N) ac.length);generalize bL Y (W++N++Qm ac) tail (fit u o (ax first W N) ac.length)=tt at hlen On FM;have SC:(QO Y W N ac tail).length<=61:=Ki hsz;have fU:1<=(QO Y W N ac tail).length:=jW Ee;have iF:=Qi tt;clear g1 T2 T3 A2 A3 B2 B3 k2 k3 gq GP ev;dsimp only[Jz,Wi,Wg];refine JN (λσ' H'=>∃SZ c5,σ'=[some (.ref a),some (.ref t),some (.int (tu:Nat)),some (.int (n:Nat)),y4,y5,y6,y7,some (tv SZ),some (.ref q),At,im]/\aM K H' a t r ns c5/\c5<=cm/\Dn K H' a t r ns cm D.rt/\H' q=some (.tup [tv Y,tv [first],tv (W++N),tv ac,tv tail])/\jb (.aR Y first W N ac tail) SZ) ?_ (λrest=>?_);rotate_left
 ·refine B4.draw (n:=8) rfl rfl (λR h=>h) (by decide) (by decide) (by lia) λd5 H5 Gj B5 A5=>?_;have k5:=k4.step B4 B5 A5;have CD:=B4.keep A5 Ti (λ_ z=>nomatch z);refine⟨Z,_,Z,?_⟩;refine aF (λz=>?_) (λz=>rest _ _ ⟨tt,_,Z,B5,by lia,k5,CD,Ee,hsz,hlen,On,FM⟩);refine⟨_,Z,_,Z,tx tt,Z,by lia,?_⟩;rw[show(some (1:Int))=some ((1:Nat):Int)from rfl,JY];have de:=Qi [120];have gt:=Qi (tt.drop 1);rw[lJ]at gt;refine⟨_,_,Z,Z,?_,?_⟩
  ·rw[DU];simp at de;lia
  rw[DU,QM];refine rest _ _ ⟨xd tt,_,Z,B5,by lia,k5,CD,Ee,hsz,by rw[Lp (by lia)];exact hlen,Lq On,λhf d hd=>?_⟩;rcases Tg hd with⟨_,rfl⟩|hd
  ·decide
  ·exact FM hf d hd
 rintro σ' H5 ⟨SZ,c5,rfl,B5,AE,k5,CD,bg⟩;refine⟨_,Z,q,Y,[first],W,N,ac,tail,Z,ai.of CD,?_⟩;refine⟨by lia,_,Z,_,Z,eR,λq2 Ev=>?_⟩;have S6:=Qu.new (o:=.tup [tv (QO Y W N ac tail),.str "edited",.ref q,tv SZ]) Ev;exact k5 (.aR Y first W N ac tail) SZ q2 c5 _ ⟨q,Qe,S6 _ _ CD⟩ bg Ev (B5.same S6) AE (.of S6)
theorem Tj(O:Own mg)(hJ:Def P w K mg M 1 "_law_draw" ["_law_script","_law_town","_law_many"] (ZP K))(gc:Def P w K mg M 2 "_law_an_amount" ["_law_script","_law_town","_law_figures","_law_far"] (We K))(gE:Def P w K mg M 2 "_law_a_number" ["_law_script","_law_town"] (jV K))(hZ:Def P w K mg M 1 "_law_content" ["_law_shows","_law_before","_law_behind","_law_amount"] (WD K))(gh:Def P w K mg M 3 "_law_an_edited" ["_law_script","_law_town"] (Ck K))(hU:Def P w K mg M 2 "_law_edit" ["_law_parts","_law_amount"] (ZY K))(gg:Def P w K mg M 1 "_law_line" ["_law_parts"] (VS K)){ad:Value}{L:List Env}(hr:ao 3 (A.deeper (envOfC "_law_a_box" (Qf QK) s.heap.objs.size f ad))):
  ∃u2,aQ (Z2 (ak P w) P w K mg M CB "_law_a_box" (Qf QK) f ad A L s H E).bA ((QI QK).drop 1) u2/\
   ∀(D:Ends)(H1:Hp)(y4 y5 y6 y7 y8 y9 At im:Option V)(a t r:Addr)(ns:List Int)(c1 cm:Int)(tu n:Nat),
    aM K H1 a t r ns c1->c1+70<=cm->cm<80000->1<=n->n<=8->Dn K H1 a t r ns cm D.rt->
    u2 D [some (.ref a),some (.ref t),some (.int (tu:Nat)),some (.int (n:Nat)),y4,y5,y6,y7,y8,y9,At,im] H1:=by
 have hz:=zza
 obtain⟨u3,sw,h2⟩:=Th (P:=P) (w:=w) (K:=K) (M:=M) (f:=f) (L:=L) (H:=H) (E:=E) O hJ gc gh hU gg hr;refine⟨_,(Qb (QL (Ql Q3 (pv 2) Qj (Qo _)) (Qb (Jc (gE.pq hr Qy (Qa (pv 0) (Qa (pv 1) Qc))) (QY Z (Qh (Y' 4 QJ.nd) (Qh (Y' 5 QJ.nd) (Qh (Y' 6 QJ.nd) (Qh (Y' 7 QJ.nd) QE))))))
   (Qb (Z' 8 QJ.nd (hZ.pq hr Qy (Qa (pv 5) (Qa (pv 6) (Qa (pv 7) (Qa (gc.pq hr Qy (Qa (pv 0) (Qa (pv 1) (Qa Qj (Qa Qj Qc))))) Qc))))))
   (Qb (QL (Ql Q3 (hJ.pq hr Qy (Qa (pv 0) (Qa (pv 1) (Qa Qj Qc)))) Qj (Qo _)) (Qg (Z' 8 QJ.nd (Qt Qp Qd (QT JT (pv 8) (QV Qj) Jl)))) Qs)
   (Qg (Qr (QG (Qa (pv 4) (Qa Qd (Qa (QG (Qa (pv 5) (Qa (pv 6) (Qa (pv 7) Qc)))) (Qa (pv 8) Qc)))))))))) Qs)
   sw),?_⟩
 intro D H1 y4 y5 y6 y7 y8 y9 At im a t r ns c1 cm tu n B1 iu sQ eT fY k;refine⟨_,Z,Z,_,Z,?_⟩;refine aF (λz=>?_) (λz=>h2 _ _ _ _ _ _ _ _ _ _ _ _ _ _ _ _ _ _ B1 iu sQ eT fY k);refine⟨_,Z,_,Z,a,t,r,ns,c1,Z,B1,by lia,λsg a2 b q c2 H2 ha hb Op hq gq B2 l5 A2=>⟨q,_,Z,ai.of gq,Z,_,_,Z,_,_,Z,_,_,Z,_,_,Z,Z,?_⟩⟩;have k2:=k.step B1 B2 A2;obtain⟨eW,T2⟩:=B2.tw;refine⟨_,Z,_,Z,_,Z,_,Z,_,Z,a,t,r,ns,c2,8,3,eW,Z,B2.sq,T2,B2.nat,B2.bV,B2.ln,by lia,by decide,by decide,by decide,by decide,λu oi c3 oq H3 q1 bu o0 o5 Ic g1 T3 sG A3=>?_⟩;obtain⟨o,rfl⟩:=ybt o0;have B3:=B2.drawn A3 T3;have k3:=k2.step B2 B3 A3;refine⟨sg,a2,b,q1,u,o,Z,ai.of g1,yaD bu (by decide),by lia,by lia,by lia,by lia,?_⟩;have hlen:=(ym sg (a:=a2) (b:=b) u o (by lia)).1.1;have On:=yp sg a2 b u o;generalize cont sg a2 b u o=tt at hlen On;have iF:=Qi tt;clear gq g1 T2 T3 A2 A3 B2 k2;dsimp only[Jz,Wi,Wg];refine JN (λσ' H'=>∃SZ c5,σ'=[some (.ref a),some (.ref t),some (.int (tu:Nat)),some (.int (n:Nat)),some (tv (ZU sg a2 b)),some (.bl sg),some (.int (a2:Nat)),some (.int (b:Nat)),some (tv SZ),y9,At,im]/\aM K H' a t r ns c5/\c5<=cm/\Dn K H' a t r ns cm D.rt/\jb (.num sg a2 b) SZ) ?_ (λrest=>?_);rotate_left
 ·refine B3.draw (n:=8) rfl rfl (λR h=>h) (by decide) (by decide) (by lia) λd5 H5 Gj B5 A5=>?_;have k5:=k3.step B3 B5 A5;refine⟨Z,_,Z,?_⟩;refine aF (λz=>?_) (λz=>rest _ _ ⟨tt,_,Z,B5,by lia,k5,ha,hb,Op,hlen,On⟩);refine⟨_,Z,_,Z,tx tt,Z,by lia,?_⟩;rw[show(some (1:Int))=some ((1:Nat):Int)from rfl,JY];have de:=Qi [120];have gt:=Qi (tt.drop 1);rw[lJ]at gt;refine⟨_,_,Z,Z,?_,?_⟩
  ·rw[DU];simp at de;lia
  rw[DU,QM];exact rest _ _ ⟨xd tt,_,Z,B5,by lia,k5,ha,hb,Op,by rw[Lp (by lia)];exact hlen,Lq On⟩
 rintro σ' H5 ⟨SZ,c5,rfl,B5,AE,k5,bg⟩;refine⟨_,Z,_,Z,_,Z,_,Z,Ak,λrr fc=>?_⟩;have S6:=Qu.new (o:=.tup [.bl sg,.int (a2:Nat),.int (b:Nat)]) fc;have B6:=B5.same S6;have k6:=k5.step B5 B6 (.of S6);have g6:upd H5 rr (.tup [.bl sg,.int (a2:Nat),.int (b:Nat)]) rr=some (.tup [.bl sg,.int (a2:Nat),.int (b:Nat)]):=Qe;generalize upd H5 rr (.tup [.bl sg,.int (a2:Nat),.int (b:Nat)])=H6 at B6 k6 g6;refine⟨_,Z,eR,λq2 Ev=>?_⟩;have S7:=Qu.new (o:=.tup [tv (ZU sg a2 b),.str "number",.ref rr,tv SZ]) Ev;exact k6 (.num sg a2 b) SZ q2 c5 _ ⟨rr,Qe,S7 _ _ g6⟩ bg Ev (B6.same S7) AE (.of S7)
def wx(K:Frag):Sp:=λvs H Q _=>∃(a t r:Addr)(ns:List Int)(c:Int),vs=[.ref a,.ref t]/\aM K H a t r ns c/\c<70000/\Dn K H a t r ns (c+80) Q
theorem Ua(F:az K "_law_a_box" "_law_a_box" QK f fd)(O:Own mg)(hJ:Def P w K mg M 1 "_law_draw" ["_law_script","_law_town","_law_many"] (ZP K))(gc:Def P w K mg M 2 "_law_an_amount" ["_law_script","_law_town","_law_figures","_law_far"] (We K))(gE:Def P w K mg M 2 "_law_a_number" ["_law_script","_law_town"] (jV K))(hZ:Def P w K mg M 1 "_law_content" ["_law_shows","_law_before","_law_behind","_law_amount"] (WD K))(gh:Def P w K mg M 3 "_law_an_edited" ["_law_script","_law_town"] (Ck K))(hU:Def P w K mg M 2 "_law_edit" ["_law_parts","_law_amount"] (ZY K))(gg:Def P w K mg M 1 "_law_line" ["_law_parts"] (VS K)):
  af P w K mg M (ak P w) 4 f fd ["_law_script","_law_town"] (wx K):=by
 refine okN F QJ (λvs H Q E h=>?_) (λad A L s H vs Q E hr h=>?_)
 ·obtain⟨a,t,r,ns,c,rfl,_⟩:=h;rfl
 ·obtain⟨a,t,r,ns,c,rfl,B,hc,k⟩:=h;obtain⟨u3,sw,h2⟩:=Tj (P:=P) (w:=w) (K:=K) (M:=M) (f:=f) (L:=L) (H:=H) (E:=E) O hJ gc gE hZ gh hU gg hr;refine⟨_,(Qb (Uh (i:=2) (j:=3) Z QJ.nd Z Z (by decide) Z Z (Qa (hJ.pq hr Qy (Qa (pv 0) (Qa (pv 1) (Qa Qj Qc)))) (Qa (Qt JA Qj (hJ.pq hr Qy (Qa (pv 0) (Qa (pv 1) (Qa Qj Qc))))) Qc)) Z)
   sw),?_⟩
  refine B.draw (n:=4) rfl rfl (λR h=>h) (by decide) (by decide) (by lia) λd1 H1 bM B1 A1=>?_;have k1:=k.step B B1 A1;refine B1.draw (n:=8) rfl rfl (λR h=>h) (by decide) (by decide) (by lia) λd2 H2 hd2 B2 A2=>?_;have k2:=k1.step B1 B2 A2;refine⟨_,_,Z,Z,_,_,Z,?_⟩;have e:(1:Int)+(d2:Nat)=((1+d2:Nat):Int):=by lia
  have h3:=h2 {nx:=λx H'=>Q V.aw H',rt:=Q} H2 none none none none none none none none a t r ns (c+1+1) (c+80) d1 (1+d2) B2 (by lia) (by lia) (by lia) (by lia) k2;rw[←e]at h3;exact h3
end
theorem qa{K:Frag}{NB:List Str}{i:Nat}{tt:TT}{R:V->V->Hp->VK->Prop}{σ:L2.St}{H:Hp}{Q:VK}{l:List Nat}(bad:Nat->Bool)(dj:NB.length=2)(hσ:σ[i]? =some (some (tv l)))(hl:l.length<=500)(ha:∀x∈l,x<128)
  (l7:∀c∈l,∀(H:Hp)(R:Bool->Hp->Prop),R (bad c) H->tt [none,some (tv [c])] H R)
  (hR:∀x y H Q,(∃a b xs ys k,x=.ref a/\y=.ref b/\ay K H a xs/\ay K H b ys/\((bE K H 1 xs ys/\k=false)\/(xs.length≠ys.length/\k=true))/\Q (.bl k) H)->R x y H Q)
  (k:∀H',Qu H H'->Q (.bl (l.any bad)) H'):ba R (V0 NB (BO (ZB i)) (Jz 1) tt (ZB 1)) (Er WI) σ H Q:=by
 have hz:=zza
 have iF:=Qi l;refine Kf (z:=tx l) (λm vs H2=>vs=((l.take m).filter bad).map (λc=>tv [c])/\H2=H) (λR h=>⟨_,hσ,h⟩) (J8 ha) ⟨Z,Z⟩ (λm vs H hm⟨e,_⟩=>?_) ?_ ?_ (by show(tx l).length<sizeLine;lia)
 ·rw[e,lu];exact yas (yaL _ _) (by rw[lI];lia)
 ·rintro m cc vs H2 hx ⟨rfl,rfl⟩;have f8:l[m]? =some cc:=by simpa using hx
  have re:l.take (m+1)=l.take m++[cc]:=by rw[yaE,f8];rfl
  rw[dj];refine l7 cc (lM f8) _ _ ?_;rw[re,ybj,lO];cases g:bad cc with
  |true=>exact QX ⟨_,Z,by rw[yaF,yaf g];rfl,Z⟩
  |false=>exact QQ ⟨by rw[yaF,yac (by rw[g];decide)];simp,Z⟩
 ·rintro vs H2 ⟨rfl,rfl⟩ q hq;rw[yaq (show l.length<=(tx l).cps.size by simp)];refine⟨Aj,λp hp=>hR _ _ _ _ ⟨q,p,(l.filter bad).map (λc=>tv [c]),[],l.any bad,Z,Z,?_,ay.of Qe,?_,k _ ((Qu.new hq).trans (Qu.new hp))⟩⟩
  ·exact ay.of (Qu.new hp _ _ Qe)
  ·cases g:l.any bad with
   |false=>
    have e:l.filter bad=[]:=yed.mpr λx hx z=>by
     have:=ybL.mp g x hx;exact this z
    rw[e];exact .inl ⟨.nil,Z⟩
   |true=>
    refine .inr ⟨λz=>?_,Z⟩;obtain⟨x,hx,hb⟩:=ydY.mp g;have:x∈l.filter bad:=ydn.mpr ⟨hx,hb⟩;rw[lu]at z;rw[yaH.mp z]at this;cases this
theorem Tn(t:List Nat):∀x∈sp t,x∈t:=by
 intro x hx;unfold sp Txt.stripChars Txt.stripBy stripSame stripped at hx
 split at hx
 ·rw[Jt]at hx;exact hx
 ·rw[strSub_toList]at hx;have:=yaY (ybf hx);rw[Jt]at this;exact this
noncomputable def AG(c:Nat):Bool:= !decide (48<=c/\c<=57)
theorem jX(l:List Nat):l.any AG= !decide (NumText.AllDigits l):=by
 by_cases h:NumText.AllDigits l
 ·rw[ly h];exact ybL.mpr λx hx=>by unfold AG;rw[ly (h x hx)];decide
 ·rw[lx h];cases g:l.any AG with
  |true=>rfl
  |false=>
   exfalso;refine h λx hx=>?_;have:=ybL.mp g x hx;unfold AG at this
   by_cases z:48<=x/\x<=57
   ·exact z
   ·rw[lx z]at this;exact absurd rfl this
theorem yr:∀d:Nat,d<128->Txt.find "pqrstuvwxy" (tx [d])=if 112<=d/\d<=121 then((d-112:Nat):Int)else-1:=by decide+kernel
theorem To(d:Nat):([112,113,114,115,116,117,118,119,120,121]:List Nat).contains d=decide (112<=d/\d<=121):=by
 by_cases h:112<=d/\d<=121
 ·rw[ly h,yai];simp only[yag,yay,ybk];lia
 ·rw[lx h];cases e:([112,113,114,115,116,117,118,119,120,121]:List Nat).contains d with
  |false=>rfl
  |true=>exact absurd (wc e) h
theorem yt(h:∀x∈t,x<128):∀x∈Jk s t,x<128:=by
 unfold Jk
 split
 ·intro x hx;rcases yao.mp hx with q|q
  ·exact h x (ybJ _ q)
  ·rw[yak.mp q];cases e:t.getLast? with
   |none=>show 0-64<128;decide
   |some d=>have:=h d (ydc e);show d-64<128;lia
 ·exact h
noncomputable abbrev NA:List Str:=["_law_one","_law_line_here","_law_kind","_law_room_so","_law_content_here","_law_short_so","_law_sign","_law_last","_law_lead","_law_first","_law_whole","_law_broken","_law_tail","_law_figures","_law_at","_law_place","_law_symbol","_law_units"]
section
variable {P:Program}{w:World}{K:Frag}{mg:Str->Option Value}{M:Heap}{f:Addr}{fd:FuncData}{tk:Nat->Tok}
def ox(H:Hp)(o:Option (Int × Nat))(R:VK):Prop:=
 (o=none->∀H',Qu H H'->R .aw H')/\(∀u p,o=some (u,p)->∀q H',Qu H H'->H q=none->H' q=some (.tup [.int u,.int (p:Nat)])->R (.ref q) H')
theorem ox.step{H H1:Hp}{o:Option (Int × Nat)}{R:VK}(h:ox H o R)(S:Qu H H1):ox H1 o R:=
 ⟨λe H' S'=>h.1 e H' (S.trans S'),λu p e q H' S' hq g=>h.2 u p e q H' (S.trans S') (JX S hq) g⟩
theorem Tp(O:Own mg)(OE:mg "enumerate"=none)(hU:Def P w K mg M 2 "_law_edit" ["_law_parts","_law_amount"] (ZY K)){ad:Value}{L:List Env}(hr:ao 2 (A.deeper (envOfC "_law_amount_of" (Qf Qw) s.heap.objs.size f ad)))
  (sw:aQ (Z2 (ak P w) P w K mg M NA "_law_amount_of" (Qf Qw) f ad A L s H E).bA ((QI Qw).drop 2) u3):
  ∃u2,aQ (Z2 (ak P w) P w K mg M NA "_law_amount_of" (Qf Qw) f ad A L s H E).bA ((QI Qw).drop 1) u2/\
   ∀(D:Ends)(H1:Hp)(y0 y1 y3 y5 y6 y7 y8 y9 At im lw Go GE cF AT rc:Option V)(k:Nat)(t:List Nat)(n:Nat),
    k<=3->t.length<=8\/k≠0->(∀x∈t,x<128)->(k=0->ox H1 (Kt (.txt n) t) D.rt)->
    (k≠0->u3 D [y0,y1,some (.str (kindS k)),y3,some (tv t),y5,y6,y7,y8,y9,At,im,lw,Go,GE,cF,AT,rc] H1)->
    u2 D [y0,y1,some (.str (kindS k)),y3,some (tv t),y5,y6,y7,y8,y9,At,im,lw,Go,GE,cF,AT,rc] H1:=by
 have hz:=zza
 refine⟨_,(Qb (QL (Ql Q3 (pv 2) Qd (Qo _)) (Qb (Z' 5 Qv.nd (JF yau ybF ybG Z4 (pv 4) (Qa Qd Qc)))
   (Qb (QL (PW.pt (Xa (Ql Q3 (pv 5) Qd (Qo _)) (Zf (Ql (qP (n:=1) (qr hr)) (Zi (NB:=[".0","_law_sign"]) Z ⟨Z,by decide+kernel,by decide+kernel,by decide+kernel⟩ (Kq (pv 5)) (λ_ _ _=>(Qk (i:=1) (show([".0","_law_sign"]:List Str).Nodup by decide+kernel) Z (Or.inl Z))) (λ_ _ _=>(XO (Ql Jg (pv 1) Qd (by with_unfolding_all rfl)))) (λ_ _ _=>(pv 1))) (JG Qc) (Qo _))))) (Qg (Qr Za)) Qs)
   (Qg (Qr (QG (Qa (Q9 Q8 Z O.int ycV (Qa (pv 5) Qc)) (Qa Qj Qc))))))) Qs)
   sw),?_⟩
 intro D H1 y0 y1 y3 y5 y6 y7 y8 y9 At im lw Go GE cF AT rc k t n hk ce lv kk k3;refine⟨_,Z,Z,_,Z,?_⟩;rw[show V.str "text"=V.str (kindS 0)from rfl,JQ _ hk 0 (by decide)]
 by_cases h0:k=0
 rotate_left
 ·rw[lx h0];exact QQ (k3 h0)
 rw[ly h0];have kk:=kk h0;have ce:t.length<=8:=ce.resolve_right λz=>z h0;have iF:=Qi t;have dc:=wf t;have hsx:=Qi (sp t);have GQ:∀x∈sp t,x<128:=λx hx=>lv x (Tn t x hx);refine QX ⟨_,Z,Z,tx t," ",Z,Z,by show(tx t).length<=sizeLine;lia,?_⟩;dsimp only;rw[show Txt.stripChars (tx t) " "=tx (sp t)from IZ t];refine⟨_,Z,Z,_,Z,?_⟩;rw[K8,Jt];have ea:Kt (.txt n) t=if zS (sp t)then some (((NumText.digitsVal (sp t):Nat):Int),0)else none:=rfl
 by_cases hn:sp t=[]
 ·rw[ly hn];exact QX (QX (kk.1 (by rw[ea,yac λz=>z.1 hn]) _ (Qu.refl _)))
 rw[lx hn];refine QQ ?_;refine qa (K:=K) AG rfl rfl (by lia) GQ (λc hc H R h=>?_) (λ_ _ _ _ h=>h) (λH2 S2=>?_)
 ·refine⟨_,Z,_,_,Z,Z,_,Z,?_⟩;rw[Yp,Jw,k8];exact h
 refine⟨_,Z,?_⟩;rw[jX];have CF:=kk.step S2
 by_cases hd:NumText.AllDigits (sp t)
 ·rw[ly hd];refine QQ ⟨_,Z,tx (sp t),_,Z,ybI (by rw[Jt];exact hd) (by rw[Jt];exact hn) (by lia),by lia,bw,λq hq=>?_⟩;rw[Jt];exact CF.2 _ 0 (by rw[ea,yaf ⟨hn,hd,by lia⟩]) q _ (Qu.new hq) hq Qe
 ·rw[lx hd];exact QX (CF.1 (by rw[ea,yac λz=>hd z.2.1]) _ (Qu.refl _))
end
theorem Tq:∀k:Nat,k<10->dec k=[k+48]:=by decide+kernel
section
variable {P:Program}{w:World}{K:Frag}{mg:Str->Option Value}{M:Heap}{f:Addr}{fd:FuncData}{tk:Nat->Tok}
theorem Tr(O:Own mg){ad:Value}{L:List Env}(hr:ao 2 (A.deeper (envOfC "_law_amount_of" (Qf Qw) s.heap.objs.size f ad)))
  (sw:aQ (Z2 (ak P w) P w K mg M NA "_law_amount_of" (Qf Qw) f ad A L s H E).bA ((QI Qw).drop 3) u3):
  ∃u2,aQ (Z2 (ak P w) P w K mg M NA "_law_amount_of" (Qf Qw) f ad A L s H E).bA ((QI Qw).drop 2) u2/\
   ∀(D:Ends)(H1:Hp)(y0 y1 y3 y5 y6 y7 y8 y9 At im lw Go GE cF AT rc:Option V)(k:Nat)(t:List Nat)(sg:Bool)(a b:Nat),
    k<=3->(∀x∈t,x<128)->(k=2->∃rr,y3=some (.ref rr)/\ai K H1 rr [.bl sg,.int (a:Nat),.int (b:Nat)]/\1<=a+b/\a+b<=18/\t.length=a+b/\ox H1 (Kt (.num sg a b) t) D.rt)->
    (k≠2->u3 D [y0,y1,some (.str (kindS k)),y3,some (tv t),y5,y6,y7,y8,y9,At,im,lw,Go,GE,cF,AT,rc] H1)->
    u2 D [y0,y1,some (.str (kindS k)),y3,some (tv t),y5,y6,y7,y8,y9,At,im,lw,Go,GE,cF,AT,rc] H1:=by
 have hz:=zza
 refine⟨_,(Qb (QL (Ql Q3 (pv 2) Qd (Qo _)) (Qb (Z' 7 Qv.nd (QC (Q7 (QN Jd (pv 3) Qj (λ_ _=>rfl)) (λ_=>rfl)) (JF yau slot_str_find type_str_find xJ Qd (Qa (QN ZO (pv 4) (Kw ZN Qj) (λ_ _=>rfl)) Qc)) (Kw ZN Qj)))
   (Qb (Z' 5 Qv.nd (QC (Ql j9 (pv 7) Qj (Qo _)) (Qt Qp (QT JT (pv 4) Jl (QV (Kw ZN Qj))) (Q9 Zc Z O.str yep (Qa (pv 7) Qc))) (pv 4)))
   (Qb (QL (Ql (qP (n:=1) (qr hr)) (Zi (NB:=[".0","_law_sign"]) Z ⟨Z,by decide+kernel,by decide+kernel,by decide+kernel⟩ (Kq (pv 5)) (λ_ _ _=>(Qk (i:=1) (show([".0","_law_sign"]:List Str).Nodup by decide+kernel) Z (Or.inl Z))) (λ_ _ _=>(XO (Ql Jg (pv 1) Qd (by with_unfolding_all rfl)))) (λ_ _ _=>(pv 1))) (JG Qc) (Qo _)) (Qg (Qr Za)) Qs)
   (Qg (Qr (QG (Qa (QC (Ql j9 (pv 7) Qj (Qo _)) (Qt Zg Qj (Q9 Q8 Z O.int ycV (Qa (pv 5) Qc))) (Q9 Q8 Z O.int ycV (Qa (pv 5) Qc))) (Qa (QN Jd (pv 3) Qj (λ_ _=>rfl)) Qc)))))))) Qs)
   sw),?_⟩
 intro D H1 y0 y1 y3 y5 y6 y7 y8 y9 At im lw Go GE cF AT rc k t sg a b hk lv kk k3;refine⟨_,Z,Z,_,Z,?_⟩;rw[show V.str "number"=V.str (kindS 2)from rfl,JQ _ hk 2 (by decide)]
 by_cases h0:k=2
 rotate_left
 ·rw[lx h0];exact QQ (k3 h0)
 rw[ly h0];obtain⟨rr,rfl,sq,h1,ST,ce,kk⟩:=kk h0;clear k3;have iF:=Qi t;have sD:t≠[]:=λz=>by rw[z]at ce;simp at ce;lia
 obtain⟨d,bM,hd2⟩:=Zr sD;have iA:d<128:=lv d (by rw[bM];exact lE _ (yak.mpr Z));have sC:cf t (-1)=some d:=by
  rw[bM];exact X8 _ _
 have cy:JP sg t=(sg&&decide (112<=d/\d<=121)):=by unfold JP;rw[hd2, ←To];rfl
 have ev:=Kj sg t;have l0:=yt (s:=sg) lv;refine QX ⟨_,Z,rr,_,_,_,Z,Z,sq,Z,sg,Z,?_⟩;dsimp only[Jz,Wi,Wg];refine Js (λv H'=>v=.int (if JP sg t=true then((d-112:Nat):Int)else-1)/\H'=H1) (λz rest=>?_) (λz rest=>?_) ?_
 ·refine⟨Z,_,Z,_,Z,tx t, -1,d,Z,Z,by lia,sC,"pqrstuvwxy",tx [d],Z,Z,trivial,rest _ _ ⟨?_,Z⟩⟩;dsimp only;rw[yr d iA,cy,z,ydR]
  by_cases hq:112<=d/\d<=121
  ·rw[yaf hq,ly hq,yaf rfl]
  ·rw[yac hq,lx hq,yac (by decide)]
 ·refine⟨_,Z,rest _ _ ⟨?_,Z⟩⟩;rw[cy,z,yct,yac (by decide)]
 rintro v H2 ⟨rfl,rfl⟩;have ck:∀m:Nat,((if JP sg t=true then((d-112:Nat):Int)else-1)≥0)↔JP sg t=true:=λ_=>by
  by_cases hb:JP sg t=true
  ·rw[yaf hb];exact⟨λ_=>hb,λ_=>Int.natCast_nonneg _⟩
  ·rw[yac hb];exact⟨λz=>absurd z (by decide),λz=>absurd z hb⟩
 have CG:decide ((if JP sg t=true then((d-112:Nat):Int)else-1)≥0)=JP sg t:=by rw[ycc,decide_eq_true_iff];exact ck 0
 refine⟨_,Z,_,_,Z,Z,_,Z,?_⟩;rw[CG];refine Js (λv H'=>v=tv (Jk sg t)/\H'=H2) (λz rest=>?_) (λz rest=>?_) ?_
 ·have Ts:112<=d/\d<=121:=by rw[cy]at z;exact yap (yde.mp z).2
  refine⟨_,Z,_,Z,_,Z,tx t,Z,by lia,?_⟩;rw[Kg];refine⟨_,Z,_,Z,?_,?_⟩
  ·rw[yaf z,yaR]
   by_cases h9:d-112=0
   ·rw[h9];decide
   ·exact(ydr h9).mpr (yad (show d-112<2^4 by lia) (yat (by decide) (by decide)))
  have es:PySem.Str.ofString (toString (if JP sg t=true then((d-112:Nat):Int)else-1))=tx [d-112+48]:=by rw[yaf z,aW.XM,Tq (d-112) (by lia)]
  rw[es];have de:=Qi t.dropLast;have gt:=Qi [d-112+48];rw[yaN]at de;refine⟨_,_,Z,Z,by rw[de,gt];simp;lia,?_⟩;rw[QM];show _;refine rest _ _ ⟨?_,Z⟩;show V.str (tx (t.dropLast++[d-112+48]))=V.str (tx (Jk sg t));unfold Jk;rw[yaf z,hd2];show V.str (tx (t.dropLast++[d-112+48]))=V.str (tx (t.dropLast++[d-64]));rw[show d-112+48=d-64 by lia]
 ·exact⟨_,Z,rest _ _ ⟨by unfold Jk;rw[yac (by rw[z];decide)],Z⟩⟩
 rintro v H3 ⟨rfl,rfl⟩;have Rp:=Qi (Jk sg t);have fg:Jk sg t≠[]:=λz=>by rw[z]at ev;simp at ev;lia
 dsimp only[Dc,KY];refine qa (K:=K) AG rfl rfl (by lia) l0 (λc hc H R h=>?_) (λ_ _ _ _ h=>h) (λH4 S4=>?_)
 ·refine⟨_,Z,_,_,Z,Z,_,Z,?_⟩;rw[Yp,Jw,k8];exact h
 refine⟨_,Z,?_⟩;rw[jX];have CF:=kk.step S4;have BI:=sq.same S4
 by_cases hd:NumText.AllDigits (Jk sg t)
 ·rw[ly hd];have du:PySem.intText? (tx (Jk sg t))=some ((NumText.digitsVal (Jk sg t):Nat):Int):=by
   have:=ybI (x:=tx (Jk sg t)) (by rw[Jt];exact hd) (by rw[Jt];exact fg) (by lia);rw[Jt]at this;exact this
  refine QQ ⟨_,Z,_,_,Z,Z,_,Z,?_⟩;rw[CG];refine Js (λv H'=>v=.int (Jb sg t)/\H'=H4) (λz rest=>?_) (λz rest=>?_) ?_
  ·refine⟨_,Z,tx (Jk sg t),_,Z,du,by lia,_,_,Z,Z,rest _ _ ⟨?_,Z⟩⟩;unfold Jb;rw[yaf z];show V.int (0-_)=_;rw[Int.zero_sub]
  ·refine⟨_,Z,tx (Jk sg t),_,Z,du,by lia,rest _ _ ⟨?_,Z⟩⟩;unfold Jb;rw[yac (by rw[z];decide)]
  rintro v H5 ⟨rfl,rfl⟩;refine⟨_,Z,rr,_,_,_,Z,Z,BI,Z,bw,λq hq=>?_⟩;exact CF.2 _ b (yaf ⟨ce,hd⟩) q _ (Qu.new hq) hq Qe
 ·rw[lx hd];exact QX (CF.1 (yac λz=>hd z.2) _ (Qu.refl _))
end
end Lw
namespace aZ
open aW aK PySem.NumText
noncomputable def Ue:Bool->List Nat->List Nat->List Nat
 |_,[],_=>[]
 |_,_::_,[]=>[]
 |a,c::r,d::s=>if place c=true/\a=false then dg d::Ue false r s else Ue false r s
theorem jd:∀(l t:List Nat),Ue false l t=bW l t:=by
 intro l
 induction l with
 |nil=>intro t;rfl
 |cons c r ih=>
  intro t;cases t with
  |nil=>rfl
  |cons d s=>
   rw[Ue,Wc,ih]
   by_cases h:place c=true
   ·rw[yaf ⟨h,Z⟩,yaf h]
   ·rw[yac (λz=>h z.1),yac h]
theorem jY:∀(l t:List Nat),l.length<=t.length->(bW l t).length=many l:=by
 intro l
 induction l with
 |nil=>intro t _;rfl
 |cons c r ih=>
  intro t h;cases t with
  |nil=>simp at h
  |cons d s=>
   have:=ih s (by simpa using h);rw[Wc,JE];unfold place;cases hb:bz c with
   |none=>rw[yaf (show(none:Option Nat).isNone=true from Z),yaf rfl,lD,this];lia
   |some x=>rw[yac (by simp),yac (by simp),this];lia
theorem je(l:List Nat):digitsVal (48::l)=digitsVal l:=by
 simp[digitsVal]
theorem yu(a:Bool):∀(l t:List Nat),AllDigits (Ue a l t):=by
 intro l t;have h0:∀(l t:List Nat),AllDigits (Ue false l t):=λl t=>by rw[jd];exact VO l t
 cases a with
 |false=>exact h0 l t
 |true=>
  cases l with
  |nil=>intro y hy;cases hy
  |cons c r=>
   cases t with
   |nil=>intro y hy;cases hy
   |cons d s=>rw[Ue,yac (λz=>by cases z.2)];exact h0 r s
theorem yw(h:a=true->∀d,t[0]? =some d->dg d=48) (hp:place c=true) (hl:r.length+1<=t.length):digitsVal (Ue a (c::r) t)=digitsVal (bW (c::r) t)/\(Ue a (c::r) t).length+(if a=true then 1 else 0)=many (c::r):=by
 cases t with
 |nil=>simp at hl
 |cons d s=>
  have hf:=jY r s (by simpa using hl);have Cq:=jY (c::r) (d::s) (by simpa using hl);cases a with
  |false=>rw[jd];exact⟨Z,by rw[Cq];rfl⟩
  |true=>
   rw[Ue,yac (λz=>by cases z.2),jd,Wc,yaf hp,h rfl d rfl,je];refine⟨Z,?_⟩;rw[Wc,yaf hp,lD]at Cq;rw[yaf rfl];exact Cq
theorem _root_.aK.Ed.bN{Y:List Nat}{first:Nat}{W N ac tail:List Nat}(E:Ed Y first W N ac tail):∀c∈W++N++Qm ac,Lw.bN c=place c:=by
 have mo:∀c,se c->Lw.bN c=place c:=λc h=>by
  unfold place;rw[(ZX h).1];exact yai.mpr h
 have No:∀c,ins c=true\/c=46->Lw.bN c=place c:=λc h=>by
  have:∀c∈([44,66,48,47,46]:List Nat),Lw.bN c=place c:=by decide
  rcases h with h|rfl
  ·exact this c (by have:=yai.mp h;simp only[yag,yay,ybk]at this ⊢;lia)
  ·exact this 46 (by decide)
 intro c hc;rcases yao.mp hc with h|h
 ·rcases E.wh c h with h|h
  ·exact mo c h
  ·exact No c (.inl h)
 ·unfold Qm at h
  split at h
  ·cases h
  ·rcases yag.mp h with rfl|h
   ·exact No 46 (.inr Z)
   ·refine mo c ?_;rcases E.br with z|⟨k,b,_,z,hb⟩
    ·rw[z]at h;cases h
    ·rw[z]at h;rw[yaw h];rcases hb with rfl|⟨rfl,_⟩
     ·exact FI
     ·exact E.f
end aZ
namespace Lw
open PySem PySem.Spec PyProof.Rows L2 aW aK bS aZ sE
open Builtin Builtin.Str StrLaws
theorem Tt(ac:List Nat):(if ac=[]then[]else[46])++ac=Qm ac:=by
 unfold Qm
 by_cases h:ac=[]
 ·rw[yaf h,yaf h,h];rfl
 ·rw[yac h,yac h];rfl
theorem Tu(c:Nat):([43,45,36]:List Nat).contains c=ar c:=rfl
section
variable {P:Program}{w:World}{K:Frag}{mg:Str->Option Value}{M:Heap}{f:Addr}{fd:FuncData}{tk:Nat->Tok}
theorem Tv(O:Own mg)(OE:mg "enumerate"=none)(hU:Def P w K mg M 2 "_law_edit" ["_law_parts","_law_amount"] (ZY K)){ad:Value}{L:List Env}(hr:ao 2 (A.deeper (envOfC "_law_amount_of" (Qf Qw) s.heap.objs.size f ad))):
  ∃u2,aQ (Z2 (ak P w) P w K mg M NA "_law_amount_of" (Qf Qw) f ad A L s H E).bA ((QI Qw).drop 5) u2/\
   ∀(D:Ends)(H1:Hp)(y0 y1 y2 y5 y6 y7 cF AT rc:Option V)(rr:Addr)(t Y:List Nat)(first:Nat)(W N ac tail:List Nat),
    ai K H1 rr [tv Y,tv [first],tv (W++N),tv ac,tv tail]->Ed Y first W N ac tail->Y.length+(W.length+N.length)+ac.length+tail.length<=60->t.length=(QO Y W N ac tail).length->(∀x∈t,x<128)->(ar first=true->∀d,t[Y.length]? =some d->dg d=48)->
    ox H1 (Kt (.aR Y first W N ac tail) t) D.rt->
    u2 D [y0,y1,y2,some (.ref rr),some (tv t),y5,y6,y7,some (tv Y),some (tv [first]),some (tv (W++N)),some (tv ac),some (tv tail),some (tv []),some (.int (Y.length:Nat)),cF,AT,rc] H1:=by
 have hz:=zza
 refine⟨_,(Qb (Z1 yaG Z (YU Z OE (Qa (Qt Qp (Qt Qp (pv 10) (QC (Ql ZZ (pv 11) Qd (Qo _)) Qd Qd)) (pv 11)) Qc)) (QY Z (Qh (Y' 15 Qv.nd) (Qh (Y' 16 Qv.nd) QE))) (Qb (Z' 6 Qv.nd (QN ZO (pv 4) (Qt JA (pv 14) (pv 15)) (λ_ _=>rfl)))
   (Qg (QL (PW.pt (Je (Ql Jf (pv 16) Qd (by with_unfolding_all rfl)) (Q6 (Kn (PW.pt (Je (Ql Q3 (pv 15) Qj (Qo _)) (Q6 (Ql Jf (pv 9) Qd (by with_unfolding_all rfl))))))))) (Qg (Z' 13 Qv.nd (Qt Qp (pv 13) (QC (Ql Jf (pv 6) Qd (by with_unfolding_all rfl)) (pv 6) Qd)))) Qs))))
   (Qb (Z1 yaG Z (ji (QG (Qa (Q9 Q8 Z O.int ycV (Qa (pv 13) Qc)) (Qa (Qt Zg Qj (Q9 Q8 Z O.int ycV (Qa (pv 13) Qc))) Qc)))) (Y' 17 Qv.nd) (Qg (QL (Ql Q3 (hU.pq hr Qy (Qa (pv 3) (Qa (QG (Qa (pv 17) (Qa (Qq QF Z O.len yaK (Qa (pv 11) Qc)) Qc))) Qc))) (pv 4) (Qo _)) (Qg (Qr (QG (Qa (pv 17) (Qa (Qq QF Z O.len yaK (Qa (pv 11) Qc)) Qc))))) Qs)))
   (Qg (Qr Za)))),?_⟩
 intro D H1 y0 y1 y2 y5 y6 y7 cF AT rc rr t Y first W N ac tail sq Ee hsz ce lv FM kk;obtain⟨BG,iB,Fr⟩:=Ee.small;have On:∀x∈W++N++Qm ac,x<128:=λx hx=>Wb x (Ee.sym x (by rw[X6];exact lF _ (lE _ hx)));have GR:=Ee.bN;have IN:=WA Ee;have sR:many (W++N++Qm ac)=ax first W N+(if ar first=true then 1 else 0)+ac.length:=by rw[ZL,Ee.many,Ee.zP,Fr]
 obtain⟨rb,Lr⟩:=Ee.bM;have DP:place first=true:=by unfold place;rw[(ZX Ee.f).1];rfl
 have fW:(W++N++Qm ac).length<=61:=by
  have lm:(Qm ac).length<=ac.length+1:=by unfold Qm;split<;>simp
  rw[lq,lq];lia
 have Ct:t.length=Y.length+((W++N++Qm ac).length+tail.length):=by
  rw[ce];unfold QO;simp only[lq];lia
 have SC:(QO Y W N ac tail).length<=61:=Ki hsz;have de:=Qi (W++N);have gt:=Qi ac;have FF:=Qi t;have iT:(W++N).length<=60:=by rw[lq];lia
 refine⟨_,Z,_,Z,Z,_,Z,?_⟩;rw[show(Str.ofString "")=tx []from rfl,Xv];refine Js (λv H'=>v=tv (if ac=[]then[]else[46])/\H'=H1) (λz rest=>rest _ _ ⟨?_,Z⟩) (λz rest=>rest _ _ ⟨?_,Z⟩) ?_
 ·have ul:¬ ac=[]:=λq=>by rw[ly q]at z;exact absurd z (by decide)
  rw[yac ul,vv]
 ·have he:ac=[]:=by
   by_cases q:ac=[]
   ·exact q
   ·rw[lx q]at z;exact absurd z (by decide)
  rw[yaf he]
 rintro v H2 ⟨rfl,rfl⟩;have Gi:=Qi (if ac=[]then[]else[46]);have hx5:(if ac=[]then[]else[46]:List Nat).length<=1:=by split<;>decide
 refine⟨_,_,Z,Z,by lia,?_⟩;rw[QM];have Tw:=Qi (W++N++(if ac=[]then[]else[46]));rw[List.length_append (as:=W++N)]at Tw;refine⟨_,Z,_,_,Z,Z,by lia,?_⟩;rw[QM,lP (W++N),Tt];have ix:∀i,i<(W++N++Qm ac).length->∃d,t[Y.length+i]? =some d:=λi hi=>⟨_,yah (by lia)⟩;generalize bv:W++N++Qm ac=body at*;have hbx:=Qi body;refine⟨tx body,Z,J8 On,VL (z:=tx body) (λi σ H3=>∃x6 oy oz am,σ=[y0,y1,y2,some (.ref rr),some (tv t),y5,x6,y7,some (tv Y),some (tv [first]),some (tv (W++N)),some (tv ac),some (tv tail),some (tv am),some (.int (Y.length:Nat)),oy,oz,rc]/\Qu H2 H3/\am.length<=i/\am++Ue (decide (i=0)&&ar first) (body.drop i) ((t.drop Y.length).drop i)=Ue (ar first) body (t.drop Y.length)) ⟨y6,cF,AT,[],Z,Qu.refl _,lX _,by rfl⟩ ?_ ?_⟩
 ·rintro i cc σ H3 p hx ⟨x6,oy,oz,am,rfl,S3,ev,hinv⟩ hp;have f8:body[i]? =some cc:=by simpa using hx
  have hi:=(yaj.mp f8).1;have dh:body.drop i=cc::body.drop (i+1):=by
   rw[yaM hi]
   congr 1
   exact(yaj.mp f8).2
  obtain⟨dd,oj⟩:=ix i hi;have GS:(t.drop Y.length).drop i=dd::(t.drop Y.length).drop (i+1):=by
   have h1:(t.drop Y.length)[i]? =some dd:=by rw[ycb];exact oj
   have h2:=(yaj.mp h1);rw[yaM h2.1,h2.2]
  rw[dh,GS,Ue, ←GR cc (lM f8)]at hinv;have S4:=S3.trans (Qu.new (o:=.tup [.int (i:Nat),.str ⟨#[cc]⟩]) hp);refine⟨p,_,Z,ai.of Qe,Z,_,_,Z,_,_,Z,Z,?_⟩;generalize upd H3 p (.tup [.int (i:Nat),.str ⟨#[cc]⟩])=H4 at S4;rw[show(⟨#[cc]⟩:Str)=tx [cc]from rfl];refine⟨_,Z,_,Z,_,Z,_,_,Z,Z,tx t,((Y.length+i:Nat):Int),dd,Z,by rw[Int.natCast_add],by lia,J2 oj,?_⟩;rw[show(⟨#[dd]⟩:Str)=tx [dd]from rfl];have oA:(decide (i+1=0)&&ar first)=false:=by rw[lx (by lia)];rfl
  have AH:=Qi am;refine⟨_,Z,_,_,Z,Z,_,Z,?_⟩;rw[Lj,Jw,show([57,90,42,43,45,36]:List Nat).contains cc=bN cc from rfl];have KQ:¬ (bN cc=true/\(decide (i=0)&&ar first)=false)->∃x6 oy oz Gc,[y0,y1,y2,some (.ref rr),some (tv t),y5,some (.str (tx [dd])),y7,some (tv Y),some (tv [first]),some (tv (W++N)),some (tv ac),some (tv tail),some (tv am),some (.int (Y.length:Nat)),some (.int (i:Nat)),some (.str (tx [cc])),rc]=[y0,y1,y2,some (.ref rr),some (tv t),y5,x6,y7,some (tv Y),some (tv [first]),some (tv (W++N)),some (tv ac),some (tv tail),some (tv Gc),some (.int (Y.length:Nat)),oy,oz,rc]/\Qu H2 H4/\Gc.length<=i+1/\Gc++Ue (decide (i+1=0)&&ar first) (body.drop (i+1)) ((t.drop Y.length).drop (i+1))=Ue (ar first) body (t.drop Y.length):=λz=>by
   rw[yac z]at hinv;exact⟨_,_,_,am,Z,S4,by lia,by rw[oA];exact hinv⟩
  cases ag:bN cc with
  |false=>exact QQ (QQ (KQ λz=>by rw[ag]at z;cases z.1))
  |true=>
   have cq:∀c:Nat,(tx [c]).length=1:=λc=>Qi [c];have app:(decide (i=0)&&ar first)=false->∀e,dg dd=e->∃x6 oy oz Gc,[y0,y1,y2,some (.ref rr),some (tv t),y5,some (.str (tx [dd])),y7,some (tv Y),some (tv [first]),some (tv (W++N)),some (tv ac),some (tv tail),some (.str (tx (am++[e]))),some (.int (Y.length:Nat)),some (.int (i:Nat)),some (.str (tx [cc])),rc]=[y0,y1,y2,some (.ref rr),some (tv t),y5,x6,y7,some (tv Y),some (tv [first]),some (tv (W++N)),some (tv ac),some (tv tail),some (tv Gc),some (.int (Y.length:Nat)),oy,oz,rc]/\Qu H2 H4/\Gc.length<=i+1/\Gc++Ue (decide (i+1=0)&&ar first) (body.drop (i+1)) ((t.drop Y.length).drop (i+1))=Ue (ar first) body (t.drop Y.length):=λz e he=>by
    rw[yaf ⟨ag,z⟩,he]at hinv;exact⟨_,_,_,am++[e],Z,S4,by rw[lq,lC];lia,by rw[oA,lP];exact hinv⟩
   refine QX ⟨_,Z,Z,_,Z,?_⟩
   by_cases ow:i=0
   ·rw[ly (show V.int (i:Nat)=V.int 0 by rw[ow];rfl)];refine QX ⟨_,Z,_,_,Z,Z,_,Z,?_⟩;rw[vt,Jw,Tu];refine aF (λhf=>?_) (λhf=>KQ λz=>by rw[ly ow,ydR]at z;rw[z.2]at hf;cases hf)
    ·have hf:ar first=false:=by cases q:ar first with|false=>rfl|true=>rw[q]at hf;cases hf
     have HB:(decide (i=0)&&ar first)=false:=by rw[hf,ybh]
     refine⟨_,Z,_,Z,_,_,Z,Z,_,Z,?_⟩;rw[Yp,Jw,k8]
     by_cases cz:48<=dd/\dd<=57
     ·rw[ly cz];refine QX ⟨_,Z,_,_,Z,Z,by rw[AH,cq];lia,?_⟩;rw[QM];exact app HB dd (yaf cz)
     ·rw[lx cz,Wa];refine QQ ⟨_,_,Z,Z,by rw[AH,cq];lia,?_⟩;rw[QM];exact app HB 48 (yac cz)
   ·rw[lx (show ¬ V.int (i:Nat)=V.int 0 from λz=>ow (by have:=V.int.inj z;lia))]
    ·have HB:(decide (i=0)&&ar first)=false:=by rw[lx ow];rfl
     refine⟨_,Z,_,Z,_,_,Z,Z,_,Z,?_⟩;rw[Yp,Jw,k8]
     by_cases cz:48<=dd/\dd<=57
     ·rw[ly cz];refine QX ⟨_,Z,_,_,Z,Z,by rw[AH,cq];lia,?_⟩;rw[QM];exact app HB dd (yaf cz)
     ·rw[lx cz,Wa];refine QQ ⟨_,_,Z,Z,by rw[AH,cq];lia,?_⟩;rw[QM];exact app HB 48 (yac cz)
 ·rintro σ H3 ⟨x6,oy,oz,am,rfl,S3,ev,hinv⟩;have CH:(tx body).cps.size=body.length:=Qi body;rw[CH,yaz (lA _),Ue,lS]at hinv;rw[CH]at ev;have hv:=yw (a:=ar first) (c:=first) (r:=rb) (t:=t.drop Y.length) (λz d hd=>FM z d (by rw[ycb]at hd;exact hd)) DP (by
   rw[lJ];have:body.length=rb.length+1:=by rw[Lr];rfl
   lia)
  rw[←Lr, ←hinv,sR]at hv;obtain⟨CI,hlen⟩:=hv;have sS:=yu (ar first) body (t.drop Y.length);rw[←hinv]at sS;have AH:=Qi am;have fg:am≠[]:=λz=>by rw[z]at hlen;simp at hlen;lia
  have si:am.length<=12:=by lia
  have du:PySem.intText? (tx am)=some ((dJ Y body t:Nat):Int):=by
   have:=ybI (x:=tx am) (by rw[Jt];exact sS) (by rw[Jt];exact fg) (by lia);rw[Jt,CI]at this;exact this
  have Ri:dJ Y body t<10^12:=by
   refine yad (XQ (VO _ _)) (yat (by decide) ?_);exact yas (W6 _ _) IN
  have DX:=kk.step S3;have Ls:=sq.same S3;rw[Wd,bv]at DX;unfold og at DX;generalize Rj:dJ Y body t=u at*;refine⟨_,Z,tx am,_,Z,du,by lia,_,Z,tx am,_,Z,du,by lia,_,_,Z,Z,bw,λtt l7=>⟨tt,Z,⟨_,ai.of Qe⟩,?_⟩⟩;have S6:=Qu.new (o:=.tup [.int (u:Nat),.int (0-(u:Nat))]) l7;have g6:upd H3 tt (.tup [.int (u:Nat),.int (0-(u:Nat))]) tt=some (.tup [.int (u:Nat),.int (0-(u:Nat))]):=Qe;have GU:=DX.step S6;have Lu:=Ls.same S6;have e0:∀v:Int,(0:Int)-v= -v:=λv=>Int.zero_sub v;generalize upd H3 tt (.tup [.int (u:Nat),.int (0-(u:Nat))])=H6 at g6 GU Lu;clear DX Ls hinv CI hlen sS du S3 S6;refine qg (xs:=[.int (u:Nat),.int (0-(u:Nat))]) (λi σ H7=>(∃GV,σ=[y0,y1,y2,some (.ref rr),some (tv t),y5,x6,y7,some (tv Y),some (tv [first]),some (tv (W++N)),some (tv ac),some (tv tail),some (tv am),some (.int (Y.length:Nat)),oy,oz,GV])/\Qu H6 H7/\(1<=i->bL Y body tail (fit ((u:Nat):Int) ac.length (ax first W N) ac.length)≠t)/\(2<=i->bL Y body tail (fit (-((u:Nat):Int)) ac.length (ax first W N) ac.length)≠t)) ⟨⟨rc,Z⟩,Qu.refl _,λz=>absurd z (by decide),λz=>absurd z (by decide)⟩ ?_ ?_ ?_
  ·rintro i σ H7 hi ⟨_,S7,_⟩;exact ai.of (S7 _ _ g6)
  ·rintro i x σ H7 hi ⟨⟨GV,rfl⟩,S7,n1,n2⟩;obtain⟨v,rfl,F2,hv⟩:∃v:Int,x=.int v/\v.natAbs<10^12/\(v=(u:Nat)/\i=0\/v= -(u:Nat)/\i=1):=by
    have BJ:i<2:=(yaj.mp hi).1
    match i,hi,BJ with
    |0,hi,_=>exact⟨_,(lB hi).symm,by lia,.inl ⟨Z,Z⟩⟩
    |1,hi,_=>exact⟨_,(lB hi).symm,by lia,.inr ⟨e0 _,Z⟩⟩
   refine⟨_,Z,_,Z,_,Z,tx ac,Z,by lia,bw,λpa iq=>?_⟩;have S8:=Qu.new (o:=.tup [.int v,.int ((tx ac).length:Nat)]) iq;have g8:upd H7 pa (.tup [.int v,.int ((tx ac).length:Nat)]) pa=some (.tup [.int v,.int (ac.length:Nat)]):=by rw[Qe,gt]
   refine⟨rr,pa,Y,first,W,N,ac,tail,v,ac.length,Z,(Lu.same S7).same S8,ai.of g8,Ee,hsz,yaD F2 (by decide),by lia,λH9 S9=>?_⟩;rw[bv];refine⟨_,Z,Z,_,Z,?_⟩;rw[Xv];have Az:=(S7.trans S8).trans S9
   by_cases he:bL Y body tail (fit v ac.length (ax first W N) ac.length)=t
   ·rw[ly he];refine QX ⟨_,Z,_,Z,tx ac,Z,by lia,bw,λqz Cf=>?_⟩;refine GU.2 v ac.length ?_ qz _ (Az.trans (Qu.new Cf)) (JX Az Cf) (by rw[Qe,gt]);rcases hv with⟨rfl,rfl⟩|⟨rfl,rfl⟩
    ·rw[yaf he];rfl
    ·rw[yac (n1 (by decide)),yaf he];rfl
   ·rw[lx he];refine QQ ⟨⟨_,Z⟩,Az,λz=>?_,λz=>?_⟩
    ·rcases hv with⟨rfl,rfl⟩|⟨rfl,rfl⟩
     ·exact he
     ·exact n1 (by decide)
    ·rcases hv with⟨rfl,rfl⟩|⟨rfl,rfl⟩
     ·exact absurd z (by decide)
     ·exact he
  ·rintro σ H7 ⟨⟨GV,rfl⟩,S7,n1,n2⟩;exact GU.1 (by rw[yac (n1 (show 1<=2 by decide)),yac (n2 (show 2<=2 by decide))];rfl) _ S7
theorem Tx(O:Own mg)(OE:mg "enumerate"=none)(hU:Def P w K mg M 2 "_law_edit" ["_law_parts","_law_amount"] (ZY K)){ad:Value}{L:List Env}(hr:ao 2 (A.deeper (envOfC "_law_amount_of" (Qf Qw) s.heap.objs.size f ad))):
  ∃u2,aQ (Z2 (ak P w) P w K mg M NA "_law_amount_of" (Qf Qw) f ad A L s H E).bA ((QI Qw).drop 3) u2/\
   ∀(D:Ends)(H1:Hp)(y0 y1 y2 y5 y6 y7 y8 y9 At im lw Go GE cF AT rc:Option V)(rr:Addr)(t Y:List Nat)(first:Nat)(W N ac tail:List Nat),
    ai K H1 rr [tv Y,tv [first],tv (W++N),tv ac,tv tail]->Ed Y first W N ac tail->Y.length+(W.length+N.length)+ac.length+tail.length<=60->t.length=(QO Y W N ac tail).length->(∀x∈t,x<128)->(ar first=true->∀d,t[Y.length]? =some d->dg d=48)->
    ox H1 (Kt (.aR Y first W N ac tail) t) D.rt->
    u2 D [y0,y1,y2,some (.ref rr),some (tv t),y5,y6,y7,y8,y9,At,im,lw,Go,GE,cF,AT,rc] H1:=by
 have hz:=zza
 obtain⟨u3,sw,h2⟩:=Tv (P:=P) (w:=w) (K:=K) (M:=M) (f:=f) (L:=L) (H:=H) (E:=E) O OE hU hr;refine⟨_,(Qb (Jc (pv 3) (QY Z (Qh (Y' 8 Qv.nd) (Qh (Y' 9 Qv.nd) (Qh (Y' 10 Qv.nd) (Qh (Y' 11 Qv.nd) (Qh (Y' 12 Qv.nd) QE)))))))
   (Qb (Uh (i:=13) (j:=14) Z Qv.nd Z Z (by decide) Z Z (Qa Qd (Qa (Qq QF Z O.len yaK (Qa (pv 8) Qc)) Qc)) Z)
   sw)),?_⟩
 intro D H1 y0 y1 y2 y5 y6 y7 y8 y9 At im lw Go GE cF AT rc rr t Y first W N ac tail sq Ee hsz ce lv FM kk;have hx:=Qi Y;refine⟨_,Z,rr,_,Z,sq,Z,_,_,Z,_,_,Z,_,_,Z,_,_,Z,_,_,Z,Z,?_⟩;refine⟨_,Z,tx Y,Z,by lia,_,_,Z,?_⟩;rw[hx];exact h2 D H1 y0 y1 y2 y5 y6 y7 cF AT rc rr t Y first W N ac tail sq Ee hsz ce lv FM kk
def yx(K:Frag):Sp:=λvs H Q _=>∃(q:Addr)(x:Bx)(t:List Nat),vs=[.ref q]/\zW H q x t/\jb x t/\kd x≠1/\ox H (Kt x t) Q
theorem WE(F:az K "_law_amount_of" "_law_amount_of" Qw f fd)(O:Own mg)(OE:mg "enumerate"=none)(hU:Def P w K mg M 2 "_law_edit" ["_law_parts","_law_amount"] (ZY K)):
  af P w K mg M (ak P w) 3 f fd ["_law_one"] (yx K):=by
 refine okN F Qv (λvs H Q E h=>?_) (λad A L s H vs Q E hr h=>?_)
 ·obtain⟨q,x,t,rfl,_⟩:=h;rfl
 ·obtain⟨q,x,t,rfl,bh,bg,hk,kk⟩:=h;obtain⟨u5,GW,h5⟩:=Tx (P:=P) (w:=w) (K:=K) (M:=M) (f:=f) (L:=L) (H:=H) (E:=E) O OE hU hr;obtain⟨u4,GX,h4⟩:=Tr (P:=P) (w:=w) (K:=K) (M:=M) (f:=f) (L:=L) (H:=H) (E:=E) O hr GW;obtain⟨u3,sw,h3⟩:=Tp (P:=P) (w:=w) (K:=K) (M:=M) (f:=f) (L:=L) (H:=H) (E:=E) O OE hU hr GX;refine⟨_,(Qb (Jc (pv 0) (QY Z (Qh (Y' 1 Qv.nd) (Qh (Y' 2 Qv.nd) (Qh (Y' 3 Qv.nd) (Qh (Y' 4 Qv.nd) QE))))))
   sw),?_⟩
  cases x with
  |num sg a b=>
   obtain⟨rr,g1,g2⟩:=bh;obtain⟨ha,hb,Op,ce,lv⟩:=bg;refine⟨_,Z,q,_,Z,ai.of g1,Z,_,_,Z,_,_,Z,_,_,Z,_,_,Z,Z,?_⟩;refine h3 _ _ _ _ _ _ _ _ _ _ _ _ _ _ _ _ _ _ 2 t 0 (by decide) (.inr (by decide)) lv (λz=>absurd z (by decide)) λ_=>?_;exact h4 _ _ _ _ _ _ _ _ _ _ _ _ _ _ _ _ _ _ 2 t sg a b (by decide) lv (λ_=>⟨rr,Z,ai.of g2,by lia,by lia,ce,kk⟩) (λz=>absurd Z z)
  |aR Y first W N ac tail=>
   obtain⟨rr,g1,g2⟩:=bh;obtain⟨Ee,hsz,ce,lv,FM⟩:=bg;refine⟨_,Z,q,_,Z,ai.of g1,Z,_,_,Z,_,_,Z,_,_,Z,_,_,Z,Z,?_⟩;refine h3 _ _ _ _ _ _ _ _ _ _ _ _ _ _ _ _ _ _ 3 t 0 (by decide) (.inr (by decide)) lv (λz=>absurd z (by decide)) λ_=>?_;refine h4 _ _ _ _ _ _ _ _ _ _ _ _ _ _ _ _ _ _ 3 t false 0 0 (by decide) lv (λz=>absurd z (by decide)) λ_=>?_;exact h5 _ _ _ _ _ _ _ _ _ _ _ _ _ _ _ _ _ _ rr t Y first W N ac tail (ai.of g2) Ee hsz ce lv FM kk
  |aG n=>exact absurd rfl hk
  |txt n=>
   obtain⟨h1,h8,ce,lv⟩:=bg;refine⟨_,Z,q,_,Z,ai.of bh,Z,_,_,Z,_,_,Z,_,_,Z,_,_,Z,Z,?_⟩;exact h3 _ _ _ _ _ _ _ _ _ _ _ _ _ _ _ _ _ _ 0 t n (by decide) (.inl (by lia)) lv (λ_=>kk) (λz=>absurd Z z)
end
def zX(H:Hp):Bx->V->Prop
 | .num s a b,v=>∃rr,v=.ref rr/\H rr=some (.tup [.bl s,.int (a:Nat),.int (b:Nat)])
 | .aR Y first W N ac tail,v=>∃rr,v=.ref rr/\H rr=some (.tup [tv Y,tv [first],tv (W++N),tv ac,tv tail])
 | .aG _,v=>v=.aw
 | .txt _,v=>v=.aw
theorem zX.same{v:V}(h:zX H x v)(S:Qu H H'):zX H' x v:=by
 cases x with
 |num s a b=>obtain⟨rr,e,g⟩:=h;exact⟨rr,e,S _ _ g⟩
 |aR Y first W N ac tail=>obtain⟨rr,e,g⟩:=h;exact⟨rr,e,S _ _ g⟩
 |aG n=>exact h
 |txt n=>exact h
theorem zW.parts(h:zW H q x t):∃v,H q=some (.tup [tv (sO x),.str (kindS (kd x)),v,tv t])/\zX H x v:=by
 cases x with
 |num s a b=>obtain⟨rr,g1,g2⟩:=h;exact⟨_,g1,rr,Z,g2⟩
 |aR Y first W N ac tail=>obtain⟨rr,g1,g2⟩:=h;exact⟨_,g1,rr,Z,g2⟩
 |aG n=>exact⟨_,h,Z⟩
 |txt n=>exact⟨_,h,Z⟩
theorem zW.same{t:List Nat}(h:zW H q x t)(S:Qu H H'):zW H' q x t:=by
 cases x with
 |num s a b=>obtain⟨rr,g1,g2⟩:=h;exact⟨rr,S _ _ g1,S _ _ g2⟩
 |aR Y first W N ac tail=>obtain⟨rr,g1,g2⟩:=h;exact⟨rr,S _ _ g1,S _ _ g2⟩
 |aG n=>exact S _ _ h
 |txt n=>exact S _ _ h
theorem jb.len{x:Bx}{t:List Nat}(h:jb x t):t.length<=61/\(∀c∈t,c<128)/\1<=t.length/\(kd x<=1->t.length=sz x):=by
 cases x with
 |num s a b=>obtain⟨h1,h2,h3,h4,h5⟩:=h;exact⟨by lia,h5,by lia,λz=>absurd z (by show ¬ 2<=1;decide)⟩
 |aR Y first W N ac tail=>obtain⟨h1,h2,h3,h4,h5⟩:=h;exact⟨by rw[h3];exact Ki h2,h4,by rw[h3];exact jW h1,λz=>absurd z (by show ¬ 3<=1;decide)⟩
 |aG n=>obtain⟨h1,h2,h3,h4⟩:=h;exact⟨by lia,h4,by lia,λ_=>h3⟩
 |txt n=>obtain⟨h1,h2,h3,h4⟩:=h;exact⟨by lia,h4,by lia,λ_=>h3⟩
theorem jb.at{x:Bx}{t:List Nat}(h:jb x t):zZ (sO x) x/\(sO x).length<=61:=by
 cases x with
 |num s a b=>obtain⟨h1,h2,h3,h4,h5⟩:=h;exact⟨⟨(OP s a b h1 h2 h3).1,by lia,by lia⟩,SG s a b h1 h2⟩
 |aR Y first W N ac tail=>obtain⟨h1,h2,h3,h4,h5⟩:=h;exact⟨⟨h1,h2,Z⟩,Ki h2⟩
 |aG n=>obtain⟨h1,h2,h3,h4⟩:=h;have p:=Ln (c:=65) (n:=n) (.inr Z) (by lia) (by lia);exact⟨⟨_,_,Z,p.1,p.2,by lia⟩,by show(replicate n 65).length<=61;rw[lN];lia⟩
 |txt n=>obtain⟨h1,h2,h3,h4⟩:=h;have p:=Ln (c:=88) (n:=n) (.inl Z) (by lia) (by lia);exact⟨⟨_,_,Z,p.1,p.2,by lia⟩,by show(replicate n 88).length<=61;rw[lN];lia⟩
theorem Tz(G:jb x t)(h:Kt x t=some (u,o)):u.natAbs<10^13/\o<=18:=by
 cases x with
 |num s a b=>
  obtain⟨h1,h2,h3,h4,h5⟩:=G
  by_cases z:VH s a b t
  ·have e:some (Jb s t,b)=some (u,o):=by rw[←h];exact(yaf z).symm
   have hv:=XQ z.2;rw[Kj,z.1]at hv;have TB:NumText.digitsVal (Jk s t)<10^13:=yad hv (yat (by decide) (by lia));have hu:(Jb s t).natAbs<10^13:=by unfold Jb;split<;>lia
   cases e;exact⟨hu,by lia⟩
  ·have e:Kt (.num s a b) t=none:=yac z;rw[e]at h;cases h
 |aR Y first W N ac tail=>
  rw[Wd]at h;obtain⟨v,hv,e⟩:=yaS.mp h;cases e;have hm:=WA G.1;have h1:dJ Y (W++N++Qm ac) t<10^12:=by
   refine yad (XQ (VO _ _)) (yat (by decide) ?_);exact yas (W6 _ _) hm
  have hb:=G.1.small;refine⟨?_,by lia⟩;unfold og at hv
  split at hv
  ·cases hv;lia
  ·split at hv
   ·cases hv;lia
   ·cases hv
 |aG n=>cases h
 |txt n=>
  obtain⟨h1,h2,h3,h4⟩:=G
  by_cases z:zS (sp t)
  ·have e:some (((NumText.digitsVal (sp t):Nat):Int),0)=some (u,o):=by rw[←h];exact(yaf z).symm
   have hv:=XQ z.2.1;have hl:=wf t;have TB:NumText.digitsVal (sp t)<10^13:=yad hv (yat (by decide) (by lia));cases e;exact⟨by lia,by decide⟩
  ·have e:Kt (.txt n) t=none:=yac z;rw[e]at h;cases h
noncomputable def AI:Rs->List V
 | .ok t=>[.str "told",tv t]
 | .er 5=>[.str "no figures"]
 | .er 6=>[.str "no letters"]
 | .er _=>[.str "no move"]
theorem TC:∀k≤3,(if false=true then !dF (V.str (kindS k)) [.str "number",.str "edited"]else dF (V.str (kindS k)) [.str "number",.str "edited"])=decide (2<=k):=by decide+kernel
theorem TF:∀k≤3,(if false=true then !dF (V.str (kindS k)) [.str "text",.str "letters"]else dF (V.str (kindS k)) [.str "text",.str "letters"])=decide (k<=1):=by decide+kernel
theorem TH:∀k≤3,(if false=true then !dF (V.str (kindS k)) [.str "text",.str "letters",.str "edited"]else dF (V.str (kindS k)) [.str "text",.str "letters",.str "edited"])=decide (k≠2):=by decide+kernel
theorem wy{K:Frag}{i k:Nat}{H:Hp}(hσ:σ[i]? =some (some (.str (kindS k))))(hk:k<=3)(h:∀H',Qu H H'->R (decide (2<=k)) H'):KY (ba (iS K false) (ZB i) (Dg (Jp (tC (.str "number")) (Jp (tC (.str "edited")) WI)))) σ H R:=by
 refine⟨_,hσ,by show 2<=sizeLine;decide,λp hp=>⟨p,_,Z,.inr (ai.of Qe),Z,Z,_,Z,?_⟩⟩;rw[TC k hk];exact h _ (Qu.new hp)
theorem TJ{K:Frag}{i k:Nat}{H:Hp}(hσ:σ[i]? =some (some (.str (kindS k))))(hk:k<=3)(h:∀H',Qu H H'->R (decide (k<=1)) H'):KY (ba (iS K false) (ZB i) (Dg (Jp (tC (.str "text")) (Jp (tC (.str "letters")) WI)))) σ H R:=by
 refine⟨_,hσ,by show 2<=sizeLine;decide,λp hp=>⟨p,_,Z,.inr (ai.of Qe),Z,Z,_,Z,?_⟩⟩;rw[TF k hk];exact h _ (Qu.new hp)
theorem yy{K:Frag}{i k:Nat}{H:Hp}(hσ:σ[i]? =some (some (.str (kindS k))))(hk:k<=3)(h:∀H',Qu H H'->R (decide (k≠2)) H'):KY (ba (iS K false) (ZB i) (Dg (Jp (tC (.str "text")) (Jp (tC (.str "letters")) (Jp (tC (.str "edited")) WI))))) σ H R:=by
 refine⟨_,hσ,by show 3<=sizeLine;decide,λp hp=>⟨p,_,Z,.inr (ai.of Qe),Z,Z,_,Z,?_⟩⟩;rw[TH k hk];exact h _ (Qu.new hp)
theorem X7(m:Nat)(hm:m<=3)(hz:V.str z=V.str (kindS m))(hσ:σ[i]? =some (some (.str (kindS k))))(hk:k<=3)(h:R (decide (k=m)) H):KY (ba Em (ZB i) (tC (.str z))) σ H R:=by
 refine⟨_,hσ,Z,_,Z,?_⟩;rw[hz,JQ _ hk m hm];exact h
theorem Ub:∀a≤3,∀b≤3,wE a b= !(decide (b=1)&&decide (2<=a)||decide (a=1)&&decide (2<=b)):=by decide
noncomputable abbrev NM:List Str:=["_law_one","_law_two","_law_right_here","_law_line_here","_law_kind","_law_room_so","_law_content_here","_law_other_here","_law_there","_law_other_room","_law_old","_law_found","_law_bad","_law_amount","_law_figures"]
def sT(H:Hp)(r:Rs)(R:VK):Prop:=∀p H',Qu H H'->H p=none->H' p=some (.tup (AI r))->R (.ref p) H'
theorem sT.step{H H1:Hp}{r:Rs}{R:VK}(h:sT H r R)(S:Qu H H1):sT H1 r R:=λp H' S' hp g=>h p H' (S.trans S') (JX S hp) g
section
variable {P:Program}{w:World}{K:Frag}{mg:Str->Option Value}{M:Heap}{f:Addr}{fd:FuncData}{tk:Nat->Tok}
theorem TK{ad:Value}{L:List Env}(hr:ao 3 (A.deeper (envOfC "_law_moved" (Qf QS) s.heap.objs.size f ad)))
  (sw:aQ (Z2 (ak P w) P w K mg M NM "_law_moved" (Qf QS) f ad A L s H E).bA ((QI QS).drop 4) u3):
  ∃u2,aQ (Z2 (ak P w) P w K mg M NM "_law_moved" (Qf QS) f ad A L s H E).bA ((QI QS).drop 2) u2/\
   ∀(D:Ends)(H1:Hp)(y0 y1 y2 y3 y7 y9 At im lw Go GE:Option V)(x y:Bx)(v5:V)(t:List Nat)(b:Bool),
    zX H1 x v5->sT H1 (bD x y b t) D.rt->
    (∀H',Qu H1 H'->wE (kd x) (kd y)=true->(∀s a bb,x=.num s a bb->kd y=0->bb=0)->u3 D [y0,y1,y2,y3,some (.str (kindS (kd x))),some v5,some (tv t),y7,some (.str (kindS (kd y))),y9,At,im,lw,Go,GE] H')->
    u2 D [y0,y1,y2,y3,some (.str (kindS (kd x))),some v5,some (tv t),y7,some (.str (kindS (kd y))),y9,At,im,lw,Go,GE] H1:=by
 have hz:=zza
 refine⟨_,(Qb (QL (PW.pt (Xa (PW.pt (Je (Ql Q3 (pv 8) Qd (Qo _)) (Q6 (Ql Xo (pv 4) (QG (Qa Qd (Qa Qd Qc))) (by with_unfolding_all rfl))))) (Zf (PW.pt (Je (Ql Q3 (pv 4) Qd (Qo _)) (Q6 (Ql Xo (pv 8) (QG (Qa Qd (Qa Qd Qc))) (by with_unfolding_all rfl)))))))) (Qg (Qr (QG (Qa Qd Qc)))) Qs)
   (Qb (QL (PW.pt (Je (Ql Q3 (pv 4) Qd (Qo _)) (Je (Ql Q3 (pv 8) Qd (Qo _)) (Q6 (Ql KU (QN Jd (pv 5) Qj (λ_ _=>rfl)) Qj (Qo _)))))) (Qg (Qr (QG (Qa Qd Qc)))) Qs)
   sw)),?_⟩
 intro D H1 y0 y1 y2 y3 y7 y9 At im lw Go GE x y v5 t b rv k k3;have cX:=Kl x;have dw:=Kl y;have hg:=Ub _ cX _ dw;dsimp only[Jz,Wi,Wg,qf];refine JN (λσ' H'=>σ'=[y0,y1,y2,y3,some (.str (kindS (kd x))),some v5,some (tv t),y7,some (.str (kindS (kd y))),y9,At,im,lw,Go,GE]/\Qu H1 H'/\wE (kd x) (kd y)=true) ?_ (λrest=>?_);rotate_left
 ·have no:∀H',Qu H1 H'->wE (kd x) (kd y)=false->∀p,H' p=none->D.rt (.ref p) (upd H' p (.tup [.str "no move"])):=λH' S z p hp=>k p _ (S.trans (Qu.new hp)) (JX S hp) (by rw[Qe];unfold bD;rw[yaf z];rfl);dsimp only[Dc,CY,Ht];refine X7 (k:=kd y) 1 (by decide) rfl rfl dw ?_;refine aF (λz=>?_) (λz=>?_)
  ·have h1:=yap z;refine wy (k:=kd x) rfl cX λH2 S2=>?_;refine aF (λz2=>?_) (λz2=>?_)
   ·have h2:=yap z2;exact QX ⟨bK,no _ S2 (by rw[hg,ly h1,ly h2];rfl)⟩
   ·have h2:=yav z2;refine X7 (k:=kd x) 1 (by decide) rfl rfl cX ?_;refine aF (λz3=>?_) (λz3=>QQ (rest _ _ ⟨Z,S2,by rw[hg,lx h2,z3];simp⟩));refine wy (k:=kd y) rfl dw λH3 S3=>?_;rw[lx (show ¬ 2<=kd y by lia)];exact QQ (rest _ _ ⟨Z,S2.trans S3,by rw[hg,lx h2,lx (show ¬ 2<=kd y by lia)];simp⟩)
  ·have h1:=yav z;refine QQ ?_;refine X7 (k:=kd x) 1 (by decide) rfl rfl cX ?_;refine aF (λz3=>?_) (λz3=>QQ (rest _ _ ⟨Z,Qu.refl _,by rw[hg,z,z3];rfl⟩));refine wy (k:=kd y) rfl dw λH3 S3=>?_;refine aF (λz4=>?_) (λz4=>rest _ _ ⟨Z,S3,by rw[hg,z,z4];simp⟩);exact⟨bK,no _ S3 (by rw[hg,z,z3,z4];rfl)⟩
 rintro σ' H' ⟨rfl,S,dz⟩;have k':=k.step S;have TL:=rv.same S;refine X7 (k:=kd x) 2 (by decide) rfl rfl cX ?_;refine aF (λz=>?_) (λz=>QQ (k3 _ S dz (λs a bb e _=>by rw[e]at z;exact absurd Z (yav z))));refine X7 (k:=kd y) 0 (by decide) rfl rfl dw ?_;refine aF (λz2=>?_) (λz2=>QQ (k3 _ S dz (λs a bb e h=>absurd h (yav z2))));have gt:=yap z;have CJ:=yap z2;cases x with
 |num sg a bb=>
  obtain⟨rr,rfl,sU⟩:=TL;refine⟨_,Z,rr,_,_,_,Z,Z,ai.of sU,Z,_,_,Z,Z,_,Z,?_⟩
  by_cases hb:0<bb
  ·rw[ly (show((bb:Nat):Int)>0 by lia)];refine QX ⟨bK,λp hp=>k' p _ (Qu.new hp) hp ?_⟩;rw[Qe];unfold bD;rw[yac (by rw[dz];decide),yac (by lia)];have e:b9 (.num sg a bb) t=.er 7:=yaf hb;rw[e];rfl
  ·rw[lx (show ¬ ((bb:Nat):Int)>0 by lia)];exact QQ (k3 _ S dz (λs a b' e _=>by cases e;lia))
 |aR Y first W N ac tail=>cases gt
 |aG n=>cases gt
 |txt n=>cases gt
end
end Lw
namespace L2
open PySem PySem.Spec PyProof.Rows
open Builtin Builtin.Str
open AutoSeq1 (wpAny_loadPart')in
open AutoSeq1 (wpAny_loadPart')
section
theorem Wf:aS X (compareOp .LtE) (λx y H Q=>∃i j,x=.str i/\y=.str j/\Q (.bl (!decide (j.cps.toList<i.cps.toList))) H):=by
 intro U s σ H x y v u Q I rx ry h;obtain⟨i,j,rfl,rfl,q⟩:=h;obtain⟨t,rfl⟩:=rx;obtain⟨t',rfl⟩:=ry;exact PySem.P.le_str (Jo I q Z)
end
end L2
namespace Lw
open PySem PySem.Spec PyProof.Rows L2 aW aK bS aZ sE
open Builtin Builtin.Str StrLaws
noncomputable def fA(c:Nat):Bool:= !bT c
theorem TM(l:List Nat):l.any fA= !l.all bT:=by
 induction l with
 |nil=>rfl
 |cons c r ih=>rw[ycj,ydg,ih,Bool.not_and];rfl
theorem Lv(c d:Nat):(!decide (([d]:List Nat)<[c]))=decide (c<=d):=by
 have:(([d]:List Nat)<[c])↔d<c:=by simp[List.cons_lt_cons_iff]
 rw[ydZ.mpr this, ←decide_not,ydZ];lia
theorem TN:("a":Str).cps.toList=[97]:=by decide+kernel
theorem TQ:("z":Str).cps.toList=[122]:=by decide+kernel
theorem TR:("A":Str).cps.toList=[65]:=by decide+kernel
theorem TU:("Z":Str).cps.toList=[90]:=by decide+kernel
abbrev AJ:V->V->Hp->VK->Prop:=λx y H Q=>∃i j,x=.str i/\y=.str j/\Q (.bl (!decide (j.cps.toList<i.cps.toList))) H
theorem jZ(hσ:σ[1]? =some (some (tv [c])))(ea:a.cps.toList=[la])(ez:z.cps.toList=[lz])(h:R (decide (la<=c)&&decide (c<=lz)) H):KY (jk AJ AJ (tC (.str a)) (ZB 1) (tC (.str z))) σ H R:=by
 refine⟨_,hσ,_,_,Z,Z,_,Z,?_⟩;rw[Jt,ea,Lv];cases g:decide (la<=c)with
 |false=>
  rw[g,yct]at h;exact QQ ⟨_,Z,h⟩
 |true=>
  rw[g,ydR]at h;refine QX ⟨_,_,Z,Z,_,Z,?_⟩;rw[Jt,ez,Lv];exact h
theorem jf(hσ:σ[1]? =some (some (tv [c])))(h:R (fA c) H):Hu (CY (KY (ba Em (ZB 1) (tC (.str " ")))) (CY (KY (jk AJ AJ (tC (.str "a")) (ZB 1) (tC (.str "z")))) (KY (jk AJ AJ (tC (.str "A")) (ZB 1) (tC (.str "Z")))))) σ H R:=by
 have e1:fA c= !(c==32||(decide (97<=c)&&decide (c<=122))||(decide (65<=c)&&decide (c<=90))):=rfl;refine⟨_,hσ,Z,_,Z,?_⟩;rw[sP,Jm]
 by_cases h0:c=32
 ·rw[ly h0];rw[e1,yck.mpr h0]at h;exact QX h
 ·rw[lx h0];rw[e1,beq_false_of_ne h0,ydh]at h;refine QQ (jZ hσ TN TQ ?_);refine aF (λg=>?_) (λg=>jZ hσ TR TU ?_)
  ·rw[g,yeF]at h;exact h
  ·rw[g,ydh]at h;exact h
section
variable {P:Program}{w:World}{K:Frag}{mg:Str->Option Value}{M:Heap}{f:Addr}{fd:FuncData}{tk:Nat->Tok}
theorem TV(O:Own mg)(gj:Def P w K mg M 1 "_law_text_in" ["_law_content_here","_law_size","_law_right_here"] ww){ad:Value}{L:List Env}(hr:ao 3 (A.deeper (envOfC "_law_moved" (Qf QS) s.heap.objs.size f ad)))
  (sw:aQ (Z2 (ak P w) P w K mg M NM "_law_moved" (Qf QS) f ad A L s H E).bA ((QI QS).drop 5) u3):
  ∃u2,aQ (Z2 (ak P w) P w K mg M NM "_law_moved" (Qf QS) f ad A L s H E).bA ((QI QS).drop 4) u2/\
   ∀(D:Ends)(H1:Hp)(y0 y1 y3 y5 y7 y9 im lw Go GE:Option V)(x y:Bx)(t t2:List Nat)(b:Bool),
    wE (kd x) (kd y)=true->jb x t->jb y t2->sT H1 (bD x y b t) D.rt->
    (kd x=2\/2<=kd y->∀H',Qu H1 H'->u3 D [y0,y1,some (.bl b),y3,some (.str (kindS (kd x))),y5,some (tv t),y7,some (.str (kindS (kd y))),y9,some (tv t2),im,lw,Go,GE] H')->
    u2 D [y0,y1,some (.bl b),y3,some (.str (kindS (kd x))),y5,some (tv t),y7,some (.str (kindS (kd y))),y9,some (tv t2),im,lw,Go,GE] H1:=by
 have hz:=zza
 refine⟨_,(Qb (QL (PW.pt (Je (Ql Xo (pv 4) (QG (Qa Qd (Qa Qd (Qa Qd Qc)))) (by with_unfolding_all rfl)) (Q6 (Ql Xo (pv 8) (QG (Qa Qd (Qa Qd Qc))) (by with_unfolding_all rfl))))) (Qb (Z' 11 QU.nd (gj.pq hr Qy (Qa (pv 6) (Qa (Qq QF Z O.len yaK (Qa (pv 10) Qc)) (Qa (pv 2) Qc)))))
   (Qb (W3 (NB:=[".0","_law_sign"]) (iy:=12) Z ⟨Z,by decide+kernel,by decide+kernel,by decide+kernel⟩ (Kq (pv 11)) (λ_ _ _=>(Qk (i:=1) (show([".0","_law_sign"]:List Str).Nodup by decide+kernel) Z (Or.inl Z))) (λ_ _ _=>(XO (Kn (PW.pt (Xa (Ql Q3 (pv 1) Qd (Qo _)) (Xa (jl Wf Wf Qd (pv 1) Qd) (Zf (jl Wf Wf Qd (pv 1) Qd)))))))) (λ_ _ _=>(pv 1)) QU.nd Z (Or.inl Z) Z)
   (Qg (Qr (QC (PW.pt (Je (Ql Q3 (pv 8) Qd (Qo _)) (Q6 (Ql (qP (n:=1) (qr hr)) (pv 12) (JG Qc) (Qo _))))) (QG (Qa Qd Qc)) (QG (Qa Qd (Qa (pv 11) Qc)))))))) Qs)
   sw),?_⟩
 intro D H1 y0 y1 y3 y5 y7 y9 im lw Go GE x y t t2 b dz G1 G2 k k3;have cX:=Kl x;have dw:=Kl y;obtain⟨l1,a1,p1,_⟩:=G1.len;obtain⟨l2,a2,p2,e2⟩:=G2.len;refine yy (k:=kd x) rfl cX λH2 S2=>?_;refine aF (λz=>?_) (λz=>QQ (k3 (.inl (by have:=yav z;lia)) _ S2));refine TJ (k:=kd y) rfl dw λH3 S3=>?_;have TD:=S2.trans S3;refine aF (λz2=>?_) (λz2=>k3 (.inr (by have:=yav z2;lia)) _ TD);have gt:=yap z;have FA:=yap z2;have k':=k.step TD;have GY:=Qi t2;refine⟨_,Z,_,Z,tx t2,Z,by lia,_,Z,t,t2.length,b,by rw[GY];rfl,by lia,by lia,?_⟩;have Fj:(aX t t2.length b).length=t2.length:=SO _ _ _;have Lx:=SQ a1 t2.length b;have em:bD x y b t=if kd y=1/\(aX t t2.length b).all bT=false then Rs.er 6 else Rs.ok (aX t t2.length b):=by
  have e0:b9 x t=.ok t:=by
   cases x with
   |num s a b=>exact absurd rfl gt
   |aR Y first W N ac tail=>rfl
   |aG n=>rfl
   |txt n=>rfl
  unfold bD;rw[yac (by rw[dz];decide),yac (by lia),e0,e2 FA]
 rw[em]at k';generalize aX t t2.length b=fo at Fj Lx k';have AH:=Qi fo;dsimp only[Jz,Wi,Wg];refine Kf (z:=tx fo) (λm vs H4=>vs=((fo.take m).filter fA).map (λc=>tv [c])/\H4=H3) (λR h=>⟨_,Z,h⟩) (J8 Lx) ⟨Z,Z⟩ (λm vs H hm⟨e,_⟩=>?_) ?_ ?_ (by show(tx fo).length<sizeLine;lia)
 ·rw[e,lu];exact yas (yaL _ _) (by rw[lI];lia)
 ·rintro m cc vs H4 hx ⟨rfl,rfl⟩;have f8:fo[m]? =some cc:=by simpa using hx
  have re:fo.take (m+1)=fo.take m++[cc]:=by rw[yaE,f8];rfl
  rw[show(⟨#[cc]⟩:Str)=tx [cc]from rfl,re,ybj,lO];dsimp only[Jz];refine jf (c:=cc) rfl ?_;refine aF (λg=>⟨_,Z,by rw[yaF,yaf g];rfl,Z⟩) (λg=>⟨by rw[yaF,yac (by rw[g];decide)];simp,Z⟩)
 ·rintro vs H4 ⟨rfl,rfl⟩ q hq;rw[yaq (show fo.length<=(tx fo).cps.size by simp)];have S5:=Qu.new (o:=.lst ((fo.filter fA).map (λc=>tv [c]))) hq;have g5:upd H4 q (.lst ((fo.filter fA).map (λc=>tv [c]))) q=some (.lst ((fo.filter fA).map (λc=>tv [c]))):=Qe;have k5:=k'.step S5;generalize upd H4 q (.lst ((fo.filter fA).map (λc=>tv [c])))=H5 at k5 g5;refine X7 (k:=kd y) 1 (by decide) rfl rfl dw ?_;have told:∀H',Qu H5 H'->¬ (kd y=1/\fo.all bT=false)->∀p,H' p=none->D.rt (.ref p) (upd H' p (.tup [.str "told",tv fo])):=λH' S z p hp=>(k5.step S) p _ (Qu.new hp) hp (by rw[Qe,yac z];rfl);refine aF (λz=>?_) (λz=>QQ ⟨_,Z,bw,told _ (Qu.refl _) (λq=>absurd q.1 (yav z))⟩);refine⟨_,Z,Aj,λp hp=>⟨q,p,_,[], !fo.all bT,Z,Z,ay.of (Qu.new hp _ _ g5),ay.of Qe,?_,_,Z,?_⟩⟩
  ·rw[←TM];cases g:fo.any fA with
   |false=>
    have e:fo.filter fA=[]:=yed.mpr λx hx z=>(ybL.mp g x hx) z;rw[e];exact .inl ⟨.nil,Z⟩
   |true=>
    refine .inr ⟨λz=>?_,Z⟩;obtain⟨x,hx,hb⟩:=ydY.mp g;have:x∈fo.filter fA:=ydn.mpr ⟨hx,hb⟩;rw[lu]at z;rw[yaH.mp z]at this;cases this
  ·have S6:=Qu.new (o:=.lst []) hp;refine aF (λg=>?_) (λg=>⟨_,Z,bw,told _ S6 (λq=>by rw[q.2]at g;cases g)⟩);have hL:fo.all bT=false:=by cases q:fo.all bT with|false=>rfl|true=>rw[q]at g;cases g
   exact⟨bK,λp2 ii=>(k5.step S6) p2 _ (Qu.new ii) ii (by rw[Qe,yaf ⟨yap z,hL⟩];rfl)⟩
end
theorem TX(h:n<10^k)(h1:1<=k)(h2:k<=20):(replicate 20 48++dec n).drop ((replicate 20 48++dec n).length-k)=pad n k:=by
 have hl:=dec_lt h h1;unfold pad;rw[lq,lN,List.drop_append,lN,List.drop_replicate];rw[show 20+(dec n).length-k-20=0 by lia,show 20-(20+(dec n).length-k)=k-(dec n).length by lia];rfl
section
variable {P:Program}{w:World}{K:Frag}{mg:Str->Option Value}{M:Heap}{f:Addr}{fd:FuncData}{tk:Nat->Tok}
theorem TY(O:Own mg)(gC:Def P w K mg M 3 "_law_amount_of" ["_law_one"] (yx K))(gj:Def P w K mg M 1 "_law_text_in" ["_law_content_here","_law_size","_law_right_here"] ww)(hZ:Def P w K mg M 1 "_law_content" ["_law_shows","_law_before","_law_behind","_law_amount"] (WD K))(hU:Def P w K mg M 2 "_law_edit" ["_law_parts","_law_amount"] (ZY K)){ad:Value}{L:List Env}(hr:ao 3 (A.deeper (envOfC "_law_moved" (Qf QS) s.heap.objs.size f ad))):
  ∃u2,aQ (Z2 (ak P w) P w K mg M NM "_law_moved" (Qf QS) f ad A L s H E).bA ((QI QS).drop 5) u2/\
   ∀(D:Ends)(H1:Hp)(y1 y3 y5 y7 im lw Go GE:Option V)(q1:Addr)(x y:Bx)(v9:V)(t t2:List Nat)(b:Bool),
    wE (kd x) (kd y)=true->(∀s a bb,x=.num s a bb->kd y=0->bb=0)->kd x=2\/2<=kd y->zW H1 q1 x t->jb x t->zX H1 y v9->jb y t2->sT H1 (bD x y b t) D.rt->
    u2 D [some (.ref q1),y1,some (.bl b),y3,some (.str (kindS (kd x))),y5,some (tv t),y7,some (.str (kindS (kd y))),some v9,some (tv t2),im,lw,Go,GE] H1:=by
 have hz:=zza
 refine⟨_,(Qb (Z' 13 QU.nd (gC.pq hr Qy (Qa (pv 0) Qc)))
   (Qb (QL (Z0 (Km (pv 13))) (Qg (Qr (QG (Qa Qd Qc)))) Qs)
   (Qb (QL (Ql Q3 (pv 8) Qd (Qo _)) (Qb (Z' 14 QU.nd (QT JT (Qt Qp (Qt QB Qd Qj) (Q9 Zc Z O.str yep (Qa (Qq ZH Z O.abs ydE (Qa (QN Mn (pv 13) Qj (λ_ _=>rfl)) Qc)) Qc))) (QV (Qt Zg Qj (Qq QF Z O.len yaK (Qa (pv 6) Qc)))) Jl))
   (Qg (Qr (QG (Qa Qd (Qa (gj.pq hr Qy (Qa (pv 14) (Qa (Qq QF Z O.len yaK (Qa (pv 10) Qc)) (Qa (pv 2) Qc)))) Qc)))))) Qs)
   (Qb (QL (Ql Q3 (pv 8) Qd (Qo _)) (Qg (Qr (QG (Qa Qd (Qa (hZ.pq hr Qy (Qa (QN Jd (pv 9) Qj (λ_ _=>rfl)) (Qa (QN Jd (pv 9) Qj (λ_ _=>rfl)) (Qa (QN Jd (pv 9) Qj (λ_ _=>rfl)) (Qa (pv 13) Qc))))) Qc))))) Qs)
   (Qg (Qr (QG (Qa Qd (Qa (hU.pq hr Qy (Qa (pv 9) (Qa (pv 13) Qc))) Qc))))))))),?_⟩
 intro D H1 y1 y3 y5 y7 im lw Go GE q1 x y v9 t t2 b dz h0 DY bh G1 rv G2 k;have cX:=Kl x;have dw:=Kl y;obtain⟨l1,a1,p1,_⟩:=G1.len;obtain⟨l2,a2,p2,e2⟩:=G2.len;have TZ:kd x≠1:=λz=>by
  have hg:=Ub _ cX _ dw;rcases DY with q|q
  ·lia
  ·rw[dz,z,ly q]at hg;simp at hg
 have oh:kd y≠1:=λz=>by
  have hg:=Ub _ cX _ dw;rcases DY with q|q
  ·rw[dz,z,q]at hg;simp at hg
  ·lia
 have AB:bD x y b t=if 2<=kd y then(match Kt x t with|none=>Rs.er 5|some (u,o)=>Rs.ok (AA y u o))else match b9 x t with
   | .er k=>Rs.er k
   | .ok m=>if kd y=1/\(aX m (sz y) b).all bT=false then Rs.er 6 else Rs.ok (aX m (sz y) b):=by
  unfold bD;exact yac (by rw[dz];decide)
 have et:kd y=0->∃sg a,x=.num sg a 0/\b9 x t=match Kt x t with|none=>Rs.er 5|some (u,_)=>Rs.ok (pad u.natAbs a):=λhy=>by
  have gt:kd x=2:=by lia
  cases x with
  |num sg a bb=>
   have hb:=h0 sg a bb rfl hy;subst hb;exact⟨sg,a,Z,Z⟩
  |aR Y first W N ac tail=>cases gt
  |aG n=>cases gt
  |txt n=>cases gt
 refine⟨_,Z,q1,x,t,Z,bh,G1,TZ,λe H2 S2=>?_,λu o e p H2 S2 hp g=>?_⟩
 ·have k2:=k.step S2;refine⟨_,Z,_,Z,?_⟩;refine QX ⟨bK,λp hp=>k2 p _ (Qu.new hp) hp ?_⟩;rw[Qe,AB]
  by_cases h2:2<=kd y
  ·rw[yaf h2,e];rfl
  ·obtain⟨sg,a,_,e3⟩:=et (by lia);rw[yac h2,e3,e];rfl
 ·have k2:=k.step S2;have DZ:=rv.same S2;obtain⟨dt,CK⟩:=Tz G1 e;refine⟨_,Z,_,Z,?_⟩;refine QQ ?_;refine X7 (k:=kd y) 0 (by decide) rfl rfl dw ?_
  by_cases CJ:kd y=0
  ·rw[ly CJ];obtain⟨sg,a,ex,e3⟩:=et CJ;have em:bD x y b t=Rs.ok (aX (pad u.natAbs a) t2.length b):=by
    rw[AB,yac (by lia),e3,e];show(if kd y=1/\(aX (pad u.natAbs a) (sz y) b).all bT=false then Rs.er 6 else Rs.ok (aX (pad u.natAbs a) (sz y) b))=_;rw[yac (λz=>oh z.1),e2 (by lia)]
   rw[em]at k2;have hG:a<6/\(0:Nat)<4/\a+0≠0/\t.length=a+0/\∀x∈t,x<128:=by rw[ex]at G1;exact G1
   have GZ:u.natAbs<10^a:=by
    rw[ex]at e
    by_cases z:VH sg a 0 t
    ·have e5:some (Jb sg t,0)=some (u,o):=by rw[←e];exact(yaf z).symm
     have hv:=XQ z.2;rw[Kj,z.1]at hv;have hu:(Jb sg t).natAbs<10^a:=by unfold Jb;split<;>simp at hv<;>lia
     cases e5;exact hu
    ·have e5:Kt (.num sg a 0) t=none:=yac z;rw[e5]at e;cases e
   have lm:=dec_lt GZ (by lia);have hdx:=Qi (dec u.natAbs);have iF:=Qi t;have GY:=Qi t2;refine QX ⟨"0",20,Z,Z,by decide,by decide,by decide,?_⟩;rw[show(20:Int).toNat=20 from rfl,DT,J7];have T6:=Qi (replicate 20 48);rw[lN]at T6;refine⟨_,Z,.inr (.inl ⟨p,_,_,_,Z,Z,ai.of g,Z,u,Z,_,Z,?_,?_⟩)⟩
   ·rw[Wz,yaR]
    by_cases h9:u.natAbs=0
    ·rw[h9];decide
    ·exact(ydr h9).mpr (yad dt (yas (by decide:10^13<=2^100) (yat (by decide) (by decide))))
   rw[Wz,aW.XM];refine⟨_,_,Z,Z,by lia,?_⟩;rw[QM];have Ly:=Qi (replicate 20 48++dec u.natAbs);rw[lq,lN]at Ly;refine⟨_,Z,tx t,Z,by lia,_,_,Z,Z,_,Z,_,Z,by rw[Ly];lia,?_⟩;rw[show(0:Int)-((tx t).length:Nat)= -((a:Nat):Int) by rw[iF];lia,X2 _ (by lia),TX GZ (by lia) (by lia)];have mo:(pad u.natAbs a).length=a:=Xn GZ (by lia);refine⟨_,Z,_,Z,tx t2,Z,by lia,_,Z,pad u.natAbs a,t2.length,b,by rw[GY];rfl,by lia,by lia,bw,λp2 ii=>k2 p2 _ (Qu.new ii) ii Qe⟩
  ·rw[lx CJ];refine QQ ?_;refine X7 (k:=kd y) 2 (by decide) rfl rfl dw ?_;have em:bD x y b t=Rs.ok (AA y u o):=by rw[AB,yaf (show 2<=kd y by lia),e]
   rw[em]at k2;cases y with
   |num s2 Lz b2=>
    obtain⟨rr,rfl,sU⟩:=DZ;obtain⟨ga,gb,gab,_,_⟩:=G2;rw[ly (show kd (.num s2 Lz b2)=2 from Z)];refine QX ⟨_,Z,rr,_,_,_,Z,Z,ai.of sU,Z,_,Z,rr,_,_,_,Z,Z,ai.of sU,Z,_,Z,rr,_,_,_,Z,Z,ai.of sU,Z,_,Z,s2,Lz,b2,p,u,o,Z,ai.of g,dt,CK,by lia,by lia,by lia,bw,λp2 ii=>k2 p2 _ (Qu.new ii) ii Qe⟩
   |aR Y first W N ac tail=>
    obtain⟨rr,rfl,sU⟩:=DZ;obtain⟨Ee,hsz,_⟩:=G2;rw[lx (show ¬ kd (.aR Y first W N ac tail)=2 by show ¬ 3=2;decide)];refine QQ ⟨_,Z,_,Z,rr,p,Y,first,W,N,ac,tail,u,o,Z,ai.of sU,ai.of g,Ee,hsz,dt,CK,λH3 S3=>⟨bw,λp2 ii=>(k2.step S3) p2 _ (Qu.new ii) ii Qe⟩⟩
   |aG n=>exact absurd rfl oh
   |txt n=>exact absurd rfl CJ
def jg(K:Frag):Sp:=λvs H Q _=>∃(q1 q2:Addr)(x y:Bx)(t t2:List Nat)(b:Bool),vs=[.ref q1,.ref q2,.bl b]/\zW H q1 x t/\jb x t/\zW H q2 y t2/\jb y t2/\sT H (bD x y b t) Q
theorem Uc(F:az K "_law_moved" "_law_moved" QS f fd)(O:Own mg)(gC:Def P w K mg M 3 "_law_amount_of" ["_law_one"] (yx K))(gj:Def P w K mg M 1 "_law_text_in" ["_law_content_here","_law_size","_law_right_here"] ww)(hZ:Def P w K mg M 1 "_law_content" ["_law_shows","_law_before","_law_behind","_law_amount"] (WD K))(hU:Def P w K mg M 2 "_law_edit" ["_law_parts","_law_amount"] (ZY K)):
  af P w K mg M (ak P w) 4 f fd ["_law_one","_law_two","_law_right_here"] (jg K):=by
 refine okN F QU (λvs H Q E h=>?_) (λad A L s H vs Q E hr h=>?_)
 ·obtain⟨q1,q2,x,y,t,t2,b,rfl,_⟩:=h;rfl
 ·obtain⟨q1,q2,x,y,t,t2,b,rfl,bh,G1,D0,G2,k⟩:=h;obtain⟨u5,GW,h5⟩:=TY (P:=P) (w:=w) (K:=K) (M:=M) (f:=f) (L:=L) (H:=H) (E:=E) O gC gj hZ hU hr;obtain⟨u4,GX,h4⟩:=TV (P:=P) (w:=w) (K:=K) (M:=M) (f:=f) (L:=L) (H:=H) (E:=E) O gj hr GW;obtain⟨u3,sw,h3⟩:=TK (P:=P) (w:=w) (K:=K) (M:=M) (f:=f) (L:=L) (H:=H) (E:=E) hr GX;refine⟨_,(Qb (Jc (pv 0) (QY Z (Qh (Y' 3 QU.nd) (Qh (Y' 4 QU.nd) (Qh (Y' 5 QU.nd) (Qh (Y' 6 QU.nd) QE))))))
   (Qb (Jc (pv 1) (QY Z (Qh (Y' 7 QU.nd) (Qh (Y' 8 QU.nd) (Qh (Y' 9 QU.nd) (Qh (Y' 10 QU.nd) QE))))))
   sw)),?_⟩
  obtain⟨v5,g1,rv⟩:=bh.parts;obtain⟨v9,g2,DZ⟩:=D0.parts;refine⟨_,Z,q1,_,Z,ai.of g1,Z,_,_,Z,_,_,Z,_,_,Z,_,_,Z,Z,?_⟩;refine⟨_,Z,q2,_,Z,ai.of g2,Z,_,_,Z,_,_,Z,_,_,Z,_,_,Z,Z,?_⟩;refine h3 _ _ _ _ _ _ _ _ _ _ _ _ _ x y v5 t b rv k λH1 S1 dz h0=>?_;refine h4 _ _ _ _ _ _ _ _ _ _ _ _ x y t t2 b dz G1 G2 (k.step S1) λDY H2 S2=>?_;have AC:=S1.trans S2;exact h5 _ _ _ _ _ _ _ _ _ _ q1 x y v9 t t2 b dz h0 DY (bh.same AC) G1 (DZ.same AC) G2 (k.step AC)
end
end Lw
namespace L2
open PySem PySem.Spec PyProof.Rows
inductive cb (m:Sem (List (Str × Value))) (n:Sem (Option Value)) (v:Value) (b:List (Str × Value)):Prop where
 |mk {σ τ:Type} (g1:Option Value->Sem σ) (g2:σ->Sem τ) (g3:τ->Sem (List (Str × Value))) (h1:m=Sem.bind (Sem.bind (Sem.bind n g1) g2) g3) (h2:Sem.bind (Sem.bind (g1 (some v)) g2) g3=pure b):cb m n v b
theorem cb.binds{fd:FuncData}{args:Args}{binds:List (Str × Value)}{kd:Addr}{name:Str}(B:cb (bindArgs fd args) (nsGet kd name) v binds)(hn:s.heap.Ns kd m)(hv:m name=some v):BindsTo s fd args binds:=by
 obtain⟨g1,g2,g3,h1,h2⟩:=B;refine yb (k:=λo=>(g1 o>>=g2)>>=g3) (h1.trans ?_) hn hv h2;show(nsGet kd name>>=g1>>=g2)>>=g3=nsGet kd name>>=λo=>(g1 o>>=g2)>>=g3;rw[bind_assoc,bind_assoc]
 congr 1
 funext o
 rw[bind_assoc]
section
variable {P:Program}{w:World}{K:Frag}{mg:Str->Option Value}{M h:Heap}{x:Str}{st:Stmt}{k:Nat}{sp:Sp}
theorem aU.T7(D:aU K x st p4 (.bool b))(X:K.In h)(G:h.Ns mainGlobals mg)(ag:∀f fd,az K x x st f fd->af P w K mg M (ak P w) k f fd [p1,p2,p3,p4] sp)
  (hb:∀(kd:Addr)(doc pm:Value)(an:Option Addr)(ad ct:Value)(u1 u2 u3:Value),cb (bindArgs (fnOf x x (JS st) (QI st) (Qf st) .none (.ref kd) doc pm an ad ct) ⟨[u1,u2,u3],[]⟩) (nsGet kd p4) (.bool b) [(p1,u1),(p2,u2),(p3,u3),(p4,.bool b)]):fj P w K mg M k x [p1,p2,p3,p4] (.bl b) sp:=by
 obtain⟨f,kd,oc,od,doc,pm,an,ad,ct,mt,a,l,c,kp,n,d⟩:=D.ex;refine⟨f,_,.bool b,mg_of X G a,kp,λs us KX hl=>?_,Z,ag f _ ⟨⟨oc,od,.ref kd,doc,pm,an,ad,ct,mt,Z,l,c⟩,kp⟩⟩;have Nk:s.heap.Ns kd (s.heap.nsMap kd):=.of_isNs (isNs_of_in KX n);have h3:us.length=3:=by simpa using hl
 match us,h3 with
 |[u1,u2,u3],_=>exact(hb kd doc pm an ad ct u1 u2 u3).binds Nk (IY KX Nk d)
end
theorem T8{K:Frag}{n:Nat}(l:K.lookup N=some ⟨c,d,.dict es n,sl⟩)(h:(es.toList.all λe=>match e.key with| .str _ _=>true|_=>false)=true):nsOkIn K N=true:=by
 unfold nsOkIn;rw[l];show Array.all es _=true;rw[←Array.all_toList];exact h
structure bJ(P:Program)(w:World)(K:Frag)(mg:Str->Option Value)(M:Heap)(k:Nat)(x p1 p2 p3 p4:Str)(dv:V)(sp:Sp):Prop where
 ex:∃f fd d,mg x=some (.ref f)/\keepIn K (.ref f)=true/\(∀(s:Shared)(v1 v2 v3:Value),K.In s.heap->BindsTo s fd ⟨[],[(p1,v1),(p2,v2),(p3,v3)]⟩ [(p1,v1),(p2,v2),(p3,v3),(p4,d)])/\RelV dv d/\af P w K mg M (ak P w) k f fd [p1,p2,p3,p4] sp
section
variable {X:Cx}{k k':Nat}{x p1 p2 p3 p4:Str}{dv:V}{sp:Sp}{E:XK}{p pos k1 k2 k3:Pos}{e1 e2 e3:Expr}{t1 t2 t3:TE}
def Ud(sp:Sp)(dv:V)(E:XK)(t1 t2 t3:TE):TE:=λσ H Q=>t1 σ H λv1 H1=>t2 σ H1 λv2 H2=>t3 σ H2 λv3 H3=>sp [v1,v2,v3,dv] H3 Q E
theorem bJ.pe(D:bJ X.prog X.w X.K X.mg X.M k x p1 p2 p3 p4 dv sp)(hr:ao k' X.A)(hk:k<=k')(hg:Gl X x)(hx:Passes (ak X.prog X.w) X E)(h1:PE X e1 t1)(h2:PE X e2 t2)(h3:PE X e3 t3)
  (pi:(x==("__debug__":Str))=false:=by decide):PE X (.Call (.Name x p) [] [⟨some p1,e1,k1⟩,⟨some p2,e2,k2⟩,⟨some p3,e3,k3⟩] pos) (Ud sp dv E t1 t2 t3):=by
 obtain⟨f,fd,d,g1,g2,g3,g5,g4⟩:=D.ex;intro U s σ H Q I h;refine yaZ (XH I hg g1 ?_ pi);refine callWith_KW0 (h₀:=X.M) I.ok.mod.iN g2 rfl ?_ rfl;have hK:PK X [⟨some p1,e1,k1⟩,⟨some p2,e2,k2⟩,⟨some p3,e3,k3⟩] (Jp t1 (Jp t2 (Jp t3 WI))):=Yu h1 (Yu h2 (Yu h3 yE));refine au (hK pos U s σ H (λzs H2=>sp (zs++[dv]) H2 Q E) I h) λws s2⟨zs,H2,I2,rz,q2⟩=>⟨I2.bt,?_⟩;have T9:=g4.len _ _ _ _ q2;obtain⟨v1,v2,v3,rfl⟩:∃v1 v2 v3,zs=[v1,v2,v3]:=by
  have:zs.length=3:=by simpa using T9
  match zs,this with
  |[v1,v2,v3],_=>exact⟨v1,v2,v3,Z⟩
 obtain⟨u1,u2,u3,rfl,r1,r2,r3⟩:∃u1 u2 u3,ws=[u1,u2,u3]/\RelV v1 u1/\RelV v2 u2/\RelV v3 u3:=by
  cases rz with
  |cons a r=>
   cases r with
   |cons b r=>
    cases r with
    |cons c r=>cases r;exact⟨_,_,_,Z,a,b,c⟩
 refine ydk (ycA (g4.run X.A X.stack s2 H2 ⟨[],[(p1,u1),(p2,u2),(p3,u3)]⟩ [u1,u2,u3,d] [v1,v2,v3,dv] Q E (hr.mono hk) I2.Dh (g3 s2 u1 u2 u3 I2.bt) (.cons r1 (.cons r2 (.cons r3 (.cons g5 .nil)))) q2) λr s' hq=>?_);cases r with
 |error e=>exact hx U σ H2 s2 e s' I2 hq
 |ok fl=>
  cases fl with
  |ret u=>exact I2.after hq
  |next=>exact False.elim hq
  |brk=>exact False.elim hq
  |cont=>exact False.elim hq
end
section
variable {P:Program}{w:World}{K:Frag}{mg:Str->Option Value}{M h:Heap}{x:Str}{st:Stmt}{k:Nat}{sp:Sp}
theorem aU.U'(D:aU K x st p4 (.bool b))(X:K.In h)(G:h.Ns mainGlobals mg)(ag:∀f fd,az K x x st f fd->af P w K mg M (ak P w) k f fd [p1,p2,p3,p4] sp)
  (hb:∀(kd:Addr)(doc pm:Value)(an:Option Addr)(ad ct:Value)(u1 u2 u3:Value),cb (bindArgs (fnOf x x (JS st) (QI st) (Qf st) .none (.ref kd) doc pm an ad ct) ⟨[],[(p1,u1),(p2,u2),(p3,u3)]⟩) (nsGet kd p4) (.bool b) [(p1,u1),(p2,u2),(p3,u3),(p4,.bool b)]):bJ P w K mg M k x p1 p2 p3 p4 (.bl b) sp:=by
 obtain⟨f,kd,oc,od,doc,pm,an,ad,ct,mt,a,l,c,kp,n,d⟩:=D.ex;refine⟨f,_,.bool b,mg_of X G a,kp,λs u1 u2 u3 KX=>?_,Z,ag f _ ⟨⟨oc,od,.ref kd,doc,pm,an,ad,ct,mt,Z,l,c⟩,kp⟩⟩;have Nk:s.heap.Ns kd (s.heap.nsMap kd):=.of_isNs (isNs_of_in KX n);exact(hb kd doc pm an ad ct u1 u2 u3).binds Nk (IY KX Nk d)
end
end L2
namespace Lw
open PySem PySem.Spec PyProof.Rows L2 aW aK bS aZ sE
open Builtin Builtin.Str StrLaws
noncomputable def qq:Str:=(envOfC "law" (Qf WP) 0 0 .none).qual++"<lambda>"
def G0(Pa:Addr):Sp:=λvs H Q _=>∃(a:Addr)(ns:List Int),vs=[.ref a]/\ns.length<=63/\w8 Pa H/\(∃o,H a=some (.bO o (.lst (ns.map V.int))))/\∀H',Q (.bl true) H'
theorem V'(h:H P=some (.bQ #[])):VW H P q:=⟨#[],h,trivial,λpos cv z=>by cases z⟩
theorem W'(h:b9 x t=.er k):k=5\/k=6\/k=7:=by
 cases x with
 |num s a b=>
  have e:b9 (.num s a b) t=if 0<b then Rs.er 7 else match Kt (.num s a b) t with|none=>Rs.er 5|some (u,_)=>Rs.ok (pad u.natAbs a):=rfl
  rw[e]at h
  split at h
  ·cases h;exact .inr (.inr Z)
  ·split at h
   ·cases h;exact .inl rfl
   ·cases h
 |aR Y first W N ac tail=>cases h
 |aG n=>cases h
 |txt n=>cases h
theorem LB(h:bD x y b t=.er k):k=5\/k=6\/k=7:=by
 unfold bD at h
 split at h
 ·cases h;exact .inr (.inr Z)
 ·split at h
  ·split at h
   ·cases h;exact .inl rfl
   ·cases h
  ·split at h
   ·rename_i e;cases h;exact W' e
   ·split at h
    ·cases h;exact .inr (.inl Z)
    ·cases h
theorem j0{K:Frag}{H:Hp}{Q:VK}{ns:List Int}{cc:Int}{q:Str}{rs:Rs}(St:av H a t r Pa q ns cc)(hk:∀k,rs=.er k->k=5\/k=6\/k=7) (G5:Kind K c 5) (G6:Kind K c 6) (G7:Kind K c 7)
  (eV:∀(E:XK)(H0:Hp)(Q':VK),(∀b o,H b=some o->(∀ps,o≠ .bQ ps)->H0 b=some o)->(∀k,rs=.er k->∀H',Qu H0 H'->E (.ref (c k)) none H')->(∀l,rs=.ok l->∀H',Qu H0 H'->Q' (.str (tx l)) H')->te E σ H0 Q')
  (k:∀pw H',av H' a t r Pa q ns cc->H' pw=some (.tup (AI rs))->(∀b o,H b=some o->(∀ps,o≠ .bQ ps)->H' b=some o)->Q (.ref pw) H'):
  Dw Pa q (λσ f c' H1 Q=>H1 c'=some (Kz c' q)/\DL K c te σ H1 Q) σ H Q:=by
 refine⟨St.tab,λfl c' H1 un code T1 keep=>⟨code,λH2 S2=>eV _ _ _ (λb o e n=>S2 _ _ (St.zr keep e n)) (λi hi H3 S3=>?_) (λl hl H3 S3 pw CL=>?_)⟩⟩
 ·have G:Kind K c i/\AI (.er i)=[.str (yY i)]:=by
   rcases hk i hi with rfl|rfl|rfl
   ·exact⟨G5,Z⟩
   ·exact⟨G6,Z⟩
   ·exact⟨G7,Z⟩
  refine⟨i,Z,G.1,λex pw H4 hex S4 CL=>?_⟩;have Sx:=S2.trans (S3.trans ((Qu.new hex).trans S4));have Sp:=Qu.new (o:=.tup [.str (yY i)]) CL;exact k pw _ (((St.lam keep T1).same Sx).same Sp) (by rw[Qe,hi,G.2]) (λb o e n=>Sp _ _ (Sx _ _ (St.zr keep e n)))
 ·have Sx:=S2.trans S3;have Sp:=Qu.new (o:=.tup [.str "told",.str (tx l)]) CL;exact k pw _ (((St.lam keep T1).same Sx).same Sp) (by rw[Qe,hl];rfl) (λb o e n=>Sp _ _ (Sx _ _ (St.zr keep e n)))
theorem j4{K:Frag}{H:Hp}{Q:VK}{ns:List Int}{cc:Int}{q:Str}(i:Nat)(St:av H a t r Pa q ns cc)(G:Kind K c i)
  (eV:∀(E:XK)(H0:Hp)(Q':VK),(∀H',Qu H0 H'->E (.ref (c i)) none H')->te E σ H0 Q')
  (k:∀pw H',av H' a t r Pa q ns cc->H' pw=some (.tup [.str (yY i)])->Q (.ref pw) H'):
  Dw Pa q (λσ f c' H1 Q=>H1 c'=some (Kz c' q)/\DL K c te σ H1 Q) σ H Q:=by
 refine⟨St.tab,λfl c' H1 un code T1 keep=>⟨code,λH2 S2=>eV _ _ _ λH3 S3=>⟨i,Z,G,λex pw H4 hex S4 CL=>?_⟩⟩⟩;have Sx:=S2.trans (S3.trans ((Qu.new hex).trans S4));have Sp:=Qu.new (o:=.tup [.str (yY i)]) CL;exact k pw _ (((St.lam keep T1).same Sx).same Sp) Qe
theorem wz{K:Frag}{H:Hp}{n:Nat}(r:Rs):bE K H n (AI r) (AI r):=by
 unfold AI
 split
 ·exact .cons .str (.cons .str .nil)
 ·exact .cons .str .nil
 ·exact .cons .str .nil
 ·exact .cons .str .nil
theorem zW.keep(h:zW H q x t)(k:∀b xs,H b=some (.tup xs)->H' b=some (.tup xs)):zW H' q x t:=by
 cases x with
 |num s a b=>obtain⟨rr,g1,g2⟩:=h;exact⟨rr,k _ _ g1,k _ _ g2⟩
 |aR Y first W N ac tail=>obtain⟨rr,g1,g2⟩:=h;exact⟨rr,k _ _ g1,k _ _ g2⟩
 |aG n=>exact k _ _ h
 |txt n=>exact k _ _ h
theorem XE(hE:∀cls x H,E cls x H->E' cls x H) (hQ:∀v H,Q v H->Q' v H) (h:ZA c vs H Q E):ZA c vs H Q' E':=by
 obtain⟨t,l,l2,b,e,h1,h2,h3,h4,h5⟩:=h;refine⟨t,l,l2,b,e,h1,h2,h3,h4,?_⟩;rcases h5 with⟨p,k⟩|⟨p,q,k⟩|⟨x,y,B,B2,kE,kQ⟩
 ·exact .inl ⟨p,λH' S=>hE _ _ _ (k H' S)⟩
 ·exact .inr (.inl ⟨p,q,λH' S=>hE _ _ _ (k H' S)⟩)
 ·exact .inr (.inr ⟨x,y,B,B2,λk z H' S=>hE _ _ _ (kE k z H' S),λr z H' S=>hQ _ _ (kQ r z H' S)⟩)
theorem LC:("1":Str)=tx [49]:=by decide+kernel
theorem Xs:("Q":Str)=tx [81]:=by decide+kernel
theorem X':("9V":Str)=tx [57,86]:=by decide+kernel
theorem Qdn:("012u":Str)=tx [48,49,50,117]:=by decide+kernel
theorem QeA:("S9(3)V9":Str)=tx [83,57,40,51,41,86,57]:=by decide+kernel
theorem QeB:("-ZZ9.99":Str)=tx (QO [45] [90,90] [57] [57,57] []):=by decide+kernel
theorem edM:Ed [45] 90 [90,90] [57] [57,57] []:=⟨⟨Z,by decide,by decide⟩,.inr ⟨by decide,Z,by decide,by decide⟩,by decide,by decide,.inr ⟨1,57,by decide,Z,.inl rfl⟩,by decide,by decide,by decide,by decide,by decide,by decide⟩
theorem pQ:Q2 [81]=none:=by decide+kernel
theorem p9V:Q2 [57,86]=none:=by decide+kernel
theorem pX:Q2 [88]=some ⟨0,false,0,0⟩:=by decide+kernel
theorem Qfn:Q2 [83,57,40,51,41,86,57]=some ⟨2,true,3,1⟩:=by decide+kernel
noncomputable def LD:Rs->List Nat
 | .ok t=>t
 | .er k=>[k]
noncomputable def isOk:Rs->Bool
 | .ok _=>true
 | .er _=>false
theorem LF(h:isOk r=true):r=.ok (LD r):=by
 cases r with
 |ok t=>rfl
 |er k=>cases h
theorem LG:isOk (bD (.num true 3 1) (.aR [45] 90 [90,90] [57] [57,57] []) false [48,49,50,117])=true:=by decide+kernel
theorem Qdp:decide (V.str (tx (LD (bD (.num true 3 1) (.aR [45] 90 [90,90] [57] [57,57] []) false [48,49,50,117])))=V.str "- 12.50")=true:=by decide+kernel
section
variable {P:Program}{w:World}{K:Frag}{mg:Str->Option Value}{M:Heap}{f fh:Addr}{fd D3:FuncData}{tk:Nat->Tok}{c kr:Nat->Addr}{ca Pa:Addr}
theorem Qdq(F:oZ K "law" "law" WP f fd (.ref ca))(O:Own mg)(T:Txt K mg tk c kr)(qLa:bY mg M ca Pa)(Fh:az K "_law_heard" "_law_heard" JH fh D3)(D4:mg "_law_heard"=some (.ref fh))(AK:Binds K D3 ["_law_deed"] [])(G1:Kind K c 1)(G5:Kind K c 5)(G6:Kind K c 6)(G7:Kind K c 7)
  (gi:Def P w K mg M 1 "_law_class" ["_law_kept"] (VR K c)) (mY:Def P w K mg M 1 "_law_begun" [] qt) (hJ:Def P w K mg M 1 "_law_draw" ["_law_script","_law_town","_law_many"] (ZP K))
  (ma:Def P w K mg M 4 "_law_a_box" ["_law_script","_law_town"] (wx K)) (mZ:Def P w K mg M 4 "_law_moved" ["_law_one","_law_two","_law_right_here"] (jg K))
  (pB:fj P w K mg M 10 "move" ["content","picture","other","right"] (.bl false) (ZA c)) (pJ:bI P w K mg M 10 "move" ["content","picture","other","right"] ["right"] (ZA c)) (sB:bJ P w K mg M 10 "move" "content" "picture" "other" "right" (.bl false) (ZA c)):
  af P w K mg M (ak P w) 13 f fd ["_law_script"] (G0 Pa):=by
 refine NS F Vx (λvs H Q E h=>?_) (λA L s H vs Q E hr h=>?_)
 ·obtain⟨a,ns,rfl,_⟩:=h;rfl
 ·obtain⟨a,ns,rfl,hln,hO,hsc,k⟩:=h;have CM:∀(σ:L2.St)(H:Hp)(Q Q':VK)(E E':XK),(∀cls x H,E cls x H->E' cls x H)->(∀v H,Q v H->Q' v H)->jm (ZA c) om E (Jp (ba (qd K) (ZB 4) (tC (.int 3))) (Jp (ba (qd K) (ZB 4) (tC (.int 0))) (Jp (ba (qd K) (ZB 6) (tC (.int 0))) WI))) (Jp (ZB 5) WI) σ H Q->jm (ZA c) om E' (Jp (ba (qd K) (ZB 4) (tC (.int 3))) (Jp (ba (qd K) (ZB 4) (tC (.int 0))) (Jp (ba (qd K) (ZB 6) (tC (.int 0))) WI))) (Jp (ZB 5) WI) σ H Q':=by
   rintro σ H Q Q' E E' hE hQ ⟨v1,e1,p1,G3,i1,x1,a1,b1,c1,d1,v2,e2,p2,G4,i2,x2,a2,b2,c2,d2,v3,e3,p3,G8,i3,x3,a3,b3,c3,d3,v4,e4,sp⟩;exact⟨v1,e1,p1,G3,i1,x1,a1,b1,c1,d1,v2,e2,p2,G4,i2,x2,a2,b2,c2,d2,v3,e3,p3,G8,i3,x3,a3,b3,c3,d3,v4,e4,XE hE hQ sp⟩
  have CN:∀(σ:L2.St)(H:Hp)(Q Q':VK)(E E':XK),(∀cls x H,E cls x H->E' cls x H)->(∀v H,Q v H->Q' v H)->Ud (ZA c) (.bl false) E (ba (qd K) (ZB 4) (tC (.int 3))) (ba (qd K) (ZB 4) (tC (.int 0))) (ba (qd K) (ZB 6) (tC (.int 0))) σ H Q->Ud (ZA c) (.bl false) E' (ba (qd K) (ZB 4) (tC (.int 3))) (ba (qd K) (ZB 4) (tC (.int 0))) (ba (qd K) (ZB 6) (tC (.int 0))) σ H Q':=by
   rintro σ H Q Q' E E' hE hQ ⟨v1,e1,p1,G3,i1,x1,a1,b1,c1,d1,v2,e2,p2,G4,i2,x2,a2,b2,c2,d2,v3,e3,p3,G8,i3,x3,a3,b3,c3,d3,sp⟩;exact⟨v1,e1,p1,G3,i1,x1,a1,b1,c1,d1,v2,e2,p2,G4,i2,x2,a2,b2,c2,d2,v3,e3,p3,G8,i3,x3,a3,b3,c3,d3,XE hE hQ sp⟩
  have CO:∀(σ:L2.St)(H:Hp)(Q Q':VK)(E E':XK),(∀cls x H,E cls x H->E' cls x H)->(∀v H,Q v H->Q' v H)->Wk (ZA c) [.bl false] E (Jp (tC (.str "1")) (Jp (tC (.str "Q")) (Jp (tC (.str "X")) WI))) σ H Q->Wk (ZA c) [.bl false] E' (Jp (tC (.str "1")) (Jp (tC (.str "Q")) (Jp (tC (.str "X")) WI))) σ H Q':=λσ H Q Q' E E' hE hQ sp=>XE hE hQ sp;have CP:∀(σ:L2.St)(H:Hp)(Q Q':VK)(E E':XK),(∀cls x H,E cls x H->E' cls x H)->(∀v H,Q v H->Q' v H)->Wk (ZA c) [.bl false] E (Jp (tC (.str "1")) (Jp (tC (.str "X")) (Jp (tC (.str "9V")) WI))) σ H Q->Wk (ZA c) [.bl false] E' (Jp (tC (.str "1")) (Jp (tC (.str "X")) (Jp (tC (.str "9V")) WI))) σ H Q':=λσ H Q Q' E E' hE hQ sp=>XE hE hQ sp;refine⟨_,(W2 (o7.mk (Z' 1 Vx.nd (mY.Nx hr (by decide) Z Qy)))
   (W2 (o7.mk (Z1 yaG Z (XJ Z O.range (Qa Qj Qc)) (Y' 2 Vx.nd) (Qb (Qn (i:=4) Vx.nd Z (Or.inr Z) (ma.pq hr Qy (Qa (pv 0) (Qa (pv 1) Qc))))
   (Qb (Qn (i:=6) Vx.nd Z (Or.inr Z) (ma.pq hr Qy (Qa (pv 0) (Qa (pv 1) Qc))))
   (Qb (Qn (i:=5) Vx.nd Z (Or.inr Z) (JR Q3 (hJ.pq hr Qy (Qa (pv 0) (Qa (pv 1) (Qa Qj Qc)))) Qj (Qo _)))
   (Qb (Z' 3 Vx.nd (W7 (K0:=K) (q:=qq) Z Fh D4 AK T gi hr Z qLa Z Z Z (λ_=>rfl) Z Z Z (by decide+kernel) Z (λ_ _ _ _=>rfl) (λ_ _ _ _ _ _ _ _ SL=>(pJ.pe SL (by decide) Z (Q4 WY) (Qa (QN Jd (pv 4) Qj (λ_ _=>rfl)) (Qa (QN Jd (pv 4) Qj (λ_ _=>rfl)) (Qa (QN Jd (pv 6) Qj (λ_ _=>rfl)) Qc))) (Yu (pv 5) yE))) CM))
   (Qb (QL (Ql (jv (n:=1) (qr hr)) (pv 3) (mZ.pq hr Qy (Qa (pv 4) (Qa (pv 6) (Qa (pv 5) Qc)))) (Qo _)) (Qg (Qr WN)) Qs)
   (Qg (QL (PW.pt (Je (Kn (Q7 (pv 5) (λ_=>rfl))) (Q6 (Ql (jv (n:=1) (qr hr)) (W7 (K0:=K) (q:=qq) Z Fh D4 AK T gi hr Z qLa Z Z Z (λ_=>rfl) Z Z Z (by decide+kernel) Z (λ_ _ _ _=>rfl) (λ_ _ _ _ _ _ _ _ SL=>(sB.pe SL (by decide) Z (Q4 WY) (QN Jd (pv 4) Qj (λ_ _=>rfl)) (QN Jd (pv 4) Qj (λ_ _=>rfl)) (QN Jd (pv 6) Qj (λ_ _=>rfl)))) CN) (pv 3) (Qo _))))) (Qg (Qr WN)) Qs)))))))))
   (W2 (o7.mk (QL (Ql (jv (n:=1) (qr hr)) (W7 (K0:=K) (q:=qq) Z Fh D4 AK T gi hr Z qLa Z Z Z (λ_=>rfl) Z Z Z (by decide+kernel) Z (λ_ _ _ _=>rfl) (λ_ _ _ _ _ _ _ _ SL=>(pB.pe SL (by decide) Z (Q4 WY) (Qa Qd (Qa Qd (Qa Qd Qc))))) CO) (QG (Qa Qd Qc)) (Qo _)) (Qg (Qr WN)) Qs))
   (W2 (o7.mk (QL (Ql (jv (n:=1) (qr hr)) (W7 (K0:=K) (q:=qq) Z Fh D4 AK T gi hr Z qLa Z Z Z (λ_=>rfl) Z Z Z (by decide+kernel) Z (λ_ _ _ _=>rfl) (λ_ _ _ _ _ _ _ _ SL=>(pB.pe SL (by decide) Z (Q4 WY) (Qa Qd (Qa Qd (Qa Qd Qc))))) CP) (QG (Qa Qd Qc)) (Qo _)) (Qg (Qr WN)) Qs))
   (NR (o7.mk (Qr (JR Q3 (pB.pe hr (by decide) Z Qy (Qa Qd (Qa Qd (Qa Qd Qc)))) Qd (Qo _))))))))),?_⟩
  have hz:=zza
  refine⟨Z,λt r H1 ht di T1 S1=>?_⟩;have LH:av H1 a t r Pa qq ns 0:=⟨let ⟨o,h⟩:=hsc;⟨o,S1 _ _ h⟩,⟨[],T1⟩,(V' hO.1).same S1,hln⟩;refine⟨8,Z,by decide,by decide,XL (n:=8) (λi σ H3=>∃x2 x3 x4 x5 x6 c3,σ=[some (.ref a),some (.ref t),x2,x3,x4,x5,x6]/\av H3 a t r Pa qq ns c3/\c3<=1000*i)
   ⟨none,none,none,none,none,0,Z,LH,by decide⟩ ?_ ?_⟩
  ·rintro i σ H2 hi ⟨x2,x3,x4,x5,x6,c2,rfl,CQ,l5⟩;refine⟨_,Z,_,Z,a,t,r,ns,c2,Z,CQ.Ft,by lia,λx tt q c3 H3 bh bg hq B3 sG A3=>?_⟩;obtain⟨oq,T3⟩:=B3.tw;have D5:=CQ.drawn A3 T3;refine⟨_,Z,_,Z,a,t,r,ns,c3,Z,D5.Ft,by lia,λy t2 q2 c4 H4 D0 LI Ev B4 Sb A4=>?_⟩;obtain⟨Cs,T4⟩:=B4.tw;have sV:=D5.drawn A4 T4;have LJ:=bh.keep λb xs e=>D5.tup A4 e;refine sV.Ft.draw (K:=K) (n:=3) rfl rfl (λR h=>h) (by decide) (by decide) (by lia) λd5 H5 Gj B5 A5=>?_;obtain⟨rs5,T5⟩:=B5.tw;have CS:=sV.drawn A5 T5;have G9:=LJ.keep λb xs e=>sV.tup A5 e;have sW:=D0.keep λb xs e=>sV.tup A5 e;refine⟨Z,?_⟩;generalize decide (V.int (d5:Nat)=V.int 0)=b;obtain⟨l1,LK,p1,_⟩:=bg.len;obtain⟨B1,lb1⟩:=bg.at;obtain⟨B2,lb2⟩:=LI.at;clear B3 B4 B5 A3 A4 A5 T3 T4 T5 bh LJ D0 LH CQ D5 sV;dsimp only[Jz,Wi,Wg,qf];refine j0 (rs:=bD x y b tt) CS (λk hk=>LB hk) G5 G6 G7 (λE H0 Q' keep kE kQ=>?_) λpw H6 G' gw fB=>?_
   ·have Ha:=G9.keep λbb xs e=>keep _ _ e (λ_ z=>nomatch z);have sX:=sW.keep λbb xs e=>keep _ _ e (λ_ z=>nomatch z);obtain⟨v5,g1,_⟩:=Ha.parts;obtain⟨v9,g2,_⟩:=sX.parts;exact⟨_,Z,q,_,_,_,Z,Z,ai.of g1,Z,_,Z,q,_,_,_,Z,Z,ai.of g1,Z,_,Z,q2,_,_,_,Z,Z,ai.of g2,Z,_,Z,tt,sO x,sO y,b,Z,by lia,by lia,by lia,LK,.inr (.inr ⟨x,y,B1,B2,kE,kQ⟩)⟩
   have Hb:=G9.keep λbb xs e=>fB _ _ e (λ_ z=>nomatch z);have sY:=sW.keep λbb xs e=>fB _ _ e (λ_ z=>nomatch z);refine⟨_,Z,_,Z,_,Z,_,Z,q,q2,x,y,tt,t2,b,Z,Hb,bg,sY,LI,λpm H7 S7 Gu gm=>?_⟩;refine WZ (ai.of (S7 _ _ gw)) (ai.of gm) (wz _) ⟨_,Z,QQ ?_⟩;have LL:=G'.same S7;have bh7:=Hb.same S7;have Hc:=sY.same S7;have gw7:=S7 _ _ gw;clear G9 sW Hb sY CS G' S7 gw gm fB;refine⟨_,Z,b,Z,?_⟩;cases b with
   |true=>exact QQ (QQ ⟨_,_,_,_,_,_,Z,LL,by lia⟩)
   |false=>
    refine QX ?_;refine j0 (rs:=bD x y false tt) LL (λk hk=>LB hk) G5 G6 G7 (λE H0 Q' keep kE kQ=>?_) λpw2 H8 St8 Hd CT=>?_
    ·have Ha:=bh7.keep λbb xs e=>keep _ _ e (λ_ z=>nomatch z);have sX:=Hc.keep λbb xs e=>keep _ _ e (λ_ z=>nomatch z);obtain⟨v5,g1,_⟩:=Ha.parts;obtain⟨v9,g2,_⟩:=sX.parts;exact⟨_,Z,q,_,_,_,Z,Z,ai.of g1,Z,_,Z,q,_,_,_,Z,Z,ai.of g1,Z,_,Z,q2,_,_,_,Z,Z,ai.of g2,Z,tt,sO x,sO y,false,Z,by lia,by lia,by lia,LK,.inr (.inr ⟨x,y,B1,B2,kE,kQ⟩)⟩
    refine⟨_,Z,?_⟩;refine WZ (ai.of Hd) (ai.of (CT _ _ gw7 (λ_ z=>nomatch z))) (wz _) ⟨_,Z,QQ ?_⟩;exact⟨_,_,_,_,_,_,Z,St8,by lia⟩
  ·rintro σ H2 ⟨x2,x3,x4,x5,x6,c2,rfl,CQ,l5⟩;dsimp only[Jz,Wi,Wg,qf];refine j4 1 CQ G1 (λE H0 Q' h=>⟨[49],[81],[88],false,by show[V.str "1",V.str "Q",V.str "X",V.bl false]=_;rw[LC,Xs,DV],by decide,by decide,by decide,by decide,.inl ⟨pQ,h⟩⟩) λpw H4 sV gw=>?_;refine⟨bK,λpz hpz=>?_⟩;have Sz:=Qu.new (o:=.tup [.str "no picture"]) hpz;refine WZ (ai.of (Sz _ _ gw)) (ai.of Qe) (.cons .str .nil) ⟨_,Z,QQ ?_⟩;have CS:=sV.same Sz;generalize upd H4 pz (.tup [.str "no picture"])=H5 at CS;refine j4 1 CS G1 (λE H0 Q' h=>⟨[49],[88],[57,86],false,by show[V.str "1",V.str "X",V.str "9V",V.bl false]=_;rw[LC,X',DV],by decide,by decide,by decide,by decide,.inr (.inl ⟨⟨_,pX⟩,p9V,h⟩)⟩) λpw2 H6 G' Hd=>?_;refine⟨bK,λpz2 He=>?_⟩;have Sz2:=Qu.new (o:=.tup [.str "no picture"]) He;refine WZ (ai.of (Sz2 _ _ Hd)) (ai.of Qe) (.cons .str .nil) ⟨_,Z,QQ ?_⟩;rw[Qdn,QeA,QeB];refine⟨_,_,_,false,Z,by decide,by decide,by decide,by decide,.inr (.inr ⟨.num true 3 1,.aR [45] 90 [90,90] [57] [57,57] [],⟨Qfn,by decide,by decide⟩,⟨edM,by decide,Z⟩,λk hk=>?_,λrr fc H9 S9=>?_⟩)⟩
   ·rw[LF LG]at hk;cases hk
   ·have e:=fc.symm.trans (LF LG);cases e;refine⟨Z,?_⟩;rw[Qdp];exact k _
end
end Lw
namespace L2
open PySem PySem.Spec PyProof.Rows
section
variable {P:Program}{w:World}{K:Frag}{mg:Str->Option Value}{M h:Heap}{x:Str}{st:Stmt}{k:Nat}{sp:Sp}{p1 p2 p3 p4:Str}
theorem ae.d0(D:ae K x st)(X:K.In h)(G:h.Ns mainGlobals mg)(ag:∀f fd,az K x x st f fd->af P w K mg M (ak P w) k f fd [] sp)
  (hb:∀(kV doc pm:Value)(an:Option Addr)(ad ct:Value),bindArgs (fnOf x x (JS st) (QI st) (Qf st) .none kV doc pm an ad ct) ⟨[],[]⟩=pure []):Def P w K mg M k x [] sp:=
 D.def X G ag λkV doc pm an ad ct us hl=>match us,hl with|[],_=>hb kV doc pm an ad ct
theorem ae.d1(D:ae K x st)(X:K.In h)(G:h.Ns mainGlobals mg)(ag:∀f fd,az K x x st f fd->af P w K mg M (ak P w) k f fd [p1] sp)
  (hb:∀(kV doc pm:Value)(an:Option Addr)(ad ct:Value)(u1:Value),bindArgs (fnOf x x (JS st) (QI st) (Qf st) .none kV doc pm an ad ct) ⟨[u1],[]⟩=pure [(p1,u1)]):Def P w K mg M k x [p1] sp:=
 D.def X G ag λkV doc pm an ad ct us hl=>match us,hl with|[u1],_=>hb kV doc pm an ad ct u1
theorem ae.d2(D:ae K x st)(X:K.In h)(G:h.Ns mainGlobals mg)(ag:∀f fd,az K x x st f fd->af P w K mg M (ak P w) k f fd [p1,p2] sp)
  (hb:∀(kV doc pm:Value)(an:Option Addr)(ad ct:Value)(u1 u2:Value),bindArgs (fnOf x x (JS st) (QI st) (Qf st) .none kV doc pm an ad ct) ⟨[u1,u2],[]⟩=pure [(p1,u1),(p2,u2)]):Def P w K mg M k x [p1,p2] sp:=
 D.def X G ag λkV doc pm an ad ct us hl=>match us,hl with|[u1,u2],_=>hb kV doc pm an ad ct u1 u2
theorem ae.d3(D:ae K x st)(X:K.In h)(G:h.Ns mainGlobals mg)(ag:∀f fd,az K x x st f fd->af P w K mg M (ak P w) k f fd [p1,p2,p3] sp)
  (hb:∀(kV doc pm:Value)(an:Option Addr)(ad ct:Value)(u1 u2 u3:Value),bindArgs (fnOf x x (JS st) (QI st) (Qf st) .none kV doc pm an ad ct) ⟨[u1,u2,u3],[]⟩=pure [(p1,u1),(p2,u2),(p3,u3)]):Def P w K mg M k x [p1,p2,p3] sp:=
 D.def X G ag λkV doc pm an ad ct us hl=>match us,hl with|[u1,u2,u3],_=>hb kV doc pm an ad ct u1 u2 u3
theorem ae.d4(D:ae K x st)(X:K.In h)(G:h.Ns mainGlobals mg)(ag:∀f fd,az K x x st f fd->af P w K mg M (ak P w) k f fd [p1,p2,p3,p4] sp)
  (hb:∀(kV doc pm:Value)(an:Option Addr)(ad ct:Value)(u1 u2 u3 u4:Value),bindArgs (fnOf x x (JS st) (QI st) (Qf st) .none kV doc pm an ad ct) ⟨[u1,u2,u3,u4],[]⟩=pure [(p1,u1),(p2,u2),(p3,u3),(p4,u4)]):Def P w K mg M k x [p1,p2,p3,p4] sp:=
 D.def X G ag λkV doc pm an ad ct us hl=>match us,hl with|[u1,u2,u3,u4],_=>hb kV doc pm an ad ct u1 u2 u3 u4
end
theorem j5{K:Frag}{xs:List V}{ap:Array Value}{n:Nat}{mt:Array (Option Value)}(l:K.lookup a=some ⟨.type "tuple",od,.seq ap n,mt⟩)(z:ap.size<=sizeLine)(v:Vals xs ap.toList)(H:Hp):ai K H a xs:=.inr ⟨_,ap,n,l,Z,Z,z,v⟩
theorem wA{K:Frag}{h1 h2:Int}{x1 x2 y1 y2:Str}{t1 t2 u1 u2:Tok}{n:Nat}(ne:(a==sysModules)=false)(l:K.lookup a=some ⟨.type "dict",none,.dict #[⟨h1,.str x1 t1,.str y1 u1⟩,⟨h2,.str x2 t2,.str y2 u2⟩] n, #[]⟩)
  (e1:h1=oB w (.inr x1)) (e2:h2=oB w (.inr x2)) (hx:x1≠x2):aA P w K a [(Sum.inr x1,.str y1),(Sum.inr x2,.str y2)]:=by
 refine⟨ne,λh KX=>⟨[(Sum.inr x1,.str y1 u1),(Sum.inr x2,.str y2 u2)],.cons ⟨Z,_,Z⟩ (.cons ⟨Z,_,Z⟩ .nil),_,_,_,KX a _ l,⟨Z,Z,Z⟩,Z,λe he=>?_,.cons (JJ P w x1 t1) rfl (.cons (JJ P w x2 t2) Z .nil),?_⟩⟩
 ·have he:e=⟨h1,.str x1 t1,.str y1 u1⟩\/e=⟨h2,.str x2 t2,.str y2 u2⟩:=by simpa using he
  rcases he with rfl|rfl
  ·exact⟨_,JJ P w x1 t1,e1⟩
  ·exact⟨_,JJ P w x2 t2,e2⟩
 ·have hk:¬ (Sum.inr x1:Key)=Sum.inr x2:=λq=>hx (ydm q);simp[hk]
end L2
namespace Lw
open PySem PySem.Spec PyProof.Rows L2 aW aK bS aZ sE
theorem all_mk{l:PySem.W.OpenLaw}{w:World}{K:Frag}{h:Heap}{fa fl ca R0 R1 R2 R3 R4 R5 R6 R7 R8 R9 dA C0 C1 C2 C3 C4 C5 C6 C7 C8 C9 fC fD fE fF fG:Addr}{t0 t1 t2 t3 t4 t5 t6 t7 t8 t9:Tok}{oc kV doc pm ct:Value}{od an:Option Addr}{mt:Array (Option Value)}(X:K.In h)(G:h.Ns mainGlobals mg)(l0:mg "law"=some (.ref fa))
  (pC:ae K "ten_to" YD)
  (m3:ae K "is_figures" XT)
  (nA:ae K "number_of" KA)
  (nP:ae K "times_at" Wr)
  (nY:ae K "rows_of" Vp)
  (nB:ae K "floats_at" KF)
  (nC:ae K "places_of" KG)
  (m4:ae K "whole_part" XW)
  (mK:ae K "broken_part" XA)
  (nZ:ae K "lead_of" Vq)
  (n4:ae K "tail_of" Vs)
  (mq:ae K "number_facts" Xe)
  (mL:ae K "plain_facts" Xz)
  (n5:ae K "body_of" Vr)
  (mr:ae K "edited_facts" Xg)
  (nQ:ae K "facts_of" Ws)
  (m5:ae K "understood" Z5)
  (n6:ae K "kind_of" K6)
  (n8:ae K "size_of" K7)
  (p9:ae K "room" jy)
  (mv:ae K "quotient_cut" Xd)
  (ua:ae K "cut" Fi)
  (pD:ae K "fitted" YF)
  (m7:ae K "figures_of" XU)
  (mM:ae K "written_out" Xx)
  (gY:ae K "understood_as" Zl)
  (nE:ae K "sign_text" KH)
  (mw:ae K "hides_nought" Xj)
  (mO:ae K "nought_text" XB)
  (pE:ae K "spread" YG)
  (nF:ae K "hidden_in" KJ)
  (nG:ae K "body_text" KI)
  (mx:ae K "edited_parts" Xh)
  (pF:ae K "edited" W4)
  (mP:ae K "read_edited" ZJ)
  (m8:ae K "content_of" Z8)
  (nH:ae K "amount_in" XC)
  (n9:ae K "as_text" Vv)
  (ub:ae K "put" vo)
  (mQ:ae K "amount_from" ZK)
  (my:ae K "figures_from" Zt)
  (nI:ae K "_law_draw" KK)
  (m9:ae K "_law_begun" XY)
  (ng:ae K "_law_class" XZ)
  (mR:ae K "_law_places" XD)
  (nJ:ae K "_law_line" KL)
  (gQ:ae K "_law_an_edited" ZE)
  (gR:ae K "_law_an_amount" ZD)
  (nK:ae K "_law_edit" Jn)
  (gZ:ae K "_law_a_number" ZS)
  (mz:ae K "_law_content" Xl)
  (ni:ae K "_law_a_box" QK)
  (gS:ae K "_law_amount_of" Qw)
  (mB:ae K "_law_text_in" Xm)
  (nj:ae K "_law_moved" QS)
  (pK:ae K "_law_heard" JH)
  (k_0:nsIn K mainGlobals "BoxError"=some (some (.ref C0)))
  (Hf:nsIn K mainGlobals "NoPicture"=some (some (.ref C1)))
  (Hg:nsIn K mainGlobals "NoRoom"=some (some (.ref C2)))
  (Hh:nsIn K mainGlobals "NoQuotient"=some (some (.ref C3)))
  (Hi:nsIn K mainGlobals "NoText"=some (some (.ref C4)))
  (Hj:nsIn K mainGlobals "NoFigures"=some (some (.ref C5)))
  (Hl:nsIn K mainGlobals "NoLetters"=some (some (.ref C6)))
  (Hm:nsIn K mainGlobals "NoMove"=some (some (.ref C7)))
  (Hn:nsIn K mainGlobals "NoPath"=some (some (.ref C8)))
  (Ho:nsIn K mainGlobals "NoAmount"=some (some (.ref C9)))
  (tX:nsIn K mainGlobals "NoGroup"=some (some (.ref fC)))
  (tY:nsIn K mainGlobals "BadSize"=some (some (.ref fD)))
  (tZ:nsIn K mainGlobals "NoBack"=some (some (.ref fE)))
  (lg:nsIn K mainGlobals "BadRow"=some (some (.ref fF)))
  (lh:nsIn K mainGlobals "Closed"=some (some (.ref fG)))
  (gO:nsIn K mainGlobals "FIGURES"=some (some (.str "0123456789" t0)))
  (gL:nsIn K mainGlobals "INSERTED"=some (some (.str ",B0/" t2)))
  (nU:nsIn K mainGlobals "SIGNS"=some (some (.str "+-" t3)))
  (gG:nsIn K mainGlobals "FLOATING"=some (some (.str "+-$" t4)))
  (nu:nsIn K mainGlobals "PLACES"=some (some (.str "9Z*+-$" t5)))
  (gD:nsIn K mainGlobals "LAST_BELOW"=some (some (.str "pqrstuvwxy" t8)))
  (gk:nsIn K mainGlobals "LETTERS_AND_BLANK"=some (some (.str "abcdefghijklmnopqrstuvwxyzABCDEFGHIJKLMNOPQRSTUVWXYZ " t9)))
  (nt:nsIn K mainGlobals "PART"=some (some (.int 18 t1)))
  (gy:nsIn K mainGlobals "MOST_FIGURES"=some (some (.int 18 t6)))
  (gN:nsIn K mainGlobals "MOST_SIGNS"=some (some (.int 60 t7)))
  (gH:nsIn K mainGlobals "NUMBER_FORMS"=some (some (.ref R0)))
  (nM:nsIn K mainGlobals "SHOWN"=some (some (.ref R1)))
  (gF:nsIn K mainGlobals "PLAIN_KINDS"=some (some (.ref R2)))
  (mC:∀H,ai K H R0 [.str "9",.str "S9",.str "V9",.str "SV9",.str "9V9",.str "S9V9"])
  (nN:∀H,ai K H R1 [.str "+",.str "-",.str "CR",.str "DB"])
  (kd:aA l.prog w K R2 UH)
  (gW:nsIn K mainGlobals "BESIDE"=some (some (.ref R3)))
  (pd:aA l.prog w K R3 As)
  (gX:nsIn K mainGlobals "NOT_BELOW"=some (some (.ref R4)))
  (nk:aA l.prog w K R4 BV)
  (nV:nsIn K mainGlobals "BELOW"=some (some (.ref R5)))
  (pG:aA l.prog w K R5 BW)
  (nW:nsIn K mainGlobals "MOVES"=some (some (.ref R6)))
  (pf:aA l.prog w K R6 (DJ R7 R8 R9 dA))
  (rY:∀H,ai K H R7 [.str "number",.str "edited",.str "text"])
  (rZ:∀H,ai K H R8 [.str "number",.str "edited",.str "text"])
  (r6:∀H,ai K H R9 [.str "number",.str "edited",.str "text",.str "letters"])
  (r8:∀H,ai K H dA [.str "text",.str "letters"])
  (nX:aU K "move" jz "right" (.bool false))
  (nr:nsIn K mainGlobals "enumerate"=some none)
  (rf:nsIn K mainGlobals "zip"=some none)
  (pL:nsIn K mainGlobals "list"=some none)
  (pT:kitOne K (.type "str") (.type "str")=some true)
  (pU:kitOne K (.type "int") (.type "str")=some false)
  (nR:kitOne K (.type "NoneType") (.type "str")=some false)
  (pM:kitOne K (.type "tuple") (.type "str")=some false)
  (uc:nsIn K mainGlobals "len"=some none)
  (pN:nsIn K mainGlobals "range"=some none)
  (ud:nsIn K mainGlobals "abs"=some none)
  (ue:nsIn K mainGlobals "max"=some none)
  (uf:nsIn K mainGlobals "int"=some none)
  (ug:nsIn K mainGlobals "isinstance"=some none)
  (rg:nsIn K mainGlobals "bool"=some none)
  (uh:nsIn K mainGlobals "ValueError"=some none)
  (nS:nsIn K mainGlobals "reversed"=some none)
  (pH:nsIn K mainGlobals "divmod"=some none)
  (ui:nsIn K mainGlobals "str"=some none)
  (uj:nsIn K mainGlobals "sum"=some none)
  (rK:excIn K C1 [.type "ValueError",.type "Exception",.type "BaseException",.type "object"] "ValueError.__new__"=true)
  (uk:excIn K C2 [.type "ValueError",.type "Exception",.type "BaseException",.type "object"] "ValueError.__new__"=true)
  (rL:excIn K C5 [.type "ValueError",.type "Exception",.type "BaseException",.type "object"] "ValueError.__new__"=true)
  (rM:excIn K C6 [.type "ValueError",.type "Exception",.type "BaseException",.type "object"] "ValueError.__new__"=true)
  (rN:excIn K C7 [.type "ValueError",.type "Exception",.type "BaseException",.type "object"] "ValueError.__new__"=true)
  (um:findIn K (.ref C1) "__getattribute__"=some (some (.builtin "BaseException.__getattribute__")))
  (uo:findIn K (.ref C1) "__getattr__"=some none)
  (uq:findIn K (.ref C1) "__class__"=some (some (.builtin "object.__class__")))
  (ur:kitOne K (.ref C1) (.ref C1)=some true)
  (uu:kitOne K (.ref C1) (.ref C2)=some false)
  (uv:kitOne K (.ref C1) (.ref C3)=some false)
  (uw:kitOne K (.ref C1) (.ref C4)=some false)
  (ux:kitOne K (.ref C1) (.ref C5)=some false)
  (uy:kitOne K (.ref C1) (.ref C6)=some false)
  (uz:kitOne K (.ref C1) (.ref C7)=some false)
  (uA:kitOne K (.ref C1) (.ref C8)=some false)
  (uB:kitOne K (.ref C1) (.ref C9)=some false)
  (uC:kitOne K (.ref C1) (.ref fC)=some false)
  (rh:kitOne K (.ref C1) (.ref fD)=some false)
  (rj:kitOne K (.ref C1) (.ref fE)=some false)
  (rl:kitOne K (.ref C1) (.ref fF)=some false)
  (rm:kitOne K (.ref C1) (.ref fG)=some false)
  (uD:kitOne K (.ref C1) (.type "ValueError")=some true)
  (uE:exmOne K (.ref C1) (.ref C0)=some true)
  (uF:findIn K (.ref C5) "__getattribute__"=some (some (.builtin "BaseException.__getattribute__")))
  (uG:findIn K (.ref C5) "__getattr__"=some none)
  (uH:findIn K (.ref C5) "__class__"=some (some (.builtin "object.__class__")))
  (uI:kitOne K (.ref C5) (.ref C1)=some false)
  (uJ:kitOne K (.ref C5) (.ref C2)=some false)
  (uK:kitOne K (.ref C5) (.ref C3)=some false)
  (uL:kitOne K (.ref C5) (.ref C4)=some false)
  (uM:kitOne K (.ref C5) (.ref C5)=some true)
  (uN:kitOne K (.ref C5) (.ref C6)=some false)
  (uO:kitOne K (.ref C5) (.ref C7)=some false)
  (uP:kitOne K (.ref C5) (.ref C8)=some false)
  (uQ:kitOne K (.ref C5) (.ref C9)=some false)
  (uR:kitOne K (.ref C5) (.ref fC)=some false)
  (rn:kitOne K (.ref C5) (.ref fD)=some false)
  (rp:kitOne K (.ref C5) (.ref fE)=some false)
  (rq:kitOne K (.ref C5) (.ref fF)=some false)
  (rA:kitOne K (.ref C5) (.ref fG)=some false)
  (uS:kitOne K (.ref C5) (.type "ValueError")=some true)
  (uT:exmOne K (.ref C5) (.ref C0)=some true)
  (uU:findIn K (.ref C6) "__getattribute__"=some (some (.builtin "BaseException.__getattribute__")))
  (uV:findIn K (.ref C6) "__getattr__"=some none)
  (uW:findIn K (.ref C6) "__class__"=some (some (.builtin "object.__class__")))
  (uX:kitOne K (.ref C6) (.ref C1)=some false)
  (uY:kitOne K (.ref C6) (.ref C2)=some false)
  (uZ:kitOne K (.ref C6) (.ref C3)=some false)
  (u0:kitOne K (.ref C6) (.ref C4)=some false)
  (u6:kitOne K (.ref C6) (.ref C5)=some false)
  (u7:kitOne K (.ref C6) (.ref C6)=some true)
  (u9:kitOne K (.ref C6) (.ref C7)=some false)
  (tj:kitOne K (.ref C6) (.ref C8)=some false)
  (tm:kitOne K (.ref C6) (.ref C9)=some false)
  (tq:kitOne K (.ref C6) (.ref fC)=some false)
  (rB:kitOne K (.ref C6) (.ref fD)=some false)
  (rC:kitOne K (.ref C6) (.ref fE)=some false)
  (rD:kitOne K (.ref C6) (.ref fF)=some false)
  (rE:kitOne K (.ref C6) (.ref fG)=some false)
  (tD:kitOne K (.ref C6) (.type "ValueError")=some true)
  (tE:exmOne K (.ref C6) (.ref C0)=some true)
  (tF:findIn K (.ref C7) "__getattribute__"=some (some (.builtin "BaseException.__getattribute__")))
  (tG:findIn K (.ref C7) "__getattr__"=some none)
  (tH:findIn K (.ref C7) "__class__"=some (some (.builtin "object.__class__")))
  (tI:kitOne K (.ref C7) (.ref C1)=some false)
  (tJ:kitOne K (.ref C7) (.ref C2)=some false)
  (tK:kitOne K (.ref C7) (.ref C3)=some false)
  (tL:kitOne K (.ref C7) (.ref C4)=some false)
  (tM:kitOne K (.ref C7) (.ref C5)=some false)
  (tN:kitOne K (.ref C7) (.ref C6)=some false)
  (tO:kitOne K (.ref C7) (.ref C7)=some true)
  (tP:kitOne K (.ref C7) (.ref C8)=some false)
  (tQ:kitOne K (.ref C7) (.ref C9)=some false)
  (tR:kitOne K (.ref C7) (.ref fC)=some false)
  (rF:kitOne K (.ref C7) (.ref fD)=some false)
  (rG:kitOne K (.ref C7) (.ref fE)=some false)
  (rH:kitOne K (.ref C7) (.ref fF)=some false)
  (rJ:kitOne K (.ref C7) (.ref fG)=some false)
  (tS:kitOne K (.ref C7) (.type "ValueError")=some true)
  (tT:exmOne K (.ref C7) (.ref C0)=some true)
  (rO:nsIn K mainGlobals "law"=some (some (.ref fl)))
  (rP:K.lookup fl=some ⟨oc,od,.func (fnOf "law" "law" (JS WP) (QI WP) (Qf WP) .none kV doc pm an (.ref ca) ct),mt⟩)
  (tU:codeIn K (.ref ca) "law"=true)
  :∃fd:FuncData,(∀(s:Shared)(v:Value),BindsTo s fd ⟨[v],[]⟩ [("_law_script",v)])/\∀(M:Heap)(c P:Addr),tabIn K "law"=some (c,P)->K.In M->M.Ns mainGlobals mg->bY mg M c P->af l.prog w K mg M (ak l.prog w) 13 fa fd ["_law_script"] (G0 P):=by
 have e:=l0.symm.trans (mg_of X G rO);cases e;have O:Own mg:=⟨ybl X G uc,ybl X G pN,ybl X G ud,ybl X G ue,ybl X G uf,ybl X G ug,ybl X G rg,ybl X G uh,ybl X G nS,ybl X G pH,ybl X G ui,ybl X G uj⟩;have G1:Kind K (λi=>([C0,C1,C2,C3,C4,C5,C6,C7,C8,C9,fC,fD,fE,fF,fG]:List Addr).getD i 0) 1:=⟨by decide,by decide,⟨rK,um,uo,uq⟩,λj hj=>match j,hj with|0,_=>ur|1,_=>uu|2,_=>uv|3,_=>uw|4,_=>ux|5,_=>uy|6,_=>uz|7,_=>uA|8,_=>uB|9,_=>uC|10,_=>rh|11,_=>rj|12,_=>rl|13,_=>rm|n+14,h=>absurd h (by lia),uD,uE⟩;have G5:Kind K (λi=>([C0,C1,C2,C3,C4,C5,C6,C7,C8,C9,fC,fD,fE,fF,fG]:List Addr).getD i 0) 5:=⟨by decide,by decide,⟨rL,uF,uG,uH⟩,λj hj=>match j,hj with|0,_=>uI|1,_=>uJ|2,_=>uK|3,_=>uL|4,_=>uM|5,_=>uN|6,_=>uO|7,_=>uP|8,_=>uQ|9,_=>uR|10,_=>rn|11,_=>rp|12,_=>rq|13,_=>rA|n+14,h=>absurd h (by lia),uS,uT⟩;have G6:Kind K (λi=>([C0,C1,C2,C3,C4,C5,C6,C7,C8,C9,fC,fD,fE,fF,fG]:List Addr).getD i 0) 6:=⟨by decide,by decide,⟨rM,uU,uV,uW⟩,λj hj=>match j,hj with|0,_=>uX|1,_=>uY|2,_=>uZ|3,_=>u0|4,_=>u6|5,_=>u7|6,_=>u9|7,_=>tj|8,_=>tm|9,_=>tq|10,_=>rB|11,_=>rC|12,_=>rD|13,_=>rE|n+14,h=>absurd h (by lia),tD,tE⟩;have G7:Kind K (λi=>([C0,C1,C2,C3,C4,C5,C6,C7,C8,C9,fC,fD,fE,fF,fG]:List Addr).getD i 0) 7:=⟨by decide,by decide,⟨rN,tF,tG,tH⟩,λj hj=>match j,hj with|0,_=>tI|1,_=>tJ|2,_=>tK|3,_=>tL|4,_=>tM|5,_=>tN|6,_=>tO|7,_=>tP|8,_=>tQ|9,_=>tR|10,_=>rF|11,_=>rG|12,_=>rH|13,_=>rJ|n+14,h=>absurd h (by lia),tS,tT⟩;have T:Txt K mg (λi=>([t0,t1,t2,t3,t4,t5,t6,t7,t8,t9]:List Tok).getD i 0) (λi=>([C0,C1,C2,C3,C4,C5,C6,C7,C8,C9,fC,fD,fE,fF,fG]:List Addr).getD i 0) (λi=>([R0,R1,R2,R3,R4,R5,R6,R7,R8,R9,dA]:List Addr).getD i 0):=⟨mg_of X G k_0,mg_of X G Hf,mg_of X G Hg,mg_of X G Hh,mg_of X G Hi,mg_of X G Hj,mg_of X G Hl,mg_of X G Hm,mg_of X G Hn,mg_of X G Ho,mg_of X G tX,mg_of X G tY,mg_of X G tZ,mg_of X G lg,mg_of X G lh,mg_of X G gO,mg_of X G nt,mg_of X G gL,mg_of X G nU,mg_of X G gG,mg_of X G nu,mg_of X G gy,mg_of X G gN,mg_of X G gD,mg_of X G gk,mg_of X G gW,mg_of X G gX,mg_of X G nV,mg_of X G nW,mg_of X G gH,mg_of X G nM,mg_of X G gF,mC,nN,⟨rK⟩,⟨uk⟩,rY,rZ,r6,r8,⟨rL⟩,⟨rM⟩,⟨rN⟩,pT,pU,nR,pM⟩;have KD:aA l.prog w K ((λi=>([R0,R1,R2,R3,R4,R5,R6,R7,R8,R9,dA]:List Addr).getD i 0) 2) UH:=kd;have KB:aA l.prog w K ((λi=>([R0,R1,R2,R3,R4,R5,R6,R7,R8,R9,dA]:List Addr).getD i 0) 3) As:=pd;have KN:aA l.prog w K ((λi=>([R0,R1,R2,R3,R4,R5,R6,R7,R8,R9,dA]:List Addr).getD i 0) 4) BV:=nk;have KW:aA l.prog w K ((λi=>([R0,R1,R2,R3,R4,R5,R6,R7,R8,R9,dA]:List Addr).getD i 0) 5) BW:=pG;have KM:aA l.prog w K ((λi=>([R0,R1,R2,R3,R4,R5,R6,R7,R8,R9,dA]:List Addr).getD i 0) 6) (DJ ((λi=>([R0,R1,R2,R3,R4,R5,R6,R7,R8,R9,dA]:List Addr).getD i 0) 7) ((λi=>([R0,R1,R2,R3,R4,R5,R6,R7,R8,R9,dA]:List Addr).getD i 0) 8) ((λi=>([R0,R1,R2,R3,R4,R5,R6,R7,R8,R9,dA]:List Addr).getD i 0) 9) ((λi=>([R0,R1,R2,R3,R4,R5,R6,R7,R8,R9,dA]:List Addr).getD i 0) 10)):=pf;have OE:mg "enumerate"=none:=ybl X G nr;have OZ:mg "zip"=none:=ybl X G rf;have OL:mg "list"=none:=ybl X G pL;generalize (λi=>([C0,C1,C2,C3,C4,C5,C6,C7,C8,C9,fC,fD,fE,fF,fG]:List Addr).getD i 0)=c at G1 G5 G6 G7 T;generalize (λi=>([R0,R1,R2,R3,R4,R5,R6,R7,R8,R9,dA]:List Addr).getD i 0)=kr at T KD KB KN KW KM;generalize (λi=>([t0,t1,t2,t3,t4,t5,t6,t7,t8,t9]:List Tok).getD i 0)=tk at T;refine⟨fnOf "law" "law" (JS WP) (QI WP) (Qf WP) .none kV doc pm an (.ref ca) ct,λs v=>.of_eq rfl,λM c' P ht kb nb qLa=>?_⟩;obtain rfl:c'=ca:=by
  have z:tabIn K "law"=some (c',P):=ht;unfold tabIn at z;simp only[rO,rP]at z
  split at z
  ·split at z
   ·cases z;rfl
   ·cases z
  ·cases z
 have gA:Def l.prog w K mg M 1 "ten_to" ["many"] (zC):=pC.d1 X G (λf fd F=>xV F O) λ_ _ _ _ _ _ _=>rfl;have gu:Def l.prog w K mg M 1 "is_figures" ["text"] (Vz):=m3.d1 X G (λf fd F=>YI F T) λ_ _ _ _ _ _ _=>rfl;have gf:Def l.prog w K mg M 2 "number_of" ["text"] (zD):=nA.d1 X G (λf fd F=>UI F O T gA) λ_ _ _ _ _ _ _=>rfl;have nO:Def l.prog w K mg M 3 "times_at" ["text","at"] (qE):=nP.d2 X G (λf fd F=>qF F O T gu gf) λ_ _ _ _ _ _ _ _=>rfl;have mh:Def l.prog w K mg M 4 "rows_of" ["thing"] (jA K):=nY.d1 X G (λf fd F=>zF F O T nO) λ_ _ _ _ _ _ _=>rfl;have nv:Def l.prog w K mg M 1 "floats_at" ["rows","at"] (YK K):=nB.d2 X G (λf fd F=>UK F O T) λ_ _ _ _ _ _ _ _=>rfl;have mE:Def l.prog w K mg M 1 "places_of" ["rows","at","place"] (YL K):=nC.d3 X G (λf fd F=>UL F O T) λ_ _ _ _ _ _ _ _ _=>rfl;have mW:Def l.prog w K mg M 2 "whole_part" ["rows","at"] (qG K):=m4.d2 X G (λf fd F=>YM F O T mE) λ_ _ _ _ _ _ _ _=>rfl;have mF:Def l.prog w K mg M 1 "broken_part" ["rows","at","place"] (YN K):=mK.d3 X G (λf fd F=>V4 F O T) λ_ _ _ _ _ _ _ _ _=>rfl;have md:Def l.prog w K mg M 2 "lead_of" ["rows"] (jB K):=nZ.d1 X G (λf fd F=>zH F O T nv) λ_ _ _ _ _ _ _=>rfl;have mf:Def l.prog w K mg M 1 "tail_of" ["rows","at"] (jC K):=n4.d2 X G (λf fd F=>zI F O T) λ_ _ _ _ _ _ _ _=>rfl;have mi:Def l.prog w K mg M 1 "number_facts" ["rows"] (Zq K Q1):=mq.d1 X G (λf fd F=>VC F O T) λ_ _ _ _ _ _ _=>rfl;have mG:Def l.prog w K mg M 1 "plain_facts" ["rows"] (Zq K JB):=mL.d1 X G (λf fd F=>V5 F O T KD) λ_ _ _ _ _ _ _=>rfl;have me:Def l.prog w K mg M 3 "body_of" ["rows","at"] (jD K):=n5.d2 X G (λf fd F=>zK F mW mF) λ_ _ _ _ _ _ _ _=>rfl;have mj:Def l.prog w K mg M 4 "edited_facts" ["rows"] (Zq K Ju):=mr.d1 X G (λf fd F=>VD F O T md me mf) λ_ _ _ _ _ _ _=>rfl;have gP:Def l.prog w K mg M 5 "facts_of" ["rows"] (Zq K JW):=nQ.d1 X G (λf fd F=>qI F mi mG mj) λ_ _ _ _ _ _ _=>rfl;have gv:Def l.prog w K mg M 6 "understood" ["picture"] (VE K c):=m5.d1 X G (λf fd F=>YQ F T mh gP) λ_ _ _ _ _ _ _=>rfl;have gz:Def l.prog w K mg M 7 "kind_of" ["picture"] (U4 c):=n6.d1 X G (λf fd F=>zR F gv) λ_ _ _ _ _ _ _=>rfl;have mU:Def l.prog w K mg M 7 "size_of" ["picture"] (kJ):=n8.d1 X G (λf fd F=>zO F O gv) λ_ _ _ _ _ _ _=>rfl;have pZ:Def l.prog w K mg M 7 "room" ["picture"] (kI c):=p9.d1 X G (λf fd F=>Pc F T gv) λ_ _ _ _ _ _ _=>rfl;have ml:Def l.prog w K mg M 1 "quotient_cut" ["number","by"] (kF):=mv.d2 X G (λf fd F=>VI F O) λ_ _ _ _ _ _ _ _=>rfl;have r9:Def l.prog w K mg M 2 "cut" ["amount","places"] (FC K):=ua.d2 X G (λf fd F=>O' F O gA ml) λ_ _ _ _ _ _ _ _=>rfl;have mS:Def l.prog w K mg M 3 "fitted" ["amount","before","behind"] (vR K):=pD.d3 X G (λf fd F=>kH F O gA r9) λ_ _ _ _ _ _ _ _ _=>rfl;have gx:Def l.prog w K mg M 2 "figures_of" ["number"] (UX):=m7.d1 X G (λf fd F=>YW F O T gA) λ_ _ _ _ _ _ _=>rfl;have mH:Def l.prog w K mg M 1 "written_out" ["rows"] (FG K):=mM.d1 X G (λf fd F=>V6 F O) λ_ _ _ _ _ _ _=>rfl;have hV:Def l.prog w K mg M 6 "understood_as" ["kind","picture"] (Ww K c):=gY.d2 X G (λf fd F=>WR F T mh gP) λ_ _ _ _ _ _ _ _=>rfl;have gI:Def l.prog w K mg M 1 "sign_text" ["symbols","is_below"] (jQ):=nE.d2 X G (λf fd F=>U0 F T KN KW) λ_ _ _ _ _ _ _ _=>rfl;have mn:Def l.prog w K mg M 1 "hides_nought" ["body"] (qU):=mw.d1 X G (λf fd F=>VM F T) λ_ _ _ _ _ _ _=>rfl;have mI:Def l.prog w K mg M 1 "nought_text" ["symbols"] (YX):=mO.d1 X G (λf fd F=>V7 F O) λ_ _ _ _ _ _ _=>rfl;have pA:Def l.prog w K mg M 3 "spread" ["body","units"] (YY):=pE.d2 X G (λf fd F=>kS F O T KB gx) λ_ _ _ _ _ _ _ _=>rfl;have ny:Def l.prog w K mg M 1 "hidden_in" ["body","signs"] (YZ):=nF.d2 X G (λf fd F=>U1 F O OE T) λ_ _ _ _ _ _ _ _=>rfl;have nz:Def l.prog w K mg M 4 "body_text" ["body","units","is_below"] (qV):=nG.d3 X G (λf fd F=>U2 F T pA ny gI) λ_ _ _ _ _ _ _ _ _=>rfl;have gB:Def l.prog w K mg M 4 "edited_parts" ["rows"] (Y1 K):=mx.d1 X G (λf fd F=>VN F md me mH mf) λ_ _ _ _ _ _ _=>rfl;have mT:Def l.prog w K mg M 7 "edited" ["picture","amount"] (W5 K c):=pF.d2 X G (λf fd F=>kT F O hV gB mS mn mI gI nz) λ_ _ _ _ _ _ _ _=>rfl;have mJ:Def l.prog w K mg M 8 "read_edited" ["picture","text"] (k9 K c):=mP.d2 X G (λf fd F=>V8 F O OZ T KB gf hV gB mT) λ_ _ _ _ _ _ _ _=>rfl;have mX:Def l.prog w K mg M 7 "content_of" ["picture","amount"] (wb K c):=m8.d2 X G (λf fd F=>Y3 F O T hV mS gx) λ_ _ _ _ _ _ _ _=>rfl;have gM:Def l.prog w K mg M 7 "amount_in" ["picture","content"] (Y4 K c):=nH.d2 X G (λf fd F=>U3 F O T hV gu gf) λ_ _ _ _ _ _ _ _=>rfl;have mV:Def l.prog w K mg M 1 "as_text" ["text","size","right"] (F5):=n9.d3 X G (λf fd F=>zU F O) λ_ _ _ _ _ _ _ _ _=>rfl;have pV:Def l.prog w K mg M 8 "put" ["picture","amount"] (yc K):=ub.d2 X G (λf fd F=>Rx F gz mX mT) λ_ _ _ _ _ _ _ _=>rfl;have gK:Def l.prog w K mg M 9 "amount_from" ["content","picture"] (jS c):=mQ.d2 X G (λf fd F=>V9 F O T gz gM mJ gu gf) λ_ _ _ _ _ _ _ _=>rfl;have gJ:Def l.prog w K mg M 8 "figures_from" ["content","picture"] (VP c):=my.d2 X G (λf fd F=>VQ F O T pZ gM gx) λ_ _ _ _ _ _ _ _=>rfl;have hJ:Def l.prog w K mg M 1 "_law_draw" ["_law_script","_law_town","_law_many"] (ZP K):=nI.d3 X G (λf fd F=>U6 F O) λ_ _ _ _ _ _ _ _ _=>rfl;have mY:Def l.prog w K mg M 1 "_law_begun" [] (qt):=m9.d0 X G (λf fd F=>Y7 F) λ_ _ _ _ _ _=>rfl;have gi:Def l.prog w K mg M 1 "_law_class" ["_law_kept"] (VR K c):=ng.d1 X G (λf fd F=>Y8 F O T) λ_ _ _ _ _ _ _=>rfl;have gT:Def l.prog w K mg M 2 "_law_places" ["_law_script","_law_town","_law_symbol","_law_most"] (Gb K):=mR.d4 X G (λf fd F=>Ya F O hJ) λ_ _ _ _ _ _ _ _ _ _=>rfl;have gg:Def l.prog w K mg M 1 "_law_line" ["_law_parts"] (VS K):=nJ.d1 X G (λf fd F=>U8 F) λ_ _ _ _ _ _ _=>rfl;have gh:Def l.prog w K mg M 3 "_law_an_edited" ["_law_script","_law_town"] (Ck K):=gQ.d2 X G (λf fd F=>WB F O hJ gT) λ_ _ _ _ _ _ _ _=>rfl;have gc:Def l.prog w K mg M 2 "_law_an_amount" ["_law_script","_law_town","_law_figures","_law_far"] (We K):=gR.d4 X G (λf fd F=>WC F O hJ) λ_ _ _ _ _ _ _ _ _ _=>rfl;have hU:Def l.prog w K mg M 2 "_law_edit" ["_law_parts","_law_amount"] (ZY K):=nK.d2 X G (λf fd F=>U9 F O OL OE gg) λ_ _ _ _ _ _ _ _=>rfl;have gE:Def l.prog w K mg M 2 "_law_a_number" ["_law_script","_law_town"] (jV K):=gZ.d2 X G (λf fd F=>WT F hJ) λ_ _ _ _ _ _ _ _=>rfl;have hZ:Def l.prog w K mg M 1 "_law_content" ["_law_shows","_law_before","_law_behind","_law_amount"] (WD K):=mz.d4 X G (λf fd F=>VT F O) λ_ _ _ _ _ _ _ _ _ _=>rfl;have ma:Def l.prog w K mg M 4 "_law_a_box" ["_law_script","_law_town"] (wx K):=ni.d2 X G (λf fd F=>Ua F O hJ gc gE hZ gh hU gg) λ_ _ _ _ _ _ _ _=>rfl;have gC:Def l.prog w K mg M 3 "_law_amount_of" ["_law_one"] (yx K):=gS.d1 X G (λf fd F=>WE F O OE hU) λ_ _ _ _ _ _ _=>rfl;have gj:Def l.prog w K mg M 1 "_law_text_in" ["_law_content_here","_law_size","_law_right_here"] (ww):=mB.d3 X G (λf fd F=>VU F O) λ_ _ _ _ _ _ _ _ _=>rfl;have mZ:Def l.prog w K mg M 4 "_law_moved" ["_law_one","_law_two","_law_right_here"] (jg K):=nj.d3 X G (λf fd F=>Uc F O gC gj hZ hU) λ_ _ _ _ _ _ _ _ _=>rfl;have pB:fj l.prog w K mg M 10 "move" ["content","picture","other","right"] (.bl false) (ZA c):=by
  refine nX.T7 X G (λf fd F=>qX F T KM gz pV gK gJ mU mV) λ_ _ _ _ _ _ _ _ _=>?_;refine' .mk (σ:=?a) (τ:=?b) ?g1 ?g2 ?g3 ?h1 ?h2
  case h1=>exact Eq.refl _
  case h2=>exact Eq.refl _
 have pJ:bI l.prog w K mg M 10 "move" ["content","picture","other","right"] ["right"] (ZA c):=nX.Rt X G (λf fd F=>qX F T KM gz pV gK gJ mU mV) λ_ _ _ _ _ _ _ _ _ _=>rfl;have sB:bJ l.prog w K mg M 10 "move" "content" "picture" "other" "right" (.bl false) (ZA c):=by
  refine nX.U' X G (λf fd F=>qX F T KM gz pV gK gJ mU mV) λ_ _ _ _ _ _ _ _ _=>?_;refine' .mk (σ:=?a2) (τ:=?b2) ?j1 ?j2 ?j3 ?i1 ?i2
  case i1=>exact Eq.refl _
  case i2=>exact Eq.refl _
 obtain⟨fh,D3,ah,Fh⟩:=pK.ex;have AK:Binds K D3 ["_law_deed"] []:=Fh.binds (ps:=["_law_deed"]) λ_ _ _ _ _ _ us hl=>match us,hl with|[_],_=>rfl
 exact Qdq (P:=l.prog) (w:=w) (M:=M) ⟨oc,od,kV,doc,pm,an,ct,mt,Z,rP,tU⟩ O T qLa Fh (mg_of X G ah) AK G1 G5 G6 G7 gi mY hJ ma mZ pB pJ sB
theorem Qdr(z:ak P w [] H s (λ_ _ _=>False) e s'):False:=by
 obtain⟨_,_,_,_,_,_,_,_,_,_,_,_,_,_,h⟩:=z;exact h
theorem QbK{K:Frag}{oc kV doc pm ct E5:Value}{od an E6:Option Addr}{mt o3:Array (Option Value)}(a:nsIn K mainGlobals "law"=some (some (.ref fl)))
  (l:K.lookup fl=some ⟨oc,od,.func (fnOf "law" "law" (JS WP) (QI WP) (Qf WP) .none kV doc pm an (.ref c) ct),mt⟩) (lc:K.lookup c=some ⟨E5,E6,.fields vs,o3⟩) (hv:(vs[11]? :Option Value)=some (.ref P)):∃c P,tabIn K "law"=some (c,P):=⟨c,P,NG a l rfl lc hv⟩
end Lw
structure PySem.W.Fast:Prop where
 (tw8121534960791375872 tw6914249637046607872 tw6806456110370364544 tw12184397401057566976 tw12236914663390138720 tw13582731537826731360 tw1328606564731901280 tw4746092532579909120 tw389962951026642592 tw10308490290095976128 tw8913435706512687872 tw9241560733898855168 tw16432666147476414304 tw4363856468091388864 tw1472157845312172033 tw2745161262144805985 tw7336161852519327905 tw13921313605328308417 tw14334344849027806497 tw5568748945186170241 tw4718440813972500929 tw1204136110096033249 tw12484019501556640289 tw8830026294500763553 tw13762037161199545313 tw13709471953502487554 tw16965327731749062754 tw5926626567218222210 tw9095294605503890658 tw8041070591765050818 tw15640713450144433634 tw3653372042122021346 tw13513290112707669730 tw6189444586806057794 tw1546925624534659075 tw6262645622774430755 tw2498144201794680931 tw9995119409899818307 tw9353215833071884867 tw1044374592898518627 tw13665642108359951971 tw16290160516593128067 tw2075646987907436195 tw9976201445069520643 tw159845636710663939 tw5870695461518998403 tw8534606136186985508 tw12287115976242059332 tw18073622842769503332 tw17263572695447796836 tw3040946157377100996 tw14978663071431313668 tw16019846427963040036 tw2808265745960149668 tw13651585669872162500 tw7391584372752894692 tw4138045079186898949 tw13881977300958853157 tw12600720356621345925 tw4702989905365485733 tw13899809196520465733 tw2656249137839716869 tw15415926375515595397 tw1117468011216115365 tw10301076873038149285 tw15554942337170785989 tw711572657176729285 tw18238795018550666981 tw9768537854546721605 tw8916375130772629317 tw16600562806337964901 tw11190460823204958342 tw4222205726223409318 tw867639813099012390 tw9578753356759777638 tw11483977210962798950 tw9032836686943509190 tw7225150065353744230 tw7971345018378770278 tw5967470660969559014 tw16762323050575774727 tw8521364900073618631 tw11520029183094672647 tw5829174611793395143 tw14181200720774729223 tw17641451410985308679 tw1933757321644925543 tw7263842164431824583 tw7287363660106694503 tw18345400360842085416 tw3127438151493901384 tw16077811552441951336 tw124784346946947240 tw6688607734272175336 tw11054494008403549544 tw5211484235623046536 tw6028009242603791944 tw10192152280384029288 tw11161307644714166952 tw289177762585844488 tw7330240666377724712 tw15319587337971999592 tw17047501614229035880 tw2115964325942693768 tw11772203647836136424 tw10447224968900637705 tw2733592188024144969 tw8602281329128347753 tw3254993539408478473 tw7628691161707886953 tw16797049417322001833 tw6973240187673417161 tw13724390509460228649 tw1105031706170978921 tw6072734458743201417 tw193232839745404585 tw15557855121939405769 tw17758531148759755753 tw12121858330202788841 tw2399772428365071370 tw14512115174581379114 tw4758334085809236042 tw15479394381613482474 tw3243500728571352842 tw9139435587066652426 tw3019247246265269130 tw15464203371328099306 tw17532661176079869067 tw2095607024910458027 tw9193509202419272907 tw946983394038183147 tw9004906262984701227 tw12781783415662105291 tw14812655237426077643 tw6702296541134628972 tw7882392748355881356 tw3904274369613527500 tw13957041481568520684 tw2505359199131013676 tw18311242164413008524 tw7990068113606307468 tw11548520652940528300 tw7078713704656492300 tw10863091854617806957 tw8841147750299947149 tw934946410573255821 tw15351620042799464621 tw13377415098924789997 tw14522759808441826701 tw7945666421672063405 tw7337050491985968749 tw10475391860970127213 tw13213650418024719277 tw11062788191867891726 tw11631052288377057294 tw8571993035835796526 tw10497227403425492046 tw17127116696496342222 tw12445251260129702094 tw9645316961457714446 tw11660049957357836558 tw9031571297839849838 tw6635155278021229038 tw6287818989388053070 tw9363533874345503310 tw6152872854471176878 tw14909556543125365518 tw9567649882683408142 tw17464403435437123374 tw17335509969171026798 tw11980550935255061390 tw1010084775569994670 tw1200776774104971279 tw2365126668220399695 tw650216430926462415 tw11522916363400029679 tw15040621912871121391 tw3192571659255576143 tw13328066697557763695 tw13016591030798025423 tw1996667426400956175 tw4732458175794356207 tw13785847017328138256 tw9420420576238444656 tw14794453307510169712 tw14878572180663056496 tw1182076802634802320 tw14016844381374651696 tw3929998690841530736 tw1444127136239020432 tw11987051437812009392 tw8239884546507155888 tw2948592808423649744 tw152692138210812496 tw13865075134893476624 tw2578192118763340592 tw13812480633441869680 tw12105255871603712113 tw12635702366824156657 tw13390402547842668017 tw8662180666367809169 tw1002827148386472657 tw1912052265890369393 tw10172563785202588529 tw7924849322427890641 tw4198560157789671474 tw11766833665522539666 tw9984129037830381810 tw11912169085099290930 tw11412355487136834002 tw11962964555127481970 tw11286643969820851858 tw17351316401539056370 tw6781202139033149202 tw3385676854104993714 tw11093387754467679154 tw10918532011012450451 tw17816300796983449779 tw10428063998047575379 tw13385089340491757971 tw4308558476816172435 tw16713848659403395571 tw18053669057404752371 tw13209324161920454291 tw17250151347263352627 tw5198988959822299027 tw5975966612811603988 tw2348512220676977940 tw4356689969679101364 tw16991422045462957588 tw15412267097656128084 tw2447977096867085140 tw11688203397352887381 tw10368560719361571989 tw9982754908166853877 tw17953388503060483349 tw7672195190101969205 tw3364904669578408245 tw3113155267398804853 tw16805899000250267157 tw1436033967311215125 tw15662280659361547893 tw12612946428775360117 tw16640983111811773141 tw11501768466895575893 tw15908214857245734773 tw16028985801012681653 tw10121458379488454581 tw8689152495657150389 tw9665562138193368021 tw10867205721265882069 tw16315652125874077782 tw6742623379754696790 tw16933932538981337494 tw9924847729700941334 tw12057830838595834678 tw12857544198845002614 tw7988416168269977623 tw10890079114528214071 tw3940336563332083799 tw5152605707503322263 tw1859223752442979735 tw7898430152975051223 tw3011750644303364663 tw13693370538521538103 tw18263542543611578967 tw6329876565590328951 tw6647261476286274359 tw9661118444877004727 tw6775118320369122231 tw5409870998932161495 tw16866773569454901207 tw13882860493646572568 tw5340086319308893208 tw17201712807680841784 tw7242188103862516984 tw4238207986329188760 tw18011783874562969016 tw2857290807061017112 tw12180367848058067672 tw2742542357500590872 tw154695335185835832 tw17293971357758294904 tw239693640526707608 tw6943807208537763865 tw1972642519883666649 tw12826689304085228825 tw8491366174539619641 tw8672029355237873017 tw9582618338089183705 tw3139382600897319513 tw2966832742354169465 tw12728561265759169241 tw2498779642808778489 tw3763923836010010393 tw14045553029043511257 tw15749675165275684825 tw5897701148001468377 tw8612506265569628282 tw14062073986351835354 tw7707279481250801978 tw9033811143889461754 tw5044352971561382522 tw11848345567349506714 tw8788073729839771386 tw17291381269189495578 tw14389080769923488602 tw14677547109063313402 tw13249637070200935451 tw17846631254523959387 tw12664044294271110459 tw10827497350578948443 tw3200521590000428379 tw5823987142643788219 tw1757892018169579323 tw3736651579345235771 tw453463598746745723 tw13796142987870004219 tw5808687951191548028 tw8702561261901020604 tw11483231073720418812 tw17126916959411338844 tw6101425934364509820 tw16617018608620978844 tw6873769766703577788 tw32496352185798428 tw5572100026008503132 tw12040169795979503484 tw17412286757807124348 tw14406728218809953309 tw10805427459123286109 tw9643028925343218013 tw4872611565584095613 tw463675933021021565 tw1161040624510268829 tw10011679620270458429 tw6157663206850718333 tw9407362784294413949 tw7272472057318843069 tw11292178497973096317 tw8231220143517742238 tw8633460934109220030 tw13059243275877914878 tw5446425697884166462 tw6434918420461513054 tw2291112954906569086 tw10721530755900568990 tw9518280482027924894 tw12226842736418244030 tw7446115982739880446 tw16654112523335387646 tw14931290878683024926 tw2963807032521325086 tw10982476851013716542 tw16339948189820764734 tw5956570701573286494 tw3413660306871913086 tw13133234037543834494 tw11088795061286644670 tw4360635017670945790 tw15363045679233995871 tw1558231139755807871 tw297630017300230431 tw12715356685779492159 tw5305090712883814719 tw3667296452627440191 tw11275950011861772863 tw11851228019360705151 tw12285018741770357503 tw16106274396919837439 tw7652619960322719487 tw15895334302532944735 tw426734673308773215 tw9027629247738084223 tw3281198912852567935 tw3087414336940517011:True)
open PySem PySem.W PyProof.Rows
theorem PySem.Challenge.cw_boxmoves_k17_moves_holds : PySem.Challenge.rw_boxmoves_k17_moves.Holds := by
 w_on;o_law;k_head;(case hw=>w_witness2)
 k_fill
 refine L2.vb (l:=PySem.Challenge.rw_boxmoves_k17_moves) (n:=63) (k:=13) (x:="_law_script") (CX:=λw=>L2.ak PySem.Challenge.rw_boxmoves_k17_moves.prog w) (sp:=λ_ P=>Lw.G0 P) rfl (by decide) rfl ⟨Z,by decide,by decide⟩ (λw h qYa=>km_in_of qYa) ?nL ?nT rfl ?hT ?F (λw H a P ns hl hO hS=>⟨a,ns,Z,hl,hO,hS,λ_=>rfl⟩) (λw H s e s' z=>Lw.Qdr z)
 case nL=>intro w;kernel_rfl
 case nT=>intro w;kernel_rfl
 case hT=>
  intro w;refine' Lw.QbK ?a ?l ?lc ?hv
  (case a=>k_is);(case l=>k_is);(case lc=>k_is);(case hv=>exact rfl)
 case F=>
  intro w mg fa h KX G AV;refine' Lw.all_mk KX G AV ?pC ?m3 ?nA ?nP ?nY ?nB ?nC ?m4 ?mK ?nZ ?n4 ?mq ?mL ?n5 ?mr ?nQ ?m5 ?n6 ?n8 ?p9 ?mv ?ua ?pD ?m7 ?mM ?gY ?nE ?mw ?mO ?pE ?nF ?nG ?mx ?pF ?mP ?m8 ?nH ?n9 ?ub ?mQ ?my ?nI ?m9 ?ng ?mR ?nJ ?gQ ?gR ?nK ?gZ ?mz ?ni ?gS ?mB ?nj ?pK ?k_0 ?Hf ?Hg ?Hh ?Hi ?Hj ?Hl ?Hm ?Hn ?Ho ?tX ?tY ?tZ ?lg ?lh ?gO ?gL ?nU ?gG ?nu ?gD ?gk ?nt ?gy ?gN ?gH ?nM ?gF ?mC ?nN ?kd ?gW ?pd ?gX ?nk ?nV ?pG ?nW ?pf ?rY ?rZ ?r6 ?r8 ?nX ?nr ?rf ?pL ?pT ?pU ?nR ?pM ?uc ?pN ?ud ?ue ?uf ?ug ?rg ?uh ?nS ?pH ?ui ?uj ?rK ?uk ?rL ?rM ?rN ?um ?uo ?uq ?ur ?uu ?uv ?uw ?ux ?uy ?uz ?uA ?uB ?uC ?rh ?rj ?rl ?rm ?uD ?uE ?uF ?uG ?uH ?uI ?uJ ?uK ?uL ?uM ?uN ?uO ?uP ?uQ ?uR ?rn ?rp ?rq ?rA ?uS ?uT ?uU ?uV ?uW ?uX ?uY ?uZ ?u0 ?u6 ?u7 ?u9 ?tj ?tm ?tq ?rB ?rC ?rD ?rE ?tD ?tE ?tF ?tG ?tH ?tI ?tJ ?tK ?tL ?tM ?tN ?tO ?tP ?tQ ?tR ?rF ?rG ?rH ?rJ ?tS ?tT ?rO ?rP ?tU
  (case k_0|Hf|Hg|Hh|Hi|Hj|Hl|Hm|Hn|Ho|tX|tY|tZ|lg|lh|gO|gL|nU|gG|nu|gD|gk|nt|gy|gN|gH|nM|gF|gW|gX|nV|nW|nr|rf|pL|uc|pN|ud|ue|uf|ug|rg|uh|nS|pH|ui|uj|um|uo|uq|uF|uG|uH|uU|uV|uW|tF|tG|tH|rO|rP|tU=>k_is)
  (case pf=>(refine' L2.wd ?ne ?l ?h ?nd;(case l=>k_is);(case ne=>exact rfl);(case h=>repeat (first|exact .nil|refine .cons rfl ?_));(case nd=>decide+kernel)))
  (case pC|m3|nA|nP|nY|nB|nC|m4|mK|nZ|n4|mq|mL|n5|mr|nQ|m5|n6|n8|p9|mv|ua|pD|m7|mM|gY|nE|mw|mO|pE|nF|nG|mx|pF|mP|m8|nH|n9|ub|mQ|my|nI|m9|ng|mR|nJ|gQ|gR|nK|gZ|mz|ni|gS|mB|nj|pK=>(refine' L2.vd ?a ?l ?c ?k;(case a=>k_is);(case l=>k_is);(case c=>k_is);(case k=>k_is)))
  (case mC=>(refine' L2.j5 ?l ?z ?v;(case l=>k_is);(case z=>show 6<=sizeLine;decide);(case v=>exact(.cons ⟨_,Z⟩ (.cons ⟨_,Z⟩ (.cons ⟨_,Z⟩ (.cons ⟨_,Z⟩ (.cons ⟨_,Z⟩ (.cons ⟨_,Z⟩ .nil)))))))))
  (case nN|r6=>(refine' L2.j5 ?l ?z ?v;(case l=>k_is);(case z=>show 4<=sizeLine;decide);(case v=>exact(.cons ⟨_,Z⟩ (.cons ⟨_,Z⟩ (.cons ⟨_,Z⟩ (.cons ⟨_,Z⟩ .nil)))))))
  (case kd=>(refine' L2.wA ?ne ?l ?e1 ?e2 ?hx;(case l=>k_is);(case ne=>exact rfl);(case e1=>exact rfl);(case e2=>exact rfl);(case hx=>decide+kernel)))
  (case pd|nk|pG=>(refine' L2.kB ?ne ?l ?h ?nd;(case l=>k_is);(case ne=>exact rfl);(case h=>repeat (first|exact .nil|refine .cons rfl ?_));(case nd=>decide+kernel)))
  (case rY|rZ=>(refine' L2.j5 ?l ?z ?v;(case l=>k_is);(case z=>show 3<=sizeLine;decide);(case v=>exact(.cons ⟨_,Z⟩ (.cons ⟨_,Z⟩ (.cons ⟨_,Z⟩ .nil))))))
  (case r8=>(refine' L2.j5 ?l ?z ?v;(case l=>k_is);(case z=>show 2<=sizeLine;decide);(case v=>exact(.cons ⟨_,Z⟩ (.cons ⟨_,Z⟩ .nil)))))
  (case nX=>(refine' L2.we ?a ?l ?c ?k ?n ?d;(case a=>k_is);(case l=>k_is);(case c=>k_is);(case k=>k_is);(case n=>(refine' L2.T8 ?nl ?nh;(case nl=>k_is);(case nh=>exact rfl)));(case d=>k_is)))
  (case pT|pU|nR|pM|ur|uu|uv|uw|ux|uy|uz|uA|uB|uC|rh|rj|rl|rm|uD|uI|uJ|uK|uL|uM|uN|uO|uP|uQ|uR|rn|rp|rq|rA|uS|uX|uY|uZ|u0|u6|u7|u9|tj|tm|tq|rB|rC|rD|rE|tD|tI|tJ|tK|tL|tM|tN|tO|tP|tQ|tR|rF|rG|rH|rJ|tS=>kit_is)
  (case rK|uk|rL|rM|rN=>k_exc)
  (case uE|uT|tE|tT=>kts_exm)
